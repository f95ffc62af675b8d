import PyProof.Rows.All
import Wide.All
import OpenK.AllK
import Wide.FinOn
import Lean
import PyProof.EqAt
import PyProof.EqKinds
import PyProof.TupleCall
import PyProof.IsiNone
import PyProof.NeKinds
import PyProof.MaxThree
import PySem.Challenge.RW_mowfloor_k26_gone
set_option Elab.async false
set_option linter.all false
set_option maxRecDepth 100000
namespace L2
open PySem PySem.Spec PyProof.Rows
inductive Im where
 | non | bl (b:Bool) | int (i:Int) | str (x:Str) | tup (ds:List Im) | fn (a:Addr) | fl (ds:List Im)
mutual
noncomputable def Im.beq:Im→Im→Bool
 | .non,.non=>true
 | .bl a,.bl b=>a == b
 | .int i,.int j=>decide (i=j)
 | .str x,.str y=>decide (x=y)
 | .tup a,.tup b=>Im.beqs a b
 | .fn a,.fn b=>decide (a=b)
 | .fl a,.fl b=>Im.beqs a b
 | _,_=>false
noncomputable def Im.beqs:List Im→List Im→Bool
 | [],[]=>true
 | a::r,b::t=>Im.beq a b && Im.beqs r t
 | _,_=>false
end
mutual
theorem Im.beq_iff:∀ a b:Im,Im.beq a b=true↔a=b
 | .non,b=>by cases b<;>simp[Im.beq]
 | .bl a,b=>by cases b<;>simp[Im.beq]
 | .int i,b=>by cases b<;>simp[Im.beq]
 | .str x,b=>by cases b<;>simp[Im.beq]
 | .tup x,b=>by
  cases b with
  | tup y=>rw[Im.beq,Im.beqs_iff x y];simp
  | _=>simp[Im.beq]
 | .fn a,b=>by cases b<;>simp[Im.beq]
 | .fl x,b=>by
  cases b with
  | fl y=>rw[Im.beq,Im.beqs_iff x y];simp
  | _=>simp[Im.beq]
theorem Im.beqs_iff:∀ a b:List Im,Im.beqs a b=true↔a=b
 | [],b=>by cases b<;>simp[Im.beqs]
 | x::r,b=>by
  cases b with
  | nil=>simp[Im.beqs]
  | cons y t=>rw[Im.beqs,Bool.and_eq_true,Im.beq_iff x y,Im.beqs_iff r t];simp
end
noncomputable instance:DecidableEq Im:=fun a b=>decidable_of_iff (Im.beq a b=true) (Im.beq_iff a b)
mutual
noncomputable def ImV (h:Heap):Im→Value→Prop
 | .non,v=>v=.none
 | .bl b,v=>v=.bool b
 | .int i,v=>∃ t,v=.int i t
 | .str x,v=>∃ t,v=.str x t
 | .fn a,v=>v=.ref a
 | .fl _,v=>∃ a,v=.ref a
 | .tup ds,v=>∃ a o items n,v=.ref a∧h.get? a=some o∧o.cls=.type "tuple" ∧ o.data=.seq items n∧aD h ds items.toList
noncomputable def aD (h:Heap):List Im→List Value→Prop
 | [],vs=>vs=[]
 | d::ds,vs=>∃ v r,vs=v::r∧ImV h d v∧aD h ds r
end
mutual
noncomputable def Im.key:Nat→Im→Bool
 | _,.int _=>true
 | _,.str _=>true
 | n+1,.tup ds=>Im.keys n ds
 | _,_=>false
noncomputable def Im.keys:Nat→List Im→Bool
 | _,[]=>true
 | n,d::ds=>Im.key n d && Im.keys n ds
end
mutual
noncomputable def imH (w:World):Im→Int
 | .int i=>hashInt i
 | .str x=>hashStr w x
 | .tup ds=>reduceHash (Builtin.Tuple.tupleHashOf (bW w ds))
 | _=>0
noncomputable def bW (w:World):List Im→List Int
 | []=>[]
 | d::ds=>imH w d::bW w ds
end
mutual
noncomputable def imD:Im→Nat
 | .tup ds=>cE ds+1
 | _=>1
noncomputable def cE:List Im→Nat
 | []=>0
 | d::ds=>imD d+cE ds
end
theorem iW (w:World):∀ a b:List Im,bW w (a++b)=bW w a++bW w b
 | [],b=>rfl
 | d::a,b=>by rw[List.cons_append,bW,bW,iW w a b,List.cons_append]
theorem iX:∀ a b:List Im,cE (a++b)=cE a+cE b
 | [],b=>by simp[cE]
 | d::a,b=>by rw[List.cons_append,cE,cE,iX a b];omega
theorem k7 {n:Nat}:∀ {a b:List Im},Im.keys n (a++b)=true→Im.keys n b=true
 | [],b,h=>h
 | d::a,b,h=>by rw[List.cons_append,Im.keys,Bool.and_eq_true] at h;exact k7 h.2
theorem aD.length {h:Heap}:∀ {ds:List Im}{vs:List Value},aD h ds vs→ds.length=vs.length
 | [],vs,e=>by rw[show vs=[] from e];rfl
 | d::ds,vs,e=>by
  obtain⟨v,r,rfl,_,e⟩:=e
  rw[List.length_cons,List.length_cons,aD.length e]
noncomputable def k8 (h h':Heap):Prop:=∀ a o items n,h.get? a=some o→o.cls=.type "tuple" → o.data=.seq items n→h'.get? a=some o
mutual
theorem ImV.keep {h h':Heap} (k:k8 h h'):∀ {d:Im}{v:Value},ImV h d v→ImV h' d v
 | .non,_,e=>e
 | .bl _,_,e=>e
 | .int _,_,e=>e
 | .str _,_,e=>e
 | .fn _,_,e=>e
 | .fl _,_,e=>e
 | .tup ds,_,e=>by
  obtain⟨a,o,items,n,rfl,h1,h2,h3,h4⟩:=e
  exact⟨a,o,items,n,rfl,k a o items n h1 h2 h3,h2,h3,aD.keep k h4⟩
theorem aD.keep {h h':Heap} (k:k8 h h'):∀ {ds:List Im}{vs:List Value},aD h ds vs→aD h' ds vs
 | [],_,e=>e
 | d::ds,_,e=>by
  obtain⟨v,r,rfl,h1,h2⟩:=e
  exact⟨v,r,rfl,ImV.keep k h1,aD.keep k h2⟩
end
theorem k9 {h:Heap}:∀ (n:Nat) {x y:Im}{v:Value},Im.key n x=true→Im.key n y=true→ImV h x v→ImV h y v→x=y
 | n,.int i,y,v,_,ky,hx,hy=>by
  obtain⟨t,rfl⟩:=hx
  cases y with
  | int j=>obtain⟨u,e⟩:=hy;injection e with e;rw[e]
  | str z=>obtain⟨u,e⟩:=hy;cases e
  | tup ds=>obtain⟨_,_,_,_,e,_⟩:=hy;cases e
  | _=>cases n<;>cases ky
 | n,.str z,y,v,_,ky,hx,hy=>by
  obtain⟨t,rfl⟩:=hx
  cases y with
  | int j=>obtain⟨u,e⟩:=hy;cases e
  | str z=>obtain⟨u,e⟩:=hy;injection e with e;rw[e]
  | tup ds=>obtain⟨_,_,_,_,e,_⟩:=hy;cases e
  | _=>cases n<;>cases ky
 | n+1,.tup ds,y,v,kx,ky,hx,hy=>by
  obtain⟨a,o,items,m,rfl,h1,h2,h3,h4⟩:=hx
  cases y with
  | int j=>obtain⟨u,e⟩:=hy;cases e
  | str z=>obtain⟨u,e⟩:=hy;cases e
  | tup es=>
   obtain⟨a',o',items',m',e,g1,g2,g3,g4⟩:=hy
   cases e
   rw[h1] at g1
   cases g1
   rw[h3] at g3
   injection g3 with g3 _
   subst g3
   have all:∀ (ds es:List Im) (vs:List Value),Im.keys n ds=true→Im.keys n es=true→aD h ds vs→aD h es vs→ds=es:=by
    intro ds
    induction ds with
    | nil=>
     intro es vs _ _ a b
     cases es with
     | nil=>rfl
     | cons e es=>obtain⟨_,_,q,_⟩:=b;rw[show vs=[] from a] at q;cases q
    | cons d ds ih=>
     intro es vs k1 k2 a b
     obtain⟨v,r,rfl,a1,a2⟩:=a
     cases es with
     | nil=>cases (show v::r=[] from b)
     | cons e es=>
      obtain⟨v',r',q,b1,b2⟩:=b
      cases q
      rw[Im.keys,Bool.and_eq_true] at k1 k2
      rw[k9 n k1.1 k2.1 a1 b1,ih es r k1.2 k2.2 a2 b2]
   rw[all ds es _ kx ky h4 g4]
  | _=>cases ky
 | _,.non,_,_,k,_,_,_=>by cases ‹Nat›<;>cases k
 | _,.bl _,_,_,k,_,_,_=>by cases ‹Nat›<;>cases k
 | _,.fn _,_,_,k,_,_,_=>by cases ‹Nat›<;>cases k
 | _,.fl _,_,_,k,_,_,_=>by cases ‹Nat›<;>cases k
 | 0,.tup _,_,_,k,_,_,_=>by cases k
section
variable {prog:Program}{w:World}
theorem lc:∀ (n:Nat) {A:Around}{E:Value→Shared→Prop}{s:Shared}{d:Im}{v:Value}{Q:Int→Shared→Prop},Im.key n d=true→A.units+n<cLine→ImV s.heap d v→Q (imH w d) { s with toks:=s.toks+imD d }→
  wpAny (model prog w) A (pyHash v) Q E s
 | n,A,E,s,.int i,v,Q,_,_,hv,h=>by
  obtain⟨t,rfl⟩:=hv
  exact wpAny_pyHash_int h
 | n,A,E,s,.str i,v,Q,_,_,hv,h=>by
  obtain⟨t,rfl⟩:=hv
  exact wpAny_pyHash_str h
 | n+1,A,E,s,.tup ds,v,Q,k,hu,hv,h=>by
  obtain⟨a,o,items,m,rfl,ho,hc,hd,hi⟩:=hv
  have hT:s.TypeIs (.ref a) "tuple" := ⟨o,ho,hc⟩
  unfold pyHash
  first | unfold pyHashByItsType | skip
  first | refine wpAny_bind (wpAny_cRoomFor_or (.inr (by omega)) ?_) | skip
  refine wpAny_bind (wpAny_specialOf hT F.slot_tuple_hash.lookup ?_)
  show wpAny _ _ (if (some (Value.builtin "tuple.__hash__") == some Value.none)=true then _ else _) Q E s
  rw[if_neg (by rw[beq_builtin_none];exact Bool.false_ne_true)]
  refine wpAny_bind (wpAny_specialOf hT F.slot_tuple_hash.lookup ?_)
  show wpAny _ _ (callSpecialIfBoundUnlessNone? (.ref a) "__hash__" _ >>= _) Q E s
  refine wpAny_bind (wpAny_callSpecialIfBoundUnlessNone?_slot hT F.slot_tuple_hash (wpAny_call_entry F.slot_tuple_hash hT F.entry_tuple_hash ?_ (F.args_tuple_hash_1 _)))
  show wpAny _ _ (Builtin.Tuple.tupleItemsOf (.ref a) >>= _) _ _ s
  refine wpAny_bind (wpAny_tupleItemsOf ho hd ?_)
  refine wpAny_bind ?_
  rw[← Array.forIn_toList]
  refine wpAny_forIn_list _
   (fun rest (b:Array Int) s'=>∃ done left,ds=done++left∧aD s.heap left rest∧b.toList=bW w done∧s'={ s with toks:=s.toks+cE done })
   _ ?_ ?_ _ _ ⟨[],ds,rfl,hi,rfl,rfl⟩
  ·rintro x rest b s' ⟨done,left,rfl,hl,hb,rfl⟩
   cases left with
   | nil=>cases (show x::rest=[] from hl)
   | cons d left=>
    obtain⟨v,r,e,h1,hl'⟩:=hl
    cases e
    have k2:=k7 (a:=done) (show Im.keys n (done++d::left)=true from k)
    rw[Im.keys,Bool.and_eq_true] at k2
    refine wpAny_bind (lc n k2.1 (by show A.units+1+n<cLine;omega) h1 ?_)
    first
     | exact wpAny_pure ⟨done++[d],left,by simp,hl',by simp[hb,iW,bW],by simp[iX,cE,Nat.add_assoc]⟩
     | exact wpAny_bind (wpAny_pure (wpAny_pure ⟨done++[d],left,by simp,hl',by simp[hb,iW,bW],by simp[iX,cE,Nat.add_assoc]⟩))
  ·rintro b s' ⟨done,left,rfl,hl,hb,rfl⟩
   cases left with
   | cons d left=>obtain⟨_,_,e,_⟩:=hl;cases e
   | nil=>
   rw[List.append_nil] at h
   show wpAny _ _ (retInt (Builtin.Tuple.tupleHashOf b.toList)) _ _ _
   rw[hb]
   refine wpAny_ret_mkInt ?_
   show wpAny _ _ (if (decide (-(2:Int) ^ 63≤Builtin.Tuple.tupleHashOf (bW w done)) && decide (Builtin.Tuple.tupleHashOf (bW w done)<2 ^ 63))=true then _ else _) Q E _
   rw[imH,imD] at h
   unfold reduceHash at h
   by_cases hr:(decide (-(2:Int) ^ 63≤Builtin.Tuple.tupleHashOf (bW w done)) && decide (Builtin.Tuple.tupleHashOf (bW w done)<2 ^ 63))=true
   ·rw[if_pos hr]
    rw[if_pos hr] at h
    exact wpAny_pure (by simpa [Nat.add_assoc] using h)
   ·rw[if_neg hr]
    rw[if_neg hr] at h
    exact wpAny_bind (wpAny_rule (wpAny_pure (by simpa [Nat.add_assoc] using h)))
 | _,_,_,_,.non,_,_,k,_,_,_=>by cases ‹Nat›<;>cases k
 | _,_,_,_,.bl _,_,_,k,_,_,_=>by cases ‹Nat›<;>cases k
 | _,_,_,_,.fn _,_,_,k,_,_,_=>by cases ‹Nat›<;>cases k
 | _,_,_,_,.fl _,_,_,k,_,_,_=>by cases ‹Nat›<;>cases k
 | 0,_,_,_,.tup _,_,_,k,_,_,_=>by cases k
mutual
noncomputable def aq:Im→Im→Bool
 | .non,.non=>true
 | .bl a,.bl b=>a == b
 | .bl a,.int j=>(if a then 1 else 0) == j
 | .int i,.bl b=>i == (if b then 1 else 0)
 | .int i,.int j=>i == j
 | .str x,.str y=>x == y
 | .tup a,.tup b=>aW a b
 | _,_=>false
noncomputable def aW:List Im→List Im→Bool
 | [],[]=>true
 | a::r,b::t=>aq a b && aW r t
 | _,_=>false
end
mutual
noncomputable def Im.pl:Nat→Im→Bool
 | _,.non=>true
 | _,.bl _=>true
 | _,.int _=>true
 | _,.str _=>true
 | n+1,.tup ds=>Im.pls n ds
 | _,_=>false
noncomputable def Im.pls:Nat→List Im→Bool
 | _,[]=>true
 | n,d::ds=>Im.pl n d && Im.pls n ds
end
theorem cF {n:Nat}:∀ {ds:List Im}{j:Nat}{d:Im},Im.pls n ds=true→ds[j]?=some d→Im.pl n d=true
 | [],j,d,_,h=>by simp at h
 | e::ds,0,d,k,h=>by
  rw[Im.pls,Bool.and_eq_true] at k
  simp at h
  subst h
  exact k.1
 | e::ds,j+1,d,k,h=>by
  rw[Im.pls,Bool.and_eq_true] at k
  exact cF k.2 (by simpa using h)
theorem aD.get {h:Heap}:∀ {ds:List Im}{vs:List Value}{j:Nat}{v:Value},aD h ds vs→vs[j]?=some v→∃ d,ds[j]?=some d∧ImV h d v
 | [],vs,j,v,a,e=>by rw[show vs=[] from a] at e;simp at e
 | d::ds,vs,0,v,a,e=>by
  obtain⟨u,r,rfl,a1,a2⟩:=a
  simp at e
  subst e
  exact⟨d,rfl,a1⟩
 | d::ds,vs,j+1,v,a,e=>by
  obtain⟨u,r,rfl,a1,a2⟩:=a
  obtain⟨d',h1,h2⟩:=aD.get (j:=j) a2 (by simpa using e)
  exact⟨d',by simpa using h1,h2⟩
theorem lg {h:Heap}:∀ (n:Nat) {x y:Im}{v:Value},Im.pl n x=true→Im.pl n y=true→ImV h x v→ImV h y v→aq x y=true
 | n,.non,y,v,_,ky,hx,hy=>by
  cases (show v=.none from hx)
  cases y with
  | non=>rfl
  | bl b=>cases hy
  | int j=>obtain⟨u,e⟩:=hy;cases e
  | str z=>obtain⟨u,e⟩:=hy;cases e
  | tup ds=>obtain⟨_,_,_,_,e,_⟩:=hy;cases e
  | fn a=>cases n<;>cases ky
  | fl a=>cases n<;>cases ky
 | n,.bl b,y,v,_,ky,hx,hy=>by
  cases (show v=.bool b from hx)
  cases y with
  | non=>cases hy
  | bl c=>cases hy;simp[aq]
  | int j=>obtain⟨u,e⟩:=hy;cases e
  | str z=>obtain⟨u,e⟩:=hy;cases e
  | tup ds=>obtain⟨_,_,_,_,e,_⟩:=hy;cases e
  | fn a=>cases n<;>cases ky
  | fl a=>cases n<;>cases ky
 | n,.int i,y,v,_,ky,hx,hy=>by
  obtain⟨t,rfl⟩:=hx
  cases y with
  | non=>cases hy
  | bl c=>cases hy
  | int j=>obtain⟨u,e⟩:=hy;cases e;simp[aq]
  | str z=>obtain⟨u,e⟩:=hy;cases e
  | tup ds=>obtain⟨_,_,_,_,e,_⟩:=hy;cases e
  | fn a=>cases n<;>cases ky
  | fl a=>cases n<;>cases ky
 | n,.str i,y,v,_,ky,hx,hy=>by
  obtain⟨t,rfl⟩:=hx
  cases y with
  | non=>cases hy
  | bl c=>cases hy
  | int j=>obtain⟨u,e⟩:=hy;cases e
  | str z=>obtain⟨u,e⟩:=hy;cases e;simp[aq]
  | tup ds=>obtain⟨_,_,_,_,e,_⟩:=hy;cases e
  | fn a=>cases n<;>cases ky
  | fl a=>cases n<;>cases ky
 | n+1,.tup ds,y,v,kx,ky,hx,hy=>by
  obtain⟨a,o,items,m,rfl,h1,h2,h3,h4⟩:=hx
  cases y with
  | non=>cases hy
  | bl c=>cases hy
  | int j=>obtain⟨u,e⟩:=hy;cases e
  | str z=>obtain⟨u,e⟩:=hy;cases e
  | fn a=>cases ky
  | fl a=>cases ky
  | tup es=>
   obtain⟨a',o',items',m',e,g1,g2,g3,g4⟩:=hy
   cases e
   rw[h1] at g1
   cases g1
   rw[h3] at g3
   injection g3 with g3 _
   subst g3
   have all:∀ (ds es:List Im) (vs:List Value),Im.pls n ds=true→Im.pls n es=true→aD h ds vs→aD h es vs→aW ds es=true:=by
    intro ds
    induction ds with
    | nil=>
     intro es vs _ _ a b
     cases es with
     | nil=>rfl
     | cons e es=>obtain⟨_,_,q,_⟩:=b;rw[show vs=[] from a] at q;cases q
    | cons d ds ih=>
     intro es vs k1 k2 a b
     obtain⟨v,r,rfl,a1,a2⟩:=a
     cases es with
     | nil=>cases (show v::r=[] from b)
     | cons e es=>
      obtain⟨v',r',q,b1,b2⟩:=b
      cases q
      rw[Im.pls,Bool.and_eq_true] at k1 k2
      rw[aW,lg n k1.1 k2.1 a1 b1,ih es r k1.2 k2.2 a2 b2]
      rfl
   rw[aq]
   exact all ds es _ kx ky h4 g4
 | n,.fn _,_,_,k,_,_,_=>by cases n<;>cases k
 | n,.fl _,_,_,k,_,_,_=>by cases n<;>cases k
 | 0,.tup _,_,_,k,_,_,_=>by cases k
theorem f9 {e:Nat→Bool}:∀ {ds es:List Im},(∀ (j:Nat) (x y:Im),ds[j]?=some x→es[j]?=some y→e j=aq x y)→((List.range (min ds.length es.length)).all e && ds.length == es.length)=aW ds es:=by
 have key:∀ (ds es:List Im) (f:Nat→Bool),(∀ (j:Nat) (x y:Im),ds[j]?=some x→es[j]?=some y→f j=aq x y)→((List.range (min ds.length es.length)).all f && ds.length == es.length)=aW ds es:=by
  intro ds
  induction ds with
  | nil=>intro es f _;cases es<;>simp[aW]
  | cons d ds ih=>
   intro es f h
   cases es with
   | nil=>simp[aW]
   | cons c es=>
    have:=ih es (fun j=>f (j+1)) fun j x y a b=>h (j+1) x y (by simpa using a) (by simpa using b)
    rw[aW,← this,← h 0 d c rfl rfl]
    rw[List.length_cons,List.length_cons,show min (ds.length+1) (es.length+1)=min ds.length es.length+1 by omega,List.range_succ_eq_map,List.all_cons,List.all_map,Bool.and_assoc]
    congr 2
    rw[Bool.eq_iff_iff]
    simp
 exact fun {ds es} h=>key ds es e h
theorem cf {s:Shared}:∀ (n:Nat) {A:Around}{x y:Im}{u v:Value},Im.pl n x=true→Im.pl n y=true→A.units+n+1<cLine→ImV s.heap x u→ImV s.heap y v→SeqAt.EqAt A s u v (aq x y)
 | n,A,.non,y,u,v,_,ky,hu,hx,hy=>by
  cases (show u=.none from hx)
  cases y with
  | non=>cases (show v=.none from hy);exact SeqAt.EqAt.same _
  | bl b=>cases (show v=.bool b from hy);exact SeqAt.EqAt.none_bool b
  | int j=>obtain⟨t,rfl⟩:=hy;exact SeqAt.EqAt.none_int j t
  | str z=>obtain⟨t,rfl⟩:=hy;exact SeqAt.EqAt.none_str z t
  | tup ds=>obtain⟨a,o,items,m,rfl,h1,h2,h3,_⟩:=hy;exact SeqAt.EqAt.none_tuple ⟨o,h1,h2,m,h3⟩ (by omega)
  | fn a=>cases n<;>cases ky
  | fl a=>cases n<;>cases ky
 | n,A,.bl b,y,u,v,_,ky,hu,hx,hy=>by
  cases (show u=.bool b from hx)
  cases y with
  | non=>cases (show v=.none from hy);exact SeqAt.EqAt.bool_none b
  | bl c=>cases (show v=.bool c from hy);exact SeqAt.EqAt.bool_bool b c
  | int j=>obtain⟨t,rfl⟩:=hy;exact SeqAt.EqAt.bool_int b j t
  | str z=>obtain⟨t,rfl⟩:=hy;exact SeqAt.EqAt.bool_str b z t
  | tup ds=>obtain⟨a,o,items,m,rfl,h1,h2,h3,_⟩:=hy;exact SeqAt.EqAt.bool_tuple b ⟨o,h1,h2,m,h3⟩ (by omega)
  | fn a=>cases n<;>cases ky
  | fl a=>cases n<;>cases ky
 | n,A,.int i,y,u,v,_,ky,hu,hx,hy=>by
  obtain⟨t0,rfl⟩:=hx
  cases y with
  | non=>cases (show v=.none from hy);exact SeqAt.EqAt.int_none i t0
  | bl c=>cases (show v=.bool c from hy);exact SeqAt.EqAt.int_bool i t0 c
  | int j=>obtain⟨t,rfl⟩:=hy;exact SeqAt.EqAt.int_int i t0 j t
  | str z=>obtain⟨t,rfl⟩:=hy;exact SeqAt.EqAt.int_str i t0 z t
  | tup ds=>obtain⟨a,o,items,m,rfl,h1,h2,h3,_⟩:=hy;exact SeqAt.EqAt.int_tuple i t0 ⟨o,h1,h2,m,h3⟩ (by omega)
  | fn a=>cases n<;>cases ky
  | fl a=>cases n<;>cases ky
 | n,A,.str i,y,u,v,_,ky,hu,hx,hy=>by
  obtain⟨t0,rfl⟩:=hx
  cases y with
  | non=>cases (show v=.none from hy);exact SeqAt.EqAt.str_none i t0
  | bl c=>cases (show v=.bool c from hy);exact SeqAt.EqAt.str_bool i t0 c
  | int j=>obtain⟨t,rfl⟩:=hy;exact SeqAt.EqAt.str_int i t0 j t
  | str z=>obtain⟨t,rfl⟩:=hy;exact SeqAt.EqAt.str_str i t0 z t
  | tup ds=>obtain⟨a,o,items,m,rfl,h1,h2,h3,_⟩:=hy;exact SeqAt.EqAt.str_tuple i t0 ⟨o,h1,h2,m,h3⟩ (by omega)
  | fn a=>cases n<;>cases ky
  | fl a=>cases n<;>cases ky
 | n+1,A,.tup ds,y,u,v,kx,ky,hu,hx,hy=>by
  have hx':=hx
  obtain⟨a,o,items,m,rfl,h1,h2,h3,h4⟩:=hx
  have ta:s.heap.IsTuple a items:=⟨o,h1,h2,m,h3⟩
  cases y with
  | non=>cases (show v=.none from hy);exact SeqAt.EqAt.tuple_none ta (by omega)
  | bl c=>cases (show v=.bool c from hy);exact SeqAt.EqAt.tuple_bool c ta (by omega)
  | int j=>obtain⟨t,rfl⟩:=hy;exact SeqAt.EqAt.tuple_int j t ta (by omega)
  | str z=>obtain⟨t,rfl⟩:=hy;exact SeqAt.EqAt.tuple_str z t ta (by omega)
  | fn a=>cases ky
  | fl a=>cases ky
  | tup es=>
   have hy':=hy
   obtain⟨b,o',items',m',rfl,g1,g2,g3,g4⟩:=hy
   by_cases e:a=b
   ·subst e
    rw[lg (n+1) kx ky hx' hy']
    exact SeqAt.EqAt.same _
   ·have tb:s.heap.IsTuple b items':=⟨o',g1,g2,m',g3⟩
    have l1:=h4.length
    have l2:=g4.length
    have l3:items.toList.length=items.size:=by simp
    have l4:items'.toList.length=items'.size:=by simp
    rw[l3] at l1
    rw[l4] at l2
    have q:=SeqAt.EqAt.of_refs (A:=A) e (SeqAt.RcAt.tuples (e:=fun j=>aq (ds.getD j .non) (es.getD j .non)) ta tb (by omega) fun j j1 j2=>by
     obtain⟨d1,e1,r1⟩:=h4.get (j:=j) (v:=items[j]) (by rw[Array.getElem?_toList];simp[j1])
     obtain⟨d2,e2,r2⟩:=g4.get (j:=j) (v:=items'[j]) (by rw[Array.getElem?_toList];simp[j2])
     rw[List.getD_eq_getElem?_getD,e1,List.getD_eq_getElem?_getD,e2]
     exact cf n (cF kx e1) (cF ky e2) (by show A.units+1+n+1<cLine;omega) r1 r2)
    rw[← l1,← l2,f9 (ds:=ds) (es:=es) (fun j x y a b=>by rw[List.getD_eq_getElem?_getD,a,List.getD_eq_getElem?_getD,b];rfl)] at q
    rw[aq]
    exact q
 | n,A,.fn _,_,_,_,k,_,_,_,_=>by cases n<;>cases k
 | n,A,.fl _,_,_,_,k,_,_,_,_=>by cases n<;>cases k
 | 0,A,.tup _,_,_,_,k,_,_,_,_=>by cases k
mutual
theorem iY:∀ {n:Nat}{d:Im},Im.key n d=true→Im.pl n d=true
 | n,.int _,_=>by cases n<;>rfl
 | n,.str _,_=>by cases n<;>rfl
 | n+1,.tup ds,h=>by rw[Im.key] at h;rw[Im.pl];exact lh h
 | 0,.tup _,h=>by cases h
 | n,.non,h=>by cases n<;>cases h
 | n,.bl _,h=>by cases n<;>cases h
 | n,.fn _,h=>by cases n<;>cases h
 | n,.fl _,h=>by cases n<;>cases h
theorem lh:∀ {n:Nat}{ds:List Im},Im.keys n ds=true→Im.pls n ds=true
 | n,[],_=>by rw[Im.pls]
 | n,d::ds,h=>by rw[Im.keys,Bool.and_eq_true] at h;rw[Im.pls,iY h.1,lh h.2];rfl
end
mutual
theorem lj:∀ {n:Nat}{x y:Im},Im.key n x=true→Im.key n y=true→aq x y=decide (x=y)
 | n,.int i,y,_,hy=>by
  cases y with
  | int j=>rw[aq];by_cases e:i=j<;>simp[e]
  | str z=>simp[aq]
  | tup z=>simp[aq]
  | _=>cases n<;>cases hy
 | n,.str i,y,_,hy=>by
  cases y with
  | int j=>simp[aq]
  | str z=>rw[aq];by_cases e:i=z<;>simp[e]
  | tup z=>simp[aq]
  | _=>cases n<;>cases hy
 | n+1,.tup ds,y,hx,hy=>by
  cases y with
  | int j=>simp[aq]
  | str z=>simp[aq]
  | tup es=>
   rw[Im.key] at hx hy
   rw[aq,lm hx hy]
   simp
  | _=>cases hy
 | 0,.tup _,_,h,_=>by cases h
 | n,.non,_,h,_=>by cases n<;>cases h
 | n,.bl _,_,h,_=>by cases n<;>cases h
 | n,.fn _,_,h,_=>by cases n<;>cases h
 | n,.fl _,_,h,_=>by cases n<;>cases h
theorem lm:∀ {n:Nat}{x y:List Im},Im.keys n x=true→Im.keys n y=true→aW x y=decide (x=y)
 | n,[],y,_,_=>by cases y<;>simp[aW]
 | n,d::ds,[],_,_=>by simp[aW]
 | n,d::ds,e::es,hx,hy=>by
  rw[Im.keys,Bool.and_eq_true] at hx hy
  rw[aW,lj hx.1 hy.1,lm hx.2 hy.2]
  by_cases h1:d=e<;>by_cases h2:ds=es<;>simp[h1,h2]
end
theorem lq:∀ (n:Nat) {A:Around}{E:Value→Shared→Prop}{s:Shared}{d:Im}{v:Value}{Q:Bool→Shared→Prop},Im.key n d=true→ImV s.heap d v→Q true s→wpAny (model prog w) A (eqIsQuiet n v) Q E s
 | n,A,E,s,.int i,v,Q,_,hv,h=>by
  obtain⟨t,rfl⟩:=hv
  rw[eqIsQuiet_byValue n rfl]
  exact wpAny_pure h
 | n,A,E,s,.str i,v,Q,_,hv,h=>by
  obtain⟨t,rfl⟩:=hv
  rw[eqIsQuiet_byValue n rfl]
  exact wpAny_pure h
 | n+1,A,E,s,.tup ds,v,Q,k,hv,h=>by
  obtain⟨a,o,items,m,rfl,ho,hc,hd,hi⟩:=hv
  have hT:s.TypeIs (.ref a) "tuple" := ⟨o,ho,hc⟩
  unfold eqIsQuiet
  refine wpAny_bind (wpAny_specialOf hT F.slot_tuple_eq.lookup ?_)
  show wpAny _ _ (isInstance (.ref a) (.type "tuple") >>= _) _ _ s
  refine wpAny_bind (wpAny_isInstance hT isSubtype_tuple_tuple ?_)
  simp only[Bool.not_true,Bool.false_eq_true,if_false]
  refine wpAny_bind (wpAny_seqItems ho hd ?_)
  refine wpAny_bind ?_
  show wpAny _ _ (forIn items _ _) _ _ s
  rw[← Array.forIn_toList]
  rw[Im.key] at k
  refine wpAny_forIn_list _ (fun rest r s'=>r.1=none∧s'=s∧∃ left,Im.keys n left=true∧aD s.heap left rest) _ ?_ ?_ _ _ ⟨rfl,rfl,ds,k,hi⟩
  ·rintro v rest r s' ⟨hr,rfl,left,hk,hl⟩
   cases left with
   | nil=>cases (show v::rest=[] from hl)
   | cons d left=>
    obtain⟨v',r',e,h1,hl'⟩:=hl
    cases e
    rw[Im.keys,Bool.and_eq_true] at hk
    refine wpAny_bind (lq n hk.1 h1 ?_)
    simp only[Bool.not_true,Bool.false_eq_true,if_false]
    exact wpAny_pure ⟨rfl,rfl,left,hk.2,hl'⟩
  ·rintro⟨r1,r2⟩ s' ⟨hr,rfl,_⟩
   simp only at hr
   subst hr
   exact wpAny_pure h
 | _,_,_,_,.non,_,_,k,_,_=>by cases ‹Nat›<;>cases k
 | _,_,_,_,.bl _,_,_,k,_,_=>by cases ‹Nat›<;>cases k
 | _,_,_,_,.fn _,_,_,k,_,_=>by cases ‹Nat›<;>cases k
 | _,_,_,_,.fl _,_,_,k,_,_=>by cases ‹Nat›<;>cases k
 | 0,_,_,_,.tup _,_,_,k,_,_=>by cases k
noncomputable def bu (prog:Program) (w:World):HeapKind prog w (List Im) where
 is:=fun h ds a=>Im.keys 7 ds=true∧ImV h (.tup ds) (.ref a)
 hash:=fun ds=>imH w (.tup ds)
 draws:=fun ds=>imD (.tup ds)
 room:=fun A=>A.units+10<cLine
 inj:=fun hx hy=>by
  have:=k9 8 (x:=.tup _) (y:=.tup _) hx.1 hy.1 hx.2 hy.2
  injection this
 keeps:=fun {h h' k a d o es ep} x ho hd hs=>⟨x.1,x.2.keep fun b u items n hb hc hd'=>by
  have hne:b≠d:=by
   rintro rfl
   rw[ho] at hb
   cases hb
   rw[hd] at hd'
   cases hd'
  exact (hs.2 b hne).trans hb⟩
 pyHash:=fun hu hk h=>lc 8 (d:=.tup _) hk.1 (show _ < _ by have:_+10<cLine:=hu;omega) hk.2 h
 eqBool:=fun {A E s x y a b Q} hu hx hy h=>by
  have q:=cf (s:=s) 8 (A:=A) (x:=.tup x) (y:=.tup y) (iY (n:=8) (d:=.tup x) hx.1) (iY (n:=8) (d:=.tup y) hy.1) (show _ < _ by have:A.units+10<cLine:=hu;omega) hx.2 hy.2
  rw[lj (n:=8) (x:=.tup x) (y:=.tup y) hx.1 hy.1] at q
  exact q _ _ E Q (by simpa using h)
 quiet:=fun hk h=>lq 8 (d:=.tup _) hk.1 hk.2 h
end
end L2
-- CHANGE: your row's module here,as the last of these rows
namespace L2
open PySem PySem.Spec PyProof.Rows
noncomputable abbrev Key:=Sum Int Str
noncomputable def fm:Key→Value→Bool
 | .inl k,v=>Value.isInt k v
 | .inr x,v=>Value.isStrOf x v
noncomputable def qj (w:World):Key→Int
 | .inl k=>hashInt k
 | .inr x=>hashStr w x
theorem db:∀ {k:Key}{v:Value},fm k v=true→(∃ i t,k=Sum.inl i∧v=Value.int i t)∨(∃ x t,k=Sum.inr x∧v=Value.str x t)
 | .inl i,v,h=>by
  obtain⟨t,e⟩:=Value.isInt_shape (k:=i) (v:=v) h
  exact .inl ⟨i,t,rfl,e⟩
 | .inr x,v,h=>by
  obtain⟨t,e⟩:=Value.isStrOf_shape (x:=x) (v:=v) h
  exact .inr ⟨x,t,rfl,e⟩
theorem qk (i:Int) (t:Tok):fm (.inl i) (.int i t)=true:=by simp[fm,Value.isInt]
theorem ql (x:Str) (t:Tok):fm (.inr x) (.str x t)=true:=by simp[fm,Value.isStrOf]
theorem qm (a b:Int):decide ((Sum.inl a:Key)=Sum.inl b)=(a == b):=by
 by_cases e:a=b
 ·subst e;simp
 ·have h:¬ (Sum.inl a:Key)=Sum.inl b:=fun q=>e (Sum.inl.inj q)
  rw[decide_eq_false h]
  exact (beq_eq_false_iff_ne.mpr e).symm
theorem qo (a b:Str):decide ((Sum.inr a:Key)=Sum.inr b)=decide (a=b):=by
 by_cases e:a=b
 ·subst e;simp
 ·have h:¬ (Sum.inr a:Key)=Sum.inr b:=fun q=>e (Sum.inr.inj q)
  rw[decide_eq_false h,decide_eq_false e]
theorem qp (a:Int) (b:Str):decide ((Sum.inl a:Key)=Sum.inr b)=false:=decide_eq_false (fun q=>nomatch q)
theorem qq (a:Str) (b:Int):decide ((Sum.inr a:Key)=Sum.inl b)=false:=decide_eq_false (fun q=>nomatch q)
noncomputable def de (prog:Program) (w:World):PySem.KeyKind prog w Key where
 is:=fm
 hash:=qj w
 inj:=fun v a b ha hb=>by
  rcases db ha with ⟨i,t,rfl,rfl⟩ | ⟨x,t,rfl,rfl⟩
  ·rcases db hb with ⟨j,u,rfl,e⟩ | ⟨y,u,rfl,e⟩
   ·injection e with e1 _;rw[e1]
   ·exact nomatch e
  ·rcases db hb with ⟨j,u,rfl,e⟩ | ⟨y,u,rfl,e⟩
   ·exact nomatch e
   ·injection e with e1 _;rw[e1]
 byValue:=fun k v h=>by
  rcases db h with ⟨i,t,rfl,rfl⟩ | ⟨x,t,rfl,rfl⟩<;>rfl
 pyHash:=fun hv h=>by
  rcases db hv with ⟨i,t,rfl,rfl⟩ | ⟨x,t,rfl,rfl⟩
  ·exact wpAny_pyHash_int h
  ·exact wpAny_pyHash_str h
 eqBool:=fun hu hv h=>by
  rcases db hu with ⟨i,t,rfl,rfl⟩ | ⟨x,t,rfl,rfl⟩
  ·rcases db hv with ⟨j,u,rfl,rfl⟩ | ⟨y,u,rfl,rfl⟩
   ·rw[qm] at h;exact wpAny_eqBool_int h
   ·rw[qp] at h;exact SeqAt.EqAt.int_str i t y u _ _ _ _ h
  ·rcases db hv with ⟨j,u,rfl,rfl⟩ | ⟨y,u,rfl,rfl⟩
   ·rw[qq] at h;exact SeqAt.EqAt.str_int x t j u _ _ _ _ h
   ·rw[qo] at h;exact wpAny_eqBool_str h
 «strs»:=fun k x t v h=>by
  rcases db h with ⟨i,u,rfl,e⟩ | ⟨y,u,rfl,e⟩
  ·exact nomatch e
  ·injection e with e1 _
   subst e1
   cases v<;>rfl
theorem qr (prog:Program) (w:World) (i:Int) (t:Tok):(de prog w).is (.inl i) (.int i t)=true:=qk i t
theorem qt (prog:Program) (w:World) (x:Str) (t:Tok):(de prog w).is (.inr x) (.str x t)=true:=ql x t
end L2
namespace L2
open PySem PySem.Spec PyProof.Rows
inductive V where
 | non | bl (b:Bool) | int (i:Int) | str (x:Str) | byt (b:Array UInt8) | flt (b:UInt64) | ref (a:Addr) | ty (n:String)
 deriving DecidableEq
noncomputable def am:V→Value→Prop
 | .non,u=>u=Value.none
 | .bl b,u=>u=Value.bool b
 | .int i,u=>∃ t,u=Value.int i t
 | .str x,u=>∃ t,u=Value.str x t
 | .byt b,u=>∃ t,u=Value.bytes b t
 | .flt b,u=>∃ t,u=Value.float b t
 | .ref a,u=>u=Value.ref a
 | .ty n,u=>u=Value.type n
noncomputable abbrev ak:List V→List Value→Prop:=Paired am
theorem ak.length {xs:List V}{us:List Value} (r:ak xs us):xs.length=us.length:=Paired.length r
theorem ak.get:∀ {xs:List V}{us:List Value}{i:Nat}{x:V},ak xs us→xs[i]?=some x→∃ u,us[i]?=some u∧am x u
 | _,_,_,_,.nil,e=>by simp at e
 | _,_,0,_,.cons r _,e=>by simp at e;subst e;exact⟨_,rfl,r⟩
 | _,_,i+1,x,.cons _ t,e=>by
  obtain⟨u,h1,h2⟩:=ak.get (i:=i) (x:=x) t (by simpa using e)
  exact⟨u,by simpa using h1,h2⟩
theorem ak.set {x:V}{u:Value} (r:am x u):∀ {xs:List V}{us:List Value} (i:Nat),ak xs us→ak (xs.set i x) (us.set i u)
 | _,_,_,.nil=>.nil
 | _,_,0,.cons _ t=>.cons r t
 | _,_,i+1,.cons q t=>.cons q (ak.set r i t)
theorem ak.append:∀ {xs ys:List V}{us ws:List Value},ak xs us→ak ys ws→ak (xs++ys) (us++ws)
 | _,_,_,_,.nil,s=>s
 | _,_,_,_,.cons r t,s=>.cons r (ak.append t s)
theorem ak.take:∀ {xs:List V}{us:List Value} (n:Nat),ak xs us→ak (xs.take n) (us.take n)
 | _,_,0,_=>.nil
 | _,_,_+1,.nil=>.nil
 | _,_,n+1,.cons r t=>.cons r (ak.take n t)
theorem ak.drop:∀ {xs:List V}{us:List Value} (n:Nat),ak xs us→ak (xs.drop n) (us.drop n)
 | _,_,0,r=>r
 | _,_,_+1,.nil=>.nil
 | _,_,n+1,.cons _ t=>ak.drop n t
noncomputable def cu:Option V→Option Value→Prop
 | some v,some u=>am v u
 | none,none=>True
 | _,_=>False
noncomputable def KV {κ:Type}:List (κ×V)→List (κ×Value)→Prop:=Paired fun (p:κ×V) (q:κ×Value)=>p.1=q.1∧am p.2 q.2
noncomputable def kV:Key→V
 | .inl i=>.int i
 | .inr x=>.str x
inductive HO where
 /-- a list -/
 | lst (xs:List V)
 /-- a tuple (never changes) -/
 | tup (xs:List V)
 /-- a dict whose keys are ints and texts;one whose keys are tuples of ints and texts (the empty one is both) -/
 | dK (kvs:List (Key×V)) | dT (kvs:List (List Im×V))
 /-- a set of ints: its members,its size -/
 | set (S:Int→Bool) (n:Nat)
 /-- an instance of the class at C,its dict at dx,its attributes -/
 | ins (C dx:Addr) (fs:List (Str×V))
 /-- the dict of the instance at x -/
 | own (x:Addr)
 /-- the dict of an exception -/
 | xd (fs:List (Str×V))
 /-- a bound method,f of x -/
 | met (f x:Addr)
 /-- a range object lo,lo+1,.. below hi -/
 | rng (lo hi:Int)
 /-- a thing that is known to the object (the script;a dict while a loop walks it): read,never written while it is so -/
 | frz (o:Obj) (u:HO)
 /-- a code object's table -/
 | tbl (ps:Array Value)
 /-- any other thing,by what is true of its one object (a def of one's own: SetO a S n:=HO.ext fun h=>..) -/
 | ext (φ:Heap→Prop)
noncomputable abbrev Hp:=Addr→Option HO
noncomputable def upd (H:Hp) (a:Addr) (o:HO):Hp:=fun b=>if b=a then some o else H b
theorem aO {H:Hp}{a:Addr}{o:HO}:upd H a o a=some o:=by unfold upd;rw[if_pos rfl]
theorem ar {H:Hp}{a b:Addr}{o:HO} (h:b≠a):upd H a o b=H b:=by unfold upd;rw[if_neg h]
theorem ls {H:Hp}{a b:Addr}{o u:HO} (h:H a=some o) (h':H b=some u) (d:o≠u):a≠b:=by
 intro e;subst e;rw[h] at h';exact d (Option.some.inj h')
theorem bf {H:Hp}{a b:Addr}{o:HO} (h:H a=some o) (h':H b=none):a≠b:=by
 intro e;subst e;rw[h] at h';cases h'
mutual
noncomputable def IsI (H:Hp):Im→V→Prop
 | .non,v=>v=.non
 | .bl b,v=>v=.bl b
 | .int i,v=>v=.int i
 | .str x,v=>v=.str x
 | .fn a,v=>v=.ref a
 | .fl ds,v=>∃ a xs o,v=.ref a∧H a=some (.frz o (.lst xs))∧aj H ds xs
 | .tup ds,v=>∃ a xs,v=.ref a∧H a=some (.tup xs)∧aj H ds xs
noncomputable def aj (H:Hp):List Im→List V→Prop
 | [],vs=>vs=[]
 | d::ds,vs=>∃ v r,vs=v::r∧IsI H d v∧aj H ds r
end
noncomputable def gf (H H':Hp):Prop:=∀ a xs,H a=some (.tup xs)→H' a=some (.tup xs)
structure TupS (H H':Hp):Prop where
 t:gf H H'
 z:∀ a o u,H a=some (.frz o u)→H' a=some (.frz o u)
noncomputable instance {H H':Hp}:CoeFun (TupS H H') (fun _=>∀ a xs,H a=some (.tup xs)→H' a=some (.tup xs)):=⟨fun t=>t.t⟩
mutual
theorem IsI.mono {H H':Hp} (k:TupS H H'):∀ {d:Im}{v:V},IsI H d v→IsI H' d v
 | .non,_,e=>e
 | .bl _,_,e=>e
 | .int _,_,e=>e
 | .str _,_,e=>e
 | .fn _,_,e=>e
 | .tup ds,_,e=>by
  obtain⟨a,xs,rfl,h1,h2⟩:=e
  exact⟨a,xs,rfl,k.t a xs h1,aj.mono k h2⟩
 | .fl ds,_,e=>by
  obtain⟨a,xs,o,rfl,h1,h2⟩:=e
  exact⟨a,xs,o,rfl,k.z a _ _ h1,aj.mono k h2⟩
theorem aj.mono {H H':Hp} (k:TupS H H'):∀ {ds:List Im}{vs:List V},aj H ds vs→aj H' ds vs
 | [],_,e=>e
 | d::ds,_,e=>by
  obtain⟨v,r,rfl,h1,h2⟩:=e
  exact⟨v,r,rfl,IsI.mono k h1,aj.mono k h2⟩
end
noncomputable def KAd (H:Hp) (k:List Im) (b:Addr):Prop:=Im.keys 7 k=true∧IsI H (.tup k) (.ref b)
mutual
theorem IsI.monoK {H H':Hp} (k:gf H H'):∀ {d:Im}{n:Nat}{v:V},Im.key n d=true→IsI H d v→IsI H' d v
 | .non,_,_,_,e=>e
 | .bl _,_,_,_,e=>e
 | .int _,_,_,_,e=>e
 | .str _,_,_,_,e=>e
 | .fn _,_,_,_,e=>e
 | .tup ds,n+1,_,q,e=>by
  obtain⟨a,xs,rfl,h1,h2⟩:=e
  exact⟨a,xs,rfl,k a xs h1,aj.monoK k q h2⟩
 | .tup ds,0,_,q,e=>nomatch q
 | .fl ds,0,_,q,e=>nomatch q
 | .fl ds,n+1,_,q,e=>nomatch q
theorem aj.monoK {H H':Hp} (k:gf H H'):∀ {ds:List Im}{n:Nat}{vs:List V},Im.keys n ds=true→aj H ds vs→aj H' ds vs
 | [],_,_,_,e=>e
 | d::ds,n,_,q,e=>by
  obtain⟨v,r,rfl,h1,h2⟩:=e
  rw[Im.keys,Bool.and_eq_true] at q
  exact⟨v,r,rfl,IsI.monoK k q.1 h1,aj.monoK k q.2 h2⟩
end
theorem KAd.mono {H H':Hp}{k:List Im}{b:Addr} (h:KAd H k b) (t:gf H H'):KAd H' k b:=by
 obtain⟨h0,a,xs,e,h1,h2⟩:=h
 exact⟨h0,a,xs,e,t a xs h1,h2.monoK t h0⟩
section
variable (P:Program) (w:World)
noncomputable def aX (H:Hp) (h:Heap) (a:Addr):HO→Prop
 | .lst xs=>xs.length≤sizeLine∧∃ (its:List Value) (n:Nat),ak xs its∧h.get? a=some { cls:=.type "list",data:=.seq its.toArray n }
 | .tup xs=>xs.length≤sizeLine∧∃ its:List Value,ak xs its∧IsTup h a its.toArray
 | .dK kvs=>kvs.length≤sizeLine∧(a == sysModules)=false∧∃ vs,KV kvs vs∧h.DictOf (de P w) a vs
 | .dT kvs=>kvs.length≤sizeLine∧(a == sysModules)=false∧∃ xs:List (List Im×Addr×Value),
   Paired (fun (p:List Im×V) (q:List Im×Addr×Value)=>p.1=q.1∧KAd H p.1 q.2.1∧am p.2 q.2.2) kvs xs∧
   ∃ o es ep,h.get? a=some o∧o.ExactDict∧o.data=.dict es ep∧es.toList=xs.map (entryOfKey (bu P w))∧(xs.map (·.1)).Nodup
 | .set S n=>h.SetOf (intKind P w) a S n
 | .ins C dx fs=>H dx=some (.own a)∧fs.length≤1000∧dx≠a∧h.get? a=some (PySem.W.instObj C dx)∧
   ∃ mA,h.Ns1 dx mA∧(∀ f,cu (fs.lookup f) (mA f))∧PySem.Within mA (fs.map (·.1))
 | .own _=>∃ o,h.get? a=some o
 | .xd fs=>∃ mA,h.Ns1 a mA∧∀ f,cu (fs.lookup f) (mA f)
 | .rng lo hi=>∃ t u v,h.get? a=some { cls:=.type "range",data:=.fields #[.int lo t,.int hi u,.int 1 v] }
 | .frz o u=>h.get? a=some o∧aX H h a u
 | .tbl ps=>h.get? a=some { cls:=.none,data:=.fields ps }
 | .met f x=>h.get? a=some (PySem.W.methodObj (.ref f) (.ref x))
 | .ext φ=>φ h∧(∃ o,h.get? a=some o)∧∀ h1 h2:Heap,φ h1→(∀ o,h1.get? a=some o→h2.get? a=some o)→φ h2
noncomputable def HOk (H:Hp) (h:Heap):Prop:=∀ a o,H a=some o→aX P w H h a o
end
section
variable {P:Program}{w:World}{H H':Hp}{h h':Heap}{a:Addr}{o:HO}
theorem aX.lt (x:aX P w H h a o):a<h.objs.size:=by
 cases o with
 | lst xs=>obtain⟨_,_,_,_,e⟩:=x;exact Heap.lt_size e
 | tup xs=>obtain⟨_,_,_,p⟩:=x;exact p.lt
 | dK kvs=>obtain⟨_,_,_,_,o,_,_,e,_⟩:=x;exact Heap.lt_size e
 | dT kvs=>obtain⟨_,_,_,_,o,_,_,e,_⟩:=x;exact Heap.lt_size e
 | set S n=>obtain⟨o,_,_,_,e,_⟩:=x;exact Heap.lt_size e
 | ins C dx fs=>obtain⟨_,_,_,e,_⟩:=x;exact Heap.lt_size e
 | own y=>obtain⟨_,e⟩:=x;exact Heap.lt_size e
 | xd fs=>obtain⟨_,⟨_,_,_,e,_⟩,_⟩:=x;exact Heap.lt_size e
 | rng lo hi=>obtain⟨_,_,_,e⟩:=x;exact Heap.lt_size e
 | frz ob u=>obtain⟨e,_⟩:=x;exact Heap.lt_size e
 | tbl ps=>exact Heap.lt_size (show h.get? a=some _ from x)
 | met f y=>exact Heap.lt_size (show h.get? a=some _ from x)
 | ext φ=>obtain⟨_,⟨_,e⟩,_⟩:=x;exact Heap.lt_size e
theorem Paired.mapP {α β:Type}{F G:α→β→Prop}:∀ {l₁:List α}{l₂:List β},Paired F l₁ l₂→(∀ a b,F a b→G a b)→Paired G l₁ l₂
 | _,_,.nil,_=>.nil
 | _,_,.cons r t,f=>.cons (f _ _ r) (Paired.mapP t f)
theorem aX.stay (x:aX P w H h a o) (k:∀ b u,(b=a∨H b=some (.own a))→h.get? b=some u→h'.get? b=some u)
  (ho:∀ b,H b=some (.own a)→H' b=some (.own a)) (ht:∀ b xs,H b=some (.tup xs)→H' b=some (.tup xs)):aX P w H' h' a o:=by
 induction o with
 | lst xs=>obtain⟨z,its,n,r,e⟩:=x;exact⟨z,its,n,r,k _ _ (.inl rfl) e⟩
 | tup xs=>obtain⟨z,its,r,ob,e,c⟩:=x;exact⟨z,its,r,ob,k _ _ (.inl rfl) e,c⟩
 | dK kvs=>obtain⟨z,y,vs,r,ob,es,ep,e,c⟩:=x;exact⟨z,y,vs,r,ob,es,ep,k _ _ (.inl rfl) e,c⟩
 | dT kvs=>
  obtain⟨z,y,xs,r,ob,es,ep,e,c⟩:=x
  exact⟨z,y,xs,Paired.mapP r fun p q z=>⟨z.1,z.2.1.mono ht,z.2.2⟩,ob,es,ep,k _ _ (.inl rfl) e,c⟩
 | set S n=>obtain⟨ob,es,ep,t,e,c⟩:=x;exact⟨ob,es,ep,t,k _ _ (.inl rfl) e,c⟩
 | ins C dx fs=>
  obtain⟨d,z,ne,e,mA,⟨od,es,ep,e2,c⟩,r⟩:=x
  exact⟨ho _ d,z,ne,k _ _ (.inl rfl) e,mA,⟨od,es,ep,k _ _ (.inr d) e2,c⟩,r⟩
 | own y=>obtain⟨ob,e⟩:=x;exact⟨ob,k _ _ (.inl rfl) e⟩
 | xd fs=>obtain⟨mA,⟨od,es,ep,e,c⟩,r⟩:=x;exact⟨mA,⟨od,es,ep,k _ _ (.inl rfl) e,c⟩,r⟩
 | rng lo hi=>obtain⟨t,u,v,e⟩:=x;exact⟨t,u,v,k _ _ (.inl rfl) e⟩
 | frz ob u ih=>obtain⟨e,q⟩:=x;exact⟨k _ _ (.inl rfl) e,ih q⟩
 | tbl ps=>
  have e:h.get? a=some { cls:=.none,data:=.fields ps }:=x
  show h'.get? a=some { cls:=.none,data:=.fields ps }
  exact k a _ (.inl rfl) e
 | met f y=>
  have e:h.get? a=some (PySem.W.methodObj (.ref f) (.ref y)):=x
  show h'.get? a=some (PySem.W.methodObj (.ref f) (.ref y))
  exact k a _ (.inl rfl) e
 | ext φ=>obtain⟨p,⟨o,e⟩,st⟩:=x;exact⟨st _ _ p fun o q=>k _ _ (.inl rfl) q,⟨o,k _ _ (.inl rfl) e⟩,st⟩
theorem HOk.lt (x:HOk P w H h) (e:H a=some o):a<h.objs.size:=(x a o e).lt
theorem HOk.fresh (x:HOk P w H h) (e:h.objs.size≤a):H a=none:=by
 cases q:H a with
 | none=>rfl
 | some u=>exact absurd (Nat.lt_of_lt_of_le (x.lt q) e) (Nat.lt_irrefl _)
theorem HOk.kept (x:HOk P w H h) (k:∀ b u,h.get? b=some u→h'.get? b=some u):HOk P w H h':=fun a o e=>
 (x a o e).stay (fun b u _ q=>k b u q) (fun _ q=>q) fun _ _ q=>q
theorem HOk.laid (x:HOk P w H h) (k:∀ b u,h.get? b=some u→h'.get? b=some u) (hp:h.objs.size≤a) (new:aX P w (upd H a o) h' a o):HOk P w (upd H a o) h':=fun b u e=>by
 have hn:=x.fresh hp
 by_cases hb:b=a
 ·subst hb;rw[aO] at e;cases e;exact new
 ·rw[ar hb] at e
  exact (x b u e).stay (fun c v _ q=>k c v q) (fun c q=>by rw[ar (bf q hn)];exact q) fun c xs q=>by rw[ar (bf q hn)];exact q
end
noncomputable def Rd (H:Hp) (a:Addr) (u:HO):Prop:=H a=some u∨∃ o,H a=some (.frz o u)
theorem Rd.ok {P:Program}{w:World}{H:Hp}{h:Heap}{a:Addr}{u:HO} (r:Rd H a u) (x:HOk P w H h):aX P w H h a u:=by
 rcases r with r | ⟨o,r⟩
 ·exact x a u r
 ·obtain⟨_,q⟩:=x a _ r
  exact q
noncomputable def Mut:Option HO→Prop
 | some (.lst _)=>True
 | some (.dK _)=>True
 | some (.dT _)=>True
 | some (.set _ _)=>True
 | some (.ins _ _ _)=>True
 | some (.ext _)=>True
 | _=>False
section
variable {P:Program}{w:World}{H:Hp}{h h':Heap}{x e:Addr}{o':HO}
theorem HOk.write (ok:HOk P w H h) (mu:Mut (H x)) (he:e=x∨H e=some (.own x)) (k:∀ b u,b≠e→h.get? b=some u→h'.get? b=some u) (heo:∃ u,h'.get? e=some u)
  (new:aX P w (upd H x o') h' x o'):HOk P w (upd H x o') h':=fun b u q=>by
 have nown:∀ c y,H c=some (.own y)→c≠x:=fun c y r z=>by subst z;rw[r] at mu;exact mu
 have ntup:∀ c xs,H c=some (.tup xs)→c≠x:=fun c xs r z=>by subst z;rw[r] at mu;exact mu
 by_cases hb:b=x
 ·subst hb;rw[aO] at q;cases q;exact new
 ·rw[ar hb] at q
  by_cases hbe:b=e
  ·have q':H b=some (.own x):=by
    rcases he with z | z
    ·exact absurd (hbe.trans z) hb
    ·rw[hbe];exact z
   rw[q] at q';cases q'
   obtain⟨v,hv⟩:=heo
   exact⟨v,by rw[hbe];exact hv⟩
  ·refine (ok b u q).stay (fun c v hc r=>k c v ?_ r) (fun c r=>by rw[ar (nown c b r)];exact r) fun c xs r=>by rw[ar (ntup c xs r)];exact r
   rcases hc with rfl | hc
   ·exact hbe
   ·rintro rfl
    rcases he with z | z
    ·exact nown c b hc z
    ·rw[hc] at z;cases z;exact hb rfl
end
structure Un (fs ex:List Addr) (H H':Hp) (h h':Heap):Prop where
 keep:∀ b o,h.get? b=some o→H b=none→b∉fs→b∉ex→h'.get? b=some o
 slot:∀ b o,h.get? b=some o→H b=none→b∈fs→b∉ex→∃ sl,h'.get? b=some { o with slots:=sl }
 free:∀ b o,h.get? b=some o→H b=none→b∉ex→H' b=none
 there:∀ b o,h.get? b=some o→b∉ex→∃ o',h'.get? b=some o'
 tups:∀ b xs,H b=some (.tup xs)→H' b=some (.tup xs)
 frzs:∀ b o u,H b=some (.frz o u)→H' b=some (.frz o u)
 tbls:∀ b ps,H b=some (.tbl ps)→∃ more,H' b=some (.tbl (ps++more))
section
variable {fs fs' ex ex':List Addr}{H H1 H2:Hp}{h h1 h2 h':Heap}{a x e:Addr}{o:HO}
theorem Un.any (u:Un fs ex H H1 h h1) {b:Addr}{ob:Obj} (q:h.get? b=some ob) (n:H b=none) (hx:b∉ex):∃ sl,h1.get? b=some { ob with slots:=sl }:=by
 by_cases hb:b∈fs
 ·exact u.slot b ob q n hb hx
 ·exact⟨ob.slots,u.keep b ob q n hb hx⟩
theorem Un.kept (k:∀ b u,h.get? b=some u→h'.get? b=some u):Un fs ex H H h h':=
 ⟨fun b ob q _ _ _=>k b ob q,fun b ob q _ _ _=>⟨ob.slots,k b ob q⟩,fun _ _ _ n _=>n,fun b ob q _=>⟨ob,k b ob q⟩,fun _ _ q=>q,fun _ _ _ q=>q,fun _ ps q=>⟨#[],by rw[q];simp⟩⟩
theorem Un.refl:Un fs ex H H h h:=Un.kept fun _ _ q=>q
theorem Un.laid (k:∀ b u,h.get? b=some u→h'.get? b=some u) (hp:h.objs.size≤a) (hn:H a=none):Un fs ex H (upd H a o) h h' where
 keep:=fun b u q _ _ _=>k b u q
 slot:=fun b u q _ _ _=>⟨u.slots,k b u q⟩
 free:=fun b u q n _=>by rw[ar (Nat.ne_of_lt (Nat.lt_of_lt_of_le (Heap.lt_size q) hp))];exact n
 there:=fun b u q _=>⟨u,k b u q⟩
 tups:=fun b xs q=>by rw[ar (bf q hn)];exact q
 frzs:=fun b u xs q=>by rw[ar (bf q hn)];exact q
 tbls:=fun b ps q=>⟨#[],by rw[ar (bf q hn),q];simp⟩
theorem Un.write (mu:Mut (H x)) (he:e=x∨H e=some (.own x)) (k:∀ b u,b≠e→h.get? b=some u→h'.get? b=some u) (heo:∃ u,h'.get? e=some u):Un fs ex H (upd H x o) h h':=by
 have hx:∀ b,H b=none→b≠x:=fun b n z=>by subst z;rw[n] at mu;exact mu
 have hb:∀ b,H b=none→b≠e:=fun b n z=>by
  subst z
  rcases he with r | r
  ·exact hx b n r
  ·rw[n] at r;cases r
 have hm:∀ b u,H b=some u→¬ Mut (some u)→b≠x:=fun b u q nm z=>by subst z;rw[q] at mu;exact nm mu
 refine⟨fun b u q n _ _=>k b u (hb b n) q,fun b u q n _ _=>⟨u.slots,k b u (hb b n) q⟩,fun b u q n _=>by rw[ar (hx b n)];exact n,fun b u q _=>?_,
  fun b xs q=>by rw[ar (hm b _ q fun z=>z)];exact q,fun b u xs q=>by rw[ar (hm b _ q fun z=>z)];exact q,fun b ps q=>⟨#[],by rw[ar (hm b _ q fun z=>z),q];simp⟩⟩
 by_cases hbe:b=e
 ·subst hbe;exact heo
 ·exact⟨u,k b u hbe q⟩
end
noncomputable def trk (h:Heap) (H:Hp):List Addr:=(List.range h.objs.size).filter fun a=>(H a).isSome
noncomputable def df (h:Heap) (H:Hp):Heap:=PySem.W.hideAll h (trk h H)
theorem qu (h:Heap) (H:Hp):(df h H).objs.size=h.objs.size:=PySem.W.hideAll_size _ _
theorem qv {h:Heap}{H:Hp}{b:Addr}{o:Obj} (e:h.get? b=some o) (n:H b=none):(df h H).get? b=some o:=
 PySem.W.hideAll_get _ e fun hm=>by
  have q:(H b).isSome=true:=(List.mem_filter.mp hm).2
  rw[n] at q;simp at q
theorem qw {h:Heap}{H:Hp}{b:Addr}{o:Obj} (e:(df h H).get? b=some o):h.get? b=some o∧H b=none:=by
 have e':h.get? b=some o:=PySem.W.of_hideAll (trk h H) e
 refine⟨e',?_⟩
 cases q:H b with
 | none=>rfl
 | some x=>
  have hm:b∈trk h H:=List.mem_filter.mpr ⟨List.mem_range.mpr (Heap.lt_size e'),by simp[q]⟩
  have z:(df h H).get? b=none:=PySem.W.hideAll_none (trk h H) hm
  rw[z] at e;cases e
noncomputable def qx (g h:Heap) (L:Addr):List (Addr×Obj):=(List.range h.objs.size).filterMap fun a=>if a=L∨(g.get? a).isSome=true then none else (h.get? a).map fun o=>(a,o)
noncomputable def rest (g h:Heap) (L d:Addr):List (Addr×Obj):=(qx g h L).filter fun p=>decide (p.1≠d)
end L2
namespace L2
open PySem PySem.Spec PyProof.Rows
structure Mod (K:PySem.W.Frag) (mg:Str→Option Value) (base:Heap):Prop where
 kin:K.In base
 glob:base.Ns mainGlobals mg
 blt:∃ mb,base.Ns builtinsNs mb∧∀ x:Str,x ≠ "__name__" → mb x=bootBuiltins x
 nolimit:base.NoLimit
structure Cx where
 prog:Program
 w:World
 K:PySem.W.Frag
 mg:Str→Option Value
 base:Heap
 A:Around
 N:List Str
 s₀:Shared
 H₀:Hp
 env:Env
 outer:List Env
 stack:List Env
 ex:List Addr
 fn:Str→Bool
 calm:Bool
 pn:List (Addr×Obj)
 xe:Value→Shared→Prop
noncomputable def frs (l:List Env):List Addr:=l.filterMap (·.frame)
noncomputable abbrev Cx.fs (X:Cx):List Addr:=frs X.outer
noncomputable def Vis (sc:Scope) (x:Str):Prop:=sc.names.lookup x=some .local∨sc.names.lookup x=some .cell∨sc.names.lookup x=some .free
noncomputable def Loc (sc:Scope) (x:Str):Prop:=sc.names.lookup x=some .local∨sc.names.lookup x=some .cell
noncomputable def qy (env:Env) (h:Heap) (m:Str→Option Value) (x:Str) (u:Value):Prop:=
 (env.kindOf x=some .local∧m x=some u)∨((env.kindOf x=some .cell∨env.kindOf x=some .free)∧∃ c,env.cells.lookup x=some c∧h.IsCell c (some u))
structure Cx.Ok (X:Cx):Prop where
 mod:Mod X.K X.mg X.base
 kind:X.env.scope.kind=.function
 glob:X.env.globals=mainGlobals
 blt:X.env.builtins=builtinsNs
 above:X.s₀.heap.objs.size≤X.env.locals
 inj:∀ x y c,X.env.cells.lookup x=some c→X.env.cells.lookup y=some c→x=y
 has:∀ x,(X.env.kindOf x=some .cell∨X.env.kindOf x=some .free)→∃ c,X.env.cells.lookup x=some c
 cab:∀ x c,X.fn x=true→X.env.cells.lookup x=some c→X.s₀.heap.objs.size≤c
 hd:X.calm=true→X.A.handled=none
 frames:X.A.frames=some X.stack
 stk:X.stack=X.outer∨(X.stack=X.env::X.outer∧X.env.frame=some X.env.locals)
 exf:∀ b∈X.ex,b≠X.env.locals∧∀ x c,X.env.cells.lookup x=some c→c≠b
 bs:∀ b o,X.base.get? b=some o→X.s₀.heap.get? b=some o∧X.H₀ b=none
 bsz:X.base.objs.size≤X.s₀.heap.objs.size
 noex:∀ b o,X.base.get? b=some o→b∉X.ex
 exfs:∀ b∈X.ex,b∉X.fs
 funs:X.s₀.heap.FunFrames X.base X.outer
 frf:∀ b∈X.fs,X.H₀ b=none
structure Inv (X:Cx) (pins:List (Addr×Obj)) (σ:List (Option V)) (H:Hp) (s:Shared):Prop where
 ok:X.Ok
 os:s.os=X.s₀.os
 bare:AllBare s.gens
 base:Un X.fs X.ex X.H₀ H X.s₀.heap s.heap
 loc:∃ m,s.heap.Ns X.env.locals m∧∀ (i:Nat) (x:Str) (v:V),X.N[i]?=some x→σ[i]?=some (some v)→Vis X.env.scope x→∃ u,am v u∧qy X.env s.heap m x u
 cell:∀ x c,X.env.cells.lookup x=some c→∃ v,s.heap.IsCell c v
 free:H X.env.locals=none
 freeC:∀ x c,X.env.cells.lookup x=some c→H c=none
 pin:∀ p∈X.pn++pins,s.heap.get? p.1=some p.2∧H p.1=none∧p.1≠X.env.locals∧p.1∉X.fs∧∀ v,p.2.data≠.cell v
 hok:HOk X.prog X.w H s.heap
 len:σ.length=X.N.length
section
variable {X:Cx}{pins:List (Addr×Obj)}{σ:List (Option V)}{H H':Hp}{s:Shared}{h':Heap}
theorem Cx.Ok.nofr (ok:X.Ok) {b:Addr}{o:Obj} (e:X.base.get? b=some o):b∉X.fs:=fun hb=>by
 have:=(ok.funs.mem hb).1
 rw[e] at this;cases this
theorem Inv.bs (I:Inv X pins σ H s):∀ b o,X.base.get? b=some o→s.heap.get? b=some o∧H b=none:=fun b o e=>
 ⟨I.base.keep b o (I.ok.bs b o e).1 (I.ok.bs b o e).2 (I.ok.nofr e) (I.ok.noex b o e),I.base.free b o (I.ok.bs b o e).1 (I.ok.bs b o e).2 (I.ok.noex b o e)⟩
theorem Inv.bk (I:Inv X pins σ H s):∀ b o,X.base.get? b=some o→s.heap.get? b=some o:=fun b o e=>(I.bs b o e).1
theorem Inv.mod (I:Inv X pins σ H s):Mod X.K X.mg X.base:=I.ok.mod
theorem Inv.kIn (I:Inv X pins σ H s):X.K.In s.heap:=I.ok.mod.kin.keeps I.bk
theorem Inv.fr (I:Inv X pins σ H s):∃ m,Fr X.base X.env.locals s.heap m:=
 let ⟨m,hn,_⟩:=I.loc
 ⟨m,hn,I.bk,Nat.le_trans I.ok.bsz I.ok.above⟩
theorem Inv.lt (I:Inv X pins σ H s):X.env.locals<s.heap.objs.size:=let ⟨_,hn,_⟩:=I.loc;hn.lt
theorem Inv.sz (I:Inv X pins σ H s):X.s₀.heap.objs.size≤s.heap.objs.size:=Nat.le_trans I.ok.above (Nat.le_of_lt I.lt)
theorem Inv.nofs (I:Inv X pins σ H s) {a:Addr} (h:s.heap.objs.size≤a):a∉X.fs:=fun hb=>by
 obtain⟨_,o,ho,_⟩:=I.ok.funs.mem hb
 exact absurd (Nat.lt_of_lt_of_le (Heap.lt_size ho) (Nat.le_trans I.sz h)) (Nat.lt_irrefl _)
theorem Inv.cne (I:Inv X pins σ H s):∀ x c,X.env.cells.lookup x=some c→c≠X.env.locals:=fun x c e z=>by
 obtain⟨v,o,ho,hd⟩:=I.cell x c e
 obtain⟨m,⟨o',es,ep,ho',hd',_⟩,_⟩:=I.loc
 rw[z,ho'] at ho;cases ho;rw[hd'] at hd;cases hd
theorem Inv.funs (I:Inv X pins σ H s):s.heap.FunFrames X.base X.outer:=by
 have all:∀ (l:List Env),(∀ b∈frs l,b∈X.fs)→X.s₀.heap.FunFrames X.base l→s.heap.FunFrames X.base l:=by
  intro l
  induction l with
  | nil=>intro _ _;trivial
  | cons env r ih=>
   intro hs hl
   obtain⟨hk,⟨L,o,hf,hn,ho,hd⟩,hr⟩:=hl
   have hL:L∈X.fs:=hs L (by unfold frs;rw[List.filterMap_cons,hf];exact List.mem_cons_self)
   obtain⟨sl,e⟩:=I.base.slot L o ho (I.ok.frf L hL) hL fun z=>I.ok.exfs L z hL
   exact⟨hk,⟨L,_,hf,hn,e,hd⟩,ih (fun b hb=>hs b (by unfold frs;rw[List.filterMap_cons,hf];exact List.mem_cons_of_mem _ hb)) hr⟩
 exact all X.outer (fun _ hb=>hb) I.ok.funs
theorem Inv.stack (I:Inv X pins σ H s):s.heap.FunFrames X.base X.stack:=by
 rcases I.ok.stk with e | ⟨e,hf⟩
 ·rw[e];exact I.funs
 ·rw[e]
  obtain⟨m,hn,_⟩:=I.loc
  refine .cons (by rw[I.ok.kind];decide) hf hn ?_ I.funs
  exact Heap.get?_none_of_le (Nat.le_trans I.ok.bsz I.ok.above)
theorem Inv.stkSub (I:Inv X pins σ H s):∀ b∈frs X.stack,b∈X.env.locals::X.fs:=fun b hb=>by
 rcases I.ok.stk with e | ⟨e,hf⟩
 ·rw[e] at hb;exact List.mem_cons_of_mem _ hb
 ·rw[e] at hb
  unfold frs at hb
  rw[List.filterMap_cons,hf] at hb
  exact hb
theorem Inv.stkFree (I:Inv X pins σ H s):∀ b∈frs X.stack,H b=none:=fun b hb=>by
 rcases List.mem_cons.mp (I.stkSub b hb) with e | hb
 ·rw[e];exact I.free
 ·obtain⟨_,o,ho,_⟩:=I.ok.funs.mem hb
  exact I.base.free b o ho (I.ok.frf b hb) fun z=>I.ok.exfs b z hb
theorem Inv.step {g':Array GenState}{t':Nat}{d':Drawn}{ch:List Addr} (I:Inv X pins σ H s)
  (hch:∀ b∈ch,(b∈X.ex∨X.s₀.heap.objs.size≤b)∧b≠X.env.locals∧(∀ x c,X.env.cells.lookup x=some c→c≠b)∧∀ p∈X.pn++pins,p.1≠b)
  (keep:∀ b o,b≠X.env.locals→b∉X.fs→b∉ch→s.heap.get? b=some o→H b=none→h'.get? b=some o)
  (slot:∀ b o,b≠X.env.locals→b∈X.fs→b∉ch→s.heap.get? b=some o→H b=none→∃ sl,h'.get? b=some { o with slots:=sl }) (free:∀ b o,b∉ch→s.heap.get? b=some o→H b=none→H' b=none)
  (there:∀ b o,b∉ch→s.heap.get? b=some o→∃ o',h'.get? b=some o')
  (tups:∀ b xs,H b=some (.tup xs)→H' b=some (.tup xs)) (frzs:∀ b o u,H b=some (.frz o u)→H' b=some (.frz o u)) (tbls:∀ b ps,H b=some (.tbl ps)→∃ more,H' b=some (.tbl (ps++more)))
  (ns:∀ m,s.heap.Ns X.env.locals m→h'.Ns X.env.locals m) (hok:HOk X.prog X.w H' h') (hg:AllBare g'):
  Inv X pins σ H' { s with heap:=h',gens:=g',drawn:=d',toks:=t' }:=by
 have neL:∀ b o,X.s₀.heap.get? b=some o→b≠X.env.locals:=fun b o e=>Nat.ne_of_lt (Nat.lt_of_lt_of_le (Heap.lt_size e) I.ok.above)
 have neC:∀ b o,X.s₀.heap.get? b=some o→b∉X.ex→b∉ch:=fun b o e hx hb=>by
  rcases (hch b hb).1 with z | z
  ·exact hx z
  ·exact absurd (Nat.lt_of_lt_of_le (Heap.lt_size e) z) (Nat.lt_irrefl _)
 have cellK:∀ x c,X.env.cells.lookup x=some c→∀ v,s.heap.IsCell c v→h'.IsCell c v:=fun x c e v ⟨o,ho,hd⟩=>by
  have nch:c∉ch:=fun z=>(hch c z).2.2.1 x c e rfl
  by_cases hc:c∈X.fs
  ·obtain⟨sl,q⟩:=slot c o (I.cne x c e) hc nch ho (I.freeC x c e)
   exact⟨_,q,hd⟩
  ·exact⟨o,keep c o (I.cne x c e) hc nch ho (I.freeC x c e),hd⟩
 refine⟨I.ok,I.os,hg,⟨fun b o e n hb hx=>?_,fun b o e n hb hx=>?_,fun b o e n hx=>?_,fun b o e hx=>?_,fun b xs e=>tups b xs (I.base.tups b xs e),fun b o xs e=>frzs b o xs (I.base.frzs b o xs e),fun b ps e=>?_⟩,?_,fun x c e=>?_,?_,fun x c e=>?_,fun p hp=>?_,hok,I.len⟩
 ·exact keep b o (neL b o e) hb (neC b o e hx) (I.base.keep b o e n hb hx) (I.base.free b o e n hx)
 ·obtain⟨sl,e1⟩:=I.base.slot b o e n hb hx
  obtain⟨sl',e2⟩:=slot b _ (neL b o e) hb (neC b o e hx) e1 (I.base.free b o e n hx)
  exact⟨sl',e2⟩
 ·obtain⟨o',e1⟩:=I.base.there b o e hx
  exact free b o' (neC b o e hx) e1 (I.base.free b o e n hx)
 ·obtain⟨o',e1⟩:=I.base.there b o e hx
  exact there b o' (neC b o e hx) e1
 ·obtain⟨m1,e1⟩:=I.base.tbls b ps e
  obtain⟨m2,e2⟩:=tbls b _ e1
  exact⟨m1++m2,by rw[e2,Array.append_assoc]⟩
 ·obtain⟨m,hn,hl⟩:=I.loc
  refine⟨m,ns m hn,fun i x v e1 e2 e3=>?_⟩
  obtain⟨u,r,l⟩:=hl i x v e1 e2 e3
  refine⟨u,r,?_⟩
  rcases l with l | ⟨k,c,e,z⟩
  ·exact .inl l
  ·exact .inr ⟨k,c,e,cellK x c e _ z⟩
 ·obtain⟨v,z⟩:=I.cell x c e
  exact⟨v,cellK x c e v z⟩
 ·obtain⟨m,⟨o,_,_,ho,_⟩,_⟩:=I.loc
  exact free _ o (fun z=>(hch _ z).2.1 rfl) ho I.free
 ·obtain⟨v,o,ho,hd⟩:=I.cell x c e
  exact free c o (fun z=>(hch c z).2.2.1 x c e rfl) ho (I.freeC x c e)
 ·obtain⟨e,n,ne,nf,d⟩:=I.pin p hp
  have nch:p.1∉ch:=fun z=>(hch p.1 z).2.2.2 p hp rfl
  exact⟨keep p.1 p.2 ne nf nch e n,free p.1 p.2 nch e n,ne,nf,d⟩
theorem Inv.un {t':Nat} (I:Inv X pins σ H s) (u:Un X.fs [] H H' s.heap h') (hok:HOk X.prog X.w H' h'):Inv X pins σ H' { s with heap:=h',toks:=t' }:=by
 obtain⟨m,⟨o,es,ep,ho,r⟩,_⟩:=id I.loc
 obtain⟨sl,hL⟩:=u.any ho I.free (by simp)
 exact I.step (g':=s.gens) (d':=s.drawn) (ch:=[]) (fun _ z=>nomatch z) (fun b o _ hb _ e n=>u.keep b o e n hb (by simp)) (fun b o _ hb _ e n=>u.slot b o e n hb (by simp)) (fun b o _ e n=>u.free b o e n (by simp)) (fun b o _ e=>u.there b o e (by simp)) u.tups u.frzs u.tbls (fun m' hm=>by
  obtain⟨o',es',ep',ho',r'⟩:=hm
  rw[ho] at ho';cases ho'
  exact⟨_,es',ep',hL,r'⟩) hok I.bare
theorem Inv.call {g':Array GenState}{t':Nat}{d':Drawn}{ch:List Addr} (I:Inv X pins σ H s) (u:Un (frs X.stack) ch H H' s.heap h') (hok:HOk X.prog X.w H' h') (hg:AllBare g')
  (hch:∀ b∈ch,(b∈X.ex∨X.s₀.heap.objs.size≤b)∧b≠X.env.locals∧(∀ x c,X.env.cells.lookup x=some c→c≠b)∧∀ p∈X.pn++pins,p.1≠b):
  Inv X pins σ H' { s with heap:=h',gens:=g',drawn:=d',toks:=t' }:=by
 obtain⟨m,⟨o,es,ep,ho,r⟩,_⟩:=id I.loc
 obtain⟨sl,hL⟩:=u.any ho I.free fun z=>(hch _ z).2.1 rfl
 exact I.step (ch:=ch) hch (fun b o hL hb hc e n=>u.keep b o e n (fun z=>(List.mem_cons.mp (I.stkSub b z)).elim hL hb) hc) (fun b o _ _ hc e n=>u.any e n hc) (fun b o hc e n=>u.free b o e n hc) (fun b o hc e=>u.there b o e hc) u.tups u.frzs u.tbls (fun m' hm=>by
  obtain⟨o',es',ep',ho',r'⟩:=hm
  rw[ho] at ho';cases ho'
  exact⟨_,es',ep',hL,r'⟩) hok hg
theorem Inv.turned {t':Nat}{it:Addr} (I:Inv X pins σ H s) (k:∀ b o,b≠it→s.heap.get? b=some o→h'.get? b=some o) (hn:H it=none) (hL:it≠X.env.locals)
  (h1:it∈X.ex∨X.s₀.heap.objs.size≤it) (h2:∀ x c,X.env.cells.lookup x=some c→c≠it) (h3:∀ p∈X.pn++pins,p.1≠it):Inv X pins σ H { s with heap:=h',toks:=t' }:=by
 have nit:∀ b u,H b=some u→b≠it:=fun b u e z=>by rw[z,hn] at e;cases e
 refine I.step (g':=s.gens) (d':=s.drawn) (ch:=[it]) (fun b hb=>?_) (fun b o _ _ hc e _=>k b o (fun z=>hc (by simp[z])) e) (fun b o _ _ hc e _=>⟨o.slots,k b o (fun z=>hc (by simp[z])) e⟩) (fun _ _ _ _ n=>n)
  (fun b o hc e=>⟨o,k b o (fun z=>hc (by simp[z])) e⟩) (fun _ _ e=>e) (fun _ _ _ e=>e) (fun b ps e=>⟨#[],by rw[e];simp⟩) (fun m hm=>?_) (fun b u e=>?_) I.bare
 ·have e:b=it:=by simpa using hb
  subst e
  exact⟨h1,hL,h2,h3⟩
 ·obtain⟨o,es,ep,ho,r⟩:=hm
  exact⟨o,es,ep,k _ o (Ne.symm hL) ho,r⟩
 ·refine (I.hok b u e).stay (fun c v hc q=>k c v ?_ q) (fun _ q=>q) fun _ _ q=>q
  rcases hc with z | z
  ·rw[z];exact nit b u e
  ·exact nit c _ z
theorem Inv.tok (I:Inv X pins σ H s) (t:Nat):Inv X pins σ H { s with toks:=t }:=I.un (h':=s.heap) (t':=t) Un.refl I.hok
theorem Inv.kept {t':Nat} (I:Inv X pins σ H s) (k:∀ b u,s.heap.get? b=some u→h'.get? b=some u):Inv X pins σ H { s with heap:=h',toks:=t' }:=I.un (Un.kept k) (I.hok.kept k)
theorem Inv.laid {a:Addr}{o:HO}{t':Nat} (I:Inv X pins σ H s) (k:∀ b u,s.heap.get? b=some u→h'.get? b=some u) (hp:s.heap.objs.size≤a) (new:aX X.prog X.w (upd H a o) h' a o):
  Inv X pins σ (upd H a o) { s with heap:=h',toks:=t' }:=I.un (Un.laid k hp (I.hok.fresh hp)) (I.hok.laid k hp new)
theorem Inv.write {x e:Addr}{o:HO}{t':Nat} (I:Inv X pins σ H s) (mu:Mut (H x)) (he:e=x∨H e=some (.own x)) (k:∀ b u,b≠e→s.heap.get? b=some u→h'.get? b=some u) (heo:∃ u,h'.get? e=some u)
  (new:aX X.prog X.w (upd H x o) h' x o):Inv X pins σ (upd H x o) { s with heap:=h',toks:=t' }:=I.un (Un.write mu he k heo) (I.hok.write mu he k heo new)
theorem Inv.weak {σ':List (Option V)} (I:Inv X pins σ H s) (hl:σ'.length=σ.length) (w:∀ (i:Nat) v,σ'[i]?=some (some v)→σ[i]?=some (some v)):Inv X pins σ' H s:=
 ⟨I.ok,I.os,I.bare,I.base,let ⟨m,hn,hl'⟩:=I.loc;⟨m,hn,fun i x v e1 e2 e3=>hl' i x v e1 (w i v e2) e3⟩,I.cell,I.free,I.freeC,I.pin,I.hok,hl.trans I.len⟩
theorem Inv.pins_of {pins':List (Addr×Obj)} (I:Inv X pins σ H s) (h:∀ p∈pins',s.heap.get? p.1=some p.2∧H p.1=none∧p.1≠X.env.locals∧p.1∉X.fs∧∀ v,p.2.data≠.cell v):Inv X pins' σ H s:=
 ⟨I.ok,I.os,I.bare,I.base,I.loc,I.cell,I.free,I.freeC,fun p hp=>(List.mem_append.mp hp).elim (fun z=>I.pin p (List.mem_append_left _ z)) (h p),I.hok,I.len⟩
theorem lu {N:List Str} (hN:N.Nodup) {i j:Nat}{x:Str} (a:N[i]?=some x) (b:N[j]?=some x):i=j:=by
 obtain⟨h1,e1⟩:=List.getElem?_eq_some_iff.mp a
 obtain⟨h2,e2⟩:=List.getElem?_eq_some_iff.mp b
 exact (List.getElem_inj hN).mp (e1.trans e2.symm)
theorem lv {M:Model}{A:Around}{E:Value→Shared→Prop}{i:Nat}{x:Str}{v:V}{u:Value}{Q:Unit→Shared→Prop} (I:Inv X pins σ H s) (hN:X.N.Nodup) (hi:X.N[i]?=some x) (hx:Loc X.env.scope x) (r:am v u)
  (h:∀ s',Inv X pins (σ.set i (some v)) H s'→(∃ a,Heap.SameBut a s.heap s'.heap∧(a=X.env.locals∨X.env.cells.lookup x=some a))→Q () s') (hf:X.fn x=true∨X.env.scope.names.lookup x=some .local:=by first | exact .inl rfl | exact .inr rfl | assumption):wpAny M A (storeName X.env x u) Q E s:=by
 obtain⟨m,hn,hl⟩:=id I.loc
 have hcls:(X.env.scope.kind == .class || (X.env.scope.kind == .module && X.env.locals != X.env.globals))=false:=by rw[I.ok.kind];rfl
 have hiσ:i < σ.length:=by rw[I.len];exact (List.getElem?_eq_some_iff.mp hi).1
 have cne:=I.cne
 have tracked:∀ {a:Addr}{h':Heap},(∃ o,s.heap.get? a=some o∧H a=none)→Heap.SameBut a s.heap h'→HOk X.prog X.w H h':=fun {a h'} ha hs b ob e=>by
  obtain⟨_,_,hfree⟩:=ha
  refine (I.hok b ob e).stay (fun c w' hc q=>(hs.2 c ?_).trans q) (fun _ q=>q) fun _ _ q=>q
  rintro rfl
  rcases hc with rfl | hc
  ·rw[hfree] at e;cases e
  ·rw[hfree] at hc;cases hc
 rcases hx with hk | hk
 ·refine wpAny_storeName_local hk hn (fun h' hn' hs=>?_) hcls
  obtain⟨oL,_,_,hoL,_⟩:=id hn
  refine h _ ⟨I.ok,I.os,I.bare,⟨fun b o e n hb hx=>?_,fun b o e n hb hx=>?_,I.base.free,fun b o e hx=>?_,I.base.tups,I.base.frzs,I.base.tbls⟩,⟨_,hn',fun j y v' e1 e2 e3=>?_⟩,fun y c e=>?_,I.free,I.freeC,fun p hp=>?_,tracked ⟨oL,hoL,I.free⟩ hs,by simpa using I.len⟩ ⟨_,hs,.inl rfl⟩
  ·exact (hs.2 b (Nat.ne_of_lt (Nat.lt_of_lt_of_le (Heap.lt_size e) I.ok.above))).trans (I.base.keep b o e n hb hx)
  ·obtain⟨sl,e1⟩:=I.base.slot b o e n hb hx
   exact⟨sl,(hs.2 b (Nat.ne_of_lt (Nat.lt_of_lt_of_le (Heap.lt_size e) I.ok.above))).trans e1⟩
  ·obtain⟨o',e1⟩:=I.base.there b o e hx
   exact⟨o',(hs.2 b (Nat.ne_of_lt (Nat.lt_of_lt_of_le (Heap.lt_size e) I.ok.above))).trans e1⟩
  ·by_cases hj:j=i
   ·subst hj
    rw[hi] at e1;cases e1
    rw[List.getElem?_set_self hiσ] at e2
    cases e2
    exact⟨u,r,.inl ⟨hk,by simp⟩⟩
   ·rw[List.getElem?_set_ne (Ne.symm hj)] at e2
    obtain⟨u',r',q⟩:=hl j y v' e1 e2 e3
    refine⟨u',r',?_⟩
    rcases q with ⟨k,e⟩ | ⟨k,c,e,z⟩
    ·refine .inl ⟨k,?_⟩
     have:y≠x:=fun e=>hj (lu hN e1 (e ▸ hi))
     simp[this,e]
    ·exact .inr ⟨k,c,e,z.sameBut hs (cne y c e)⟩
  ·obtain⟨w',z⟩:=I.cell y c e
   exact⟨w',z.sameBut hs (cne y c e)⟩
  ·obtain⟨e,n,ne,nf,d⟩:=I.pin p hp
   exact⟨(hs.2 p.1 ne).trans e,n,ne,nf,d⟩
 ·have hfn:X.fn x=true:=by
   rcases hf with z | z
   ·exact z
   ·rw[z] at hk;cases hk
  obtain⟨c,hc⟩:=I.ok.has x (.inl hk)
  obtain⟨w',z⟩:=I.cell x c hc
  refine wpAny_storeName_cell I.ok.kind hk hc z (fun h' hc' hs=>?_)
  obtain⟨oc,hoc,hocd⟩:=id z
  refine h { s with heap:=h' } ⟨I.ok,I.os,I.bare,⟨fun b o e n hb hx=>?_,fun b o e n hb hx=>?_,I.base.free,fun b o e hx=>?_,I.base.tups,I.base.frzs,I.base.tbls⟩,⟨m,hn.sameBut hs (Ne.symm (cne x c hc)),fun j y v' e1 e2 e3=>?_⟩,fun y c' e=>?_,I.free,I.freeC,fun p hp=>?_,tracked ⟨oc,hoc,I.freeC x c hc⟩ hs,by simpa using I.len⟩ ⟨c,hs,.inr hc⟩
  ·exact (hs.2 b (Nat.ne_of_lt (Nat.lt_of_lt_of_le (Heap.lt_size e) (I.ok.cab x c hfn hc)))).trans (I.base.keep b o e n hb hx)
  ·obtain⟨sl,e1⟩:=I.base.slot b o e n hb hx
   exact⟨sl,(hs.2 b (Nat.ne_of_lt (Nat.lt_of_lt_of_le (Heap.lt_size e) (I.ok.cab x c hfn hc)))).trans e1⟩
  ·obtain⟨o',e1⟩:=I.base.there b o e hx
   exact⟨o',(hs.2 b (Nat.ne_of_lt (Nat.lt_of_lt_of_le (Heap.lt_size e) (I.ok.cab x c hfn hc)))).trans e1⟩
  ·by_cases hj:j=i
   ·subst hj
    rw[hi] at e1;cases e1
    rw[List.getElem?_set_self hiσ] at e2
    cases e2
    exact⟨u,r,.inr ⟨.inl hk,c,hc,hc'⟩⟩
   ·rw[List.getElem?_set_ne (Ne.symm hj)] at e2
    obtain⟨u',r',q⟩:=hl j y v' e1 e2 e3
    refine⟨u',r',?_⟩
    rcases q with q | ⟨k,c',e,z'⟩
    ·exact .inl q
    ·refine .inr ⟨k,c',e,z'.sameBut hs ?_⟩
     rintro rfl
     exact hj (lu hN e1 (I.ok.inj _ _ _ e hc ▸ hi))
  ·by_cases hcc:c'=c
   ·subst hcc;exact⟨_,hc'⟩
   ·obtain⟨w2,z2⟩:=I.cell y c' e
    exact⟨w2,z2.sameBut hs hcc⟩
  ·obtain⟨e,n,ne,nf,d⟩:=I.pin p hp
   refine⟨(hs.2 p.1 ?_).trans e,n,ne,nf,d⟩
   intro q
   rw[q,hoc] at e
   have q':oc=p.2:=Option.some.inj e
   exact d w' (by rw[← q'];exact hocd)
theorem lw {M:Model}{A:Around}{E:Value→Shared→Prop}{i:Nat}{x:Str}{v:V}{u:Value}{Q:Unit→Shared→Prop} (I:Inv X pins σ H s) (hN:X.N.Nodup) (hi:X.N[i]?=some x) (hx:Loc X.env.scope x) (r:am v u)
  (h:∀ s',Inv X pins (σ.set i (some v)) H s'→Q () s') (hf:X.fn x=true∨X.env.scope.names.lookup x=some .local:=by first | exact .inl rfl | exact .inr rfl | assumption):wpAny M A (storeName X.env x u) Q E s:=
 lv I hN hi hx r (fun s' I' _=>h s' I') hf
theorem Inv.call' {s':Shared}{ch:List Addr} (I:Inv X pins σ H s) (ho:s'.os=s.os) (u:Un (frs X.stack) ch H H' s.heap s'.heap) (hok:HOk X.prog X.w H' s'.heap) (hg:AllBare s'.gens)
  (hch:∀ b∈ch,(b∈X.ex∨X.s₀.heap.objs.size≤b)∧b≠X.env.locals∧(∀ x c,X.env.cells.lookup x=some c→c≠b)∧∀ p∈X.pn++pins,p.1≠b):Inv X pins σ H' s':=by
 obtain⟨h',g',d',t',o'⟩:=s'
 have e:o'=s.os:=ho
 subst e
 exact I.call (g':=g') (t':=t') (d':=d') u hok hg hch
end
noncomputable abbrev XK:=Value→Option Addr→Hp→Prop
noncomputable abbrev St:=List (Option V)
noncomputable abbrev VK:=V→Hp→Prop
noncomputable abbrev TE:=St→Hp→VK→Prop
noncomputable abbrev TT:=St→Hp→(Bool→Hp→Prop)→Prop
noncomputable abbrev TA:=St→Hp→(List V→Hp→Prop)→Prop
structure Ends where
 nx:St→Hp→Prop
 rt:VK
 bk:St→Hp→Prop:=fun _ _=>False
 ct:St→Hp→Prop:=fun _ _=>False
noncomputable abbrev TS:=Ends→St→Hp→Prop
noncomputable def EP (X:Cx) (pins:List (Addr×Obj)) (σ:St) (Q:VK) (u:Value) (s':Shared):Prop:=∃ v H',Inv X pins σ H' s'∧am v u∧Q v H'
noncomputable def TP (X:Cx) (pins:List (Addr×Obj)) (σ:St) (Q:Bool→Hp→Prop) (b:Bool) (s':Shared):Prop:=∃ H',Inv X pins σ H' s'∧Q b H'
noncomputable def AP (X:Cx) (pins:List (Addr×Obj)) (σ:St) (Q:List V→Hp→Prop) (us:List Value) (s':Shared):Prop:=∃ vs H',Inv X pins σ H' s'∧ak vs us∧Q vs H'
noncomputable def SP (X:Cx) (pins:List (Addr×Obj)) (D:Ends) (f:Flow) (s':Shared):Prop:=
 match f with
 | .next=>∃ σ' H',Inv X pins σ' H' s'∧D.nx σ' H'
 | .brk=>∃ σ' H',Inv X pins σ' H' s'∧D.bk σ' H'
 | .cont=>∃ σ' H',Inv X pins σ' H' s'∧D.ct σ' H'
 | .ret u=>∃ v σ' H',Inv X pins σ' H' s'∧am v u∧D.rt v H'
noncomputable def PE (X:Cx) (e:Expr) (t:TE):Prop:=
 ∀ (pins:List (Addr×Obj)) (s:Shared) (σ:St) (H:Hp) (Q:VK),Inv X pins σ H s→t σ H Q→wpAny (model X.prog X.w) X.A (eval e X.env) (EP X pins σ Q) X.xe s
noncomputable def PT (X:Cx) (e:Expr) (t:TT):Prop:=
 ∀ (pins:List (Addr×Obj)) (s:Shared) (σ:St) (H:Hp) (Q:Bool→Hp→Prop),Inv X pins σ H s→t σ H Q→wpAny (model X.prog X.w) X.A (isTrue e X.env (eval e X.env)) (TP X pins σ Q) X.xe s
noncomputable def PW (X:Cx) (e:Expr) (t:TT):Prop:=
 ∀ (whole:Sem Value) (pins:List (Addr×Obj)) (s:Shared) (σ:St) (H:Hp) (Q:Bool→Hp→Prop),Inv X pins σ H s→t σ H Q→wpAny (model X.prog X.w) X.A (isTrue e X.env whole) (TP X pins σ Q) X.xe s
theorem PW.pt {X:Cx}{e:Expr}{t:TT} (h:PW X e t):PT X e t:=h _
noncomputable def PA (X:Cx) (es:List Expr) (t:TA):Prop:=
 ∀ (pos:Pos) (pins:List (Addr×Obj)) (s:Shared) (σ:St) (H:Hp) (Q:List V→Hp→Prop),Inv X pins σ H s→t σ H Q→wpAny (model X.prog X.w) X.A (spliced (backTo pos (starEach es X.env))) (AP X pins σ Q) X.xe s
noncomputable def PS (X:Cx) (st:Stmt) (t:TS):Prop:=
 ∀ (pins:List (Addr×Obj)) (s:Shared) (σ:St) (H:Hp) (D:Ends),Inv X pins σ H s→t D σ H→wpAny (model X.prog X.w) X.A (exec st X.env) (SP X pins D) X.xe s
noncomputable def PSs (X:Cx) (st:List Stmt) (t:TS):Prop:=
 ∀ (pins:List (Addr×Obj)) (s:Shared) (σ:St) (H:Hp) (D:Ends),Inv X pins σ H s→t D σ H→wpAny (model X.prog X.w) X.A (execs st X.env) (SP X pins D) X.xe s
theorem thn {α:Type}{t:Sem α}{Q Q':α→Shared→Prop}{M:Model}{A:Around}{E:Value→Shared→Prop}{s:Shared} (h:wpAny M A t Q E s) (hQ:∀ a s,Q a s→Q' a s):wpAny M A t Q' E s:=wpAny_mono h hQ fun _ _ x=>x
end L2
namespace L2
open PySem PySem.Spec PyProof.Rows
section
variable {X:Cx}
theorem bin {a b:Expr}{ta tb:TE} (ha:PE X a ta) (hb:PE X b tb) {pins:List (Addr×Obj)}{s:Shared}{σ:St}{H:Hp}{R:V→V→Hp→Prop} (I:Inv X pins σ H s) (h:ta σ H fun x H1=>tb σ H1 fun y H2=>R x y H2)
  {α:Type}{Q:α→Shared→Prop}{f:Value→Value→Sem α}
  (hf:∀ v u s2 x y H2,Inv X pins σ H2 s2→am x v→am y u→R x y H2→wpAny (model X.prog X.w) X.A (f v u) Q X.xe s2):
  wpAny (model X.prog X.w) X.A (eval a X.env) (fun v s₁=>wpAny (model X.prog X.w) X.A (eval b X.env) (fun u s₂=>wpAny (model X.prog X.w) X.A (f v u) Q X.xe s₂) X.xe s₁) X.xe s:=by
 refine thn (ha pins s σ H _ I h) fun v s1 ⟨x,H1,I1,r1,q1⟩=>?_
 refine thn (hb pins s1 σ H1 _ I1 q1) fun u s2 ⟨y,H2,I2,r2,q2⟩=>?_
 exact hf v u s2 x y H2 I2 r1 r2 q2
noncomputable def dz (i:Nat):TE:=fun σ H Q=>∃ v,σ[i]?=some (some v)∧Q v H
noncomputable def tC (v:V):TE:=fun _ H Q=>Q v H
theorem qz {i:Nat}{x:Str}{pos:Pos} (hN:X.N[i]?=some x) (hv:Vis X.env.scope x) (hd:(x == ("__debug__" : Str))=false:=by decide) (hcd:(x == ("__classdict__" : Str))=false:=by decide):PE X (.Name x pos) (dz i):=by
 intro pins s σ H Q I h
 obtain⟨v,e,h⟩:=h
 obtain⟨m,hn,hl⟩:=I.loc
 obtain⟨u,r,l⟩:=hl i x v hN e hv
 have fin:EP X pins σ Q u s:=⟨v,H,I,r,h⟩
 rcases l with ⟨hk,hm⟩ | ⟨hk,c,hc,hcell⟩
 ·exact wpAny_Name (wpAny_loadName_local I.ok.kind hk hn hm fin) hd
 ·rcases hk with hk | hk
  ·exact wpAny_Name (wpAny_loadName_cell I.ok.kind hk hc hcell fin) hd
  ·exact wpAny_Name (wpAny_loadName_free I.ok.kind hk hc hcell fin hcd) hd
theorem qA {i j pos}:PE X (.Constant (.int i) j pos) (tC (.int i)):=fun _ _ _ H _ I h=>wpAny_Constant_int ⟨.int i,H,I.tok _,⟨_,rfl⟩,h⟩
theorem qB {b j pos}:PE X (.Constant (.bool b) j pos) (tC (.bl b)):=fun _ _ _ H _ I h=>Constant_bool ⟨.bl b,H,I,rfl,h⟩
noncomputable def Gl (X:Cx) (x:Str):Prop:=X.env.kindOf x=some .globalImplicit
theorem qC {E:Value→Shared→Prop}{pins:List (Addr×Obj)}{s:Shared}{σ:St}{H:Hp}{x:Str}{u:Value}{pos:Pos}{Q:Value→Shared→Prop} (I:Inv X pins σ H s) (hg:Gl X x) (hm:X.mg x=some u) (h:Q u s)
  (hd:(x == ("__debug__" : Str))=false:=by decide):wpAny (model X.prog X.w) X.A (eval (.Name x pos) X.env) Q E s:=
 Calls.Name_function_global I.ok.kind hg (Calls.loadGlobal_global (by rw[I.ok.glob];exact I.mod.glob.keeps I.bk) hm h) hd
theorem fo {E:Value→Shared→Prop}{pins:List (Addr×Obj)}{s:Shared}{σ:St}{H:Hp}{x:Str}{u:Value}{pos:Pos}{Q:Value→Shared→Prop} (I:Inv X pins σ H s) (hg:Gl X x) (hm:X.mg x=none) (hv:bootBuiltins x=some u) (h:Q u s)
  (hn:x ≠ "__name__" := by decide) (hd:(x == ("__debug__" : Str))=false:=by decide):wpAny (model X.prog X.w) X.A (eval (.Name x pos) X.env) Q E s:=by
 obtain⟨mb,h1,h2⟩:=I.mod.blt
 exact Calls.Name_function_global I.ok.kind hg (Calls.loadGlobal_builtin (by rw[I.ok.glob];exact I.mod.glob.keeps I.bk) hm (by rw[I.ok.blt];exact h1.keeps I.bk) ((h2 x hn).trans hv) h) hd
theorem qD {x:Str}{v:V}{u:Value}{pos:Pos} (hg:Gl X x) (hm:X.mg x=none) (hv:bootBuiltins x=some u) (r:am v u) (hn:x ≠ "__name__" := by decide) (hd:(x == ("__debug__" : Str))=false:=by decide):PE X (.Name x pos) (tC v):=
 fun _ _ _ H _ I h=>fo I hg hm hv ⟨v,H,I,r,h⟩ hn hd
variable {a b:Expr}{ta tb:TE}{pos:Pos}
variable {tA tB':TT}{rest:List Expr}
noncomputable def lz (t u:TT):TT:=fun σ H Q=>t σ H fun c H1=>if c=true then u σ H1 Q else Q false H1
noncomputable def tOr (t u:TT):TT:=fun σ H Q=>t σ H fun c H1=>if c=true then Q true H1 else u σ H1 Q
noncomputable def qE (t:TT):TT:=fun σ H Q=>t σ H fun c H1=>Q (!c) H1
theorem qF (ha:PT X a tA):PW X (.BoolOp .And [a] pos) tA:=by
 intro wh pins s σ H Q I h
 refine isTrue_and (thn (ha pins s σ H Q I h) fun c s1 e=>?_)
 cases c with
 | true=>exact isTrue_and_nil e
 | false=>exact e
theorem qG (ha:PT X a tA):PW X (.BoolOp .Or [a] pos) tA:=by
 intro wh pins s σ H Q I h
 refine isTrue_or (thn (ha pins s σ H Q I h) fun c s1 e=>?_)
 cases c with
 | false=>exact isTrue_or_nil e
 | true=>exact e
theorem qH (ha:PT X a tA) (hb:PW X (.BoolOp .And (b::rest) pos) tB'):PW X (.BoolOp .And (a::b::rest) pos) (lz tA tB'):=by
 intro wh pins s σ H Q I h
 refine isTrue_and (thn (ha pins s σ H _ I h) fun c s1 ⟨H1,I1,q1⟩=>?_)
 cases c with
 | true=>exact hb wh pins s1 σ H1 Q I1 q1
 | false=>exact⟨H1,I1,q1⟩
theorem qI (ha:PT X a tA) (hb:PW X (.BoolOp .Or (b::rest) pos) tB'):PW X (.BoolOp .Or (a::b::rest) pos) (tOr tA tB'):=by
 intro wh pins s σ H Q I h
 refine isTrue_or (thn (ha pins s σ H _ I h) fun c s1 ⟨H1,I1,q1⟩=>?_)
 cases c with
 | true=>exact⟨H1,I1,q1⟩
 | false=>exact hb wh pins s1 σ H1 Q I1 q1
theorem qJ (ha:PT X a tA):PT X (.UnaryOp .Not a pos) (qE tA):=by
 intro pins s σ H Q I h
 exact isTrue_not (ha pins s σ H (fun c H1=>Q (!c) H1) I h)
noncomputable def tIf (t:TT) (ta tb:TE):TE:=fun σ H Q=>t σ H fun c H1=>if c=true then ta σ H1 Q else tb σ H1 Q
theorem qK {c:Expr} (hc:PT X c tA) (ha:PE X a ta) (hb:PE X b tb):PE X (.IfExp c a b pos) (tIf tA ta tb):=by
 intro pins s σ H Q I h
 refine wpAny_IfExp (thn (hc pins s σ H _ I h) fun d s1 ⟨H1,I1,q1⟩=>?_)
 cases d with
 | true=>exact ha pins s1 σ H1 Q I1 q1
 | false=>exact hb pins s1 σ H1 Q I1 q1
end
end L2
namespace L2
open PySem PySem.Spec PyProof.Rows
noncomputable def SqL (K:PySem.W.Frag) (H:Hp) (a:Addr) (xs:List V):Prop:=
 Rd H a (.lst xs)∨
  ∃ (o:Obj) (its:Array Value) (n:Nat),K.lookup a=some o∧o.cls=.type "list" ∧ o.dict=none∧o.data=.seq its n∧its.size≤sizeLine∧ak xs its.toList
noncomputable def SqT (K:PySem.W.Frag) (H:Hp) (a:Addr) (xs:List V):Prop:=
 Rd H a (.tup xs)∨
  ∃ (o:Obj) (its:Array Value) (n:Nat),K.lookup a=some o∧o.cls=.type "tuple" ∧ o.data=.seq its n∧its.size≤sizeLine∧ak xs its.toList
noncomputable def qL:Value→Option V
 | .none=>some .non
 | .bool b=>some (.bl b)
 | .int i _=>some (.int i)
 | .str x _=>some (.str x)
 | .bytes b _=>some (.byt b)
 | .float b _=>some (.flt b)
 | .ref a=>some (.ref a)
 | .type n=>some (.ty n)
 | _=>none
theorem am.abs {x:V}{u:Value} (r:am x u):qL u=some x:=by
 cases x with
 | non=>cases r;rfl
 | bl _=>cases r;rfl
 | int _=>obtain⟨t,rfl⟩:=r;rfl
 | str _=>obtain⟨t,rfl⟩:=r;rfl
 | byt _=>obtain⟨t,rfl⟩:=r;rfl
 | flt _=>obtain⟨t,rfl⟩:=r;rfl
 | ref _=>cases r;rfl
 | ty _=>cases r;rfl
theorem am.inj {x y:V}{u:Value} (r:am x u) (q:am y u):x=y:=Option.some.inj (r.abs.symm.trans q.abs)
theorem ak.inj:∀ {xs ys:List V}{us:List Value},ak xs us→ak ys us→xs=ys
 | _,_,_,.nil,.nil=>rfl
 | _,_,_,.cons r t,.cons r' t'=>by rw[r.inj r',ak.inj t t']
section
variable {X:Cx}{pins:List (Addr×Obj)}{σ:St}{H:Hp}{s:Shared}{a:Addr}{xs ys:List V}
theorem SqL.of {K:PySem.W.Frag} (h:H a=some (.lst xs)):SqL K H a xs:=.inl (.inl h)
theorem SqT.of {K:PySem.W.Frag} (h:H a=some (.tup xs)):SqT K H a xs:=.inl (.inl h)
theorem Inv.list (I:Inv X pins σ H s) (h:SqL X.K H a xs):∃ its:List Value,ak xs its∧PlainL s.heap a its.toArray∧xs.length≤sizeLine:=by
 rcases h with h | ⟨o,its,n,hk,hc,hd,hs,hz,r⟩
 ·obtain⟨z,its,n,r,e⟩:=h.ok I.hok
  exact⟨its,r,⟨_,n,e,rfl,rfl,rfl⟩,z⟩
 ·refine⟨its.toList,r,⟨o,n,I.kIn a o hk,hc,hd,by simpa using hs⟩,?_⟩
  have e:=r.length
  simp only[Array.length_toList] at e
  omega
theorem Inv.tuple (I:Inv X pins σ H s) (h:SqT X.K H a xs):∃ its:List Value,ak xs its∧IsTup s.heap a its.toArray∧xs.length≤sizeLine:=by
 rcases h with h | ⟨o,its,n,hk,hc,hs,hz,r⟩
 ·obtain⟨z,its,r,p⟩:=h.ok I.hok
  exact⟨its,r,p,z⟩
 ·refine⟨its.toList,r,⟨o,I.kIn a o hk,hc,n,by simpa using hs⟩,?_⟩
  have e:=r.length
  simp only[Array.length_toList] at e
  omega
theorem Inv.list_inj (I:Inv X pins σ H s) (h:SqL X.K H a xs) (h':SqL X.K H a ys):xs=ys:=by
 obtain⟨its,r,⟨o,n,e,_,_,d⟩,_⟩:=I.list h
 obtain⟨its',r',⟨o',n',e',_,_,d'⟩,_⟩:=I.list h'
 rw[e] at e';cases e'
 rw[d] at d'
 injection d' with d1 _
 have:its=its':=by simpa using congrArg Array.toList d1
 subst this
 exact r.inj r'
theorem Inv.tuple_inj (I:Inv X pins σ H s) (h:SqT X.K H a xs) (h':SqT X.K H a ys):xs=ys:=by
 obtain⟨its,r,⟨o,e,_,n,d⟩,_⟩:=I.tuple h
 obtain⟨its',r',⟨o',e',_,n',d'⟩,_⟩:=I.tuple h'
 rw[e] at e';cases e'
 rw[d] at d'
 injection d' with d1 _
 have:its=its':=by simpa using congrArg Array.toList d1
 subst this
 exact r.inj r'
end
noncomputable abbrev Cx.wish (X:Cx) (E:Value→Shared→Prop):Cx:={ X with xe:=E }
noncomputable abbrev Cx.nox (X:Cx):Cx:=X.wish fun _ _=>False
theorem Cx.Ok.wish {X:Cx} (ok:X.Ok) (E:Value→Shared→Prop):(X.wish E).Ok:=
 ⟨ok.mod,ok.kind,ok.glob,ok.blt,ok.above,ok.inj,ok.has,ok.cab,ok.hd,ok.frames,ok.stk,ok.exf,ok.bs,ok.bsz,ok.noex,ok.exfs,ok.funs,ok.frf⟩
theorem Cx.Ok.unwish {X:Cx}{E:Value→Shared→Prop} (ok:(X.wish E).Ok):X.Ok:=
 ⟨ok.mod,ok.kind,ok.glob,ok.blt,ok.above,ok.inj,ok.has,ok.cab,ok.hd,ok.frames,ok.stk,ok.exf,ok.bs,ok.bsz,ok.noex,ok.exfs,ok.funs,ok.frf⟩
section
variable {X:Cx}{pins:List (Addr×Obj)}{σ:St}{H:Hp}{s:Shared}{E:Value→Shared→Prop}
theorem Inv.wish (I:Inv X pins σ H s) (E:Value→Shared→Prop):Inv (X.wish E) pins σ H s:=⟨I.ok.wish E,I.os,I.bare,I.base,I.loc,I.cell,I.free,I.freeC,I.pin,I.hok,I.len⟩
theorem Inv.unwish (I:Inv (X.wish E) pins σ H s):Inv X pins σ H s:=⟨I.ok.unwish,I.os,I.bare,I.base,I.loc,I.cell,I.free,I.freeC,I.pin,I.hok,I.len⟩
theorem SP.unwish {D:Ends}{f:Flow}{s':Shared} (h:SP (X.wish E) pins D f s'):SP X pins D f s':=by
 cases f with
 | next=>obtain⟨σ',H',I,q⟩:=h;exact⟨σ',H',I.unwish,q⟩
 | brk=>obtain⟨σ',H',I,q⟩:=h;exact⟨σ',H',I.unwish,q⟩
 | cont=>obtain⟨σ',H',I,q⟩:=h;exact⟨σ',H',I.unwish,q⟩
 | ret u=>obtain⟨v,σ',H',I,r,q⟩:=h;exact⟨v,σ',H',I.unwish,r,q⟩
theorem PSs.nox {st:List Stmt}{t:TS} (h:PSs X.nox st t):PSs X st t:=fun pins s σ H D I hw=>
 wpAny_mono (h pins s σ H D (I.wish _) hw) (fun _ _ q=>q.unwish) fun _ _ z=>False.elim z
end
section
variable {X:Cx}{st:Stmt}{rest:List Stmt}{t u:TS}{e:Expr}{te:TE}{pos:Pos}
noncomputable def tNext:TS:=fun D σ H=>D.nx σ H
noncomputable def lD (t u:TS):TS:=fun D σ H=>t { D with nx:=u D } σ H
theorem qM:PSs X [] tNext:=fun _ _ σ H _ I h=>wpAny_execs_nil ⟨σ,H,I,h⟩
theorem qN (h1:PS X st t) (h2:PSs X rest u):PSs X (st::rest) (lD t u):=by
 intro pins s σ H D I h
 refine wpAny_execs_cons (thn (h1 pins s σ H { D with nx:=u D } I h) fun f s1 q=>?_)
 cases f with
 | next=>
  obtain⟨σ',H',I',q⟩:=q
  exact h2 pins s1 σ' H' D I' q
 | ret v=>exact q
 | brk=>exact q
 | cont=>exact q
theorem qO (h1:PS X st t):PSs X [st] t:=by
 intro pins s σ H D I h
 refine wpAny_execs_cons (thn (h1 pins s σ H D I h) fun f s1 q=>?_)
 cases f with
 | next=>exact wpAny_execs_nil q
 | ret v=>exact q
 | brk=>exact q
 | cont=>exact q
theorem Inv.quiet {pins:List (Addr×Obj)}{σ:St}{H:Hp}{s:Shared} (I:Inv X pins σ H s):interactive X.env=false:=by simp[interactive,I.ok.kind]
noncomputable def qP (te:TE):TS:=fun D σ H=>te σ H fun _ H1=>D.nx σ H1
theorem qQ (he:PE X e te) (hs:swapsWith e none pos.line X.env=pure false:=by rfl):PS X (.Expr e pos) (qP te):=by
 intro pins s σ H D I h
 exact wpAny_Expr_any (thn (he pins s σ H _ I h) fun v s1 ⟨x,H1,I1,r1,q1⟩=>⟨σ,H1,I1,q1⟩) I.quiet hs
noncomputable def qR (te:TE):TS:=fun D σ H=>te σ H D.rt
theorem qS (he:PE X e te):PS X (.Return (some e) pos) (qR te):=by
 intro pins s σ H D I h
 exact wpAny_Return_some (thn (he pins s σ H _ I h) fun v s1 ⟨x,H1,I1,r1,q1⟩=>⟨x,σ,H1,I1,r1,q1⟩)
noncomputable def qT (c:TT) (t u:TS):TS:=fun D σ H=>c σ H fun b H1=>if b=true then t D σ H1 else u D σ H1
theorem qU {c:Expr}{a b:List Stmt}{tc:TT} (hc:PT X c tc) (ha:PSs X a t) (hb:PSs X b u):PS X (.If c a b pos) (qT tc t u):=by
 intro pins s σ H D I h
 refine wpAny_If (thn (hc pins s σ H _ I h) fun d s1 ⟨H1,I1,q1⟩=>?_)
 cases d with
 | true=>exact ha pins s1 σ H1 D I1 q1
 | false=>exact hb pins s1 σ H1 D I1 q1
end
noncomputable abbrev TG:=V→St→Hp→(St→Hp→Prop)→Prop
noncomputable abbrev TGs:=List V→St→Hp→(St→Hp→Prop)→Prop
noncomputable def PG (X:Cx) (target:Expr) (t:TG):Prop:=
 ∀ (pins:List (Addr×Obj)) (s:Shared) (σ:St) (H:Hp) (v:V) (u:Value) (Q:St→Hp→Prop),Inv X pins σ H s→am v u→t v σ H Q→
  wpAny (model X.prog X.w) X.A (assign target X.env u) (fun _ s'=>∃ σ' H',Inv X pins σ' H' s'∧Q σ' H') X.xe s
noncomputable def PGs (X:Cx) (ts:List Expr) (t:TGs):Prop:=
 ∀ (pins:List (Addr×Obj)) (s:Shared) (σ:St) (H:Hp) (vs:List V) (us:List Value) (Q:St→Hp→Prop),Inv X pins σ H s→ak vs us→t vs σ H Q→
  wpAny (model X.prog X.w) X.A (assignInOrder ((assignEach ts X.env).map (·.2)) us) (fun _ s'=>∃ σ' H',Inv X pins σ' H' s'∧Q σ' H') X.xe s
noncomputable abbrev TSet:=V→V→V→Hp→(Hp→Prop)→Prop
noncomputable def i3 (X:Cx) (t:TSet):Prop:=
 ∀ (pins:List (Addr×Obj)) (s:Shared) (σ:St) (H:Hp) (o i v:V) (ov iv u:Value) (Q:Hp→Prop),Inv X pins σ H s→am o ov→am i iv→am v u→t o i v H Q→
  wpAny (model X.prog X.w) X.A (setItem ov iv u) (fun _ s'=>∃ H',Inv X pins σ H' s'∧Q H') X.xe s
section
variable {X:Cx}{pos:Pos}
noncomputable def i4 (i:Nat):TG:=fun v σ H Q=>Q (σ.set i (some v)) H
theorem qV {i:Nat}{x:Str} (hN:X.N.Nodup) (hi:X.N[i]?=some x) (hx:Loc X.env.scope x) (hf:X.fn x=true∨X.env.scope.names.lookup x=some .local:=by first | exact .inl rfl | exact .inr rfl | assumption):PG X (.Name x pos) (i4 i):=by
 intro pins s σ H v u Q I r h
 exact wpAny_assign_Name (lw I hN hi hx r (fun s' I'=>⟨_,H,I',h⟩) hf)
noncomputable def gNil:TGs:=fun vs σ H Q=>vs=[]∧Q σ H
noncomputable def qW (t:TG) (u:TGs):TGs:=fun vs σ H Q=>∃ v r,vs=v::r∧t v σ H fun σ' H'=>u r σ' H' Q
theorem qX:PGs X [] gNil:=by
 intro pins s σ H vs us Q I r h
 obtain⟨e,h⟩:=h
 subst e
 cases r
 exact assignInOrder_nil ⟨σ,H,I,h⟩
theorem qY {e:Expr}{es:List Expr}{t:TG}{u:TGs} (h1:PG X e t) (h2:PGs X es u)
  (hs:(assignEach (e::es) X.env).map (·.2)=assign e X.env::(assignEach es X.env).map (·.2):=by rfl):PGs X (e::es) (qW t u):=by
 intro pins s σ H vs us Q I r h
 obtain⟨v,vr,e1,h⟩:=h
 subst e1
 cases r with
 | cons r rr=>
  rw[hs]
  refine assignInOrder_cons (thn (h1 pins s σ H _ _ _ I r h) fun _ s1 ⟨σ1,H1,I1,q1⟩=>?_)
  exact h2 pins s1 σ1 H1 _ _ Q I1 rr q1
noncomputable def qZ (K:PySem.W.Frag) (n:Nat) (t:TGs):TG:=fun v σ H Q=>∃ a xs,v=.ref a∧SqT K H a xs∧xs.length=n∧t xs σ H Q
theorem q8 {es:List Expr}{k:Nat}{t:TGs}{n:Nat} (hc:X.calm=true) (h:PGs X es t)
  (hn:(assignEach es X.env).length=n:=by rfl) (hst:(assignEach es X.env).findIdx? (·.1)=none:=by rfl):PG X (.Tuple es k pos) (qZ X.K n t):=by
 intro pins s σ H v u Q I r hw
 obtain⟨a,xs,e1,hq,hl,hw⟩:=hw
 subst e1
 cases r
 obtain⟨its,rv,ht,hz⟩:=I.tuple hq
 refine assign_Tuple_tuple (I.ok.hd hc) ht (by simp[hn,← hl,rv.length]) hst fun h' hx=>?_
 have I1:Inv X pins σ H { s with heap:=h' }:=I.kept (t':=s.toks) fun b o e=>hx b o (Nat.ne_of_lt (Heap.lt_size e)) e
 exact h pins _ σ H xs _ Q I1 (by simpa using rv) hw
noncomputable def q9 (to ti:TE) (t:TSet):TG:=fun v σ H Q=>to σ H fun o H1=>ti σ H1 fun i H2=>t o i v H2 fun H3=>Q σ H3
theorem ra {o i:Expr}{to ti:TE}{t:TSet} (ho:PE X o to) (hi:PE X i ti) (hs:i3 X t)
  (ha:∀ v,assign (.Subscript o i pos) X.env v=(do
   let ov ← holding [v] (eval o X.env)
   let iv ← holding [v,ov] (eval i X.env)
   standAt pos
   holding [v,ov,iv] (setItem ov iv v)
   release [v,ov,iv] []):=by intro _;rfl):PG X (.Subscript o i pos) (q9 to ti t):=by
 intro pins s σ H v u Q I r h
 rw[ha]
 refine wpAny_bind (wpAny_holding (thn (ho pins s σ H _ I h) fun ov s1 ⟨x,H1,I1,r1,q1⟩=>?_))
 refine wpAny_bind (wpAny_holding (thn (hi pins s1 σ H1 _ I1 q1) fun iv s2 ⟨y,H2,I2,r2,q2⟩=>?_))
 refine wpAny_bind (wpAny_standAt (wpAny_bind (wpAny_holding (thn (hs pins s2 σ H2 x y v ov iv u _ I2 r1 r2 r q2) fun _ s3 ⟨H3,I3,q3⟩=>?_))))
 exact wpAny_release ⟨σ,H3,I3,q3⟩
noncomputable def i5 (te:TE) (g:TG):TS:=fun D σ H=>te σ H fun x H1=>g x σ H1 D.nx
theorem rb {tg e:Expr}{te:TE}{g:TG} (he:PE X e te) (hg:PG X tg g) (hs:swapsWithSole [tg] e pos.line X.env=pure false:=by rfl) (hw:swappedStores [tg] e X.env=pure none:=by rfl)
  (h1:(assignEach [tg] X.env).map (·.2)=[assign tg X.env]:=by rfl):PS X (.Assign [tg] e pos) (i5 te g):=by
 intro pins s σ H D I h
 refine wpAny_Assign_stores (thn (he pins s σ H _ I h) fun v s1 ⟨x,H1,I1,r1,q1⟩=>?_) hs hw
 rw[h1]
 exact thn (hg pins s1 σ H1 x v _ I1 r1 q1) fun _ s2 q=>q
theorem rc {i:Nat}{x:Str}{e:Expr}{te:TE}{pos':Pos} (hN:X.N.Nodup) (hi:X.N[i]?=some x) (hx:Loc X.env.scope x) (he:PE X e te) (hs:swapsWith e (some (.Name x pos')) pos.line X.env=pure false:=by rfl) (hf:X.fn x=true∨X.env.scope.names.lookup x=some .local:=by first | exact .inl rfl | exact .inr rfl | assumption):
  PS X (.Assign [.Name x pos'] e pos) (i5 te (i4 i)):=by
 intro pins s σ H D I h
 refine wpAny_Assign_Name (thn (he pins s σ H _ I h) fun v s1 ⟨y,H1,I1,r1,q1⟩=>?_) hs
 exact lw I1 hN hi hx r1 (fun s2 I2=>⟨_,H1,I2,q1⟩) hf
end
section
variable {X:Cx}{pos:Pos}
noncomputable def re (c:TT) (tb:TS):TS:=fun D σ H=>∃ W:Nat→St→Hp→Prop,(∃ m,W m σ H)∧∀ m σ H,W m σ H→
 c σ H fun b H1=>if b=true then ∃ N:St→Hp→Prop,(∀ σ' H',N σ' H'→∃ m',m'<m∧W m' σ' H')∧tb { D with nx:=N,ct:=N,bk:=D.nx } σ H1 else D.nx σ H1
theorem rf {c:Expr}{body:List Stmt}{tc:TT}{tb:TS} (hp:PassesOwn (model X.prog X.w) X.A X.env X.xe) (hc:PT X c tc) (hb:PSs X body tb):PS X (.While c body [] pos) (re tc tb):=by
 intro pins s σ H D I h
 obtain⟨W,⟨m0,w0⟩,turn⟩:=h
 refine wpAny_While (codeAny_whileLoop (fun n s'=>∃ σ' H',Inv X pins σ' H' s'∧W n σ' H') ?_ m0 ⟨σ,H,I,w0⟩)
 rintro n s1 ⟨σ1,H1,I1,w1⟩
 refine wpAny_passesOwn hp (thn (hc pins s1 σ1 H1 _ I1 (turn n σ1 H1 w1)) fun b s2 ⟨H2,I2,q2⟩=>?_)
 cases b with
 | true=>
  obtain⟨N,hN,q2⟩:=q2
  rw[if_pos rfl]
  refine wpAny_passesOwn hp (thn (hb pins s2 σ1 H2 _ I2 q2) fun f s3 q3=>?_)
  cases f with
  | next=>
   obtain⟨σ3,H3,I3,n3⟩:=q3
   obtain⟨m',hm,w3⟩:=hN σ3 H3 n3
   exact⟨m',hm,σ3,H3,I3,w3⟩
  | cont=>
   obtain⟨σ3,H3,I3,n3⟩:=q3
   obtain⟨m',hm,w3⟩:=hN σ3 H3 n3
   exact⟨m',hm,σ3,H3,I3,w3⟩
  | brk=>exact q3
  | ret v=>exact q3
 | false=>
  rw[if_neg Bool.false_ne_true]
  exact wpAny_execs_nil ⟨σ1,H2,I2,q2⟩
end
structure It where
 go:Nat→Hp→Prop
 yld:Nat→Hp→V→Hp→Prop
 stop:Nat→Hp→Prop
noncomputable def bv (X:Cx) (pins:List (Addr×Obj)) (H:Hp) (b:Addr):Prop:=
 H b=none∧b≠X.env.locals∧b∉X.fs∧(b∈X.ex∨X.s₀.heap.objs.size≤b)∧(∀ x c,X.env.cells.lookup x=some c→c≠b)∧∀ p∈X.pn++pins,p.1≠b
theorem Inv.fpOk {X:Cx}{pins:List (Addr×Obj)}{σ:St}{H H':Hp}{s:Shared}{b:Addr} (I:Inv X pins σ H s) (hb:s.heap.objs.size≤b) (hn:H' b=none):bv X pins H' b:=by
 refine⟨hn,Nat.ne_of_gt (Nat.lt_of_lt_of_le I.lt hb),I.nofs hb,.inr (Nat.le_trans I.sz hb),fun x c e z=>?_,fun p hp z=>?_⟩
 ·obtain⟨v,q⟩:=I.cell x c e
  exact absurd (Nat.lt_of_lt_of_le q.lt (by rw[z];exact hb)) (Nat.lt_irrefl _)
 ·exact absurd (Nat.lt_of_lt_of_le (Heap.lt_size (I.pin p hp).1) (by rw[z];exact hb)) (Nat.lt_irrefl _)
structure Turn (P:Program) (w:World) (K:PySem.W.Frag) (tg:Expr) (J:It) (fp:List Addr) (it:Addr) (tn:Nat→Heap→Prop):Prop where
 mem:it∈fp
 obj:∀ i h,tn i h→∀ b∈fp,∃ o,h.get? b=some o∧∀ v,o.data≠.cell v
 keep:∀ i h h',tn i h→(∀ b∈fp,∀ o,h.get? b=some o→h'.get? b=some o)→tn i h'
 item:∀ (X:Cx),X.prog=P→X.w=w→X.K=K→X.calm=true→∀ (i:Nat) (pins:List (Addr×Obj)) (s:Shared) (σ:St) (H:Hp) (E:Value→Shared→Prop),Inv X pins σ H s→(∀ b∈fp,bv X pins H b)→tn i s.heap→J.go i H→
  wpAny (model P w) X.A (pyNext (.ref it)) (fun r s1=>∃ u,r=some u∧
   wpAny (model P w) X.A (letOwnedTupleGo tg (.ref it) u) (fun _ s2=>∃ x H',Inv X pins σ H' s2∧am x u∧J.yld i H x H'∧tn (i+1) s2.heap∧∀ b∈fp,H' b=none) E s1) E s
 done:∀ (X:Cx),X.prog=P→X.w=w→X.K=K→X.calm=true→∀ (i:Nat) (pins:List (Addr×Obj)) (s:Shared) (σ:St) (H:Hp) (E:Value→Shared→Prop),Inv X pins σ H s→(∀ b∈fp,bv X pins H b)→tn i s.heap→J.stop i H→
  wpAny (model P w) X.A (pyNext (.ref it)) (fun r s1=>r=none∧Inv X pins σ H s1) E s
 self:∀ (A:Around) (i:Nat) (s:Shared) (Q:Value→Shared→Prop) (E:Value→Shared→Prop),tn i s.heap→Q (.ref it) s→wpAny (model P w) A (pyIter (.ref it)) Q E s
noncomputable abbrev TI:=St→Hp→(It→Hp→Prop)→Prop
noncomputable def PIE (X:Cx) (pins:List (Addr×Obj)) (σ:St) (tg:Expr) (R:It→Hp→Prop) (itv:Value) (s2:Shared):Prop:=
 ∃ (it:Addr) (fp:List Addr) (tn:Nat→Heap→Prop) (J:It) (H':Hp),itv=.ref it∧Inv X pins σ H' s2∧Turn X.prog X.w X.K tg J fp it tn∧tn 0 s2.heap∧(∀ b∈fp,bv X pins H' b)∧R J H'
noncomputable def PI (X:Cx) (tg iter:Expr) (wi:TI):Prop:=
 ∀ (pins:List (Addr×Obj)) (s:Shared) (σ:St) (H:Hp) (R:It→Hp→Prop),Inv X pins σ H s→wi σ H R→
  wpAny (model X.prog X.w) X.A (eval iter X.env) (fun v s1=>wpAny (model X.prog X.w) X.A (pyIter v) (PIE X pins σ tg R) X.xe s1) X.xe s
theorem i6 {M : Model} {A : Around} {E : Value → Shared → Prop} {s : Shared} {tg : Expr} {it : Addr} {u : Value} {o : Obj} {n : String} {vs : Array Value} {Q : Unit → Shared → Prop} (ho : s.heap.get? it = some o) (hc : o.cls = .type n) (hd : o.data = .fields vs)
    (hn : ["enumerate", "zip", "dict_itemiterator", "dict_reverseitemiterator", "odict_iterator", "itertools.zip_longest", "itertools.pairwise"].contains n = false) (hQ : Q () s) : wpAny M A (letOwnedTupleGo tg (.ref it) u) Q E s := by
  unfold letOwnedTupleGo
  cases tg <;> first
    | exact wpAny_pure hQ
    | (cases u <;> first
        | exact wpAny_pure hQ
        | (refine wpAny_bind (wpAny_load ho ?_)
           rw [hc, hd]
           show wpAny M A (if (["enumerate", "zip", "dict_itemiterator", "dict_reverseitemiterator", "odict_iterator", "itertools.zip_longest", "itertools.pairwise"].contains n && vs[0]? == some (rawInt _)) = true then _ else _) Q E s
           rw [if_neg (by intro h; rw [hn, Bool.false_and] at h; cases h)]
           exact wpAny_pure hQ))
noncomputable def Itl (K:PySem.W.Frag) (a:Addr):It:=
 ⟨fun i H=>∃ xs x,SqL K H a xs∧xs[i]?=some x,fun i H x H'=>H'=H∧∀ xs,SqL K H a xs→xs[i]?=some x,fun i H=>∃ xs,SqL K H a xs∧xs.length≤i⟩
noncomputable def Itt (K:PySem.W.Frag) (a:Addr):It:=
 ⟨fun i H=>∃ xs x,SqT K H a xs∧xs[i]?=some x,fun i H x H'=>H'=H∧∀ xs,SqT K H a xs→xs[i]?=some x,fun i H=>∃ xs,SqT K H a xs∧xs.length≤i⟩
noncomputable def Itr (lo:Int) (n:Nat):It:=⟨fun i _=>i<n,fun i H x H'=>H'=H∧x=.int (lo+i),fun i _=>n≤i⟩
theorem rg {P:Program}{w:World}{K:PySem.W.Frag}{tg:Expr} (a it:Addr):Turn P w K tg (Itl K a) [it] it (fun i h=>h.IsListIter it a i) where
 mem:=by simp
 obj:=fun i h st b hb=>by
  have e:b=it:=by simpa using hb
  subst e
  obtain⟨o,e,c,d⟩:=st
  exact⟨o,e,fun v z=>by rw[d] at z;cases z⟩
 keep:=fun i h h' st k=>st.at fun o e=>k it (by simp) o e
 item:=by
  intro X hP hw hK hc i pins s σ H E I hf st hg
  subst hP hw hK
  obtain⟨xs,x,hq,hx⟩:=hg
  obtain⟨its,rv,p,hz⟩:=I.list hq
  obtain⟨u,hu,ru⟩:=rv.get hx
  obtain⟨f0,f1,f2,f3,f4,f5⟩:=hf it (by simp)
  refine wpAny_pyNext_list_item st p.isList (x:=u) (by simpa using hu) fun h' st' sb=>?_
  have I1:Inv X pins σ H { s with heap:=h' }:=I.turned (t':=s.toks) (fun b o hb e=>(sb.2 b hb).trans e) f0 f1 f3 f4 f5
  obtain⟨o,e,c,d⟩:=id st'
  exact⟨u,rfl,i6 (s:={ s with heap:=h' }) e c d (by decide) ⟨x,H,I1,ru,⟨rfl,fun ys hy=>by rw[I.list_inj hy hq];exact hx⟩,st',fun b hb=>(hf b hb).1⟩⟩
 done:=by
  intro X hP hw hK hc i pins s σ H E I hf st hg
  subst hP hw hK
  obtain⟨xs,hq,hx⟩:=hg
  obtain⟨its,rv,p,hz⟩:=I.list hq
  obtain⟨f0,f1,f2,f3,f4,f5⟩:=hf it (by simp)
  have hl:=rv.length
  exact wpAny_pyNext_list_end (I.ok.hd hc) st p.isList (by simp;omega) fun h' eb=>⟨rfl,I.turned (t':=s.toks) (fun b o hb e=>eb b o hb e) f0 f1 f3 f4 f5⟩
 self:=fun _ _ _ _ _ st h=>wpAny_pyIter_listiter st h
theorem rh {P:Program}{w:World}{K:PySem.W.Frag}{tg:Expr} (a it:Addr):Turn P w K tg (Itt K a) [it] it (fun i h=>h.IsTupleIter it a i) where
 mem:=by simp
 obj:=fun i h st b hb=>by
  have e:b=it:=by simpa using hb
  subst e
  obtain⟨o,e,c,d⟩:=st
  exact⟨o,e,fun v z=>by rw[d] at z;cases z⟩
 keep:=fun i h h' st k=>st.at fun o e=>k it (by simp) o e
 item:=by
  intro X hP hw hK hc i pins s σ H E I hf st hg
  subst hP hw hK
  obtain⟨xs,x,hq,hx⟩:=hg
  obtain⟨its,rv,p,hz⟩:=I.tuple hq
  obtain⟨u,hu,ru⟩:=rv.get hx
  obtain⟨f0,f1,f2,f3,f4,f5⟩:=hf it (by simp)
  refine wpAny_pyNext_tuple_item st (show s.heap.IsTuple a its.toArray from p) (x:=u) (by simpa using hu) fun h' st' sb=>?_
  have I1:Inv X pins σ H { s with heap:=h' }:=I.turned (t':=s.toks) (fun b o hb e=>(sb.2 b hb).trans e) f0 f1 f3 f4 f5
  obtain⟨o,e,c,d⟩:=id st'
  exact⟨u,rfl,i6 (s:={ s with heap:=h' }) e c d (by decide) ⟨x,H,I1,ru,⟨rfl,fun ys hy=>by rw[I.tuple_inj hy hq];exact hx⟩,st',fun b hb=>(hf b hb).1⟩⟩
 done:=by
  intro X hP hw hK hc i pins s σ H E I hf st hg
  subst hP hw hK
  obtain⟨xs,hq,hx⟩:=hg
  obtain⟨its,rv,p,hz⟩:=I.tuple hq
  obtain⟨f0,f1,f2,f3,f4,f5⟩:=hf it (by simp)
  have hl:=rv.length
  exact wpAny_pyNext_tuple_end (I.ok.hd hc) st (show s.heap.IsTuple a its.toArray from p) (by simp;omega) fun h' eb=>⟨rfl,I.turned (t':=s.toks) (fun b o hb e=>eb b o hb e) f0 f1 f3 f4 f5⟩
 self:=fun _ _ _ _ _ st h=>wpAny_pyIter_tupleiter st h
theorem rj {P:Program}{w:World}{K:PySem.W.Frag}{tg:Expr} (it:Addr) (lo:Int) (n:Nat):Turn P w K tg (Itr lo n) [it] it (fun i h=>IsRangeIter h it (lo+(i:Nat) * 1) ((n:Int) - (i:Nat)) 1) where
 mem:=by simp
 obj:=fun i h st b hb=>by
  have e:b=it:=by simpa using hb
  subst e
  exact⟨_,st,fun v z=>by
   have z':Data.fields _=Data.cell v:=z
   cases z'⟩
 keep:=fun i h h' st k=>k it (by simp) _ st
 item:=by
  intro X hP hw hK hc i pins s σ H E I hf st hg
  subst hP hw hK
  obtain⟨f0,f1,f2,f3,f4,f5⟩:=hf it (by simp)
  have W:=Walks.range (prog:=X.prog) (w:=X.w) (I.ok.hd hc) it lo 1 n
  refine W.item i s _ _ hg st fun v h' tk hv st' kk=>?_
  obtain⟨t,rfl⟩:=hv
  have I1:Inv X pins σ H { s with heap:=h',toks:=tk }:=I.turned (fun b o hb e=>kk b o (by simpa using hb) e) f0 f1 f3 f4 f5
  refine⟨_,rfl,i6 (s:={ s with heap:=h',toks:=tk }) (n := "range_iterator") st' rfl rfl (by decide) ⟨.int (lo+i),H,I1,⟨t,?_⟩,⟨rfl,rfl⟩,st',fun b hb=>(hf b hb).1⟩⟩
  rw[Int.mul_one]
 done:=by
  intro X hP hw hK hc i pins s σ H E I hf st hg
  subst hP hw hK
  obtain⟨f0,f1,f2,f3,f4,f5⟩:=hf it (by simp)
  exact wpAny_pyNext_range_end (I.ok.hd hc) st (by have:n≤i:=hg;omega) fun h' eb=>⟨rfl,I.turned (t':=s.toks) (fun b o hb e=>eb b o hb e) f0 f1 f3 f4 f5⟩
 self:=fun _ _ _ _ _ st h=>wpAny_pyIter_rangeiter st h
end L2
namespace L2
open PySem PySem.Spec PyProof.Rows
section
variable {X:Cx}{tg:Expr}
theorem rk {pins:List (Addr×Obj)}{σ:St}{H:Hp}{s:Shared}{R:It→Hp→Prop}{E:Value→Shared→Prop}{lo hi:Int}{t u v:Tok}{tk:Nat} (I:Inv X pins σ H s) (h1 : -(2 ^ 62)≤lo) (h2:lo<2 ^ 62) (h3 : -(2 ^ 62)≤hi) (h4:hi<2 ^ 62)
  (q:R (Itr lo (hi - lo).toNat) H):wpAny (model X.prog X.w) X.A (pyIter (.ref s.heap.objs.size)) (PIE X pins σ tg R) E { s with heap:=s.heap.push { cls:=.type "range",data:=.fields #[.int lo t,.int hi u,.int 1 v] },toks:=tk }:=by
 refine wpAny_pyIter_range (IsRange.new ..) (small_one h1 h2 h3 h4) ?_
 have I1:Inv X pins σ H { s with heap:=s.heap.push { cls:=.type "range",data:=.fields #[.int lo t,.int hi u,.int 1 v] },toks:=tk }:=I.kept fun b o e=>Heap.get?_push_of_some _ e
 refine⟨(s.heap.push { cls:=.type "range",data:=.fields #[.int lo t,.int hi u,.int 1 v] }).objs.size,[(s.heap.push { cls:=.type "range",data:=.fields #[.int lo t,.int hi u,.int 1 v] }).objs.size],_,_,H,rfl,
  I1.kept (t':=tk) fun b o e=>Heap.get?_push_of_some _ e,rj _ lo (hi - lo).toNat,?_,fun b hb=>?_,q⟩
 ·have e1:lo+((0:Nat):Int) * 1=lo:=by simp
  have e2:(((hi - lo).toNat:Nat):Int) - ((0:Nat):Int)=Builtin.Range.rangeSize lo hi 1:=by rw[rangeSize_one];split<;>omega
  show IsRangeIter _ _ (lo+((0:Nat):Int) * 1) ((((hi - lo).toNat:Nat):Int) - ((0:Nat):Int)) 1
  rw[e1,e2]
  exact Heap.get?_push_size _ rfl
 ·have e:b=(s.heap.push { cls:=.type "range",data:=.fields #[.int lo t,.int hi u,.int 1 v] }).objs.size:=by simpa using hb
  subst e
  exact I1.fpOk (Nat.le_refl _) (I1.hok.fresh (Nat.le_refl _))
noncomputable def rl (ta:TA):TI:=fun σ H R=>ta σ H fun vs H1=>∃ j:Int,vs=[.int j] ∧ -(2 ^ 62)≤j∧j<2 ^ 62∧R (Itr 0 j.toNat) H1
theorem rm {a:Expr}{ta:TA}{p pos:Pos} (hg:Gl X "range") (hm:X.mg "range" = none) (ha:PA X [a] ta) (hs:starEach [a] X.env=[(false,eval a X.env)]:=by rfl):PI X tg (.Call (.Name "range" p) [a] [] pos) (rl ta):=by
 intro pins s σ H R I h
 refine Call_ (fo I hg hm boot_range (PyProof.Rows.callWith_type1 (thn (ha pos pins s σ H _ I h) fun us s1 ⟨vs,H1,I1,r1,q1⟩=>?_) hs rfl))
 obtain⟨j,e,q1,q2,q⟩:=q1
 subst e
 cases r1 with
 | cons r rr=>
  cases rr
  obtain⟨t,rfl⟩:=r
  exact call_range_1 (rk I1 (by omega) (by omega) q1 q2 (by simpa using q))
noncomputable def lE (wi:TI) (g:TG) (tb:TS):TS:=fun D σ H=>wi σ H fun J H1=>∃ W:Nat→Nat→St→Hp→Prop,(∃ m,W 0 m σ H1)∧∀ i m σ H,W i m σ H→
 (J.stop i H∧D.nx σ H)∨(J.go i H∧∃ N:St→Hp→Prop,(∀ σ' H',N σ' H'→∃ m',m'<m∧W (i+1) m' σ' H')∧∀ x H',J.yld i H x H'→g x σ H' fun σ2 H2=>tb { D with nx:=N,ct:=N,bk:=D.nx } σ2 H2)
noncomputable def cv (fp:List Addr) (h:Heap):List (Addr×Obj):=fp.filterMap fun b=>(h.get? b).map fun o=>(b,o)
theorem fq {fp:List Addr}{h:Heap}{b:Addr}{o:Obj} (hb:b∈fp) (e:h.get? b=some o):(b,o)∈cv fp h:=List.mem_filterMap.mpr ⟨b,hb,by rw[e];rfl⟩
theorem i7 {fp:List Addr}{h:Heap}{p:Addr×Obj} (hp:p∈cv fp h):p.1∈fp∧h.get? p.1=some p.2:=by
 obtain⟨b,hb,e⟩:=List.mem_filterMap.mp hp
 cases q:h.get? b with
 | none=>rw[q] at e;cases e
 | some o=>
  rw[q] at e
  have e':(b,o)=p:=Option.some.inj e
  subst e'
  exact⟨hb,q⟩
theorem Inv.pinned {pins:List (Addr×Obj)}{σ:St}{H:Hp}{s:Shared}{fp:List Addr} (I:Inv X pins σ H s) (hf:∀ b∈fp,bv X pins H b) (ho:∀ b∈fp,∃ o,s.heap.get? b=some o∧∀ v,o.data≠.cell v):Inv X (pins++cv fp s.heap) σ H s:=
 I.pins_of fun p hp=>(List.mem_append.mp hp).elim (fun z=>I.pin p (List.mem_append_right _ z)) fun z=>by
  obtain⟨hb,e⟩:=i7 z
  obtain⟨f0,f1,f2,_⟩:=hf p.1 hb
  obtain⟨o,e',d⟩:=ho p.1 hb
  rw[e] at e';cases e'
  exact⟨e,f0,f1,f2,d⟩
theorem Inv.unpinned {pins pl:List (Addr×Obj)}{σ:St}{H:Hp}{s:Shared} (I:Inv X (pins++pl) σ H s):Inv X pins σ H s:=I.pins_of fun p hp=>I.pin p (List.mem_append_right _ (List.mem_append_left _ hp))
theorem rn {iter:Expr}{body:List Stmt}{wi:TI}{g:TG}{tb:TS}{pos:Pos} (hp:PassesOwn (model X.prog X.w) X.A X.env X.xe) (hc:X.calm=true) (hi:PI X tg iter wi) (hg:PG X tg g) (hb:PSs X body tb)
  (hs:∀ x,foldedSetIterable iter X.env x=pure x:=by intro _;rfl):PS X (.For tg iter body [] pos) (lE wi g tb):=by
 intro pins s σ H D I h
 refine wpAny_For (thn (hi pins s σ H _ I h) fun v s1 h1=>thn h1 fun itv s2 h2=>?_) hs
 obtain⟨it,fp,tn,J,H2,e,I2,T,st2,f2,W,⟨m0,w0⟩,turn⟩:=h2
 subst e
 -- what stays true of the iterator's objects through the loop
 have stat:∀ {H':Hp},(∀ b∈fp,H' b=none)→∀ b∈fp,bv X pins H' b:=fun hn b hb=>⟨hn b hb,(f2 b hb).2⟩
 refine codeAny_forLoop_any (fun n s'=>∃ i σ' H',Inv X pins σ' H' s'∧tn i s'.heap∧(∀ b∈fp,H' b=none)∧W i n σ' H') ?_ m0 ⟨0,σ,H2,I2,st2,fun b hb=>(f2 b hb).1,w0⟩
 rintro n s3 ⟨i,σ3,H3,I3,st3,fr3,w3⟩
 rcases turn i n σ3 H3 w3 with ⟨stop,qn⟩ | ⟨go,N,hN,step⟩
 ·refine wpAny_passesOwn hp (thn (T.done X rfl rfl rfl hc i pins s3 σ3 H3 X.xe I3 (stat fr3) st3 stop) fun r s4 ⟨hr,I4⟩=>?_)
  subst hr
  exact wpAny_execs_nil ⟨σ3,H3,I4,qn⟩
 ·refine wpAny_passesOwn hp (thn (T.item X rfl rfl rfl hc i pins s3 σ3 H3 X.xe I3 (stat fr3) st3 go) fun r s4 ⟨u,hr,h4⟩=>?_)
  subst hr
  refine wpAny_passesOwn hp (thn h4 fun _ s5 ⟨x,H5,I5,r5,y5,st5,fr5⟩=>?_)
  have I5':=I5.pinned (stat fr5) (T.obj _ _ st5)
  refine wpAny_passesOwn hp (thn (hg _ s5 σ3 H5 x u _ I5' r5 (step x H5 y5)) fun _ s6 ⟨σ6,H6,I6,q6⟩=>?_)
  refine wpAny_passesOwn hp (thn (hb _ s6 σ6 H6 _ I6 q6) fun f s7 q7=>?_)
  have again:∀ {σ7:St}{H7:Hp},Inv X (pins++cv fp s5.heap) σ7 H7 s7→N σ7 H7→∃ m,m<n∧∃ i σ' H',Inv X pins σ' H' s7∧tn i s7.heap∧(∀ b∈fp,H' b=none)∧W i m σ' H':=fun {σ7 H7} I7 n7=>by
   obtain⟨m',hm,w7⟩:=hN σ7 H7 n7
   refine⟨m',hm,i+1,σ7,H7,I7.unpinned,T.keep _ _ _ st5 fun b hb o e=>(I7.pin (b,o) (List.mem_append_right _ (List.mem_append_right _ (fq hb e)))).1,fun b hb=>?_,w7⟩
   obtain⟨o,e,d⟩:=T.obj _ _ st5 b hb
   exact (I7.pin (b,o) (List.mem_append_right _ (List.mem_append_right _ (fq hb e)))).2.1
  cases f with
  | next=>obtain⟨σ7,H7,I7,n7⟩:=q7;exact again I7 n7
  | cont=>obtain⟨σ7,H7,I7,n7⟩:=q7;exact again I7 n7
  | brk=>obtain⟨σ7,H7,I7,q7⟩:=q7;exact⟨σ7,H7,I7.unpinned,q7⟩
  | ret v=>obtain⟨x7,σ7,H7,I7,r7,q7⟩:=q7;exact⟨x7,σ7,H7,I7.unpinned,r7,q7⟩
end
end L2
namespace L2
open PySem PySem.Spec PyProof.Rows
noncomputable abbrev R2:=V→V→Hp→VK→Prop
noncomputable def OpR (X:Cx) (f:Value→Value→Sem Value) (r:R2):Prop:=
 ∀ (pins:List (Addr×Obj)) (s:Shared) (σ:St) (H:Hp) (x y:V) (v u:Value) (Q:VK),Inv X pins σ H s→am x v→am y u→r x y H Q→
  wpAny (model X.prog X.w) X.A (f v u) (EP X pins σ Q) X.xe s
noncomputable def UnR (X:Cx) (f:Value→Sem Value) (r:V→Hp→VK→Prop):Prop:=
 ∀ (pins:List (Addr×Obj)) (s:Shared) (σ:St) (H:Hp) (x:V) (v:Value) (Q:VK),Inv X pins σ H s→am x v→r x H Q→
  wpAny (model X.prog X.w) X.A (f v) (EP X pins σ Q) X.xe s
noncomputable def aP (X:Cx) (f:Value) (r:List V→Hp→VK→Prop):Prop:=
 ∀ (pins:List (Addr×Obj)) (s:Shared) (σ:St) (H:Hp) (xs:List V) (us:List Value) (Q:VK),Inv X pins σ H s→ak xs us→r xs H Q→
  wpAny (model X.prog X.w) X.A (call f us) (EP X pins σ Q) X.xe s
noncomputable def rq (X:Cx) (r:V→Hp→(Bool→Hp→Prop)→Prop):Prop:=
 ∀ (pins:List (Addr×Obj)) (s:Shared) (σ:St) (H:Hp) (x:V) (v:Value) (Q:Bool→Hp→Prop),Inv X pins σ H s→am x v→r x H Q→
  wpAny (model X.prog X.w) X.A (truthy v) (TP X pins σ Q) X.xe s
noncomputable def tOp (r:R2) (ta tb:TE):TE:=fun σ H Q=>ta σ H fun x H1=>tb σ H1 fun y H2=>r x y H2 Q
noncomputable def tUn (r:V→Hp→VK→Prop) (ta:TE):TE:=fun σ H Q=>ta σ H fun x H1=>r x H1 Q
noncomputable def rI (C:Int→Int→Prop) (g:Int→Int→V):R2:=fun x y H Q=>∃ i j,x=.int i∧y=.int j∧C i j∧Q (g i j) H
noncomputable def rI0 (g:Int→Int→V):R2:=fun x y H Q=>∃ i j,x=.int i∧y=.int j∧Q (g i j) H
noncomputable def rU (g:Int→V):V→Hp→VK→Prop:=fun x H Q=>∃ i,x=.int i∧Q (g i) H
section
variable {X:Cx}{a b c:Expr}{ta tb tc:TE}{pos:Pos}
theorem i8 (ha:PE X a ta) (hb:PE X b tb) {pins:List (Addr×Obj)}{s:Shared}{σ:St}{H:Hp}{R:V→V→Hp→Prop} (I:Inv X pins σ H s)
  (h:ta σ H fun x H1=>tb σ H1 fun y H2=>R x y H2) {Q:Value→Shared→Prop}{f:Value→Value→Sem Value}
  (hf:∀ v u s2 x y H2,Inv X pins σ H2 s2→am x v→am y u→R x y H2→wpAny (model X.prog X.w) X.A (f v u) Q X.xe s2):
  wpAny (model X.prog X.w) X.A (eval a X.env) (fun v s₁=>wpAny (model X.prog X.w) X.A (eval b X.env) (fun u s₂=>wpAny (model X.prog X.w) X.A (f v u) Q X.xe s₂) X.xe s₁) X.xe s:=by
 refine thn (ha pins s σ H _ I h) fun v s1 ⟨x,H1,I1,r1,q1⟩=>?_
 refine thn (hb pins s1 σ H1 _ I1 q1) fun u s2 ⟨y,H2,I2,r2,q2⟩=>?_
 exact hf v u s2 x y H2 I2 r1 r2 q2
theorem rA {op:Operator}{r:R2} (ho:OpR X (binaryOp op) r) (ha:PE X a ta) (hb:PE X b tb):PE X (.BinOp a op b pos) (tOp r ta tb):=by
 intro pins s σ H Q I h
 exact wpAny_BinOp (i8 ha hb I h fun v u s2 x y H2 I2 rx ry q=>ho pins s2 σ H2 x y v u Q I2 rx ry q)
theorem rB {op:UnaryOp}{r:V→Hp→VK→Prop} (ho:UnR X (unaryOp op) r) (ha:PE X a ta):PE X (.UnaryOp op a pos) (tUn r ta):=by
 intro pins s σ H Q I h
 exact UnaryOp_ (thn (ha pins s σ H _ I h) fun v s1 ⟨x,H1,I1,r1,q1⟩=>ho pins s1 σ H1 x v Q I1 r1 q1)
theorem opI {f:Value→Value→Sem Value}{C:Int→Int→Prop}{g:Int→Int→Int}
  (rule:∀ (i j:Int) (t u:Tok) (s:Shared) (Q:Value→Shared→Prop) (E:Value→Shared→Prop),C i j→Q (.int (g i j) s.toks) { s with toks:=s.toks+1 }→wpAny (model X.prog X.w) X.A (f (.int i t) (.int j u)) Q E s):
  OpR X f (rI C fun i j=>.int (g i j)):=by
 intro pins s σ H x y v u Q I rx ry h
 obtain⟨i,j,rfl,rfl,hc,q⟩:=h
 obtain⟨t,rfl⟩:=rx
 obtain⟨t',rfl⟩:=ry
 exact rule i j t t' s _ _ hc ⟨.int (g i j),H,I.tok _,⟨_,rfl⟩,q⟩
theorem lF {f:Value→Value→Sem Value}{g:Int→Int→Int}
  (rule:∀ (i j:Int) (t u:Tok) (s:Shared) (Q:Value→Shared→Prop) (E:Value→Shared→Prop),Q (.int (g i j) s.toks) { s with toks:=s.toks+1 }→wpAny (model X.prog X.w) X.A (f (.int i t) (.int j u)) Q E s):
  OpR X f (rI0 fun i j=>.int (g i j)):=by
 intro pins s σ H x y v u Q I rx ry h
 obtain⟨i,j,rfl,rfl,q⟩:=h
 obtain⟨t,rfl⟩:=rx
 obtain⟨t',rfl⟩:=ry
 exact rule i j t t' s _ _ ⟨.int (g i j),H,I.tok _,⟨_,rfl⟩,q⟩
theorem i9 {f:Value→Value→Sem Value}{g:Int→Int→Bool}
  (rule:∀ (i j:Int) (t u:Tok) (s:Shared) (Q:Value→Shared→Prop) (E:Value→Shared→Prop),Q (.bool (g i j)) s→wpAny (model X.prog X.w) X.A (f (.int i t) (.int j u)) Q E s):
  OpR X f (rI0 fun i j=>.bl (g i j)):=by
 intro pins s σ H x y v u Q I rx ry h
 obtain⟨i,j,rfl,rfl,q⟩:=h
 obtain⟨t,rfl⟩:=rx
 obtain⟨t',rfl⟩:=ry
 exact rule i j t t' s _ _ ⟨.bl (g i j),H,I,rfl,q⟩
noncomputable def rC (i j:Int):Prop:=0<j∧j<1073741824
noncomputable def rD (i j:Int):Prop:=0≤j∧j≤1000000∧i.natAbs<2 ^ 64
theorem rE:OpR X (binaryOp .Add) (rI0 fun i j=>.int (i+j)):=lF fun _ _ _ _ _ _ _ q=>add_int q
theorem rF:OpR X (binaryOp .Sub) (rI0 fun i j=>.int (i - j)):=lF fun _ _ _ _ _ _ _ q=>sub_int q
theorem rG:OpR X (binaryOp .FloorDiv) (rI rC fun i j=>.int (i / j)):=opI fun i j _ _ _ _ _ hc q=>by
 have h1:(0:Int)<j:=hc.1
 have h2:j<1073741824:=hc.2
 exact floordiv_int (by omega) (by rw[Int.fdiv_eq_ediv_of_nonneg i (by omega)];exact q) (.inl (PyProof.noPylong_small (by omega)))
theorem rH:OpR X (binaryOp .Mod) (rI (fun _ j=>0<j) fun i j=>.int (i % j)):=opI fun i j _ _ _ _ _ hc q=>by
 have h1:(0:Int)<j:=hc
 exact mod_int' (by omega) (by rw[Int.fmod_eq_emod_of_nonneg i (by omega)];exact q)
theorem rJ:OpR X (binaryOp .Pow) (rI rD fun i j=>.int (i ^ j.toNat)):=opI fun _ _ _ _ _ _ _ hc q=>pow_int_small hc.1 hc.2.1 hc.2.2 q
theorem unI {f:Value→Sem Value}{g:Int→Int}
  (rule:∀ (i:Int) (t:Tok) (s:Shared) (Q:Value→Shared→Prop) (E:Value→Shared→Prop),Q (.int (g i) s.toks) { s with toks:=s.toks+1 }→wpAny (model X.prog X.w) X.A (f (.int i t)) Q E s):
  UnR X f (rU fun i=>.int (g i)):=by
 intro pins s σ H x v Q I rx h
 obtain⟨i,rfl,q⟩:=h
 obtain⟨t,rfl⟩:=rx
 exact rule i t s _ _ ⟨.int (g i),H,I.tok _,⟨_,rfl⟩,q⟩
theorem rK:UnR X (unaryOp .USub) (rU fun i=>.int (-i)):=unI fun _ _ _ _ _ q=>neg_int q
end
section
variable {X:Cx}{a b c:Expr}{ta tb tc:TE}{pos:Pos}
theorem rL:OpR X (compareOp .LtE) (rI0 fun i j=>.bl (decide (i≤j))):=i9 fun _ _ _ _ _ _ _ q=>le_int q
theorem rM:OpR X (compareOp .Gt) (rI0 fun i j=>.bl (decide (j<i))):=i9 fun _ _ _ _ _ _ _ q=>gt_int q
theorem rN:OpR X (compareOp .GtE) (rI0 fun i j=>.bl (decide (j≤i))):=i9 fun _ _ _ _ _ _ _ q=>ge_int q
theorem OpR.or {f:Value→Value→Sem Value}{r r':R2} (h:OpR X f r) (h':OpR X f r'):OpR X f (fun x y H Q=>r x y H Q∨r' x y H Q):=by
 intro pins s σ H x y v u Q I rx ry q
 rcases q with q | q
 ·exact h pins s σ H x y v u Q I rx ry q
 ·exact h' pins s σ H x y v u Q I rx ry q
theorem bE (b:Expr) {op:CmpOp} (h:op≠.In:=by decide) (h2:op≠.NotIn:=by decide):behindInMarks op b=false:=by
 have e1:(op == CmpOp.In)=false:=by cases op<;>first | rfl | exact absurd rfl h
 have e2:(op == CmpOp.NotIn)=false:=by cases op<;>first | rfl | exact absurd rfl h2
 cases b<;>simp[behindInMarks,e1,e2]
theorem rO {op:CmpOp}{r:R2} (ho:OpR X (compareOp op) r) (ha:PE X a ta) (hb:PE X b tb) (hm:behindInMarks op b=false):PE X (.Compare a [op] [b] pos) (tOp r ta tb):=by
 intro pins s σ H Q I h
 exact wpAny_Compare1 (i8 ha hb I h fun v u s2 x y H2 I2 rx ry q=>ho pins s2 σ H2 x y v u Q I2 rx ry q) hm
noncomputable def lG (t:TE):TT:=fun σ H Q=>t σ H fun x H'=>∃ k,x=.bl k∧Q k H'
theorem rP {op:CmpOp}{r:R2} (ho:OpR X (compareOp op) r) (ha:PE X a ta) (hb:PE X b tb) (hm:behindInMarks op b=false):PT X (.Compare a [op] [b] pos) (lG (tOp r ta tb)):=by
 intro pins s σ H Q I h
 refine wpAny_isTrue_Compare1 (thn (ha pins s σ H _ I h) fun v s1 ⟨x,H1,I1,r1,q1⟩=>thn (hb pins s1 σ H1 _ I1 q1) fun u s2 ⟨y,H2,I2,r2,q2⟩=>
  thn (ho pins s2 σ H2 x y v u _ I2 r1 r2 q2) fun c s3 ⟨z,H3,I3,r3,k,e,q3⟩=>?_) hm
 subst e
 cases r3
 exact wpAny_truthy_bool ⟨H3,I3,q3⟩
noncomputable def lH (r r':R2) (ta tb tc:TE):TE:=fun σ H Q=>ta σ H fun x H1=>tb σ H1 fun y H2=>r x y H2 fun z H3=>∃ k,z=.bl k∧
 (if k=true then tc σ H3 fun w' H4=>r' y w' H4 Q else Q (.bl false) H3)
theorem rQ {op op':CmpOp}{r r':R2} (ho:OpR X (compareOp op) r) (ho':OpR X (compareOp op') r') (ha:PE X a ta) (hb:PE X b tb) (hc:PE X c tc)
  (hm:lastMarks [op,op'] [b,c]=false:=by with_unfolding_all rfl):PT X (.Compare a [op,op'] [b,c] pos) (lG (lH r r' ta tb tc)):=by
 intro pins s σ H Q I h
 refine isTrue_chain (thn (ha pins s σ H _ I h) fun v s1 ⟨x,H1,I1,r1,q1⟩=>test_link (thn (hb pins s1 σ H1 _ I1 q1) fun u s2 ⟨y,H2,I2,r2,q2⟩=>
  thn (ho pins s2 σ H2 x y v u _ I2 r1 r2 q2) fun d s3 ⟨z,H3,I3,r3,k,e,q3⟩=>?_)) hm
 subst e
 cases r3
 refine wpAny_truthy_bool ?_
 cases k with
 | false=>
  obtain⟨k',e',q'⟩:=q3
  cases e'
  exact ite_ff ⟨H3,I3,q'⟩
 | true=>
  refine ite_tt (test_last (thn (hc pins s3 σ H3 _ I3 q3) fun w' s4 ⟨z',H4,I4,r4,q4⟩=>thn (ho' pins s4 σ H4 y z' u w' _ I4 r2 r4 q4) fun d' s5 ⟨z2,H5,I5,r5,k2,e2,q5⟩=>?_))
  subst e2
  cases r5
  exact wpAny_truthy_bool ⟨H5,I5,q5⟩
noncomputable def ja (K:PySem.W.Frag) (x:V) (H:Hp) (k:Bool):Prop:=
 match x with
 | .non=>k=false
 | .bl b=>k=b
 | .int i=>k=(i != 0)
 | .str y=>y.length≤sizeLine∧k=((y.length:Int) != 0)
 | .byt y=>y.size≤sizeLine∧k=((y.size:Int) != 0)
 | .ref p=>(∃ xs,SqL K H p xs∧k=!xs.isEmpty)∨(∃ xs,SqT K H p xs∧k=!xs.isEmpty)∨∃ kvs,H p=some (.dK kvs)∧k=!kvs.isEmpty
 | _=>False
theorem rR {κ:Type}{kvs:List (κ×V)}{vs:List (κ×Value)} (r:KV kvs vs):(!vs.isEmpty)=!kvs.isEmpty:=by
 cases r<;>rfl
theorem lJ {xs:List V}{its:List Value} (r:ak xs its):(!its.toArray.isEmpty)=!xs.isEmpty:=by
 cases r<;>simp
theorem d6:(sizeLine:Nat)<2 ^ 63:=by rw[sizeLine_eq];decide
theorem rS:rq X (fun x H Q=>∃ k,ja X.K x H k∧Q k H):=by
 intro pins s σ H x v Q I rx h
 obtain⟨k,e,q⟩:=h
 have hl:=d6
 have hs:sizeLine=16777216:=sizeLine_eq
 cases x with
 | non=>
  cases rx
  have e':k=false:=e
  subst e'
  exact truthy_none ⟨H,I,q⟩
 | bl b=>
  cases rx
  have e':k=b:=e
  subst e'
  exact wpAny_truthy_bool ⟨H,I,q⟩
 | int i=>
  obtain⟨t,rfl⟩:=rx
  have e':k=(i != 0):=e
  subst e'
  exact PySem.P.truthy_int ⟨H,I,q⟩
 | str y=>
  obtain⟨t,rfl⟩:=rx
  obtain⟨hy,e'⟩:y.length≤sizeLine∧k=((y.length:Int) != 0):=e
  subst e'
  exact PySem.P.truthy_str (by omega) ⟨H,I.tok _,q⟩
 | byt y=>
  obtain⟨t,rfl⟩:=rx
  obtain⟨hy,e'⟩:y.size≤sizeLine∧k=((y.size:Int) != 0):=e
  subst e'
  exact PySem.W.truthy_bytes (by omega) ⟨H,I.tok _,q⟩
 | ref p=>
  cases rx
  have e':(∃ xs,SqL X.K H p xs∧k=!xs.isEmpty)∨(∃ xs,SqT X.K H p xs∧k=!xs.isEmpty)∨∃ kvs,H p=some (.dK kvs)∧k=!kvs.isEmpty:=e
  rcases e' with ⟨xs,hx,e'⟩ | ⟨xs,hx,e'⟩ | ⟨kvs,hx,e'⟩
  ·subst e'
   obtain⟨its,r,pl,hz⟩:=I.list hx
   have hlen:=r.length
   exact wpAny_truthy_list pl.isList (by simp only[List.size_toArray];omega) ⟨H,I.tok _,by rw[lJ r];exact q⟩
  ·subst e'
   obtain⟨its,r,pl,hz⟩:=I.tuple hx
   have hlen:=r.length
   exact truthy_tuple pl (by simp only[List.size_toArray];omega) ⟨H,I.tok _,by rw[lJ r];exact q⟩
  ·subst e'
   obtain⟨hz,hS,vs,r,m⟩:kvs.length≤sizeLine∧(p == sysModules)=false∧∃ vs,KV kvs vs∧s.heap.DictOf (de X.prog X.w) p vs:=I.hok p _ hx
   have hlen:kvs.length=vs.length:=Paired.length r
   exact wpAny_truthy_dict hS m (by omega) ⟨H,I.tok _,by rw[rR r];exact q⟩
 | _=>exact (show False from e).elim
theorem rT (ha:PE X a ta) (he:∀ whole,isTrue a X.env whole=(do let v ← whole;standAt a.pos;holding [v] (truthy v))):
  PT X a (fun σ H Q=>ta σ H fun x H'=>∃ k,ja X.K x H' k∧Q k H'):=by
 intro pins s σ H Q I h
 exact isTrue_plain (thn (ha pins s σ H _ I h) fun v s1 ⟨x,H1,I1,r1,q1⟩=>rS pins s1 σ H1 x v Q I1 r1 q1) (he _)
theorem rV:OpR X (binaryOp .Add) (fun x y H Q=>∃ i j,x=.str i∧y=.str j∧i.length+j.length≤sizeLine∧Q (.str (i++j)) H):=by
 intro pins s σ H x y v u Q I rx ry h
 obtain⟨i,j,rfl,rfl,hz,q⟩:=h
 obtain⟨t,rfl⟩:=rx
 obtain⟨t',rfl⟩:=ry
 exact add_str (fun t' tk=>⟨.str (i++j),H,I.tok _,⟨_,rfl⟩,q⟩) hz
theorem cx {x:V}{us:List Value} (r:ak [x] us):∃ u,us=[u]∧am x u:=by
 cases r with
 | cons r1 r2=>cases r2;exact⟨_,rfl,r1⟩
theorem gj {x y:V}{us:List Value} (r:ak [x,y] us):∃ u w',us=[u,w']∧am x u∧am y w':=by
 cases r with
 | cons r1 r2=>
  cases r2 with
  | cons r3 r4=>cases r4;exact⟨_,_,rfl,r1,r3⟩
theorem rW (hc:X.calm=true):aP X (.builtin "max") (fun xs H Q=>∃ i j,xs=[.int i,.int j]∧Q (.int (if j > i then j else i)) H):=by
 intro pins s σ H xs us Q I r h
 obtain⟨i,j,rfl,q⟩:=h
 obtain⟨u,w',rfl,⟨t,rfl⟩,⟨t',rfl⟩⟩:=gj r
 refine max_two_ints (I.ok.hd hc) fun h' tk k=>⟨_,H,I.kept k,?_,q⟩
 by_cases hj:j > i
 ·rw[if_pos hj,if_pos hj];exact⟨_,rfl⟩
 ·rw[if_neg hj,if_neg hj];exact⟨_,rfl⟩
theorem rX (hc:X.calm=true):aP X (.builtin "min") (fun xs H Q=>∃ i j,xs=[.int i,.int j]∧Q (.int (if j<i then j else i)) H):=by
 intro pins s σ H xs us Q I r h
 obtain⟨i,j,rfl,q⟩:=h
 obtain⟨u,w',rfl,⟨t,rfl⟩,⟨t',rfl⟩⟩:=gj r
 refine min_two_ints (I.ok.hd hc) fun h' tk k=>⟨_,H,I.kept k,?_,q⟩
 by_cases hj:j<i
 ·rw[if_pos hj,if_pos hj];exact⟨_,rfl⟩
 ·rw[if_neg hj,if_neg hj];exact⟨_,rfl⟩
theorem rY:aP X (.type "int") (fun xs H Q=>(∃ i,xs=[.int i]∧Q (.int i) H)∨∃ k,xs=[.bl k]∧Q (.int (if k then 1 else 0)) H):=by
 intro pins s σ H xs us Q I r h
 rcases h with ⟨i,rfl,q⟩ | ⟨k,rfl,q⟩
 ·obtain⟨u,rfl,t,rfl⟩:=cx r
  exact call_int_int ⟨.int i,H,I,⟨_,rfl⟩,q⟩
 ·obtain⟨u,rfl,r1⟩:=cx r
  cases r1
  exact call_int_bool ⟨.int (if k then 1 else 0),H,I.tok _,⟨_,rfl⟩,q⟩
end
end L2
namespace L2
open PySem PySem.Spec PyProof.Rows
section
variable {prog:Program}{w:World}{A:Around}{E:Value→Shared→Prop}{s:Shared}{K:PySem.W.Frag}{x dx C f:Addr}{mA:Str→Option Value}{name:Str}{v:Value}
end
theorem cu.some_of {v:V}{o:Option Value} (r:cu (some v) o):∃ u,o=some u∧am v u:=by
 cases o with
 | none=>exact (show False from r).elim
 | some u=>exact⟨u,rfl,r⟩
section
variable {P:Program}{w:World}{H H':Hp}{h h':Heap}{a C dx:Addr}{fs fs':List (Str×V)}
end
section
variable {X:Cx}{pins:List (Addr×Obj)}{σ:St}{H:Hp}{s:Shared}{a C dx:Addr}{fs:List (Str×V)}{f:Str}{v:V}{A:Around}{E:Value→Shared→Prop}
end
section
variable {X:Cx}{o e value:Expr}{f:Str}{pos pos' tpos:Pos}{ta tv:TE}
end
section
variable {X:Cx}{pins:List (Addr×Obj)}{σ:St}{H:Hp}{s:Shared}{A:Around}{E:Value→Shared→Prop}{Q:Value→Shared→Prop}{c:Value}{b:Bool}
end
end L2
namespace L2
open PySem PySem.Spec PyProof.Rows
structure Room (k:Nat) (A:Around):Prop where
 hd:A.handled=none
 dp:A.depth+3 * k+5<recursionLimit
 un:A.units+16 * k+200<cLine
 gd:A.guards=some []
theorem Room.mono {j k:Nat}{A:Around} (r:Room k A) (h:j≤k):Room j A:=⟨r.hd,by have:=r.dp;omega,by have:=r.un;omega,r.gd⟩
theorem Room.deeper {k:Nat}{A:Around} (r:Room (k+1) A) (env:Env):Room k (A.deeper env):=
 ⟨r.hd,by have:=r.dp;show A.depth+1+3 * k+5 < _;omega,by have:=r.un;show A.units+3+16 * k+200 < _;omega,r.gd⟩
theorem Room.depth {k:Nat}{A:Around} (r:Room k A):A.depth<recursionLimit:=by have:=r.dp;omega
noncomputable def tNil:TA:=fun _ H Q=>Q [] H
noncomputable def rZ (ta:TE) (tr:TA):TA:=fun σ H Q=>ta σ H fun x H1=>tr σ H1 fun xs H2=>Q (x::xs) H2
section
variable {X:Cx}{e:Expr}{es:List Expr}{te:TE}{t:TA}{pos:Pos}
theorem lK:PA X [] tNil:=fun _ _ _ _ H Q I h=>Calls.spliced_nil ⟨[],H,I,.nil,h⟩
theorem jb (ha:PE X e te) (hr:PA X es t) (hs:starEach (e::es) X.env=(false,eval e X.env)::starEach es X.env:=by rfl):PA X (e::es) (rZ te t):=by
 intro pos pins s σ H Q I h
 rw[hs]
 show wpAny _ _ (spliced ((false,eval e X.env)::backTo pos (starEach es X.env))) _ _ s
 refine Calls.spliced_cons (thn (ha pins s σ H _ I h) fun u s1 ⟨x,H1,I1,r1,q1⟩=>?_)
 exact thn (hr pos pins s1 σ H1 _ I1 q1) fun us s2 ⟨xs,H2,I2,r2,q2⟩=>⟨x::xs,H2,I2,.cons r1 r2,q2⟩
noncomputable def r6 (t:TA):TE:=fun σ H Q=>t σ H fun xs H1=>xs.length≤sizeLine∧∀ p,H1 p=none→Q (.ref p) (upd H1 p (.tup xs))
noncomputable def r9 (t:TA):TE:=fun σ H Q=>t σ H fun xs H1=>xs.length≤sizeLine∧∀ p,H1 p=none→Q (.ref p) (upd H1 p (.lst xs))
theorem sd {x1} (h:PA X es t):PE X (.Tuple es x1 pos) (r6 t):=by
 intro pins s σ H Q I hq
 refine wpAny_Tuple_spliced (thn (h pos pins s σ H _ I hq) fun us s1 ⟨xs,H1,I1,r,z,q⟩=>⟨by rw[← r.length];exact z,?_⟩)
 have hf:H1 s1.heap.objs.size=none:=I1.hok.fresh (Nat.le_refl _)
 refine⟨.ref s1.heap.objs.size,upd H1 s1.heap.objs.size (.tup xs),I1.laid (t':=s1.toks) (fun b u e=>Heap.get?_push_of_some _ e) (Nat.le_refl _) ?_,rfl,q _ hf⟩
 exact⟨z,us,r,⟨_,Heap.get?_push_size _ rfl,rfl,_,rfl⟩⟩
theorem se (h:PA X es t):PE X (.List es pos) (r9 t):=by
 intro pins s σ H Q I hq
 refine wpAny_List_spliced (thn (h pos pins s σ H _ I hq) fun us s1 ⟨xs,H1,I1,r,z,q⟩=>⟨by rw[← r.length];exact z,?_⟩)
 have hf:H1 s1.heap.objs.size=none:=I1.hok.fresh (Nat.le_refl _)
 refine⟨.ref s1.heap.objs.size,upd H1 s1.heap.objs.size (.lst xs),I1.laid (t':=s1.toks) (fun b u e=>Heap.get?_push_of_some _ e) (Nat.le_refl _) ?_,rfl,q _ hf⟩
 exact⟨z,us,0,r,Heap.get?_push_size _ rfl⟩
end
noncomputable abbrev Sp:=List V→Hp→VK→XK→Prop
noncomputable abbrev CXT:=List Env→Hp→Shared→XK→Value→Shared→Prop
structure Env0 (P:Program) (w:World) (K:PySem.W.Frag) (mg:Str→Option Value) (base:Heap) (A:Around) (outer:List Env) (s:Shared) (H:Hp):Prop where
 frames:A.frames=some outer
 mod:Mod K mg base
 bs:∀ b o,base.get? b=some o→s.heap.get? b=some o∧H b=none
 bsz:base.objs.size≤s.heap.objs.size
 funs:s.heap.FunFrames base outer
 frf:∀ b∈frs outer,H b=none
 hok:HOk P w H s.heap
 bare:AllBare s.gens
noncomputable def CE (outer:List Env) (P:Program) (w:World) (H:Hp) (s:Shared) (Q:VK) (u:Value) (s':Shared):Prop:=
 ∃ v H',s'.os=s.os∧AllBare s'.gens∧Un (frs outer) [] H H' s.heap s'.heap∧HOk P w H' s'.heap∧am v u∧Q v H'
noncomputable def CR (CX:CXT) (outer:List Env) (P:Program) (w:World) (H:Hp) (s:Shared) (Q:VK) (E:XK) (r:Result) (s':Shared):Prop:=
 match r with
 | .ok (.ret u)=>CE outer P w H s Q u s'
 | .ok _=>False
 | .error e=>CX outer H s E e s'
structure FnOk (P:Program) (w:World) (K:PySem.W.Frag) (mg:Str→Option Value) (base:Heap) (CX:CXT) (k:Nat) (f:Addr) (fd:FuncData) (ps:List Str) (sp:Sp):Prop where
 len:∀ vs H Q E,sp vs H Q E→vs.length=ps.length
 run:∀ (A:Around) (outer:List Env) (s:Shared) (H:Hp) (args:Args) (us:List Value) (vs:List V) (Q:VK) (E:XK),Room k A→Env0 P w K mg base A outer s H→BindsTo s fd args (ps.zip us)→ak vs us→sp vs H Q E→
  codeAny (model P w) A (.call (.ref f) args) (CR CX outer P w H s Q E) s
section
variable {X:Cx}{pins:List (Addr×Obj)}{σ:St}{H:Hp}{s s':Shared}
theorem Inv.env0 (I:Inv X pins σ H s):Env0 X.prog X.w X.K X.mg X.base X.A X.stack s H:=
 ⟨I.ok.frames,I.ok.mod,I.bs,Nat.le_trans I.ok.bsz I.sz,I.stack,I.stkFree,I.hok,I.bare⟩
theorem Inv.after {Q:VK}{u:Value} (I:Inv X pins σ H s) (h:CE X.stack X.prog X.w H s Q u s'):EP X pins σ Q u s':=by
 obtain⟨v,H',os,bare,un,hok,r,q⟩:=h
 obtain⟨hh,g,d,t,os'⟩:=s'
 obtain rfl:os'=s.os:=os
 exact⟨v,H',I.call (h':=hh) (g':=g) (d':=d) (t':=t) (ch:=[]) un hok bare (fun b z=>absurd z (by simp)),r,q⟩
end
noncomputable def lL (sp:Sp) (dvs:List V) (E:XK) (t:TA):TE:=fun σ H Q=>t σ H fun vs H1=>sp (vs++dvs) H1 Q E
noncomputable def bh (K:PySem.W.Frag) (fd:FuncData) (ps:List Str) (ds:List Value):Prop:=
 ∀ (s:Shared) (us:List Value),K.In s.heap→(us++ds).length=ps.length→BindsTo s fd ⟨us,[]⟩ (ps.zip (us++ds))
theorem bh.all {K:PySem.W.Frag}{fd:FuncData}{ps:List Str} (h:∀ us:List Value,us.length=ps.length→bindArgs fd ⟨us,[]⟩=pure (ps.zip us)):bh K fd ps []:=fun s us _ hl=>by
 rw[List.append_nil] at hl ⊢
 exact .of_eq (h us hl)
noncomputable def jc (CX:CXT) (X:Cx) (E:XK):Prop:=∀ (pins:List (Addr×Obj)) (σ:St) (H:Hp) (s:Shared) (e:Value) (s':Shared),Inv X pins σ H s→CX X.stack H s E e s'→X.xe e s'
section
variable {X:Cx}{CX:CXT}{k:Nat}{f C:Addr}{fd:FuncData}{ps:List Str}{sp:Sp}{dvs:List V}{ds:List Value}{E:XK}{x m:Str}{p pos apos:Pos}{e o:Expr}{es:List Expr}{ta:TE}{t:TA}
theorem sf {pins:List (Addr×Obj)}{σ:St}{H:Hp}{s:Shared}{Q:VK}{us:List Value}{vs:List V} (F:FnOk X.prog X.w X.K X.mg X.base CX k f fd ps sp) (hr:Room k X.A) (hb:bh X.K fd ps ds) (hd:ak dvs ds) (hx:jc CX X E)
  (I:Inv X pins σ H s) (r:ak vs us) (h:sp (vs++dvs) H Q E):wpAny (model X.prog X.w) X.A (call (.ref f) us) (EP X pins σ Q) X.xe s:=by
 have r2:ak (vs++dvs) (us++ds):=r.append hd
 have hl:(us++ds).length=ps.length:=by rw[← r2.length];exact F.len _ _ _ _ h
 refine wpAny_call (codeAny_mono (F.run X.A X.stack s H ⟨us,[]⟩ (us++ds) (vs++dvs) Q E hr I.env0 (hb s us I.kIn hl) r2 h) fun r s' hq=>?_)
 cases r with
 | error e=>exact hx pins σ H s e s' I hq
 | ok fl=>
  cases fl with
  | ret u=>exact I.after hq
  | next=>exact False.elim hq
  | brk=>exact False.elim hq
  | cont=>exact False.elim hq
theorem si (F:FnOk X.prog X.w X.K X.mg X.base CX k f fd ps sp) (hr:Room k X.A) (hg:Gl X x) (hm:X.mg x=some (.ref f)) (hk:PySem.W.keepIn X.K (.ref f)=true) (hb:bh X.K fd ps ds) (hd:ak dvs ds) (hx:jc CX X E)
  (ha:PA X (e::es) t) (hdb:(x == ("__debug__" : Str))=false:=by decide) (he:starEach (e::es) X.env=(false,eval e X.env)::starEach es X.env:=by rfl) (hpl:(backTo pos (starEach es X.env)).any (·.1)=false:=by rfl):
  PE X (.Call (.Name x p) (e::es) [] pos) (lL sp dvs E t):=by
 intro pins s σ H Q I h
 refine wpAny_Call_Name_kw (qC I hg hm ?_ hdb)
 refine PySem.W.callWith_K (h₀:=X.base) I.ok.mod.kin hk (thn (ha pos pins s σ H _ I h) fun us s1 ⟨vs,H1,I1,r,q⟩=>⟨I1.kIn,?_⟩) he hpl
 exact sf F hr hb hd hx I1 r q
end
section
variable {X:Cx}{CX:CXT}{k:Nat}{f C:Addr}{fd:FuncData}{ps ks:List Str}{sp:Sp}{E:XK}{x m:Str}{p pos apos kpos:Pos}{e o:Expr}{es:List Expr}{kws:List Keyword}{te ta:TE}{t tk:TA}{nm:Option Str}
variable {g:List Value→List Value→List Value}{gV:List V→List V→List V}
end
structure FnScope (N P:List Str) (sc:Scope):Prop where
 kind:sc.kind=.function
 co:sc.isCoroutine=false
 gen:sc.isGenerator=false
 nd:N.Nodup
 pre:N.take P.length=P
 par:∀ x∈P,sc.names.lookup x=some .local∨sc.names.lookup x=some .cell
 nofree:∀ y∈sc.names,y.2≠.free
theorem lM {kindOf:Str→Option NameKind}{x:Str}:∀ {binds:List (Str×Value)}{m:Str→Option Value},(∀ v,(x,v)∉binds)→bindL kindOf binds m x=m x
 | [],_,_=>rfl
 | (n,v)::r,m,h=>by
  unfold bindL
  rw[lM fun w hw=>h w (List.mem_cons_of_mem _ hw)]
  split
  ·have:x≠n:=by rintro rfl;exact h v List.mem_cons_self
   simp[this]
  ·rfl
theorem lN {kindOf:Str→Option NameKind}{x:Str}:∀ {binds:List (Str×Value)}{m:Str→Option Value},(∀ v,(x,v)∉binds)→bindC kindOf binds m x=m x
 | [],_,_=>rfl
 | (n,v)::r,m,h=>by
  unfold bindC
  rw[lN fun w hw=>h w (List.mem_cons_of_mem _ hw)]
  split
  ·rfl
  ·have:x≠n:=by rintro rfl;exact h v List.mem_cons_self
   simp[this]
theorem lO {kindOf:Str→Option NameKind}{x:Str}{v:Value}:∀ {P:List Str}{vs:List Value}{i:Nat}{m:Str→Option Value},P.Nodup→P[i]?=some x→vs[i]?=some v→kindOf x=some .local→
  bindL kindOf (P.zip vs) m x=some v
 | [],_,_,_,_,h,_,_=>by simp at h
 | _::_,[],_,_,_,_,h,_=>by simp at h
 | p::P,w::vs,0,m,nd,h1,h2,hk=>by
  simp at h1 h2;subst h1;subst h2
  show bindL kindOf ((p,w)::P.zip vs) m p=_
  unfold bindL
  rw[lM fun v hv=>(List.nodup_cons.mp nd).1 (List.of_mem_zip hv).1,if_pos hk]
  simp
 | p::P,w::vs,i+1,m,nd,h1,h2,hk=>by
  show bindL kindOf ((p,w)::P.zip vs) m x=_
  unfold bindL
  exact lO (i:=i) (List.nodup_cons.mp nd).2 (by simpa using h1) (by simpa using h2) hk
theorem lP {kindOf:Str→Option NameKind}{x:Str}{v:Value}:∀ {P:List Str}{vs:List Value}{i:Nat}{m:Str→Option Value},P.Nodup→P[i]?=some x→vs[i]?=some v→kindOf x≠some .local→
  bindC kindOf (P.zip vs) m x=some v
 | [],_,_,_,_,h,_,_=>by simp at h
 | _::_,[],_,_,_,_,h,_=>by simp at h
 | p::P,w::vs,0,m,nd,h1,h2,hk=>by
  simp at h1 h2;subst h1;subst h2
  show bindC kindOf ((p,w)::P.zip vs) m p=_
  unfold bindC
  rw[lN fun v hv=>(List.nodup_cons.mp nd).1 (List.of_mem_zip hv).1,if_neg hk]
  simp
 | p::P,w::vs,i+1,m,nd,h1,h2,hk=>by
  show bindC kindOf ((p,w)::P.zip vs) m x=_
  unfold bindC
  exact lP (i:=i) (List.nodup_cons.mp nd).2 (by simpa using h1) (by simpa using h2) hk
noncomputable def cU (N:List Str) (vs:List V):St:=vs.map some++List.replicate (N.length - vs.length) none
noncomputable def d7 (CX:CXT) (P:Program) (w:World) (K:PySem.W.Frag) (mg:Str→Option Value) (base:Heap) (N:List Str) (qual:Str) (scope:Scope) (f:Addr) (cd:Value) (A:Around) (outer:List Env) (s:Shared) (H:Hp) (E:XK):Cx where
 prog:=P
 w:=w
 K:=K
 mg:=mg
 base:=base
 A:=A.deeper (envOfC qual scope s.heap.objs.size f cd)
 N:=N
 s₀:=s
 H₀:=H
 env:=envOfC qual scope s.heap.objs.size f cd
 outer:=outer
 stack:=envOfC qual scope s.heap.objs.size f cd::outer
 ex:=[]
 calm:=true
 fn:=fun _=>true
 pn:=[]
 xe:=fun e s'=>wpAny (model P w) (A.deeper (envOfC qual scope s.heap.objs.size f cd)) (leaving (envOfC qual scope s.heap.objs.size f cd) e) (fun _ s''=>CX outer H s E e s'') (fun e' s''=>CX outer H s E e' s'') s'
theorem lQ {sc:Scope}{n:Nat}{x:Str} (h:sc.names.lookup x=some .cell):∃ c,(cellsFrom n sc.names []).lookup x=some c:=by
 have q:=PySem.W.cellsFrom_some sc.names n [] (.inl h)
 exact Option.isSome_iff_exists.mp q
theorem sj {CX:CXT}{P:Program}{w:World}{K:PySem.W.Frag}{mg:Str→Option Value}{base:Heap}{N ps:List Str}{qual:Str}{scope:Scope}{f:Addr}{cd:Value}{A:Around}{outer:List Env}{s s1:Shared}{H:Hp}{E:XK}{us:List Value}{vs:List V}
  (S:FnScope N ps scope) (hd:A.handled=none) (e0:Env0 P w K mg base A outer s H) (hl:vs.length=ps.length) (r:ak vs us)
  (x:InCallC s s.heap.objs.size (bindL (envOfC qual scope s.heap.objs.size f cd).kindOf (ps.zip us) fun _=>none) (cellsFrom (s.heap.objs.size+1) scope.names []) (bindC (envOfC qual scope s.heap.objs.size f cd).kindOf (ps.zip us) fun _=>none) s1):
  Inv (d7 CX P w K mg base N qual scope f cd A outer s H E) [] (cU N vs) H s1:=by
 have hpl:ps.length≤N.length:=by have:=congrArg List.length S.pre;rw[List.length_take] at this;omega
 obtain⟨h1,tk,rfl,hk⟩:=x.done
 have noA:∀ b:Addr,b∉(d7 CX P w K mg base N qual scope f cd A outer s H E).ex:=fun b z=>absurd (show b∈([]:List Addr) from z) (by simp)
 refine⟨⟨e0.mod,S.kind,rfl,rfl,Nat.le_refl _,fun y z c h1 h2=>?_,fun y hy=>?_,fun y c _ h=>?_,fun _=>hd,Around.frames_deeper e0.frames,.inr ⟨rfl,rfl⟩,fun b z=>absurd z (noA b),e0.bs,e0.bsz,fun b _ _=>noA b,fun b z=>absurd z (noA b),e0.funs,e0.frf⟩,
  rfl,e0.bare,Un.kept hk,⟨_,x.toInCall.ns,fun i y v h1 h2 h3=>?_⟩,fun y c h=>⟨_,x.cell y c h⟩,e0.hok.fresh (Nat.le_refl _),fun y c h=>?_,fun p hp=>absurd (show p∈([]:List (Addr×Obj)) from hp) (by simp),e0.hok.kept hk,?_⟩
 ·exact name_of_addr x.apart (PySem.mem_of_lookup h1) (PySem.mem_of_lookup h2)
 ·have hy:scope.names.lookup y=some .cell∨scope.names.lookup y=some .free:=hy
  rcases hy with hy | hy
  ·exact lQ hy
  ·exact absurd rfl (S.nofree _ (PySem.mem_of_lookup hy))
 ·exact Nat.le_of_lt (x.above y c (PySem.mem_of_lookup h))
 ·have hi:i<vs.length:=by
   unfold cU at h2
   by_cases hi:i<vs.length
   ·exact hi
   ·rw[List.getElem?_append_right (by simpa using hi)] at h2
    rw[List.getElem?_replicate] at h2
    split at h2<;>cases h2
  have ha:vs[i]?=some v:=by
   unfold cU at h2
   rw[List.getElem?_append_left (by simpa using hi),List.getElem?_map] at h2
   cases e:vs[i]? with
   | none=>rw[e] at h2;cases h2
   | some a=>rw[e] at h2;cases h2;rfl
  obtain⟨u,hu,rv⟩:=r.get ha
  have hp:ps[i]?=some y:=by
   rw[← S.pre,List.getElem?_take_of_lt (by omega)];exact h1
  have ndP:ps.Nodup:=by rw[← S.pre];exact S.nd.sublist (List.take_sublist _ _)
  refine⟨u,rv,?_⟩
  rcases S.par y (List.mem_of_getElem? hp) with k | k
  ·exact .inl ⟨k,lO ndP hp hu k⟩
  ·obtain⟨c,e⟩:=lQ (n:=s.heap.objs.size+1) k
   refine .inr ⟨.inl k,c,e,?_⟩
   have q:=x.cell y c e
   rw[lP ndP hp hu (by show scope.names.lookup y≠_;rw[k];decide)] at q
   exact q
 ·exact e0.hok.fresh (Nat.le_of_lt (x.above y c (PySem.mem_of_lookup h)))
 ·unfold cU
  show _=N.length
  rw[List.length_append,List.length_map,List.length_replicate]
  omega
theorem sk {CX:CXT}{P:Program}{w:World}{K:PySem.W.Frag}{mg:Str→Option Value}{base:Heap}{k:Nat}{f:Addr}{name qual:Str}{params:Arguments}{body:List Stmt}{scope:Scope}{dV kV doc pm cdv ct oc:Value}{an od:Option Addr}
  {osl:Array (Option Value)}{N ps:List Str}{sp:Sp} (lk:K.lookup f=some ⟨oc,od,.func (PySem.W.fnOf name qual params body scope dV kV doc pm an cdv ct),osl⟩) (hcd:PySem.W.codeIn K cdv qual=true) (S:FnScope N ps scope)
  (len:∀ vs H Q E,sp vs H Q E→vs.length=ps.length)
  (hbody:∀ (A:Around) (outer:List Env) (s:Shared) (H:Hp) (vs:List V) (Q:VK) (E:XK),Room k (A.deeper (envOfC qual scope s.heap.objs.size f cdv))→sp vs H Q E→
   ∃ t,PSs (d7 CX P w K mg base N qual scope f cdv A outer s H E) body t∧t { nx:=fun _ H'=>Q .non H',rt:=Q } (cU N vs) H):
  FnOk P w K mg base CX (k+1) f (PySem.W.fnOf name qual params body scope dV kV doc pm an cdv ct) ps sp:=by
 refine⟨len,fun A outer s H args us vs Q E hr e0 hb r hsp=>?_⟩
 have hl:=len _ _ _ _ hsp
 have KX:K.In s.heap:=e0.mod.kin.keeps fun b o e=>(e0.bs b o e).1
 have lim:s.heap.NoLimit:=e0.mod.nolimit.keeps fun b o e=>(e0.bs b o e).1
 have hkind:∀ y∈ps.zip us,scope.names.lookup y.1=some .local∨(scope.names.lookup y.1=some .cell∧((cellsFrom (s.heap.objs.size+1) scope.names []).lookup y.1).isSome=true):=fun ⟨n,v⟩ hy=>by
  rcases S.par n (List.of_mem_zip hy).1 with q | q
  ·exact .inl q
  ·exact .inr ⟨q,PySem.W.cellsFrom_some _ _ _ (.inl q)⟩
 refine codeAny_call_function hr.depth (KX _ _ lk) rfl S.co S.gen rfl (PySem.W.codeRec_of KX hcd) (hb _ _ _ _ ?_)
 refine wpAny_newFunctionEnv_cells S.kind hkind fun env he s1 x=>?_
 subst he
 refine⟨lim.keeps x.toInCall.keep,codeAny_func ?_⟩
 obtain⟨t,ht,hq⟩:=hbody A outer s H vs Q E (hr.deeper _) hsp
 have I:Inv (d7 CX P w K mg base N qual scope f cdv A outer s H E) [] (cU N vs) H s1:=sj S hr.hd e0 hl r x
 refine wpAny_mono (ht [] s1 (cU N vs) H _ I hq) (fun fl s' hs=>?_) fun e s' hs=>hs
 have fin:∀ {σ':St}{H':Hp}{v:V}{u:Value},Inv (d7 CX P w K mg base N qual scope f cdv A outer s H E) [] σ' H' s'→am v u→Q v H'→CE outer P w H s Q u s':=
  fun {σ' H' v u} J rv q=>⟨v,H',J.os,J.bare,J.base,J.hok,rv,q⟩
 cases fl with
 | ret u=>
  obtain⟨v,σ',H',J,rv,q⟩:=hs
  exact fin J rv q
 | next=>
  obtain⟨σ',H',J,q⟩:=hs
  exact fin (v:=V.non) (u:=Value.none) J rfl q
 | brk=>
  obtain⟨_,_,_,q⟩:=hs
  exact False.elim q
 | cont=>
  obtain⟨_,_,_,q⟩:=hs
  exact False.elim q
end L2
namespace L2
open PySem PySem.Spec PyProof.Rows
section
variable {X:Cx}{x:Str}{p pos:Pos}{e:Expr}{es:List Expr}{t:TA}{id T:String}{r:List V→Hp→VK→Prop}
noncomputable def tCB (r:List V→Hp→VK→Prop) (t:TA):TE:=fun σ H Q=>t σ H fun vs H1=>r vs H1 Q
theorem lR (hc:aP X (.builtin id) r) (hg:Gl X x) (hm:X.mg x=none) (hv:bootBuiltins x=some (.builtin id)) (ha:PA X (e::es) t) (hn:x ≠ "__name__" := by decide) (hdb:(x == ("__debug__" : Str))=false:=by decide)
  (he:starEach (e::es) X.env=(false,eval e X.env)::starEach es X.env:=by rfl) (hpl:(backTo pos (starEach es X.env)).any (·.1)=false:=by rfl):PE X (.Call (.Name x p) (e::es) [] pos) (tCB r t):=by
 intro pins s σ H Q I h
 refine wpAny_Call_Name_kw (fo I hg hm hv ?_ hn hdb)
 exact PyProof.Rows.callWith_builtin1 (thn (ha pos pins s σ H _ I h) fun us s1 ⟨vs,H1,I1,r1,q1⟩=>hc pins s1 σ H1 vs us Q I1 r1 q1) he hpl
theorem sn (hc:aP X (.type T) r) (hg:Gl X x) (hm:X.mg x=none) (hv:bootBuiltins x=some (.type T)) (ha:PA X (e::es) t) (hn:x ≠ "__name__" := by decide) (hdb:(x == ("__debug__" : Str))=false:=by decide)
  (he:starEach (e::es) X.env=(false,eval e X.env)::starEach es X.env:=by rfl) (hpl:(backTo pos (starEach es X.env)).any (·.1)=false:=by rfl):PE X (.Call (.Name x p) (e::es) [] pos) (tCB r t):=by
 intro pins s σ H Q I h
 refine wpAny_Call_Name_kw (fo I hg hm hv ?_ hn hdb)
 exact PyProof.Rows.callWith_type1 (thn (ha pos pins s σ H _ I h) fun us s1 ⟨vs,H1,I1,r1,q1⟩=>hc pins s1 σ H1 vs us Q I1 r1 q1) he hpl
end
end L2
namespace HT
open PySem PyProof.Rows
theorem sq (A:Around) (s:Shared) (a:Int) (t:Tok) (c:Int) (u:Tok) (prog:Program) (w:World) (E:Value→Shared→Prop) (Q:Value→Shared→Prop) (h:Q (.bool (decide (a<c))) s):
  wpAny (model prog w) A (richCompare .Lt (.int a t) (.int c u)) Q E s:=
 (PyProof.Rows.lt_int h:wpAny (model prog w) A (compareOp .Lt (.int a t) (.int c u)) Q E s)
section
open PySem.SeqAt
open PySem.AutoSeq1 (wpAny_loadPart')
open PySem.MeetsSeq PySem.MeetsSeq2 PySem.MeetsSeq3
end
section
variable {prog:Program}{w:World}{A:Around}{E:Value→Shared→Prop}{s:Shared}
theorem sr {t b:Addr}{vs ws:List Value}{Q:Value→Shared→Prop} (ht:IsTup s.heap t vs.toArray) (hb:IsTup s.heap b ws.toArray) (hv:vs≠[])
  (h1:ws=[]→Q (.ref t) s) (h2:ws≠[]→Q (.ref s.heap.objs.size) { s with heap:=s.heap.push { cls:=.type "tuple",data:=.seq (vs++ws).toArray } })
  (hsz:vs.length+ws.length≤sizeLine):wpAny (model prog w) A (binaryOp .Add (.ref t) (.ref b)) Q E s:=by
 obtain⟨⟨cls,dd,data,sl⟩,ho,hc,n,hd⟩:=id ht
 obtain⟨⟨cls2,dd2,data2,sl2⟩,ho2,hc2,n2,hd2⟩:=id hb
 simp only at hc hd hc2 hd2
 subst hc hd hc2 hd2
 have e:vs.toArray++ws.toArray=(vs++ws).toArray:=by simp
 by_cases hw:ws=[]
 ·exact concat_meets ⟨_,ho,rfl⟩ ⟨_,ho2,rfl⟩ noFill_tuple_add seq_tuple_add PySem.F.slot_tuple_add PySem.F.entry_tuple_add (PySem.F.args_tuple_add_2 _ _)
   (tuple_addW1 t b vs.toArray ws.toArray n n2 dd dd2 sl sl2 (by simpa using hv) (by simp[hw])) ⟨ho,ho2,h1 hw⟩
 ·refine concat_meets ⟨_,ho,rfl⟩ ⟨_,ho2,rfl⟩ noFill_tuple_add seq_tuple_add PySem.F.slot_tuple_add PySem.F.entry_tuple_add (PySem.F.args_tuple_add_2 _ _)
   (tuple_addW2 t b vs.toArray ws.toArray n n2 dd dd2 sl sl2 (by simpa using hv) (by simpa using hw) (by rw[List.size_toArray,List.size_toArray];exact hsz)) ⟨ho,ho2,?_⟩
  rw[e]
  exact h2 hw
noncomputable def sIx (n d:Nat):Option Int→Nat
 | none=>d
 | some v=>if v<0 then (v+(n:Int)).toNat else min v.toNat n
theorem su (n d:Nat):sIx n d none=d:=rfl
theorem sv (n d k:Nat):sIx n d (some (k:Int))=min k n:=by
 show (if (k:Int)<0 then ((k:Int)+(n:Int)).toNat else min (k:Int).toNat n)=min k n
 rw[if_neg (by omega),Int.toNat_natCast]
theorem sw (n d:Nat) (hd:d≤n) (o:Option Int):sIx n d o≤n:=by
 cases o with
 | none=>exact hd
 | some v=>
  show (if v<0 then (v+(n:Int)).toNat else min v.toNat n)≤n
  by_cases hv:v<0
  ·rw[if_pos hv];omega
  ·rw[if_neg hv];exact Nat.min_le_right _ _
theorem lS (v:Int) (n d:Nat):(if v<0 then max (v+(n:Int)) 0 else min v (n:Int))=((sIx n d (some v):Nat):Int):=by
 show (if v<0 then max (v+(n:Int)) 0 else min v (n:Int))=(((if v<0 then (v+(n:Int)).toNat else min v.toNat n):Nat):Int)
 by_cases hv:v<0
 ·simp only[if_pos hv];omega
 ·simp only[if_neg hv];omega
theorem sx (lo hi:Option Int) (n:Nat):Builtin.Slice.sliceAdjust lo hi 1 (n:Int)=(((sIx n 0 lo:Nat):Int),((sIx n n hi:Nat):Int)):=by
 have h1:¬ ((1:Int)<0):=by omega
 unfold Builtin.Slice.sliceAdjust
 simp only[h1,if_false]
 refine Prod.ext ?_ ?_
 ·cases lo with
  | none=>rfl
  | some v=>exact lS v n 0
 ·cases hi with
  | none=>rfl
  | some v=>exact lS v n n
theorem sy (i j:Nat):Builtin.Slice.slicePlaces (i:Int) (j:Int) 1=j - i:=by
 unfold Builtin.Slice.slicePlaces
 have h1:(1:Int) > 0:=by omega
 simp only[h1,if_true,Int.ediv_one]
 split<;>omega
theorem lU {v:Value}{o:Option Int}{Q:Option Int→Shared→Prop} (p:IsPart v o) (h:Q o s):wpAny (model prog w) A (Builtin.Slice.slicePartIndex v) Q E s:=by
 cases p with
 | none=>exact slicePart_none h
 | int i t=>exact slicePart_int h
theorem lV {sl:Addr}{vl vu:Value}{lo hi:Option Int}{n:Nat}{Q:Int×Int×Nat→Shared→Prop} (hs:s.heap.IsSliceOf sl vl vu .none) (pl:IsPart vl lo) (pu:IsPart vu hi)
  (h:Q (((sIx n 0 lo:Nat):Int),1,sIx n n hi - sIx n 0 lo) s):wpAny (model prog w) A (Builtin.Slice.sliceApplied (.ref sl) (pure (n:Int))) Q E s:=by
 obtain⟨os,hos,hcs,hds⟩:=id hs
 unfold Builtin.Slice.sliceApplied Builtin.Slice.sliceFields
 refine wpAny_bind (wpAny_bind (wpAny_field hos hds (x:=vl) rfl (wpAny_bind (wpAny_field hos hds (x:=vu) rfl (wpAny_bind (wpAny_field hos hds (x:=.none) rfl (wpAny_pure ?_)))))))
 refine wpAny_bind (slicePart_none ?_)
 show wpAny _ _ (if ((1:Int) == 0)=true then _ else _) _ _ s
 rw[if_neg (by decide)]
 refine wpAny_bind (lU pl (wpAny_bind (lU pu (wpAny_bind (wpAny_pure ?_)))))
 show wpAny _ _ (match Builtin.Slice.sliceAdjust lo hi 1 (n:Int) with | (lo,hi)=>pure (lo,(1:Int),Builtin.Slice.slicePlaces lo hi 1)) _ _ s
 rw[sx lo hi n]
 show wpAny _ _ (pure (((sIx n 0 lo:Nat):Int),(1:Int),Builtin.Slice.slicePlaces ((sIx n 0 lo:Nat):Int) ((sIx n n hi:Nat):Int) 1)) _ _ s
 rw[sy]
 exact wpAny_pure h
theorem sE (xs:Array Value) (i k:Nat):((List.range k).filterMap fun (m:Nat)=>xs[((i:Int)+(m:Int) * 1).toNat]?).toArray=((xs.toList.drop i).take k).toArray:=by
 have e:(fun (m:Nat)=>xs[((i:Int)+(m:Int) * 1).toNat]?)=fun m=>xs[i+m]?:=by
  funext m
  have:((i:Int)+(m:Int) * 1).toNat=i+m:=by omega
  rw[this]
 rw[e]
 have:=pick_run xs i k
 rw[List.filterMap_map] at this
 have e2:((fun x=>xs[x]?) ∘ fun x=>i+x)=fun m=>xs[i+m]?:=rfl
 rw[e2] at this
 rw[this]
theorem sF {t sl:Addr}{items:Array Value}{vl vu:Value}{lo hi:Option Int}{Q:Value→Shared→Prop} (ht:IsTup s.heap t items) (hs:s.heap.IsSliceOf sl vl vu .none) (pl:IsPart vl lo) (pu:IsPart vu hi)
  (hw:¬ (sIx items.size 0 lo=0∧sIx items.size items.size hi=items.size))
  (h:Q (.ref s.heap.objs.size) { s with heap:=s.heap.push { cls:=.type "tuple",data:=.seq ((items.toList.drop (sIx items.size 0 lo)).take (sIx items.size items.size hi - sIx items.size 0 lo)).toArray } })
  (hsz:items.size≤sizeLine):wpAny (model prog w) A (getItem (.ref t) (.ref sl)) Q E s:=by
 have htake:sizeOk (.seq ((items.toList.drop (sIx items.size 0 lo)).take (sIx items.size items.size hi - sIx items.size 0 lo)).toArray):=by
  show ((items.toList.drop (sIx items.size 0 lo)).take (sIx items.size items.size hi - sIx items.size 0 lo)).toArray.size≤sizeLine
  rw[List.size_toArray,List.length_take,List.length_drop,Array.length_toList]
  omega
 have hj:sIx items.size items.size hi≤items.size:=sw _ _ (Nat.le_refl _) hi
 obtain⟨os,hos,hcs,hds⟩:=id hs
 have hTs:s.TypeIs (.ref sl) "slice" := ⟨os,hos,hcs⟩
 unfold getItem
 try with_reducible refine wpAny_holding ?_
 first | refine wpAny_bind (wpAny_pure ?_) | skip
 refine wpAny_bind (wpAny_sequenceKey ht.typeIs (by decide) ?_)
 refine wpAny_bind (wpAny_callSpecial?_slot (name:=Str.ofString "__getitem__") ht.typeIs PyProof.Rows.slot_tuple_getitem
  (wpAny_call_entry PyProof.Rows.slot_tuple_getitem ht.typeIs entry_tuple_getitem ?_ (args_tuple_getitem _ _)))
 show wpAny _ _ (Builtin.Tuple.tupleItemsOf (.ref t) >>= _) _ _ s
 refine wpAny_bind (tupleItemsOf_ ht ?_)
 refine wpAny_bind (wpAny_typeOf hTs ?_)
 rw[if_pos (by decide)]
 refine wpAny_bind (lV hs pl pu ?_)
 have hno:¬ ((((sIx items.size 0 lo:Nat):Int) == 0 && (1:Int) == 1 && (sIx items.size items.size hi - sIx items.size 0 lo) == items.size)=true):=by
  intro q
  rw[Bool.and_eq_true,Bool.and_eq_true] at q
  have q1:((sIx items.size 0 lo:Nat):Int)=0:=eq_of_beq q.1.1
  have q2:sIx items.size items.size hi - sIx items.size 0 lo=items.size:=eq_of_beq q.2
  exact hw ⟨by omega,by omega⟩
 show wpAny _ _ (if (((sIx items.size 0 lo:Nat):Int) == 0 && (1:Int) == 1 && (sIx items.size items.size hi - sIx items.size 0 lo) == items.size)=true then _ else _) _ _ s
 rw[if_neg hno,sE]
 first
  | exact wpAny_bind (m:=Builtin.Tuple.tupleExact _) (wpAny_newObj_type (wpAny_pure ⟨_,rfl,wpAny_pure h⟩) htake)
  | exact wpAny_bind (m:=Builtin.Tuple.tupleExact _) (wpAny_newObj_type (wpAny_bind (wpAny_pure (wpAny_pure ⟨_,rfl,wpAny_pure h⟩))) htake)
  | exact wpAny_bind (wpAny_bind (m:=Builtin.Tuple.tupleExact _) (wpAny_newObj_type (wpAny_pure (wpAny_pure ⟨_,rfl,wpAny_pure h⟩)) htake))
  | exact wpAny_bind (wpAny_bind (m:=Builtin.Tuple.tupleExact _) (wpAny_newObj_type (wpAny_pure ⟨_,rfl,wpAny_pure h⟩) htake))
end
end HT
namespace L2
open PySem PySem.Spec PyProof.Rows
noncomputable abbrev TO:=St→Hp→(Option Int→Hp→Prop)→Prop
noncomputable def PO (X:Cx) (e:Option Expr) (t:TO):Prop:=
 ∀ (pins:List (Addr×Obj)) (s:Shared) (σ:St) (H:Hp) (Q:Option Int→Hp→Prop),Inv X pins σ H s→t σ H Q→
  wpAny (model X.prog X.w) X.A (evalPart e X.env) (fun u s'=>∃ o H',Inv X pins σ H' s'∧IsPart u o∧Q o H') X.xe s
noncomputable def tNoPart:TO:=fun _ H Q=>Q none H
noncomputable def sG (t:TE):TO:=fun σ H Q=>t σ H fun x H1=>∃ i,x=.int i∧Q (some i) H1
section
variable {X:Cx}{e:Expr}{te:TE}{lo hi:Option Expr}{tl th:TO}{pos p2:Pos}
theorem sH:PO X none tNoPart:=by
 intro pins s σ H Q I h
 rw[evalPart_none]
 exact wpAny_pure ⟨none,H,I,.none,h⟩
theorem sI (h:PE X e te):PO X (some e) (sG te):=by
 intro pins s σ H Q I hw
 rw[evalPart_some]
 refine thn (h pins s σ H _ I hw) fun u s1 ⟨x,H1,I1,r1,q1⟩=>?_
 obtain⟨i,rfl,q⟩:=q1
 obtain⟨t,rfl⟩:=r1
 exact⟨some i,H1,I1,.int i t,q⟩
noncomputable def SlR (X:Cx) (r:V→Option Int→Option Int→Hp→VK→Prop):Prop:=
 ∀ (pins:List (Addr×Obj)) (s:Shared) (σ:St) (H:Hp) (x:V) (v vl vu:Value) (lo hi:Option Int) (sl:Addr) (Q:VK),Inv X pins σ H s→am x v→s.heap.IsSliceOf sl vl vu .none→IsPart vl lo→IsPart vu hi→r x lo hi H Q→
  ∃ T id,typeLookup (.type T) "__getitem__" = pure (some (.builtin id))∧s.TypeIs v T∧wpAny (model X.prog X.w) X.A (getItem v (.ref sl)) (EP X pins σ Q) X.xe s
noncomputable def tSl (r:V→Option Int→Option Int→Hp→VK→Prop) (te:TE) (tl th:TO):TE:=fun σ H Q=>te σ H fun x H1=>tl σ H1 fun l H2=>th σ H2 fun u H3=>r x l u H3 Q
theorem sJ {r:V→Option Int→Option Int→Hp→VK→Prop} (hr:SlR X r) (he:PE X e te) (hl:PO X lo tl) (hu:PO X hi th):PE X (.Subscript e (.Slice lo hi none p2) pos) (tSl r te tl th):=by
 intro pins s σ H Q I h
 refine Subscript_ (thn (he pins s σ H _ I h) fun v s1 ⟨x,H1,I1,r1,q1⟩=>?_)
 refine wpAny_Slice (thn (hl pins s1 σ H1 _ I1 q1) fun vl s2 ⟨l,H2,I2,pl,q2⟩=>thn (hu pins s2 σ H2 _ I2 q2) fun vu s3 ⟨u,H3,I3,pu,q3⟩=>?_)
 rw[evalPart_none]
 refine wpAny_pure ?_
 have I4:Inv X pins σ H3 { s3 with heap:=s3.heap.push { cls:=.type "slice",data:=.fields #[vl,vu,.none] } }:=I3.kept (t':=s3.toks) fun b ob q=>Heap.get?_push_of_some _ q
 obtain⟨T,id,hT,ht,hg⟩:=hr pins { s3 with heap:=s3.heap.push { cls:=.type "slice",data:=.fields #[vl,vu,.none] } } σ H3 x v vl vu l u s3.heap.objs.size Q I4 r1 (Heap.IsSliceOf.new ..) pl pu q3
 show wpAny (model X.prog X.w) X.A (subscriptTail e (.Slice lo hi none p2) v (.ref s3.heap.objs.size)) (EP X pins σ Q) X.xe { s3 with heap:=s3.heap.push { cls:=.type "slice",data:=.fields #[vl,vu,.none] } }
 exact tail_any (ops:=[.ref s3.heap.objs.size,v]) ht hT hg (by with_unfolding_all rfl)
noncomputable def dA (xs:List V) (lo hi:Option Int):List V:=(xs.drop (HT.sIx xs.length 0 lo)).take (HT.sIx xs.length xs.length hi - HT.sIx xs.length 0 lo)
theorem lW (xs:List V) (lo hi:Option Int):(dA xs lo hi).length≤xs.length:=by
 unfold dA
 rw[List.length_take,List.length_drop]
 omega
noncomputable def sK (K:PySem.W.Frag):V→Option Int→Option Int→Hp→VK→Prop:=fun x lo hi H Q=>∃ a xs,x=.ref a∧SqT K H a xs∧
 ¬ (HT.sIx xs.length 0 lo=0∧HT.sIx xs.length xs.length hi=xs.length)∧∀ p,H p=none→Q (.ref p) (upd H p (.tup (dA xs lo hi)))
theorem sL:SlR X (sK X.K):=by
 intro pins s σ H x v vl vu lo hi sl Q I rx hs pl pu h
 obtain⟨a,xs,rfl,hx,hw,q⟩:=h
 cases rx
 obtain⟨its,r,ht,hz⟩:=I.tuple hx
 have hlen:its.toArray.size=xs.length:=by rw[List.size_toArray];exact r.length.symm
 refine⟨"tuple",_,PyProof.Rows.slot_tuple_getitem.lookup,ht.typeIs,?_⟩
 refine HT.sF ht hs pl pu (by rw[hlen];exact hw) ?_ (by rw[hlen];exact hz)
 rw[hlen]
 refine⟨.ref s.heap.objs.size,_,I.laid (t':=s.toks) (o:=.tup (dA xs lo hi)) (fun b ob q=>Heap.get?_push_of_some _ q) (Nat.le_refl _) ?_,rfl,q _ (I.hok.fresh (Nat.le_refl _))⟩
 exact⟨Nat.le_trans (lW xs lo hi) hz,_,(r.drop (HT.sIx xs.length 0 lo)).take (HT.sIx xs.length xs.length hi - HT.sIx xs.length 0 lo),IsTup.new _ _⟩
noncomputable def sM (K:PySem.W.Frag):R2:=fun x y H Q=>∃ a b xs ys,x=.ref a∧y=.ref b∧SqT K H a xs∧SqT K H b ys∧xs≠[]∧xs.length+ys.length≤sizeLine∧
 (ys=[]→Q (.ref a) H)∧(ys≠[]→∀ p,H p=none→Q (.ref p) (upd H p (.tup (xs++ys))))
theorem ak.nil_iff {xs:List V}{us:List Value} (r:ak xs us):us=[]↔xs=[]:=by
 cases r with
 | nil=>simp
 | cons _ _=>simp
theorem sN:OpR X (binaryOp .Add) (sM X.K):=by
 intro pins s σ H x y v u Q I rx ry h
 obtain⟨a,b,xs,ys,rfl,rfl,ha,hb,hx,hz,q1,q2⟩:=h
 cases rx
 cases ry
 obtain⟨its,r1,p1,_⟩:=I.tuple ha
 obtain⟨its2,r2,p2,_⟩:=I.tuple hb
 refine HT.sr p1 p2 (fun z=>hx (r1.nil_iff.mp z)) (fun z=>⟨.ref a,H,I,rfl,q1 (r2.nil_iff.mp z)⟩) (fun z=>?_) (by rw[← r1.length,← r2.length];exact hz)
 refine⟨.ref s.heap.objs.size,_,I.laid (t':=s.toks) (o:=.tup (xs++ys)) (fun b ob q=>Heap.get?_push_of_some _ q) (Nat.le_refl _) ?_,rfl,q2 (fun w=>z (r2.nil_iff.mpr w)) _ (I.hok.fresh (Nat.le_refl _))⟩
 exact⟨by rw[List.length_append];exact hz,_,r1.append r2,IsTup.new _ _⟩
end
end L2
namespace L2
open PySem PySem.Spec PyProof.Rows
noncomputable def ixN (n:Nat) (i:Int):Option Nat:=if 0≤i then (if i<n then some i.toNat else none) else if -(n:Int)≤i then some (i+n).toNat else none
noncomputable def atI {α:Type} (xs:List α) (i:Int):Option α:=(ixN xs.length i).bind fun j=>xs[j]?
theorem lX {n:Nat}{i:Int}{j:Nat} (h:ixN n i=some j):seqIndex? i n=some j∧j<n ∧ -(n:Int)≤i∧i<n:=by
 unfold ixN at h
 by_cases h0:0≤i
 ·rw[if_pos h0] at h
  by_cases h1:i<n
  ·rw[if_pos h1] at h
   have e:i.toNat=j:=Option.some.inj h
   exact⟨by rw[seqIndex_of h0 h1,e],by omega,by omega,h1⟩
  ·rw[if_neg h1] at h;cases h
 ·rw[if_neg h0] at h
  by_cases h1 : -(n:Int)≤i
  ·rw[if_pos h1] at h
   have e:(i+n).toNat=j:=Option.some.inj h
   exact⟨by rw[seqIndex_neg (by omega) h1,e],by omega,h1,by omega⟩
  ·rw[if_neg h1] at h;cases h
theorem lY {α:Type}{xs:List α}{i:Int}{v:α} (h:atI xs i=some v):∃ j,seqIndex? i xs.length=some j∧xs[j]?=some v∧j<xs.length ∧ -(xs.length:Int)≤i∧i<xs.length:=by
 unfold atI at h
 cases e:ixN xs.length i with
 | none=>rw[e] at h;cases h
 | some j=>
  rw[e] at h
  obtain⟨h1,h2,h3,h4⟩:=lX e
  exact⟨j,h1,h,h2,h3,h4⟩
noncomputable def lZ (b:Expr):Prop:=∀ o i,subscripted b false o i=operate [o,i] (getItem o i)
noncomputable def IxR (X:Cx) (r:R2):Prop:=
 ∀ (value slice:Expr) (pins:List (Addr×Obj)) (s:Shared) (σ:St) (H:Hp) (x y:V) (v u:Value) (Q:VK),Inv X pins σ H s→am x v→am y u→r x y H Q→
  subscripted slice false v u=operate [v,u] (getItem v u)→wpAny (model X.prog X.w) X.A (subscriptTail value slice v u) (EP X pins σ Q) X.xe s
noncomputable def MtR (X:Cx) (id:String) (r:V→List V→Hp→VK→Prop):Prop:=
 ∀ (pins:List (Addr×Obj)) (s:Shared) (σ:St) (H:Hp) (x:V) (xs:List V) (v:Value) (us:List Value) (Q:VK),Inv X pins σ H s→am x v→ak xs us→r x xs H Q→
  wpAny (model X.prog X.w) X.A (call (.builtin id) (v::us)) (EP X pins σ Q) X.xe s
section
variable {X:Cx}{a b:Expr}{ta tb:TE}{pos:Pos}
theorem IxR.or {r r':R2} (h:IxR X r) (h':IxR X r'):IxR X (fun x y H Q=>r x y H Q∨r' x y H Q):=by
 intro value slice pins s σ H x y v u Q I rx ry q hs
 rcases q with q | q
 ·exact h value slice pins s σ H x y v u Q I rx ry q hs
 ·exact h' value slice pins s σ H x y v u Q I rx ry q hs
theorem sO {r:R2} (hr:IxR X r) (ha:PE X a ta) (hb:PE X b tb) (hs:lZ b):PE X (.Subscript a b pos) (tOp r ta tb):=by
 intro pins s σ H Q I h
 exact Subscript_ (i8 ha hb I h fun v u s2 x y H2 I2 rx ry q=>hr a b pins s2 σ H2 x y v u Q I2 rx ry q (hs _ _))
noncomputable def sP (K:PySem.W.Frag):R2:=fun x y H Q=>∃ p xs i v,x=.ref p∧y=.int i∧SqL K H p xs∧atI xs i=some v∧Q v H
noncomputable def sQ (K:PySem.W.Frag):R2:=fun x y H Q=>∃ p xs i v,x=.ref p∧y=.int i∧SqT K H p xs∧atI xs i=some v∧Q v H
theorem sR:IxR X (sP X.K):=by
 intro value slice pins s σ H x y v u Q I rx ry h hs
 obtain⟨p,xs,i,z,rfl,rfl,hq,he,q⟩:=h
 cases rx
 obtain⟨t,rfl⟩:=ry
 obtain⟨its,r,pl,hz⟩:=I.list hq
 obtain⟨j,h1,h2,h3,h4,h5⟩:=lY he
 obtain⟨w,ew,rw'⟩:=r.get h2
 have hl:=r.length
 have hn:=d6
 have fin:EP X pins σ Q w s:=⟨z,H,I,rw',q⟩
 by_cases h0:0≤i
 ·have hj:i.toNat=j:=by
   rw[seqIndex_of h0 h5] at h1
   exact Option.some.inj h1
  exact item_listR pl.isList h0 (by omega) (by rw[hj];simpa using ew) fin hs
 ·have hj:(i+(its.toArray.size:Int)).toNat=j:=by
   rw[seqIndex_neg (by omega) h4] at h1
   rw[List.size_toArray,← hl]
   exact Option.some.inj h1
  exact subscriptTail_builtinR (x:=w) pl.isList.typeIs slot_list_getitem.lookup
   (wpAny_getItem_list_neg (Q:=fun r s'=>r=w∧EP X pins σ Q r s') pl.isList (by omega) (by rw[List.size_toArray]<;>omega) (by omega) (by rw[hj];simpa using ew) ⟨rfl,fin⟩) hs
theorem sS:IxR X (sQ X.K):=by
 intro value slice pins s σ H x y v u Q I rx ry h hs
 obtain⟨p,xs,i,z,rfl,rfl,hq,he,q⟩:=h
 cases rx
 obtain⟨t,rfl⟩:=ry
 obtain⟨its,r,pl,hz⟩:=I.tuple hq
 obtain⟨j,h1,h2,h3,h4,h5⟩:=lY he
 obtain⟨w,ew,rw'⟩:=r.get h2
 have hl:=r.length
 have hn:=d6
 have fin:EP X pins σ Q w s:=⟨z,H,I,rw',q⟩
 exact subscriptTail_builtinR (x:=w) pl.typeIs slot_tuple_getitem.lookup
  (getItem_tuple (j:=j) (Q:=fun r s'=>r=w∧EP X pins σ Q r s') pl (by omega) (by omega) (by rw[List.size_toArray,← hl];exact h1) (by simpa using ew) ⟨rfl,fin⟩) hs
theorem sT (its:List Value) (n j:Nat) (u:Value):Obj.mapSeq (·.setIfInBounds j u) { cls:=.type "list",data:=.seq its.toArray n }={ cls:=.type "list",data:=.seq (its.set j u).toArray n }:=by
 simp[Obj.mapSeq]
theorem Inv.lst {pins:List (Addr×Obj)}{σ:St}{H:Hp}{s:Shared}{p:Addr}{xs:List V} (I:Inv X pins σ H s) (h:H p=some (.lst xs)):
  ∃ (its:List Value) (n:Nat),ak xs its∧s.heap.get? p=some { cls:=.type "list",data:=.seq its.toArray n }∧xs.length≤sizeLine:=by
 obtain⟨z,its,n,r,e⟩:=I.hok p _ h
 exact⟨its,n,r,e,z⟩
theorem Inv.lstUpd {pins:List (Addr×Obj)}{σ:St}{H:Hp}{s:Shared}{p:Addr}{xs ys:List V}{its its':List Value}{n n':Nat}{f:Obj→Obj} (I:Inv X pins σ H s) (h:H p=some (.lst xs))
  (ho:s.heap.get? p=some { cls:=.type "list",data:=.seq its.toArray n }) (hf:f { cls:=.type "list",data:=.seq its.toArray n }={ cls:=.type "list",data:=.seq its'.toArray n' }) (r:ak ys its') (hz:ys.length≤sizeLine) (t:Nat):
  Inv X pins σ (upd H p (.lst ys)) { s with heap:=s.heap.update p f,toks:=t }:=by
 have e:(s.heap.update p f).get? p=some { cls:=.type "list",data:=.seq its'.toArray n' }:=by
  rw[Heap.get?_update_self f ho (by rw[hf]<;>rfl),hf]
 refine I.write (x:=p) (e:=p) (by rw[h];trivial) (.inl rfl) (fun b u hb q=>(Heap.get?_update_other _ _ (Ne.symm hb)).trans q) ⟨_,e⟩ ?_
 exact⟨hz,its',n',r,e⟩
noncomputable def rSetL:V→V→V→Hp→(Hp→Prop)→Prop:=fun o i v H Q=>∃ p xs k j,o=.ref p∧i=.int k∧H p=some (.lst xs)∧ixN xs.length k=some j∧Q (upd H p (.lst (xs.set j v)))
theorem sU:i3 X rSetL:=by
 intro pins s σ H o i v ov iv u Q I ro ri rv h
 obtain⟨p,xs,k,j,rfl,rfl,hp,hj,q⟩:=h
 cases ro
 obtain⟨t,rfl⟩:=ri
 obtain⟨its,n,r,ho,hz⟩:=I.lst hp
 obtain⟨h1,h2,h3,h4⟩:=lX hj
 have hl:=r.length
 have hn:=d6
 have I':Inv X pins σ (upd H p (.lst (xs.set j v))) { s with heap:=s.heap.update p (Obj.mapSeq (·.setIfInBounds j u)) }:=
  I.lstUpd hp ho (sT its n j u) (r.set rv j) (by rw[List.length_set];exact hz) s.toks
 by_cases h0:0≤k
 ·have hk:k.toNat=j:=by
   rw[seqIndex_of h0 h4] at h1
   exact Option.some.inj h1
  exact PySem.W.ki_setAt ho h0 (by omega) (by rw[List.size_toArray,← hl];exact h4) (by rw[hk];exact⟨_,I',q⟩)
 ·have hk:(k+(its.toArray.size:Int)).toNat=j:=by
   rw[seqIndex_neg (by omega) h3] at h1
   rw[List.size_toArray,← hl]
   exact Option.some.inj h1
  exact PySem.W.ki_setBack ho (by omega) (by rw[List.size_toArray,← hl];exact h3) (by omega) (by rw[hk];exact⟨_,I',q⟩)
theorem sV (lo hi:Option Int) (n:Nat):(sliceBounds lo hi none n).1=((HT.sIx n 0 lo:Nat):Int)∧(sliceBounds lo hi none n).2.1=((HT.sIx n n hi:Nat):Int)∧(sliceBounds lo hi none n).2.2=1:=by
 refine⟨?_,?_,rfl⟩
 ·cases lo with
  | none=>simp[sliceBounds,HT.sIx]
  | some i=>
   simp only[sliceBounds,HT.sIx,Option.getD_none,show (1:Int) > 0 by decide,if_true]
   by_cases h:i<0
   ·simp only[h,if_true]<;>omega
   ·simp only[h,if_false]<;>omega
 ·cases hi with
  | none=>simp[sliceBounds,HT.sIx]
  | some i=>
   simp only[sliceBounds,HT.sIx,Option.getD_none,show (1:Int) > 0 by decide,if_true]
   by_cases h:i<0
   ·simp only[h,if_true]<;>omega
   ·simp only[h,if_false]<;>omega
theorem sW (its:List Value) (lo hi:Option Int):slicePick its.toArray lo hi none=((its.drop (HT.sIx its.length 0 lo)).take (HT.sIx its.length its.length hi - HT.sIx its.length 0 lo)).toArray:=by
 obtain⟨h1,h2,h3⟩:=sV lo hi its.toArray.size
 unfold slicePick
 rw[h1,h2,h3]
 simp only[sliceRange_one,pick_run,List.size_toArray]<;>rfl
noncomputable def sX (K:PySem.W.Frag):V→Option Int→Option Int→Hp→VK→Prop:=fun x lo hi H Q=>∃ a xs,x=.ref a∧SqL K H a xs∧∀ p,H p=none→Q (.ref p) (upd H p (.lst (dA xs lo hi)))
theorem l5:SlR X (sX X.K):=by
 intro pins s σ H x v vl vu lo hi sl Q I rx hs pl pu h
 obtain⟨a,xs,rfl,hx,q⟩:=h
 cases rx
 obtain⟨its,r,ht,hz⟩:=I.list hx
 have hlen:=r.length
 refine⟨"list",_,slot_list_getitem.lookup,ht.isList.typeIs,?_⟩
 refine wpAny_getItem_list_slice ht.isList hs pl pu .none (by simp) ?_ (by rw[List.size_toArray]<;>omega)
 rw[sW,← hlen]
 refine⟨.ref s.heap.objs.size,_,I.laid (t':=s.toks) (o:=.lst (dA xs lo hi)) (fun b ob q=>Heap.get?_push_of_some _ q) (Nat.le_refl _) ?_,rfl,q _ (I.hok.fresh (Nat.le_refl _))⟩
 exact⟨Nat.le_trans (lW xs lo hi) hz,_,0,(r.drop (HT.sIx xs.length 0 lo)).take (HT.sIx xs.length xs.length hi - HT.sIx xs.length 0 lo),Heap.get?_push_size _ rfl⟩
theorem sY:aP X (.builtin "len") (fun xs H Q=>∃ p ys,xs=[.ref p]∧(SqL X.K H p ys∨SqT X.K H p ys)∧Q (.int ys.length) H):=by
 intro pins s σ H xs us Q I r h
 obtain⟨p,ys,rfl,hq,q⟩:=h
 obtain⟨u,rfl,rx⟩:=cx r
 cases rx
 have hn:=d6
 rcases hq with hq | hq
 ·obtain⟨its,r',pl,hz⟩:=I.list hq
  have hlen:=r'.length
  exact Calls.call_len_list pl.isList (by simp only[List.size_toArray]<;>omega) ⟨.int ys.length,H,I.tok _,⟨s.toks+1,by rw[List.size_toArray,hlen]⟩,q⟩
 ·obtain⟨its,r',pl,hz⟩:=I.tuple hq
  have hlen:=r'.length
  exact len_tuple pl (by simp only[List.size_toArray]<;>omega) ⟨.int ys.length,H,I.tok _,⟨s.toks+1,by rw[List.size_toArray,hlen]⟩,q⟩
theorem sZ:aP X (.builtin "len") (fun xs H Q=>∃ z,xs=[.str z]∧z.length≤sizeLine∧Q (.int z.length) H):=by
 intro pins s σ H xs us Q I r h
 obtain⟨z,rfl,hz,q⟩:=h
 obtain⟨u,rfl,t,rfl⟩:=cx r
 have hn:=d6
 exact len_str (by omega) ⟨.int z.length,H,I.tok _,⟨_,rfl⟩,q⟩
theorem aP.or {f:Value}{r r':List V→Hp→VK→Prop} (h:aP X f r) (h':aP X f r'):aP X f (fun xs H Q=>r xs H Q∨r' xs H Q):=by
 intro pins s σ H xs us Q I rs q
 rcases q with q | q
 ·exact h pins s σ H xs us Q I rs q
 ·exact h' pins s σ H xs us Q I rs q
theorem s9:aP X (.type "tuple") (fun xs H Q=>∃ p ys,xs=[.ref p]∧((SqL X.K H p ys∧∀ l,H l=none→Q (.ref l) (upd H l (.tup ys)))∨(SqT X.K H p ys∧Q (.ref p) H))):=by
 intro pins s σ H xs us Q I r h
 obtain⟨p,ys,rfl,h⟩:=h
 obtain⟨u,rfl,rx⟩:=cx r
 cases rx
 rcases h with ⟨hq,q⟩ | ⟨hq,q⟩
 ·obtain⟨its,r',pl,hz⟩:=I.list hq
  have hlen:=r'.length
  refine call_tuple_list pl.isList (fun h' kp=>?_) (by simp only[List.size_toArray]<;>omega)
  have I1:Inv X pins σ H { s with heap:=h' }:=I.kept (t':=s.toks) kp
  have I2:Inv X pins σ (upd H h'.objs.size (.tup ys)) { s with heap:=h'.push { cls:=.type "tuple",data:=.seq its.toArray } }:=
   I1.laid (t':=s.toks) (fun b o e=>Heap.get?_push_of_some _ e) (Nat.le_refl _) (show aX X.prog X.w _ _ _ (.tup ys) from ⟨hz,its,r',IsTup.new _ _⟩)
  exact⟨.ref h'.objs.size,_,I2,rfl,q _ (I1.hok.fresh (Nat.le_refl _))⟩
 ·obtain⟨its,r',pl,hz⟩:=I.tuple hq
  exact call_tuple_same pl ⟨.ref p,H,I,rfl,q⟩
noncomputable def tyV (K:PySem.W.Frag) (T:String) (x:V) (H:Hp):Prop:=match x with
 | .str _=>T = "str"
 | .int _=>T = "int"
 | .ref p=>(T = "list" ∧ ∃ xs,SqL K H p xs)∨(T = "tuple" ∧ ∃ o,K.lookup p=some o∧o.cls=.type "tuple" ∧ o.dict=none)∨
   (T = "dict" ∧ ((∃ kvs,H p=some (.dK kvs))∨∃ kvs,H p=some (.dT kvs)))∨(T = "set" ∧ ∃ S n,H p=some (.set S n))
 | _=>False
theorem l6 {pins:List (Addr×Obj)}{σ:St}{H:Hp}{s:Shared}{T:String}{x:V}{v:Value} (I:Inv X pins σ H s) (r:am x v) (ty:tyV X.K T x H):
  s.TypeIs v T∧∀ a,v=.ref a→∃ ob,s.heap.get? a=some ob∧ob.dict=none:=by
 cases x with
 | str z=>
  obtain⟨t,rfl⟩:=r
  cases (show T = "str" from ty)
  exact⟨typeIs_str s z t,fun _ e=>nomatch e⟩
 | int i=>
  obtain⟨t,rfl⟩:=r
  cases (show T = "int" from ty)
  exact⟨typeIs_int s i t,fun _ e=>nomatch e⟩
 | ref p=>
  cases r
  rcases ty with ⟨rfl,xs,hq⟩ | ⟨rfl,o,hk,hc,hd⟩ | ⟨rfl,hk⟩ | ⟨rfl,S,n,hk⟩
  ·obtain⟨its,_,pl,_⟩:=I.list hq
   refine⟨pl.isList.typeIs,fun a e=>?_⟩
   cases e
   obtain⟨o,n,e,c,hd,_⟩:=pl
   exact⟨o,e,hd⟩
  ·refine⟨⟨o,I.kIn p o hk,hc⟩,fun a e=>?_⟩
   cases e
   exact⟨o,I.kIn _ o hk,hd⟩
  ·have z:∃ o,s.heap.get? p=some o∧o.ExactDict:=by
    rcases hk with ⟨kvs,hk⟩ | ⟨kvs,hk⟩
    ·obtain⟨_,_,_,_,o,_,_,e,ex,_⟩:=I.hok p _ hk
     exact⟨o,e,ex⟩
    ·obtain⟨_,_,_,_,o,_,_,e,ex,_⟩:=I.hok p _ hk
     exact⟨o,e,ex⟩
   obtain⟨o,e,ex⟩:=z
   refine⟨⟨o,e,ex.1⟩,fun a e2=>?_⟩
   cases e2
   exact⟨o,e,ex.2.1⟩
  ·obtain⟨o,_,_,_,e,ex,_⟩:=I.hok p _ hk
   refine⟨⟨o,e,ex.1⟩,fun a e2=>?_⟩
   cases e2
   exact⟨o,e,ex.2.1⟩
 | _=>exact False.elim ty
noncomputable def tf (K:PySem.W.Frag) (T:String) (r:V→List V→Hp→VK→Prop) (to:TE):TE:=fun σ H Q=>to σ H fun x H1=>tyV K T x H1∧r x [] H1 Q
noncomputable def tBM (K:PySem.W.Frag) (T:String) (r:V→List V→Hp→VK→Prop) (to:TE) (t:TA):TE:=fun σ H Q=>to σ H fun x H1=>tyV K T x H1∧t σ H1 fun xs H2=>r x xs H2 Q
variable {o e:Expr}{es:List Expr}{to:TE}{t:TA}{name:Str}{apos cpos:Pos}{T id:String}{r:V→List V→Hp→VK→Prop}
theorem tj (pa:PlainAttrs T) (slot:Slot T name id) (hty:typeOf (.builtin id)=pure (.type "method_descriptor")) (hm:MtR X id r) (ho:PE X o to)
  (hbase:attributeBase o name X.env (eval o X.env)=eval o X.env:=by rfl) (hline:(apos.endLine == cpos.line)=true:=by rfl):PE X (.Call (.Attribute o name apos) [] [] cpos) (tf X.K T r to):=by
 intro pins s σ H Q I h
 refine wpAny_Call_method0_late hbase hline (thn (ho pins s σ H _ I h) fun v s1 ⟨x,H1,I1,r1,ty,q1⟩=>?_)
 obtain⟨h1,h2⟩:=l6 I1 r1 ty
 exact⟨T,id,pa,slot,hty,h1,h2,Calls.callWith_builtin rfl (PySem.evalArgs_none (hm pins s1 σ H1 x [] v [] Q I1 r1 .nil q1))⟩
theorem tm (pa:PlainAttrs T) (slot:Slot T name id) (hty:typeOf (.builtin id)=pure (.type "method_descriptor")) (hm:MtR X id r) (ho:PE X o to) (ha:PA X (e::es) t)
  (hbase:attributeBase o name X.env (eval o X.env)=eval o X.env:=by rfl)
  (hfew:((backTo cpos (starEach (e::es) X.env)).all (fun x=>!x.1) && (backToKw cpos (keywordEach [] X.env)).all (fun x=>x.1.isSome)
   && decide ((e::es).length+([]:List Keyword).length+(if ([]:List Keyword).isEmpty then 0 else 1)<30))=true:=by rfl)
  (hline:(apos.endLine == cpos.line)=true:=by rfl) (hs:starEach (e::es) X.env=(false,eval e X.env)::starEach es X.env:=by rfl) (hplain:(backTo cpos (starEach es X.env)).any (·.1)=false:=by rfl):
  PE X (.Call (.Attribute o name apos) (e::es) [] cpos) (tBM X.K T r to t):=by
 intro pins s σ H Q I h
 refine wpAny_Call_method_late hbase hfew hline rfl (thn (ho pins s σ H _ I h) fun v s1 ⟨x,H1,I1,r1,ty,q1⟩=>?_)
 obtain⟨h1,h2⟩:=l6 I1 r1 ty
 refine⟨T,id,pa,slot,hty,h1,h2,?_⟩
 have hA:=ha cpos pins s1 σ H1 _ I1 q1
 rw[hs] at hA ⊢
 refine Calls.callWith_builtin (by show (false || (backTo cpos (starEach es X.env)).any (·.1))=false;rw[hplain]<;>rfl) (Calls.evalArgs_plain ?_)
 exact thn hA fun us s2 ⟨vs,H2,I2,r2,q2⟩=>hm pins s2 σ H2 x vs v us Q I2 r1 r2 q2
/- xs.append(e),list.index on a module's tuple .. are MtR facts of 06m -/
end
end L2
namespace L2
open PySem PySem.Spec PyProof.Rows
noncomputable def MtM (X:Cx) (id:String) (r:V→List V→Hp→VK→Prop):Prop:=
 ∀ (pins:List (Addr×Obj)) (s:Shared) (σ:St) (H:Hp) (x:V) (xs:List V) (v:Value) (us:List Value) (Q:VK),Inv X pins σ H s→am x v→ak xs us→r x xs H Q→
  wpAny (model X.prog X.w) X.A (call (.builtin id) (v::us)) (EP X pins σ Q) X.xe s
theorem ak.one:∀ {x:V}{us:List Value},ak [x] us→∃ u,us=[u]∧am x u
 | _,_,.cons r .nil=>⟨_,rfl,r⟩
theorem ak.zero:∀ {us:List Value},ak [] us→us=[]
 | _,.nil=>rfl
theorem ak.dropLast {xs:List V}{us:List Value} (h:ak xs us):ak xs.dropLast us.dropLast:=by
 induction h with
 | nil=>exact .nil
 | cons r t ih=>
  cases t with
  | nil=>exact .nil
  | cons q t'=>exact .cons r ih
theorem ak.eraseIdx:∀ {xs:List V}{us:List Value} (i:Nat),ak xs us→ak (xs.eraseIdx i) (us.eraseIdx i)
 | _,_,_,.nil=>.nil
 | _,_,0,.cons _ t=>t
 | _,_,i+1,.cons r t=>.cons r (ak.eraseIdx i t)
theorem tp {α:Type} (l:List α):l.eraseIdx (l.length - 1)=l.dropLast:=by
 induction l with
 | nil=>rfl
 | cons a r ih=>
  cases r with
  | nil=>rfl
  | cons b r=>
   have e:(a::b::r).length - 1=((b::r).length - 1)+1:=by
    have h1:(a::b::r).length=r.length+2:=rfl
    have h2:(b::r).length=r.length+1:=rfl
    omega
   rw[e,List.eraseIdx_cons_succ,ih]
   all_goals rfl
theorem l7 {α:Type}:∀ (l:List α) (i:Nat),(l.eraseIdx i).length≤l.length
 | [],_=>Nat.le_refl _
 | _::_,0=>Nat.le_succ _
 | _::r,i+1=>Nat.succ_le_succ (l7 r i)
section
variable {X:Cx}{pins:List (Addr×Obj)}{σ:St}{H:Hp}{s:Shared}{l b:Addr}{xs ys zs:List V}
theorem Inv.lset {its its':List Value}{n:Nat}{f:Array Value→Array Value}{t':Nat} (I:Inv X pins σ H s) (hH:H l=some (.lst xs))
  (e:s.heap.get? l=some { cls:=.type "list",data:=.seq its.toArray n }) (hf:f its.toArray=its'.toArray) (hv:ak ys its') (hz:ys.length≤sizeLine):
  Inv X pins σ (upd H l (.lst ys)) { s with heap:=s.heap.update l (Obj.mapSeq f),toks:=t' }:=by
 have q:=PySem.IsL.update e f
 rw[hf] at q
 refine I.write (x:=l) (e:=l) (by rw[hH];exact trivial) (.inl rfl) (fun b' u hb hu=>(Heap.get?_update_other s.heap (Obj.mapSeq f) (Ne.symm hb)).trans hu) ⟨_,q⟩ ?_
 exact⟨hz,its',_,hv,q⟩
theorem Inv.lnew {its:List Value}{t':Nat} (I:Inv X pins σ H s) (hv:ak ys its) (hz:ys.length≤sizeLine):
  Inv X pins σ (upd H s.heap.objs.size (.lst ys)) { s with heap:=s.heap.push { cls:=.type "list",data:=.seq its.toArray },toks:=t' }:=
 I.laid (fun _ _ q=>Heap.get?_push_of_some _ q) (Nat.le_refl _) ⟨hz,its,0,hv,Heap.get?_push_size _ rfl⟩
theorem Inv.fresh (I:Inv X pins σ H s):H s.heap.objs.size=none:=I.hok.fresh (Nat.le_refl _)
theorem Inv.lstM (I:Inv X pins σ H s) (hH:H l=some (.lst xs)):xs.length≤sizeLine∧∃ (its:List Value) (n:Nat),ak xs its∧xs.length=its.length∧s.heap.get? l=some { cls:=.type "list",data:=.seq its.toArray n }:=by
 obtain⟨z,its,n,r,e⟩:=I.hok l _ hH
 exact⟨z,its,n,r,r.length,e⟩
theorem tq {n:Nat} (h:n≤sizeLine):Builtin.List.listTooLong n=false:=by
 unfold Builtin.List.listTooLong
 exact decide_eq_false (by omega)
end
section
variable {X:Cx}
noncomputable def rAppend:V→List V→Hp→VK→Prop:=fun x vs H Q=>∃ l xs y,x=.ref l∧vs=[y]∧H l=some (.lst xs)∧xs.length<sizeLine∧Q .non (upd H l (.lst (xs++[y])))
theorem tu:MtM X "list.append" rAppend:=by
 intro pins s σ H x vs v us Q I rx rv h
 obtain⟨l,xs,y,rfl,rfl,hH,hz,q⟩:=h
 cases rx
 obtain⟨u,rfl,ru⟩:=rv.one
 obtain⟨z,its,n,r,hl,e⟩:=I.lstM hH
 refine call_meets F.slot_list_append ⟨_,e,rfl⟩ F.entry_list_append (F.args_list_append_2 _ _) (PySem.list_append l its.toArray n u (by rw[List.size_toArray];omega)) ⟨e,?_⟩
 refine⟨.non,_,I.lset (its':=its++[u]) hH e (by simp) (r.append (.cons ru .nil)) ?_,rfl,q⟩
 rw[List.length_append,List.length_singleton]
 omega
noncomputable def rExtend:V→List V→Hp→VK→Prop:=fun x vs H Q=>∃ l b xs zs,x=.ref l∧vs=[.ref b]∧H l=some (.lst xs)∧H b=some (.lst zs)∧xs.length+zs.length≤sizeLine∧Q .non (upd H l (.lst (xs++zs)))
theorem yr:MtM X "list.extend" rExtend:=by
 intro pins s σ H x vs v us Q I rx rv h
 obtain⟨l,b,xs,zs,rfl,rfl,hH,hB,hz,q⟩:=h
 cases rx
 obtain⟨u,rfl,ru⟩:=rv.one
 cases ru
 obtain⟨z,its,n,r,hl,e⟩:=I.lstM hH
 obtain⟨z2,its2,n2,r2,hl2,e2⟩:=I.lstM hB
 have hsz:its.toArray.size+its2.toArray.size≤sizeLine:=by rw[List.size_toArray,List.size_toArray];omega
 have hlong:¬ (!its.toArray.isEmpty && Builtin.List.listTooLong (its.toArray.size+its2.toArray.size))=true:=by
  rw[tq hsz,Bool.and_false]
  exact Bool.false_ne_true
 refine call_meets F.slot_list_extend ⟨_,e,rfl⟩ F.entry_list_extend (F.args_list_extend_2 _ _)
  (AutoSeq1.list_extend_list_list_0 l its.toArray n b its2.toArray n2 hlong (by rw[List.size_toArray];omega) (by omega)) ⟨e,e2,?_⟩
 refine⟨.non,_,I.lset (its':=its++its2) hH e (by simp) (r.append r2) ?_,rfl,q⟩
 rw[List.length_append]
 omega
noncomputable def rPop:V→List V→Hp→VK→Prop:=fun x vs H Q=>∃ l xs y,x=.ref l∧vs=[]∧H l=some (.lst xs)∧xs[xs.length - 1]?=some y∧Q y (upd H l (.lst xs.dropLast))
theorem tw:MtM X "list.pop" rPop:=by
 intro pins s σ H x vs v us Q I rx rv h
 obtain⟨l,xs,y,rfl,rfl,hH,hy,q⟩:=h
 cases rx
 have hus:=rv.zero
 subst hus
 obtain⟨z,its,n,r,hl,e⟩:=I.lstM hH
 obtain⟨u,hu,ru⟩:=r.get hy
 have hy':its.toArray[its.toArray.size - 1]?=some u:=by
  show its.toArray[its.length - 1]?=some u
  rw[← Array.getElem?_toList,← hl]
  exact hu
 refine call_meets F.slot_list_pop ⟨_,e,rfl⟩ F.entry_list_pop (F.args_list_pop_1 _) (MeetsSeq.list_pop_last l its.toArray n u hy' (by rw[List.size_toArray];omega)) ⟨e,?_⟩
 refine⟨y,_,I.lset (its':=its.dropLast) hH e ?_ r.dropLast ?_,ru,q⟩
 ·show its.toArray.eraseIdxIfInBounds (its.toArray.size - 1)=its.dropLast.toArray
  rw[List.size_toArray,List.eraseIdxIfInBounds_toArray,tp]
 ·rw[List.length_dropLast]
  omega
noncomputable def rPopAt:V→List V→Hp→VK→Prop:=fun x vs H Q=>∃ l xs i k y,x=.ref l∧vs=[.int i]∧H l=some (.lst xs) ∧ -(2 ^ 63)≤i∧i<2 ^ 63∧seqIndex? i xs.length=some k∧xs[k]?=some y∧Q y (upd H l (.lst (xs.eraseIdx k)))
theorem tz:MtM X "list.pop" rPopAt:=by
 intro pins s σ H x vs v us Q I rx rv h
 obtain⟨l,xs,i,k,y,rfl,rfl,hH,h1,h2,hk,hy,q⟩:=h
 cases rx
 obtain⟨u,rfl,ru⟩:=rv.one
 obtain⟨t,rfl⟩:=ru
 obtain⟨z,its,n,r,hl,e⟩:=I.lstM hH
 obtain⟨w,hw,rw'⟩:=r.get hy
 refine call_meets F.slot_list_pop ⟨_,e,rfl⟩ F.entry_list_pop (F.args_list_pop_2 _ _)
  (MeetsSeq.list_pop_at l its.toArray n i t k w (fitsIndex_both h1 h2) (by rw[List.size_toArray,← hl];exact hk) (by rw[← Array.getElem?_toList];exact hw) (by rw[List.size_toArray];omega)) ⟨e,?_⟩
 refine⟨y,_,I.lset (its':=its.eraseIdx k) hH e ?_ (r.eraseIdx k) ?_,rw',q⟩
 ·show its.toArray.eraseIdxIfInBounds k=(its.eraseIdx k).toArray
  rw[List.eraseIdxIfInBounds_toArray]
 ·have:=l7 xs k
  omega
noncomputable def rCat:R2:=fun x y H Q=>∃ l b xs zs,x=.ref l∧y=.ref b∧H l=some (.lst xs)∧H b=some (.lst zs)∧xs.length+zs.length≤sizeLine∧∀ p,H p=none→Q (.ref p) (upd H p (.lst (xs++zs)))
theorem tB:OpR X (binaryOp .Add) rCat:=by
 intro pins s σ H x y v u Q I rx ry h
 obtain⟨l,b,xs,zs,rfl,rfl,hH,hB,hz,q⟩:=h
 cases rx
 cases ry
 obtain⟨z,its,n,r,hl,e⟩:=I.lstM hH
 obtain⟨z2,its2,n2,r2,hl2,e2⟩:=I.lstM hB
 refine PySem.P.add_list e e2 ?_ (by rw[List.size_toArray,List.size_toArray];omega)
 have ea:its.toArray++its2.toArray=(its++its2).toArray:=by simp
 rw[ea]
 exact⟨.ref _,_,I.lnew (t':=s.toks) (r.append r2) (by rw[List.length_append];omega),rfl,q _ I.fresh⟩
end
section
variable {prog:Program}{w:World}{A:Around}{E:Value→Shared→Prop}{s:Shared}
end
section
variable {X:Cx}
end
end L2
namespace L2
open PySem PySem.Spec PyProof.Rows
section
variable {κ:Type} [DecidableEq κ]
noncomputable def bF (kvs:List (κ×V)) (k:κ):Option V:=(kvs.find? fun kv=>decide (kv.1=k)).map (·.2)
noncomputable def bG (kvs:List (κ×V)) (k:κ) (v:V):List (κ×V):=
 if (kvs.any fun kv=>decide (kv.1=k))=true then kvs.map (fun kv=>if kv.1=k then (kv.1,v) else kv) else kvs++[(k,v)]
theorem gW {p:κ×V}{r:List (κ×V)}{k:κ} (e:p.1=k):bF (p::r) k=some p.2:=by simp[bF,List.find?_cons,e]
theorem gX {p:κ×V}{r:List (κ×V)}{k:κ} (e:¬ p.1=k):bF (p::r) k=bF r k:=by simp[bF,List.find?_cons,e]
theorem l8 (k:κ):∀ kvs:List (κ×V),(kvs.any fun kv=>decide (kv.1=k))=(bF kvs k).isSome
 | []=>rfl
 | p::r=>by
  rw[List.any_cons]
  by_cases e:p.1=k
  ·simp only[gW e,decide_eq_true e,Bool.true_or,Option.isSome_some]
  ·rw[gX e,decide_eq_false e,Bool.false_or];exact l8 k r
theorem l9 (kvs:List (κ×V)) (k:κ) (v:V):(bG kvs k v).length≤kvs.length+1:=by
 unfold bG
 split
 ·rw[List.length_map];omega
 ·rw[List.length_append,List.length_cons,List.length_nil];omega
theorem cu.isSome_eq {o:Option V}{u:Option Value} (r:cu o u):o.isSome=u.isSome:=by
 cases o with
 | none=>cases u with
  | none=>rfl
  | some _=>exact (show False from r).elim
 | some _=>cases u with
  | none=>exact (show False from r).elim
  | some _=>rfl
theorem cu.getD {o:Option V}{u:Option Value}{d:V}{d':Value} (r:cu o u) (rd:am d d'):am (o.getD d) (u.getD d'):=by
 cases o with
 | none=>cases u with
  | none=>exact rd
  | some _=>exact (show False from r).elim
 | some _=>cases u with
  | none=>exact (show False from r).elim
  | some _=>exact r
theorem KV.val {kvs:List (κ×V)}{vs:List (κ×Value)} (r:KV kvs vs) (k:κ):cu (bF kvs k) (valueAt vs k):=by
 unfold KV at r
 induction r with
 | nil=>exact True.intro
 | @cons p q ps qs h t ih=>
  obtain⟨h1,h2⟩:=h
  by_cases e:p.1=k
  ·have e':q.1=k:=h1.symm.trans e
   have b:valueAt (q::qs) k=some q.2:=by simp[valueAt,List.find?_cons,e']
   rw[gW e,b];exact h2
  ·have e':¬ q.1=k:=fun z=>e (h1.trans z)
   have b:valueAt (q::qs) k=valueAt qs k:=by simp[valueAt,List.find?_cons,e']
   rw[gX e,b];exact ih
theorem KV.any {kvs:List (κ×V)}{vs:List (κ×Value)} (r:KV kvs vs) (k:κ):(kvs.any fun kv=>decide (kv.1=k))=vs.any fun kv=>decide (kv.1=k):=by
 unfold KV at r
 induction r with
 | nil=>rfl
 | cons h t ih=>rw[List.any_cons,List.any_cons,ih,h.1]
theorem KV.repl {kvs:List (κ×V)}{vs:List (κ×Value)} (r:KV kvs vs) (k:κ) {y:V}{u:Value} (ry:am y u):
  KV (kvs.map fun kv=>if kv.1=k then (kv.1,y) else kv) (vs.map fun kv=>if kv.1=k then (kv.1,u) else kv):=by
 unfold KV at r ⊢
 induction r with
 | nil=>exact .nil
 | @cons p q ps qs h t ih=>
  rw[List.map_cons,List.map_cons]
  refine .cons ?_ ih
  obtain⟨h1,h2⟩:=h
  by_cases e:p.1=k
  ·rw[if_pos e,if_pos (h1.symm.trans e)];exact⟨h1,ry⟩
  ·rw[if_neg e,if_neg (fun z=>e (h1.trans z))];exact⟨h1,h2⟩
theorem KV.put {kvs:List (κ×V)}{vs:List (κ×Value)} (r:KV kvs vs) (k:κ) {y:V}{u:Value} (ry:am y u):KV (bG kvs k y) (stored vs k u):=by
 unfold bG stored
 rw[r.any k]
 by_cases e:(vs.any fun kv=>decide (kv.1=k))=true
 ·rw[if_pos e,if_pos e];exact r.repl k ry
 ·rw[if_neg e,if_neg e];exact Paired.snoc r ⟨rfl,ry⟩
theorem KV.length {kvs:List (κ×V)}{vs:List (κ×Value)} (r:KV kvs vs):kvs.length=vs.length:=Paired.length r
end
theorem gm {P:Program}{w:World}{k:Key}{u:Value} (r:am (kV k) u):(de P w).is k u=true:=by
 cases k with
 | inl i=>obtain⟨t,e⟩:=(show ∃ t,u=Value.int i t from r);subst e;exact qr P w i t
 | inr x=>obtain⟨t,e⟩:=(show ∃ t,u=Value.str x t from r);subst e;exact qt P w x t
noncomputable abbrev KT (H:Hp):List (List Im×V)→List (List Im×Addr×Value)→Prop:=Paired fun p q=>p.1=q.1∧KAd H p.1 q.2.1∧am p.2 q.2.2
theorem KT.val {H:Hp}{kvs:List (List Im×V)}{xs:List (List Im×Addr×Value)} (r:KT H kvs xs) (k:List Im):cu (bF kvs k) ((atKey xs k).map (·.2)):=by
 induction r with
 | nil=>exact True.intro
 | @cons p q ps qs h t ih=>
  obtain⟨h1,_,h2⟩:=h
  by_cases e:p.1=k
  ·have e':q.1=k:=h1.symm.trans e
   have b:atKey (q::qs) k=some q.2:=by simp[atKey,List.find?_cons,e']
   rw[gW e,b];exact h2
  ·have e':¬ q.1=k:=fun z=>e (h1.trans z)
   have b:atKey (q::qs) k=atKey qs k:=by simp[atKey,List.find?_cons,e']
   rw[gX e,b];exact ih
theorem KT.repl {H:Hp}{kvs:List (List Im×V)}{xs:List (List Im×Addr×Value)} (r:KT H kvs xs) (k:List Im) {y:V}{u:Value} (ry:am y u):
  KT H (kvs.map fun kv=>if kv.1=k then (kv.1,y) else kv) (xs.map (putAt k u)):=by
 induction r with
 | nil=>exact .nil
 | @cons p q ps qs h t ih=>
  rw[List.map_cons,List.map_cons]
  refine .cons ?_ ih
  obtain⟨h1,h2,h3⟩:=h
  unfold putAt
  by_cases e:p.1=k
  ·rw[if_pos e,if_pos (h1.symm.trans e)];exact⟨h1,h2,ry⟩
  ·rw[if_neg e,if_neg (fun z=>e (h1.trans z))];exact⟨h1,h2,h3⟩
theorem KT.put {H:Hp}{kvs:List (List Im×V)}{xs:List (List Im×Addr×Value)} (r:KT H kvs xs) (k:List Im) {b:Addr}{y:V}{u:Value} (hb:KAd H k b) (ry:am y u):
  KT H (bG kvs k y) (storedH xs k b u):=by
 have e:(kvs.any fun kv=>decide (kv.1=k))=(atKey xs k).isSome:=by
  rw[l8,(r.val k).isSome_eq,Option.isSome_map]
 unfold bG storedH
 rw[e]
 by_cases q:(atKey xs k).isSome=true
 ·rw[if_pos q,if_pos q];exact r.repl k ry
 ·rw[if_neg q,if_neg q];exact Paired.snoc r ⟨rfl,hb,ry⟩
theorem KT.keeps {H H':Hp}{kvs:List (List Im×V)}{xs:List (List Im×Addr×Value)} (r:KT H kvs xs) (ht:∀ b ys,H b=some (.tup ys)→H' b=some (.tup ys)):KT H' kvs xs:=
 Paired.mapP r fun _ _ z=>⟨z.1,z.2.1.mono ht,z.2.2⟩
section
variable {P:Program}{w:World}{H:Hp}{h:Heap}{a:Addr}
theorem ma {u:HO} (ok:HOk P w H h) (e:Rd H a u):aX P w H h a u:=e.ok ok
theorem dB {kvs:List (Key×V)} (ok:HOk P w H h) (e:Rd H a (.dK kvs)):kvs.length≤sizeLine∧(a == sysModules)=false∧∃ vs,KV kvs vs∧h.DictOf (de P w) a vs:=
 show aX P w H h a (.dK kvs) from ma ok e
theorem tD {kvs:List (Key×V)} (ok:HOk P w H h) (e:H a=some (.dK kvs)):kvs.length≤sizeLine∧(a == sysModules)=false∧∃ vs,KV kvs vs∧h.DictOf (de P w) a vs:=dB ok (.inl e)
mutual
theorem IsI.imv (ok:HOk P w H h):∀ {d:Im}{v:V}{u:Value},IsI H d v→am v u→ImV h d u
 | .non,_,_,e,r=>by cases (show _=V.non from e);exact r
 | .bl b,_,_,e,r=>by cases (show _=V.bl b from e);exact r
 | .int i,_,_,e,r=>by cases (show _=V.int i from e);exact r
 | .str x,_,_,e,r=>by cases (show _=V.str x from e);exact r
 | .fn a,_,_,e,r=>by cases (show _=V.ref a from e);exact r
 | .tup ds,_,_,e,r=>by
  obtain⟨a,xs,rfl,h1,h2⟩:=e
  cases r
  obtain⟨_,its,rv,o,g1,g2,n,g3⟩:=(show aX P w H h a (.tup xs) from ok a _ h1)
  exact⟨a,o,its.toArray,n,rfl,g1,g2,g3,by simpa using aj.imv ok h2 rv⟩
 | .fl ds,_,_,e,r=>by
  obtain⟨a,xs,o,rfl,h1,h2⟩:=e
  cases r
  exact⟨a,rfl⟩
theorem aj.imv (ok:HOk P w H h):∀ {ds:List Im}{vs:List V}{us:List Value},aj H ds vs→ak vs us→aD h ds us
 | [],_,_,e,r=>by cases (show _=[] from e);cases r;rfl
 | d::ds,_,_,e,r=>by
  obtain⟨v,t,rfl,h1,h2⟩:=e
  cases r with
  | cons r1 r2=>exact⟨_,_,rfl,IsI.imv ok h1 r1,aj.imv ok h2 r2⟩
end
theorem dg {ks:List Im} (ok:HOk P w H h) (e:KAd H ks a):(bu P w).is h ks a:=⟨e.1,e.2.imv ok rfl⟩
theorem ft {P:Program}{w:World}{A:Around} (h:A.units+20<cLine):(bu P w).room A.in1:=show A.units+1+10<cLine by omega
theorem d8 {kvs:List (List Im×V)} (ok:HOk P w H h) (e:Rd H a (.dT kvs)):kvs.length≤sizeLine∧(a == sysModules)=false∧
  ∃ xs,KT H kvs xs∧h.DictOfH (bu P w) a xs:=by
 obtain⟨z,y,xs,r,o,es,ep,h1,h2,h3,h4,h5⟩:=(show aX P w H h a (.dT kvs) from ma ok e)
 refine⟨z,y,xs,r,o,es,ep,h1,h2,h3,h4,fun x hx=>?_,h5⟩
 have all:∀ {l:List (List Im×V)}{m:List (List Im×Addr×Value)},KT H l m→∀ x∈m,(bu P w).is h x.1 x.2.1:=by
  intro l m q
  induction q with
  | nil=>intro x hx;exact nomatch hx
  | @cons p q ps qs hq t ih=>
   intro x hx
   rcases List.mem_cons.mp hx with e | hx
   ·subst e
    exact dg ok (by rw[← hq.1];exact hq.2.1)
   ·exact ih x hx
 exact all r x hx
theorem jd {kvs:List (List Im×V)} (ok:HOk P w H h) (e:H a=some (.dT kvs)):kvs.length≤sizeLine∧(a == sysModules)=false∧
  ∃ xs,KT H kvs xs∧h.DictOfH (bu P w) a xs:=d8 ok (.inl e)
end
noncomputable def bi (H:Hp) (a:Addr) (y:V) (r:Option V):Prop:=
 (∃ kvs k,Rd H a (.dK kvs)∧y=kV k∧r=bF kvs k)∨∃ kvs k b,Rd H a (.dT kvs)∧y=.ref b∧KAd H k b∧r=bF kvs k
noncomputable def d9 (H:Hp) (a:Addr) (y v:V) (H':Hp):Prop:=
 (∃ kvs k,H a=some (.dK kvs)∧y=kV k∧kvs.length<sizeLine∧H'=upd H a (.dK (bG kvs k v)))∨
 ∃ kvs k b,H a=some (.dT kvs)∧y=.ref b∧KAd H k b∧kvs.length<sizeLine∧H'=upd H a (.dT (bG kvs k v))
theorem bi.k {H:Hp}{a:Addr}{kvs:List (Key×V)}{k:Key} (e:H a=some (.dK kvs)):bi H a (kV k) (bF kvs k):=.inl ⟨kvs,k,.inl e,rfl,rfl⟩
theorem bi.t {H:Hp}{a b:Addr}{kvs:List (List Im×V)}{k:List Im} (e:H a=some (.dT kvs)) (eb:KAd H k b):bi H a (.ref b) (bF kvs k):=.inr ⟨kvs,k,b,.inl e,rfl,eb,rfl⟩
theorem d9.k {H:Hp}{a:Addr}{kvs:List (Key×V)}{k:Key}{v:V} (e:H a=some (.dK kvs)) (hl:kvs.length<sizeLine):d9 H a (kV k) v (upd H a (.dK (bG kvs k v))):=.inl ⟨kvs,k,e,rfl,hl,rfl⟩
theorem d9.t {H:Hp}{a b:Addr}{kvs:List (List Im×V)}{k:List Im}{v:V} (e:H a=some (.dT kvs)) (eb:KAd H k b) (hl:kvs.length<sizeLine):
  d9 H a (.ref b) v (upd H a (.dT (bG kvs k v))):=.inr ⟨kvs,k,b,e,rfl,eb,hl,rfl⟩
section
variable {X:Cx}{pins:List (Addr×Obj)}{σ:St}{H:Hp}{s:Shared}{a:Addr}{y v:V}{u r:Value}{o:Option V}{A:Around}{E:Value→Shared→Prop}
theorem Inv.big (I:Inv X pins σ H s):sysModules<s.heap.objs.size:=by
 have h:mainGlobals<s.heap.objs.size:=(I.mod.glob.keeps I.bk).lt
 exact Nat.lt_trans (by decide) h
theorem tE {Q:Value→Shared→Prop} (hu:A.units+20<cLine) (I:Inv X pins σ H s) (g:bi H a y (some v)) (ry:am y u) (h:∀ w' s',Inv X pins σ H s'→am v w'→Q w' s'):
  wpAny (model X.prog X.w) A (getItem (.ref a) u) Q E s:=by
 rcases g with ⟨kvs,k,e,ey,l⟩ | ⟨kvs,k,b,e,ey,eb,l⟩
 ·subst ey
  obtain⟨z,hd,vs,rel,dd⟩:=dB I.hok e
  obtain⟨w',hw,rw'⟩:=cu.some_of (v:=v) (o:=valueAt vs k) (by rw[l];exact rel.val k)
  exact wpAny_getItem_of (gm ry) dd.mapOf hw (h w' _ (I.tok _) rw')
 ·subst ey
  cases (show u=Value.ref b from ry)
  obtain⟨z,hd,xs,rel,dd⟩:=d8 I.hok e
  obtain⟨w',hw,rw'⟩:=cu.some_of (v:=v) (o:=(atKey xs k).map (·.2)) (by rw[l];exact rel.val k)
  obtain⟨p,hp,hp2⟩:=Option.map_eq_some_iff.mp hw
  refine wpAny_getItem_heap (ft hu) (dg I.hok eb) dd hp ?_
  rw[hp2]
  exact h w' _ (I.tok _) rw'
theorem je {Q:Value→Shared→Prop} (hu:A.units+20<cLine) (I:Inv X pins σ H s) (g:bi H a y o) (ry:am y u) (h:∀ s',Inv X pins σ H s'→Q (.bool o.isSome) s'):
  wpAny (model X.prog X.w) A (compareOp .In u (.ref a)) Q E s:=by
 rcases g with ⟨kvs,k,e,ey,l⟩ | ⟨kvs,k,b,e,ey,eb,l⟩
 ·subst ey
  obtain⟨z,hd,vs,rel,dd⟩:=dB I.hok e
  refine wpAny_in_of (gm ry) hd dd.mapOf ?_
  rw[← (rel.val k).isSome_eq,← l]
  exact h _ (I.tok _)
 ·subst ey
  cases (show u=Value.ref b from ry)
  obtain⟨z,hd,xs,rel,dd⟩:=d8 I.hok e
  refine wpAny_in_heap (ft hu) (dg I.hok eb) hd dd ?_
  have q:=(rel.val k).isSome_eq
  rw[Option.isSome_map] at q
  rw[← q,← l]
  exact h _ (I.tok _)
theorem jf {Q:Value→Shared→Prop} (hu:A.units+20<cLine) (I:Inv X pins σ H s) (g:bi H a y o) (ry:am y u) (h:∀ s',Inv X pins σ H s'→Q (.bool (!o.isSome)) s'):
  wpAny (model X.prog X.w) A (compareOp .NotIn u (.ref a)) Q E s:=by
 rcases g with ⟨kvs,k,e,ey,l⟩ | ⟨kvs,k,b,e,ey,eb,l⟩
 ·subst ey
  obtain⟨z,hd,vs,rel,dd⟩:=dB I.hok e
  refine wpAny_notIn_of (gm ry) hd dd.mapOf ?_
  rw[← (rel.val k).isSome_eq,← l]
  exact h _ (I.tok _)
 ·subst ey
  cases (show u=Value.ref b from ry)
  obtain⟨z,hd,xs,rel,dd⟩:=d8 I.hok e
  refine wpAny_notIn_heap (ft hu) (dg I.hok eb) hd dd ?_
  have q:=(rel.val k).isSome_eq
  rw[Option.isSome_map] at q
  rw[← q,← l]
  exact h _ (I.tok _)
theorem jg {h':Heap}{t':Nat}{ob:HO} (I:Inv X pins σ H s) (mu:Mut (H a)) (hs:Heap.SameBut a s.heap h') (he:∃ q,h'.get? a=some q) (new:aX X.prog X.w (upd H a ob) h' a ob):
  Inv X pins σ (upd H a ob) { s with heap:=h',toks:=t' }:=
 I.write (x:=a) (e:=a) mu (.inl rfl) (fun b q hb z=>(hs.2 b hb).trans z) he new
theorem tF {P:Program}{w:World}{H':Hp}{h':Heap}{kvs:List (Key×V)}{vs:List (Key×Value)} (z:kvs.length≤sizeLine) (hd:(a == sysModules)=false) (rel:KV kvs vs) (dd:h'.DictOf (de P w) a vs):
  aX P w H' h' a (.dK kvs):=⟨z,hd,vs,rel,dd⟩
theorem md {H':Hp}{Q:Unit→Shared→Prop} (hu:A.units+20<cLine) (I:Inv X pins σ H s) (g:d9 H a y v H') (ry:am y u) (rv:am v r) (h:∀ s',Inv X pins σ H' s'→Q () s'):
  wpAny (model X.prog X.w) A (setItem (.ref a) u r) Q E s:=by
 rcases g with ⟨kvs,k,e,ey,l,eH⟩ | ⟨kvs,k,b,e,ey,eb,l,eH⟩
 ·subst ey eH
  obtain⟨z,hd,vs,rel,dd⟩:=tD I.hok e
  have hz:vs.length≤sizeLine:=by rw[← rel.length];exact z
  have hl:(bG kvs k v).length≤sizeLine:=by have:=l9 kvs k v;omega
  refine wpAny_setItem_pairs (hsz:=hz) (gm ry) dd fun h' dd' hs=>h _ ?_
  have he:∃ q,h'.get? a=some q:=let ⟨q,_,_,hq,_⟩:=dd';⟨q,hq⟩
  exact jg I (by rw[e];exact True.intro) hs he (tF hl hd (rel.put k rv) dd')
 ·subst ey eH
  cases (show u=Value.ref b from ry)
  obtain⟨z,hd,xs,rel,dd⟩:=jd I.hok e
  have hz:xs.length≤sizeLine:=by rw[← Paired.length rel];exact z
  have hl:(bG kvs k v).length≤sizeLine:=by have:=l9 kvs k v;omega
  refine wpAny_setItem_heap (hsz:=hz) (ft hu) (dg I.hok eb) dd fun h' dd' hs=>h _ ?_
  obtain⟨q,es,ep,hq,h2,h3,h4,_,h5⟩:=dd'
  refine jg I (by rw[e];exact True.intro) hs ⟨q,hq⟩ ⟨hl,hd,_,(rel.put k eb rv).keeps fun c ys ec=>?_,q,es,ep,hq,h2,h3,h4,h5⟩
  rw[ar (ls ec e (fun z=>nomatch z))]
  exact ec
end
section
variable {X:Cx}{pins:List (Addr×Obj)}{σ:St}{H:Hp}{s:Shared}{a:Addr}{kvs:List (Key×V)}{k:Key}{u:Value}{A:Around}{E:Value→Shared→Prop}
theorem tH {Q:Value→Shared→Prop} (I:Inv X pins σ H s) (e:Rd H a (.dK kvs)) (h:∀ t s',Inv X pins σ H s'→Q (.int kvs.length t) s'):wpAny (model X.prog X.w) A (call (.builtin "len") [.ref a]) Q E s:=by
 obtain⟨z,hd,vs,rel,dd⟩:=dB I.hok e
 refine call_len_dict hd dd (by rw[← rel.length];rw[sizeLine_eq] at z;omega) ?_
 rw[← rel.length]
 exact h _ _ (I.tok _)
end
theorem tJ {X:Cx}{pins:List (Addr×Obj)}{σ:St}{H:Hp}{s:Shared}{a:Addr}{y:V}{o:Option V} (I:Inv X pins σ H s) (g:bi H a y o):s.TypeIs (.ref a) "dict" := by
 rcases g with ⟨kvs,k,e,_,_⟩ | ⟨kvs,k,b,e,_,_,_⟩
 ·obtain⟨_,_,vs,_,dd⟩:=dB I.hok e
  exact dd.typeIs
 ·obtain⟨_,_,xs,_,dd⟩:=d8 I.hok e
  exact dd.typeIs
section
variable {X:Cx}{o i e value:Expr}{pos pos' tpos:Pos}{td ty tv:TE}
end
theorem me {P:Program}{w:World}{H:Hp} (h:Heap) (hb:sysModules<h.objs.size):aX P w H (h.push { cls:=.type "dict",data:=.dict #[] }) h.objs.size (.dT []):=
 ⟨Nat.zero_le _,beq_eq_false_iff_ne.mpr (Ne.symm (Nat.ne_of_lt hb)),[],.nil,_,#[],0,Heap.get?_push_size _ rfl,⟨rfl,rfl,rfl⟩,rfl,rfl,List.nodup_nil⟩
noncomputable def tDNewT:TE:=fun _ H Q=>∀ p,H p=none→Q (.ref p) (upd H p (.dT []))
section
variable {X:Cx}{pos:Pos}
theorem tK:PE X (.Dict [] [] pos) tDNewT:=fun pins s σ H Q I h=>
 wpAny_Dict_empty ⟨.ref s.heap.objs.size,_,I.laid (a:=s.heap.objs.size) (o:=.dT []) (t':=s.toks) (fun _ _ q=>Heap.get?_push_of_some _ q) (Nat.le_refl _) (me s.heap I.big),rfl,h _ (I.hok.fresh (Nat.le_refl _))⟩
end
structure M2 (X:Cx) (o:Expr) (m:Str) (apos:Pos) (e f:Expr) (cpos:Pos):Prop where
 base:attributeBase o m X.env (eval o X.env)=eval o X.env
 few:((backTo cpos (starEach [e,f] X.env)).all (fun x=>!x.1) && (backToKw cpos (keywordEach [] X.env)).all (fun x=>x.1.isSome)
  && decide (([e,f]:List Expr).length+([]:List Keyword).length+(if ([]:List Keyword).isEmpty then 0 else 1)<30))=true
 line:(apos.endLine == cpos.line)=true
 trees:backTo cpos (starEach [e,f] X.env)=[(false,eval e X.env),(false,eval f X.env)]
noncomputable def IsD (H:Hp) (a:Addr):Prop:=(∃ kvs,Rd H a (.dK kvs))∨∃ kvs,Rd H a (.dT kvs)
theorem tL {X:Cx}{pins:List (Addr×Obj)}{σ:St}{H:Hp}{s:Shared}{a:Addr} (I:Inv X pins σ H s) (d:IsD H a):
  s.TypeIs (.ref a) "dict" ∧ (∀ b,Value.ref a=.ref b→∃ ob,s.heap.get? b=some ob∧ob.dict=none)∧(a == sysModules)=false:=by
 rcases d with ⟨kvs,e⟩ | ⟨kvs,e⟩
 ·obtain⟨_,hd,vs,_,dd⟩:=dB I.hok e
  refine⟨dd.typeIs,fun b q=>?_,hd⟩
  cases q
  obtain⟨ob,_,_,h1,h2,_⟩:=dd
  exact⟨ob,h1,h2.2.1⟩
 ·obtain⟨_,hd,xs,_,dd⟩:=d8 I.hok e
  refine⟨dd.typeIs,fun b q=>?_,hd⟩
  cases q
  obtain⟨ob,_,_,h1,h2,_⟩:=dd
  exact⟨ob,h1,h2.2.1⟩
section
variable {X:Cx}{pins:List (Addr×Obj)}{σ:St}{H:Hp}{s:Shared}{a:Addr}{y d:V}{u r:Value}{o:Option V}{A:Around}{E:Value→Shared→Prop}
theorem tM {Q:Value→Shared→Prop} (hu:A.units+20<cLine) (I:Inv X pins σ H s) (g:bi H a y o) (ry:am y u) (rd:am d r) (h:∀ w' s',Inv X pins σ H s'→am (o.getD d) w'→Q w' s'):
  wpAny (model X.prog X.w) A (call (.builtin "dict.get") [.ref a,u,r]) Q E s:=by
 rcases g with ⟨kvs,k,e,ey,l⟩ | ⟨kvs,k,b,e,ey,eb,l⟩
 ·subst ey
  obtain⟨z,hd,vs,rel,dd⟩:=dB I.hok e
  refine call_meetsIn PySem.F.slot_dict_get dd.typeIs PySem.F.entry_dict_get (PySem.F.args_dict_get_3 _ _ _) (meets_dict_get_default (de X.prog X.w) a (gm ry) hd r) ⟨_,dd.mapOf,h _ _ (I.tok _) ?_⟩
  rw[l]
  exact (rel.val k).getD rd
 ·subst ey
  cases (show u=Value.ref b from ry)
  obtain⟨z,hd,xs,rel,dd⟩:=d8 I.hok e
  refine call_meetsIn PySem.F.slot_dict_get dd.typeIs PySem.F.entry_dict_get (PySem.F.args_dict_get_3 _ _ _) (meetsH_dict_get_default (bu X.prog X.w) a b hd r) ⟨ft hu,k,xs,dg I.hok eb,dd,h _ _ (I.tok _) ?_⟩
  rw[l]
  exact (rel.val k).getD rd
end
noncomputable def tN (td ty tx:TE):TE:=fun σ H Q=>td σ H fun x H1=>∃ a,x=.ref a∧IsD H1 a∧ty σ H1 fun y H2=>tx σ H2 fun z H3=>∃ o,bi H3 a y o∧Q (o.getD z) H3
section
variable {X:Cx}{o e f:Expr}{apos cpos:Pos}{td ty tx:TE}
theorem tQ (hu:X.A.units+20<cLine) (ho:PE X o td) (he:PE X e ty) (hf:PE X f tx) (m:M2 X o "get" apos e f cpos):PE X (.Call (.Attribute o "get" apos) [e,f] [] cpos) (tN td ty tx):=by
 intro pins s σ H Q I h
 refine wpAny_Call_method m.base m.few m.line PySem.F.plainAttrs_dict PySem.F.slot_dict_get PySem.F.type_dict_get (thn (ho pins s σ H _ I h) fun u s1 ⟨x,H1,I1,rx,a,ex,d,q1⟩=>?_)
 subst ex
 obtain rfl:u=Value.ref a:=rx
 obtain⟨t1,t2,_⟩:=tL I1 d
 refine⟨t1,t2,?_⟩
 rw[m.trees]
 refine Calls.callWith_builtin rfl (Calls.evalArgs_plain (Calls.spliced_cons (thn (he pins s1 σ H1 _ I1 q1) fun iv s2 ⟨y,H2,I2,ry,q2⟩=>
  Calls.spliced_cons (thn (hf pins s2 σ H2 _ I2 q2) fun fv s3 ⟨z,H3,I3,rz,ov,g,q3⟩=>Calls.spliced_nil ?_))))
 exact tM hu I3 g ry rz fun w' s4 I4 rw'=>⟨_,H3,I4,rw',q3⟩
end
section
variable {X:Cx}{pins:List (Addr×Obj)}{σ:St}{H:Hp}{s:Shared}{a:Addr}{kvs:List (Key×V)}{A:Around}{E:Value→Shared→Prop}
end
section
variable {X:Cx}{pins:List (Addr×Obj)}{σ:St}{H:Hp}{s:Shared}{a:Addr}{y:V}{u:Value}{A:Around}{E:Value→Shared→Prop}
end
end L2
namespace Att
open PySem PySem.W PySem.Calls PyProof.Rows
theorem tR {P:Params}{h:Heap}:∀ (ns:List Int) (vs:List Value),WellAll P h vs (ns.map WData.int)→IntsAre vs ns:=by
 intro ns
 induction ns with
 | nil=>
  intro vs w
  rw[List.map_nil] at w
  cases w
  exact .nil
 | cons n ns ih=>
  intro vs w
  rw[List.map_cons] at w
  cases w with
  | cons a b=>
   cases a
   exact .cons _ _ (ih _ b)
theorem tT {l:OpenLaw}{n:Nat} (hn:l.most=some n) {P:Params}{h:Heap}{args:List WData}{vals:List Value}
  (hpre:l.row.toRowW.claim.pre args=true) (hwl:WellAll P h vals args):
  ∃ a vs ns,vals=[Value.ref a]∧args=[WData.list (ns.map WData.int)]∧h.get? a=some { cls:=.type "list",data:=.seq vs.toArray }∧IntsAre vs ns∧ns.length≤n:=by
 have hsh:WShape.hasAll [] args [.list .int]=true:=(pre_splitW hpre).1
 have hc:l.pre.holds [] { args:=args }=true:=(pre_splitW hpre).2
 obtain⟨d,r,rfl,h1,h2⟩:=hasAllW_cons hsh
 obtain rfl:=hasAllW_nil h2
 obtain⟨xs,rfl,h3⟩:=hasW_list h1
 obtain⟨ns,rfl⟩:=items_int h3
 have hlen:ns.length≤n:=by
  unfold OpenLaw.pre at hc
  have h4:(WTm.not (.lt (.lit (.int (n:Int))) (.len (.arg 0)))).holds [] { args:=[.list (ns.map .int)] }=true:=by
   have h4:=(holds_andW hc).1
   rw[hn] at h4
   exact h4
  have h5:=condW_of h4 (w_not (w_lt w_lit (w_len_list (w_arg rfl))))
  rw[List.length_map] at h5
  refine Nat.le_of_not_lt fun q=>?_
  have q':(n:Int)<((ns.length:Nat):Int):=by omega
  first
   | (rw[decide_eq_true q'] at h5;exact absurd h5 (by decide))
   | (simp at h5;omega)
 cases hwl with
 | cons w1 w2=>
  cases w2
  cases w1 with
  | list ho hall=>exact⟨_,_,ns,rfl,rfl,ho,tR ns _ hall,hlen⟩
theorem tU (l:OpenLaw) (args:List WData):l.row.toRowW.claim.post args (.bool true) args=true:=
 postW_of (r:=l.row.toRowW) (X:=(true == true))
  (show WShape.has [] (.bool true) .bool=true by first | rfl | decide | simp[WShape.has,WShape.arms,WShape.armsAll])
  (show (WTm.eq .res (.lit (.bool true))).value [] { args:=args,res:=some (.bool true),after:=args }=some (.bool (true == true)) from w_eq_bool (w_res rfl) w_lit) rfl
theorem attach_call {l:OpenLaw}{n:Nat}{q:Program}{loose:List Str}{XP:(Str→Option Value)→Heap→Prop}{YP:World→Heap→Prop}{d:DefRec}
  (hn:l.most=some n) (hdf:d.params.defaults=[])
  (call:∀ (w:World) (s₀ s₁:Shared) (mg mb:Str→Option Value) (fa:Addr) (o:Obj) (pm cd doc:Value) (a:Addr) (vs:List Value) (ns:List Int),
   Ground q loose [] XP w s₀ mg mb s₁.heap→YP w s₁.heap→
   s₁.heap.get? fa=some o→o.data=.func (docDef d.name d.params d.body d.scope pm cd doc)→s₁.heap.CodeRec cd d.name→mg d.name=some (.ref fa)→
   s₁.heap.get? a=some { cls:=.type "list",data:=.seq vs.toArray }→IntsAre vs ns→ns.length≤n→s₁.gens=#[]→
   codeAny (model l.prog w) callerA (.call (.ref fa) ⟨[.ref a],[]⟩) (fun r s'=>r=.ok (.ret (.bool true))∧OldK s₁.heap s'.heap∧s'.os=s₁.os∧AllBare s'.gens) s₁):
  WalkO q loose XP YP l.row.toRowW d [] (fun f vs=>PySem.call f vs):=by
 intro w s₀ s₁ mg mb G Y fa o pm cd doc dV kV ho hd hcd hD hmg hg args vals as hpre hlay hrd hwl hlo
 obtain rfl:dV=.none:=Dflts.none hD hdf
 obtain rfl:kV=.none:=Dflts.noKw hD
 obtain⟨a,vs,ns,rfl,rfl,hobj,hints,hlen⟩:=tT hn hpre hwl
 refine enter_call (codeAny_mono (call w s₀ s₁ mg mb fa o pm cd doc a vs ns G Y ho (fd_plain hd) hcd hmg hobj hints hlen hg) fun r s' hq=>?_)
 obtain⟨rfl,h2,h3,h4⟩:=hq
 exact⟨.inl ⟨.bool true,.bool true,[],rfl,fun _=>rfl,.bool true,tU l _,fun _=>⟨List.Pairwise.nil,fun _ hm=>(nomatch hm)⟩⟩,h2,h3,h4⟩
section
variable {prog:Program}{w:World}{A:Around}{E:Value→Shared→Prop}{s:Shared}{K:Frag}
end
end Att
namespace L2
open PySem PySem.Spec PyProof.Rows
theorem mf:∀ {vs:List Value}{ns:List Int},IntsAre vs ns→ak (ns.map V.int) vs
 | _,_,.nil=>.nil
 | _,_,.cons n t h=>.cons ⟨t,rfl⟩ (mf h)
noncomputable def gY (H:Hp):Prop:=∀ b,H b=none∨∃ o xs,H b=some (.frz o (.lst xs))
theorem tW {P:Program}{w:World}{K:PySem.W.Frag}{mg mb:Str→Option Value}{CX:CXT}{k:Nat}{fa a:Addr}{fd:FuncData}{x:Str}{sp:Sp}{s₁:Shared}{vs:List Value}{ns:List Int}
  (KX:K.In s₁.heap) (hns:s₁.heap.Ns mainGlobals mg) (hb:s₁.heap.Ns builtinsNs mb) (hbb:∀ x:Str,x ≠ "__name__" → mb x=bootBuiltins x) (hlim:s₁.heap.NoLimit) (hg:s₁.gens=#[])
  (ha:s₁.heap.get? a=some { cls:=.type "list",data:=.seq vs.toArray }) (hi:IntsAre vs ns) (hl:ns.length≤sizeLine) (hr:Room k callerA)
  (F:∀ base:Heap,K.In base→base.Ns mainGlobals mg→FnOk P w K mg base CX k fa fd [x] sp) (hbind:∀ (s:Shared) (u:Value),BindsTo s fd ⟨[u],[]⟩ [(x,u)])
  (hsp:∀ H:Hp,gY H→SqL K H a (ns.map V.int)→sp [.ref a] H (fun v _=>v=.bl true) fun _ _ _=>False)
  (hCX:∀ H e s',CX [] H s₁ (fun _ _ _=>False) e s'→False):
  codeAny (model P w) callerA (.call (.ref fa) ⟨[.ref a],[]⟩) (fun r s'=>r=.ok (.ret (.bool true))∧OldK s₁.heap s'.heap∧s'.os=s₁.os∧AllBare s'.gens) s₁:=by
 have rv:=mf hi
 have lenV:=hi.length
 -- from an abstract heap in which nothing but the script may be tracked
 have core:∀ H:Hp,gY H→SqL K H a (ns.map V.int)→HOk P w H s₁.heap→(∀ b,H b≠none→b=a)→(H a≠none→K.lookup a=none)→
   codeAny (model P w) callerA (.call (.ref fa) ⟨[.ref a],[]⟩) (fun r s'=>r=.ok (.ret (.bool true))∧OldK s₁.heap s'.heap∧s'.os=s₁.os∧AllBare s'.gens) s₁:=by
  intro H hO hS hok hA hK
  have base_of:∀ {b:Addr}{o:Obj},s₁.heap.get? b=some o→H b=none→(df s₁.heap H).get? b=some o:=fun e n=>qv e n
  have noA:∀ {b:Addr}{o:Obj}{es:Array DictEntry}{ep:Nat},s₁.heap.get? b=some o→o.data=.dict es ep→H b=none:=fun {b o es ep} e d=>by
   cases q:H b with
   | none=>rfl
   | some u=>
    have e':b=a:=hA b (by rw[q];simp)
    subst e'
    rw[ha] at e;cases e
    have d':Data.seq vs.toArray _=Data.dict es ep:=d
    cases d'
  have nsK:∀ {b:Addr}{m:Str→Option Value},s₁.heap.Ns b m→(df s₁.heap H).Ns b m:=fun {b m} ⟨o,es,ep,e,d,r⟩=>⟨o,es,ep,base_of e (noA e d),d,r⟩
  have hKb:K.In (df s₁.heap H):=fun b o e=>base_of (KX b o e) (by
   cases q:H b with
   | none=>rfl
   | some u=>
    have e':b=a:=hA b (by rw[q];simp)
    subst e'
    rw[hK (by rw[q];simp)] at e;cases e)
  have hM:Mod K mg (df s₁.heap H):=⟨hKb,nsK hns,⟨mb,nsK hb,hbb⟩,let ⟨mc,h1,h2⟩:=hlim;⟨mc,nsK h1,h2⟩⟩
  have e0:Env0 P w K mg (df s₁.heap H) callerA [] s₁ H:=⟨rfl,hM,fun b o e=>qw e,Nat.le_of_eq (qu _ _),trivial,fun b hb=>absurd (show b∈([]:List Addr) from hb) (by simp),hok,.of_eq hg⟩
  refine codeAny_mono ((F _ hKb (nsK hns)).run callerA [] s₁ H ⟨[.ref a],[]⟩ [.ref a] [.ref a] _ _ hr e0 (hbind s₁ (.ref a)) (.cons rfl .nil) (hsp H hO hS)) fun r s' h=>?_
  cases r with
  | error e=>exact (hCX H e s' h).elim
  | ok fl=>
   cases fl with
   | next=>exact False.elim h
   | brk=>exact False.elim h
   | cont=>exact False.elim h
   | ret u=>
    obtain⟨v,H',os,bare,un,hok',r',q⟩:=h
    have q':v=.bl true:=q
    subst q'
    obtain rfl:u=Value.bool true:=r'
    refine⟨rfl,OldK.of_keep fun b o e=>?_,os,bare⟩
    cases q:H b with
    | none=>exact un.keep b o e q (by intro z;exact absurd (show b∈([]:List Addr) from z) (by simp)) (by simp)
    | some u=>
     rcases hO b with z | ⟨ob,xs,z⟩
     ·rw[q] at z;cases z
     ·have z2:=un.frzs b ob _ z
      obtain⟨e1,_⟩:=hok b _ z
      obtain⟨e2,_⟩:=hok' b _ z2
      rw[e] at e1;cases e1
      exact e2
 cases hk:K.lookup a with
 | some o=>
  -- the script is one of the module's own objects
  have e:=KX a o hk
  rw[ha] at e
  cases e
  refine core (fun _=>none) (fun _=>.inl rfl) (.inr ⟨_,vs.toArray,_,hk,rfl,rfl,rfl,by rw[List.size_toArray,lenV];exact hl,by simpa using rv⟩) (fun b u z=>by have z':(none:Option HO)=some u:=z;cases z') (fun b z=>absurd rfl z) fun z=>absurd rfl z
 | none=>
  refine core (fun b=>if b=a then some (.frz { cls:=.type "list",data:=.seq vs.toArray } (.lst (ns.map V.int))) else none) (fun b=>?_) (.inl (.inr ⟨{ cls:=.type "list",data:=.seq vs.toArray },if_pos rfl⟩)) (fun b u z=>?_) (fun b z=>?_) fun _=>hk
  ·by_cases hb:b=a
   ·exact .inr ⟨_,_,if_pos hb⟩
   ·exact .inl (if_neg hb)
  ·by_cases hb:b=a
   ·have z':=(if_pos hb).symm.trans z
    cases z'
    subst hb
    exact⟨ha,by rw[List.length_map];exact hl,vs,_,rv,ha⟩
   ·have z':=(if_neg hb).symm.trans z
    cases z'
  ·by_cases hb:b=a
   ·exact hb
   ·exact absurd (if_neg hb) z
end L2
namespace L2
open PySem PySem.Spec PyProof.Rows
theorem tX {l:PySem.W.OpenLaw}{n k:Nat}{q:Program}{loose:List Str}{XP:(Str→Option Value)→Heap→Prop}{YP:World→Heap→Prop}{d:DefRec}{K:Params→PySem.W.Frag}{CX:World→CXT}{sp:World→Sp}{x:Str}
  (hn:l.most=some n) (hn2:n≤sizeLine) (hdf:d.params.defaults=[]) (hr:Room k callerA)
  (hY:∀ (w:World) (h:Heap),YP w h→(K w.params).In h)
  (F:∀ (w:World) (mg:Str→Option Value) (fa:Addr) (h:Heap),(K w.params).In h→h.Ns mainGlobals mg→mg d.name=some (.ref fa)→
   ∃ fd:FuncData,(∀ (s:Shared) (u:Value),BindsTo s fd ⟨[u],[]⟩ [(x,u)])∧
    ∀ base:Heap,(K w.params).In base→base.Ns mainGlobals mg→FnOk l.prog w (K w.params) mg base (CX w) k fa fd [x] (sp w))
  (hsp:∀ (w:World) (H:Hp) (a:Addr) (ns:List Int),ns.length≤n→gY H→SqL (K w.params) H a (ns.map V.int)→sp w [.ref a] H (fun v _=>v=.bl true) fun _ _ _=>False)
  (hCX:∀ (w:World) (H:Hp) (s:Shared) (e:Value) (s':Shared),CX w [] H s (fun _ _ _=>False) e s'→False):
  PySem.W.WalkO q loose XP YP l.row.toRowW d [] (fun f vs=>PySem.call f vs):=by
 refine Att.attach_call hn hdf fun w s₀ s₁ mg mb fa o pm cd doc a vs ns G Y ho hd hcd hmg hobj hints hlen hg=>?_
 have KX:=hY w _ Y
 obtain⟨fd,hb,hF⟩:=F w mg fa _ KX G.T.g hmg
 exact tW KX G.T.g G.T.b G.T.builtins G.T.nolimit hg hobj hints (Nat.le_trans hlen hn2) hr hF hb (fun H hO hS=>hsp w H a ns hlen hO hS) fun H e s'=>hCX w H s₁ e s'
end L2
namespace L2
open PySem PySem.Spec PyProof.Rows
noncomputable def bH (s:Stmt):Arguments:=match s with
 | .FunctionDef _ a _ _ _ _ _ _ _ _=>a
 | _=>{ posonlyargs:=[],args:=[],vararg:=none,kwonlyargs:=[],kw_defaults:=[],kwarg:=none,defaults:=[] }
noncomputable def bw (s:Stmt):List Stmt:=match s with
 | .FunctionDef _ _ b _ _ _ _ _ _ _=>b
 | _=>[]
noncomputable def ay (s:Stmt):Scope:=match s with
 | .FunctionDef _ _ _ _ _ _ sc _ _ _=>sc
 | _=>{ kind:=.function,names:=[],isGenerator:=false,isCoroutine:=false }
noncomputable abbrev CX0:CXT:=fun _ _ _ _ _ _=>False
noncomputable abbrev E0:XK:=fun _ _ _=>False
theorem tY {X:Cx}:jc CX0 X E0:=fun _ _ _ _ _ _ _ h=>h.elim
structure Fun (K:PySem.W.Frag) (x qual:Str) (st:Stmt) (f:Addr) (fd:FuncData):Prop where
 ex:∃ (oc:Value) (od:Option Addr) (kV doc pm:Value) (an:Option Addr) (cdv ct:Value) (osl:Array (Option Value)),
  fd=PySem.W.fnOf x qual (bH st) (bw st) (ay st) .none kV doc pm an cdv ct∧K.lookup f=some ⟨oc,od,.func fd,osl⟩∧PySem.W.codeIn K cdv qual=true
 kp:PySem.W.keepIn K (.ref f)=true
section
variable {P:Program}{w:World}{K:PySem.W.Frag}{mg:Str→Option Value}{base:Heap}
theorem Fun.ok {x qual:Str}{st:Stmt}{f:Addr}{fd:FuncData}{N ps:List Str}{k:Nat}{sp:Sp} (F:Fun K x qual st f fd) (S:FnScope N ps (ay st)) (len:∀ vs H Q E,sp vs H Q E→vs.length=ps.length)
  (hbody:∀ (cdv:Value) (A:Around) (outer:List Env) (s:Shared) (H:Hp) (vs:List V) (Q:VK) (E:XK),Room k (A.deeper (envOfC qual (ay st) s.heap.objs.size f cdv))→sp vs H Q E→
   ∃ t,PSs (d7 CX0 P w K mg base N qual (ay st) f cdv A outer s H E).nox (bw st) t∧t { nx:=fun _ H'=>Q .non H',rt:=Q } (cU N vs) H):FnOk P w K mg base CX0 (k+1) f fd ps sp:=by
 obtain⟨oc,od,kV,doc,pm,an,cdv,ct,osl,rfl,lk,hcd⟩:=F.ex
 refine sk lk hcd S len fun A outer s H vs Q E hr hsp=>?_
 obtain⟨t,h,q⟩:=hbody cdv A outer s H vs Q E hr hsp
 exact⟨t,h.nox,q⟩
theorem Fun.binds {x qual:Str}{st:Stmt}{f:Addr}{fd:FuncData}{ps:List Str} (F:Fun K x qual st f fd)
  (h:∀ (kV doc pm:Value) (an:Option Addr) (cdv ct:Value) (us:List Value),us.length=ps.length→bindArgs (PySem.W.fnOf x qual (bH st) (bw st) (ay st) .none kV doc pm an cdv ct) ⟨us,[]⟩=pure (ps.zip us)):bh K fd ps []:=by
 obtain⟨oc,od,kV,doc,pm,an,cdv,ct,osl,rfl,lk,hcd⟩:=F.ex
 exact .all (h kV doc pm an cdv ct)
theorem cG {x qual:Str}{st:Stmt}{f:Addr}{oc:Value}{od an:Option Addr}{osl:Array (Option Value)}{kV doc pm cdv ct:Value} (l:K.lookup f=some ⟨oc,od,.func (PySem.W.fnOf x qual (bH st) (bw st) (ay st) .none kV doc pm an cdv ct),osl⟩)
  (c:PySem.W.codeIn K cdv qual=true) (k:PySem.W.keepIn K (.ref f)=true):Fun K x qual st f (PySem.W.fnOf x qual (bH st) (bw st) (ay st) .none kV doc pm an cdv ct):=⟨⟨oc,od,kV,doc,pm,an,cdv,ct,osl,rfl,l,c⟩,k⟩
end
section
variable {X:Cx}
theorem pv (i:Nat) {x:Str}{pos:Pos} (hN:X.N[i]?=some x:=by rfl) (hv:Vis X.env.scope x:=by first | exact Or.inl rfl | exact Or.inr (Or.inl rfl) | exact Or.inr (Or.inr rfl)) (hd:(x == ("__debug__" : Str))=false:=by decide)
  (hcd:(x == ("__classdict__" : Str))=false:=by decide):PE X (.Name x pos) (dz i):=qz hN hv hd hcd
end
noncomputable def ap (H H':Hp):Prop:=∀ b o,H b=some o→H' b=some o
theorem ap.refl (H:Hp):ap H H:=fun _ _ h=>h
theorem ap.trans {H H1 H2:Hp} (a:ap H H1) (b:ap H1 H2):ap H H2:=fun c o h=>b c o (a c o h)
theorem ap.free {H H':Hp} (e:ap H H') {l:Addr} (h:H' l=Option.none):H l=Option.none:=by
 cases q:H l with
 | none=>rfl
 | some o=>
  rw[e l o q] at h
  cases h
end L2
namespace L2
section
variable {X:Cx}
theorem tZ:aP X (.builtin "len") (fun xs H Q=>∃ a kvs,xs=[V.ref a]∧H a=some (.dK kvs)∧Q (.int kvs.length) H):=by
 intro pins s σ H xs us Q I r h
 obtain⟨a,kvs,rfl,ha,q⟩:=h
 obtain⟨u,rfl,ru⟩:=cx r
 cases ru
 exact tH I (.inl ha) fun t s' I'=>⟨.int kvs.length,H,I',⟨t,rfl⟩,q⟩
end
section
variable {κ:Type} [DecidableEq κ]
end
end L2
namespace L2
open PySem PySem.Spec PyProof.Rows
theorem mh {prog:Program}{w:World}{A:Around}{R:Result→Shared→Prop}{s:Shared}{elt target iter:Expr}{ifs:List Expr}{scope:Scope}{pos:Pos}{it acc:Value}{env:Env} (I:Nat→Shared→Prop)
  (turn:∀ n s,I n s→wpAny (model prog w) A (pyNext it) (fun r s₁=>match r with
   | none=>R (.ok .next) s₁
   | some v=>wpAny (model prog w) A (letOwnedTupleGo target it v) (fun _ s₁=>wpAny (model prog w) A (assign target env v) (fun _ s₂=>
     wpAny (model prog w) A (forIn ifs true fun c r=>if r=true then do let ok ← isTrue c env (eval c env);pure (ForInStep.yield ok) else pure (ForInStep.yield r)) (fun ok s₃=>
      if ok=true then wpAny (model prog w) A (eval elt env) (fun x s₄=>
       wpAny (model prog w) A (call (.builtin "list.append") [acc,x]) (fun _ s₅=>∃ m,m<n∧I m s₅) (fun _ _=>False) s₄) (fun _ _=>False) s₃
      else ∃ m,m<n∧I m s₃) (fun _ _=>False) s₂) (fun _ _=>False) s₁) (fun _ _=>False) s₁) (fun _ _=>False) s)
  (n:Nat) (h:I n s):
  codeAny (model prog w) A (.compLoop (.ListComp elt [⟨target,iter,ifs,0⟩] scope pos) 0 it acc env) R s:=by
 refine codeAny_loop rfl I (fun n s hI=>?_) n h
 show wpAny _ A ((compTurn (.ListComp elt [⟨target,iter,ifs,0⟩] scope pos) 0 it acc env).onRaise (fun x=>do noteFrame x env;theTreesLotGoes x)) _ _ s
 refine wpAny_noted ?_
 rw[compTurn_list]
 refine wpAny_bind (wpAny_standAt (wpAny_bind (wpAny_mono (turn n s hI) (fun r s₁ h₁=>?_) fun _ _ h'=>h'.elim)))
 cases r with
 | none=>exact wpAny_pure h₁
 | some v=>
  refine wpAny_bind (wpAny_mono h₁ (fun _ s₁ h₁=>?_) fun _ _ h'=>h'.elim)
  refine wpAny_bind (wpAny_mono h₁ (fun _ s₂ h₂=>wpAny_bind (wpAny_mono h₂ (fun ok s₃ h₃=>?_) fun _ _ h'=>h'.elim)) fun _ _ h'=>h'.elim)
  cases ok with
  | false=>exact wpAny_pure ⟨rfl,h₃⟩
  | true=>
   exact wpAny_bind (wpAny_bind (wpAny_mono h₃ (fun x s₄ h₄=>wpAny_bind (wpAny_mono h₄ (fun _ s₅ h₅=>wpAny_pure (wpAny_pure ⟨rfl,h₅⟩)) fun _ _ h'=>h'.elim)) fun _ _ h'=>h'.elim))
noncomputable def cV (env:Env) (names:List (Str×NameKind)):List (Str×Addr):=names.foldl (fun cs y=>if y.2 == .free then (y.1,(env.cells.lookup y.1).getD 0)::cs else cs) []
theorem jh {env:Env}:∀ (names:List (Str×NameKind)) (cs:List (Str×Addr)),(∀ y∈names,y.2=.free→∃ c,env.cells.lookup y.1=some c)→
  (forIn names cs fun (y:Str×NameKind) cs=>if y.2 == .free then (do let c ← cellOf env y.1;pure (ForInStep.yield ((y.1,c)::cs))) else pure (ForInStep.yield cs):Sem _)=
   pure (names.foldl (fun cs y=>if y.2 == .free then (y.1,(env.cells.lookup y.1).getD 0)::cs else cs) cs)
 | [],cs,_=>rfl
 | y::r,cs,h=>by
  rw[List.forIn_cons,List.foldl_cons]
  by_cases hy:y.2=.free
  ·obtain⟨c,hc⟩:=h y List.mem_cons_self hy
   have e:(y.2 == NameKind.free)=true:=by simp[hy]
   rw[if_pos e,if_pos e]
   have ec:cellOf env y.1=pure c:=by unfold cellOf;rw[hc]
   rw[ec,hc]
   show (forIn r ((y.1,c)::cs) _:Sem _)=_
   exact jh r _ fun z hz=>h z (List.mem_cons_of_mem _ hz)
  ·have e:¬ (y.2 == NameKind.free)=true:=by simp[hy]
   rw[if_neg e,if_neg e]
   show (forIn r cs _:Sem _)=_
   exact jh r _ fun z hz=>h z (List.mem_cons_of_mem _ hz)
theorem mo {env:Env}{scope:Scope} (h:∀ y∈scope.names,y.2=.free→∃ c,env.cells.lookup y.1=some c):closureFor scope env=pure (cV env scope.names):=by
 have:=jh (env:=env) scope.names [] h
 unfold closureFor
 dsimp only
 have e:(forIn scope.names ([]:List (Str×Addr)) (fun (x:Str×NameKind) (r:List (Str×Addr))=>(if x.2 == .free then (do let c ← cellOf env x.1;pure (ForInStep.yield ((x.1,c)::r))) else pure (ForInStep.yield r):Sem (ForInStep (List (Str×Addr))))))=pure (cV env scope.names):=this
 rw[e]
 rfl
theorem mq {env:Env}:∀ (names:List (Str×NameKind)) (cs:List (Str×Addr)) (x:Str) (c:Addr),
  (names.foldl (fun cs y=>if y.2 == .free then (y.1,(env.cells.lookup y.1).getD 0)::cs else cs) cs).lookup x=some c→
  (c=(env.cells.lookup x).getD 0∧(x,NameKind.free)∈names)∨cs.lookup x=some c
 | [],cs,x,c,h=>.inr h
 | y::r,cs,x,c,h=>by
  rw[List.foldl_cons] at h
  rcases mq r _ x c h with ⟨e,m⟩ | h
  ·exact .inl ⟨e,List.mem_cons_of_mem _ m⟩
  ·by_cases hy:y.2=.free
   ·rw[if_pos (by simp[hy])] at h
    rw[List.lookup_cons] at h
    by_cases hx:x=y.1
    ·subst hx
     rw[beq_self_eq_true] at h
     refine .inl ⟨(Option.some.inj h).symm,?_⟩
     rw[← hy]
     exact List.mem_cons_self
    ·have:(x == y.1)=false:=by simpa using hx
     rw[this] at h
     exact .inr h
   ·rw[if_neg (by simp[hy])] at h
    exact .inr h
theorem ji {env:Env}:∀ (names:List (Str×NameKind)) (cs:List (Str×Addr)) (x:Str),(x,NameKind.free)∈names∨(∃ c,cs.lookup x=some c)→
  ∃ c,(names.foldl (fun cs y=>if y.2 == .free then (y.1,(env.cells.lookup y.1).getD 0)::cs else cs) cs).lookup x=some c
 | [],cs,x,h=>by
  rcases h with h | h
  ·cases h
  ·exact h
 | y::r,cs,x,h=>by
  rw[List.foldl_cons]
  apply ji r _ x
  rcases h with h | ⟨c,h⟩
  ·rcases List.mem_cons.mp h with e | h
   ·right
    subst e
    rw[if_pos (by rfl),List.lookup_cons,beq_self_eq_true]
    exact⟨_,rfl⟩
   ·exact .inl h
  ·right
   by_cases hy:(y.2 == NameKind.free)=true
   ·rw[if_pos hy,List.lookup_cons]
    cases x == y.1
    ·exact⟨c,h⟩
    ·exact⟨_,rfl⟩
   ·rw[if_neg hy]
    exact⟨c,h⟩
structure Blk where
 C:Addr
 s:Shared
 H:Hp
 fp:List Addr
noncomputable def Cx.blk (X : Cx) (N' : List Str) (scope : Scope) (Y : Blk) : Cx :=
  { prog := X.prog, w := X.w, K := X.K, mg := X.mg, base := X.base, A := X.A, N := N', s₀ := Y.s, H₀ := Y.H, env := compEnvC scope (cV X.env scope.names) Y.C X.env, outer := X.stack, stack := X.stack,
    ex := Y.fp, fn := fun _ => false, calm := X.calm, pn := [], xe := fun _ _ => False }
end L2
namespace L2
open PySem PySem.Spec PyProof.Rows
theorem jj {env:Env}:∀ {names:List (Str×NameKind)}{x:Str}{k:NameKind},
  (names.map fun (n,k)=>if (k == NameKind.free && env.scope.kind == .function && env.kindOf n == some .cell) then (n,NameKind.cell) else (n,k)).lookup x=some k→
  (k=.cell∨k=.free)→(∀ y∈names,y.2≠.cell)→(x,NameKind.free)∈names
 | [],x,k,h,_,_=>by simp at h
 | (n,k')::r,x,k,h,hk,hc=>by
  rw[List.map_cons] at h
  dsimp only at h
  by_cases hx:x=n
  ·subst hx
   by_cases hf:(k' == NameKind.free && env.scope.kind == .function && env.kindOf x == some .cell)=true
   ·have:k'=NameKind.free:=by
     simp only[Bool.and_eq_true] at hf
     exact by simpa using hf.1.1
    subst this
    exact List.mem_cons_self
   ·simp only[hf] at h
    have e:k'=k:=by simpa [List.lookup_cons] using h
    subst e
    rcases hk with hk | hk
    ·exact absurd hk (hc (x,k') List.mem_cons_self)
    ·rw[hk]
     exact List.mem_cons_self
  ·have hb:(x == n)=false:=by simpa using hx
   have h':(r.map fun (n,k)=>if (k == NameKind.free && env.scope.kind == .function && env.kindOf n == some .cell) then (n,NameKind.cell) else (n,k)).lookup x=some k:=by
    by_cases hf:(k' == NameKind.free && env.scope.kind == .function && env.kindOf n == some .cell)=true
    ·rw[if_pos hf,List.lookup_cons,hb] at h
     exact h
    ·rw[if_neg hf,List.lookup_cons,hb] at h
     exact h
   exact List.mem_cons_of_mem _ (jj h' hk fun y hy=>hc y (List.mem_cons_of_mem _ hy))
section
variable {X:Cx}
structure CompScope (X:Cx) (scope:Scope) (own:List Str) (caps:List Nat):Prop where
 kind:scope.kind=.function
 cell:∀ y∈scope.names,y.2≠.cell
 free:∀ y∈scope.names,y.2=.free→X.env.scope.names.lookup y.1=some .cell
 loc:∀ y∈scope.names,y.2=.local→scope.names.lookup y.1=some .local
 capF:∀ i∈caps,∃ x,X.N[i]?=some x∧(x,NameKind.free)∈scope.names∧scope.names.lookup x=some .free
noncomputable def bz (X:Cx) (own:List Str) (caps:List Nat):List Str:=own++caps.map fun i=>X.N.getD i ""
noncomputable def ci (own:List Str) (caps:List Nat) (σ:St):St:=own.map (fun _=>none)++caps.map fun i=>σ.getD i none
theorem CompScope.cells {scope:Scope}{own:List Str}{caps:List Nat} (S:CompScope X scope own caps) (ok:X.Ok):∀ y∈scope.names,y.2=.free→∃ c,X.env.cells.lookup y.1=some c:=
 fun y hy hf=>ok.has y.1 (.inl (S.free y hy hf))
theorem CompScope.sub {scope:Scope}{own:List Str}{caps:List Nat} (S:CompScope X scope own caps) (ok:X.Ok) {x:Str}{c:Addr} (h:(cV X.env scope.names).lookup x=some c):X.env.cells.lookup x=some c∧(x,NameKind.free)∈scope.names:=by
 rcases mq scope.names [] x c h with ⟨e,m⟩ | h
 ·obtain⟨c',e'⟩:=S.cells ok (x,.free) m rfl
  rw[show (List.lookup x X.env.cells)=some c' from e'] at e
  refine⟨?_,m⟩
  rw[e]
  exact e'
 ·simp at h
theorem jl {scope:Scope}{own:List Str}{caps:List Nat}{pins:List (Addr×Obj)}{σ:St}{H:Hp}{s:Shared}{C:Addr}{fp:List Addr} (S:CompScope X scope own caps) (I:Inv X pins σ H s) (hC:s.heap.objs.size≤C)
  (hf:∀ b∈fp,bv X pins H b) (hlt:∀ b∈fp,b<s.heap.objs.size):(X.blk (bz X own caps) scope ⟨C,s,H,fp⟩).Ok where
 mod:=I.ok.mod
 kind:=S.kind
 glob:=I.ok.glob
 blt:=I.ok.blt
 above:=hC
 inj:=fun x y c h1 h2=>I.ok.inj x y c (S.sub I.ok h1).1 (S.sub I.ok h2).1
 has:=fun x hx=>by
  have m:(x,NameKind.free)∈scope.names:=by
   rcases hx with hx | hx
   ·exact jj hx (.inl rfl) S.cell
   ·exact jj hx (.inr rfl) S.cell
  exact ji scope.names [] x (.inl m)
 cab:=fun x c h _=>nomatch h
 hd:=I.ok.hd
 frames:=I.ok.frames
 stk:=.inl rfl
 exf:=fun b hb=>⟨Nat.ne_of_lt (Nat.lt_of_lt_of_le (hlt b hb) hC),fun x c h=>(hf b hb).2.2.2.2.1 x c (S.sub I.ok h).1⟩
 bs:=I.bs
 bsz:=Nat.le_trans I.ok.bsz I.sz
 noex:=fun b o e hb=>by
  rcases (hf b hb).2.2.2.1 with z | z
  ·exact I.ok.noex b o e z
  ·exact absurd (Nat.lt_of_lt_of_le (Heap.lt_size e) (Nat.le_trans I.ok.bsz z)) (Nat.lt_irrefl _)
 exfs:=fun b hb z=>by
  rcases List.mem_cons.mp (I.stkSub b z) with e | e
  ·exact (hf b hb).2.1 e
  ·exact (hf b hb).2.2.1 e
 funs:=I.stack
 frf:=I.stkFree
theorem mr {scope:Scope}{own:List Str}{caps:List Nat}{pins:List (Addr×Obj)}{σ:St}{H:Hp}{s:Shared}{C:Addr}{fp:List Addr}{h1:Heap}{tk:Nat}{m:Str→Option Value} (S:CompScope X scope own caps) (I:Inv X pins σ H s)
  (hC:s.heap.objs.size≤C) (hf:∀ b∈fp,bv X pins H b) (hlt:∀ b∈fp,b<s.heap.objs.size) (old:∀ b o,s.heap.get? b=some o→h1.get? b=some o) (hn:h1.Ns C m):
  Inv (X.blk (bz X own caps) scope ⟨C,s,H,fp⟩) [] (ci own caps σ) H { s with heap:=h1,toks:=tk } where
 ok:=jl S I hC hf hlt
 os:=rfl
 bare:=I.bare
 base:=Un.kept old
 loc:=by
  obtain⟨m0,hn0,hl0⟩:=I.loc
  refine⟨m,hn,fun j x v e1 e2 hv=>?_⟩
  have e1:(own++caps.map fun i=>X.N.getD i "")[j]?=some x:=e1
  have e2:(own.map (fun _=>(none:Option V))++caps.map fun i=>σ.getD i none)[j]?=some (some v):=e2
  by_cases hj:j<own.length
  ·rw[List.getElem?_append_left (by rw[List.length_map];exact hj),List.getElem?_map] at e2
   cases q:own[j]? with
   | none=>rw[q] at e2;cases e2
   | some z=>rw[q] at e2;cases e2
  ·rw[List.getElem?_append_right (by omega),List.getElem?_map] at e1
   rw[List.getElem?_append_right (by rw[List.length_map];omega),List.getElem?_map,List.length_map] at e2
   cases q:caps[j - own.length]? with
   | none=>rw[q] at e1;cases e1
   | some i=>
    rw[q] at e1 e2
    have e1:X.N.getD i "" = x:=Option.some.inj e1
    have e2:σ.getD i none=some v:=Option.some.inj e2
    obtain⟨x',hx',hm,hlk⟩:=S.capF i (List.mem_of_getElem? q)
    have ex:x'=x:=by
     rw[← e1,List.getD_eq_getElem?_getD,hx']
     rfl
    subst ex
    have hs:σ[i]?=some (some v):=by
     rw[List.getD_eq_getElem?_getD] at e2
     cases q2:σ[i]? with
     | none=>rw[q2] at e2;cases e2
     | some z=>rw[q2] at e2;rw[show z=some v from e2]
    have hcel:=S.free (x',.free) hm rfl
    obtain⟨u,r,lk⟩:=hl0 i x' v hx' hs (.inr (.inl hcel))
    refine⟨u,r,.inr ⟨?_,?_⟩⟩
    ·rcases hv with hv | hv | hv
     ·-- local in the block: it is free
      exfalso
      have:∀ {names:List (Str×NameKind)},names.lookup x'=some .free→(names.map fun (n,k)=>if (k == NameKind.free && X.env.scope.kind == .function && X.env.kindOf n == some .cell) then (n,NameKind.cell) else (n,k)).lookup x'≠some .local:=by
       intro names
       induction names with
       | nil=>intro h;simp at h
       | cons y r ih=>
        obtain⟨n,k⟩:=y
        intro h
        rw[List.map_cons]
        dsimp only
        by_cases hx:x'=n
        ·subst hx
         have ek:k=.free:=by simpa [List.lookup_cons] using h
         subst ek
         by_cases hq:(NameKind.free == NameKind.free && X.env.scope.kind == ScopeKind.function && X.env.kindOf x' == some NameKind.cell)=true
         ·rw[if_pos hq];simp[List.lookup_cons]
         ·rw[if_neg hq];simp[List.lookup_cons]
        ·have hb:(x' == n)=false:=by simpa using hx
         rw[List.lookup_cons,hb] at h
         by_cases hq:(k == NameKind.free && X.env.scope.kind == ScopeKind.function && X.env.kindOf n == some NameKind.cell)=true
         ·rw[if_pos hq,List.lookup_cons,hb];exact ih h
         ·rw[if_neg hq,List.lookup_cons,hb];exact ih h
      exact this hlk hv
     ·exact .inl hv
     ·exact .inr hv
    ·rcases lk with ⟨hk,_⟩ | ⟨_,c,hc,hcell⟩
     ·exact absurd (hk.symm.trans hcel) (by simp)
     ·obtain⟨c',hc'⟩:=ji (env:=X.env) scope.names [] x' (.inl hm)
      have:=(S.sub I.ok hc').1
      rw[hc] at this
      cases this
      obtain⟨o,ho,hd⟩:=hcell
      exact⟨c,hc',o,old _ _ ho,hd⟩
 cell:=fun x c h=>by
  obtain⟨v,o,ho,hd⟩:=I.cell x c (S.sub I.ok h).1
  exact⟨v,o,old _ _ ho,hd⟩
 free:=I.hok.fresh hC
 freeC:=fun x c h=>I.freeC x c (S.sub I.ok h).1
 pin:=fun p hp=>nomatch hp
 hok:=I.hok.kept old
 len:=by simp[ci,bz,Cx.blk]
end
end L2
namespace L2
open PySem PySem.Spec PyProof.Rows
section
variable {X:Cx}
noncomputable def PTs (X:Cx) (ifs:List Expr) (t:TT):Prop:=
 ∀ (pins:List (Addr×Obj)) (s:Shared) (σ:St) (H:Hp) (Q:Bool→Hp→Prop),Inv X pins σ H s→t σ H Q→
  wpAny (model X.prog X.w) X.A (forIn ifs true fun c r=>if r=true then do let ok ← isTrue c X.env (eval c X.env);pure (ForInStep.yield ok) else pure (ForInStep.yield r)) (TP X pins σ Q) X.xe s
noncomputable def tYes:TT:=fun _ H Q=>Q true H
theorem t5:PTs X [] tYes:=fun pins s σ H Q I h=>wpAny_tests_nil ⟨H,I,h⟩
theorem t7 {c:Expr}{t:TT} (h:PT X c t):PTs X [c] t:=fun pins s σ H Q I hw=>wpAny_tests_one (h pins s σ H Q I hw)
noncomputable def t9 (own:List Str) (caps:List Nat) (g:TG) (tt:TT) (te:TE) (σ:St) (N:List V→Hp→Prop) (ys:List V) (x:V) (H':Hp):Prop:=
 g x (ci own caps σ) H' fun σ2 H2=>(∀ (j:Nat) (v:V),(ci own caps σ)[j]?=some (some v)→σ2[j]?=some (some v))∧tt σ2 H2 fun b H3=>if b=true then te σ2 H3 fun v H4=>ys.length<sizeLine∧N (ys++[v]) H4 else N ys H3
noncomputable def ua (J:It) (own:List Str) (caps:List Nat) (g:TG) (tt:TT) (te:TE) (σ:St) (H1:Hp) (Q:VK):Prop:=
 ∃ W:Nat→Nat→List V→Hp→Prop,(∃ m,W 0 m [] H1)∧∀ i m ys H,W i m ys H→(J.stop i H∧∀ D,H D=none→Q (.ref D) (upd H D (.lst ys)))∨
  (J.go i H∧∃ N:List V→Hp→Prop,(∀ ys' H',N ys' H'→∃ m',m'<m∧W (i+1) m' ys' H')∧∀ x H',J.yld i H x H'→t9 own caps g tt te σ N ys x H')
noncomputable def jm (own:List Str) (caps:List Nat) (wi:TI) (g:Blk→TG) (tt:Blk→TT) (te:Blk→TE):TE:=fun σ H Q=>wi σ H fun J H1=>∀ Y:Blk,ua J own caps (g Y) (tt Y) (te Y) σ H1 Q
noncomputable def mv (sc:Scope) (N:List Str) (scope:Scope) (caps:List Nat):Bool:=
 scope.kind == .function && scope.names.all (fun y=>y.2 != .cell) && scope.names.all (fun y=>y.2 != .free || sc.names.lookup y.1 == some .cell) && scope.names.all (fun y=>y.2 != .local || scope.names.lookup y.1 == some .local) &&
  caps.all (fun i=>match N[i]? with | some x=>scope.names.lookup x == some .free | none=>false)
theorem mem_of_lookup:∀ {l:List (Str×NameKind)}{x:Str}{k:NameKind},l.lookup x=some k→(x,k)∈l
 | [],_,_,h=>by simp at h
 | (n,k')::r,x,k,h=>by
  rw[List.lookup_cons] at h
  by_cases hx:x=n
  ·subst hx
   rw[beq_self_eq_true] at h
   cases h
   exact List.mem_cons_self
  ·rw[show (x == n)=false by simpa using hx] at h
   exact List.mem_cons_of_mem _ (mem_of_lookup h)
theorem ed {X:Cx}{scope:Scope}{own:List Str}{caps:List Nat} (sc:Scope) (N:List Str) (h:mv sc N scope caps=true) (e:X.env.scope=sc:=by rfl) (eN:X.N=N:=by rfl):CompScope X scope own caps:=by
 unfold mv at h
 simp only[Bool.and_eq_true,List.all_eq_true,bne_iff_ne,ne_eq,Bool.or_eq_true,beq_iff_eq] at h
 obtain⟨⟨⟨⟨h1,h2⟩,h3⟩,h4⟩,h5⟩:=h
 refine⟨h1,h2,fun y hy hf=>?_,fun y hy hf=>?_,fun i hi=>?_⟩
 ·rw[e]
  exact (h3 y hy).resolve_left fun z=>z hf
 ·exact (h4 y hy).resolve_left fun z=>z hf
 ·have:=h5 i hi
  rw[eN]
  cases q:N[i]? with
  | none=>rw[q] at this;cases this
  | some x=>
   rw[q] at this
   have hl:scope.names.lookup x=some .free:=by simpa using this
   exact⟨x,rfl,mem_of_lookup hl,hl⟩
theorem uc {tg iter elt:Expr}{ifs:List Expr}{scope:Scope}{pos:Pos}{own:List Str}{caps:List Nat}{wi:TI}{g:Blk→TG}{tt:Blk→TT}{te:Blk→TE}
  (hc:X.calm=true) (S:CompScope X scope own caps) (hi:PI X tg iter wi)
  (hg:∀ Y,PG (X.blk (bz X own caps) scope Y) tg (g Y)) (ht:∀ Y,PTs (X.blk (bz X own caps) scope Y) ifs (tt Y)) (he:∀ Y,PE (X.blk (bz X own caps) scope Y) elt (te Y))
  (hs:∀ x,foldedSetIterable iter X.env x=pure x:=by intro _;rfl):PE X (.ListComp elt [⟨tg,iter,ifs,0⟩] scope pos) (jm own caps wi g tt te):=by
 intro pins s σ H Q I h
 rw[eval_ListComp]
 refine wpAny_comprehension_free (use:=none) rfl hs (mo (S.cells I.ok)) S.kind S.loc (thn (hi pins s σ H _ I h) fun v s1 h1=>thn h1 fun itv s2 h2=>?_)
 obtain⟨it,fp,tn,J,H2,e,I2,T,st2,f2,hW⟩:=h2
 subst e
 have hlt:∀ b∈fp,b<s2.heap.objs.size:=fun b hb=>by
  obtain⟨o,e,_⟩:=T.obj _ _ st2 b hb
  exact Heap.lt_size e
 refine wpAny_newObj_type (wpAny_newFunctionEnv S.cell (by intro y hy;simp at hy) (fun h₁ hns₁ hsb₁=>?_) S.kind)
 dsimp only at hns₁ hsb₁ ⊢
 generalize hHq:s2.heap.push { cls:=.type "list",dict:=none,data:=.seq ([]:List Value).toArray }=Hq at hns₁ hsb₁ ⊢
 have hC:Hq.objs.size=s2.heap.objs.size+1:=by rw[← hHq,Heap.size_push]
 have hDC:s2.heap.objs.size≠Hq.objs.size:=by rw[hC];exact Nat.ne_of_lt (Nat.lt_succ_self _)
 have hCle:s2.heap.objs.size≤Hq.objs.size:=by rw[hC];exact Nat.le_succ _
 have old:∀ b o,s2.heap.get? b=some o→h₁.get? b=some o:=fun b o e=>
  hsb₁.extBut b o (by rw[hC];exact Nat.ne_of_lt (Nat.lt_succ_of_lt (Heap.lt_size e))) (Heap.get?_push_of_some _ (hHq ▸ Heap.get?_push_of_some _ e))
 have hacc:h₁.get? s2.heap.objs.size=some { cls:=.type "list",data:=.seq ([]:List Value).toArray 0 }:=hsb₁.extBut _ _ hDC (Heap.get?_push_of_some _ (hHq ▸ Heap.get?_push_size _ rfl))
 generalize hCq:Hq.objs.size=C at hns₁ hsb₁ hC hDC hCle ⊢
 generalize hDq:s2.heap.objs.size=D at hacc hC hDC hCle ⊢
 have hCs:s2.heap.objs.size≤C:=by rw[hDq];exact hCle
 obtain⟨W,⟨m0,w0⟩,turn⟩:=hW ⟨C,s2,H2,fp⟩
 have hX':=fun (tk:Nat)=>mr (tk:=tk) S I2 hCs f2 hlt old hns₁
 have hgY:=hg ⟨C,s2,H2,fp⟩
 have htY:=ht ⟨C,s2,H2,fp⟩
 have heY:=he ⟨C,s2,H2,fp⟩
 have hok':=jl S I2 hCs f2 hlt
 generalize hX'q:X.blk (bz X own caps) scope ⟨C,s2,H2,fp⟩=X' at hX' hgY htY heY hok'
 have eP:X'.prog=X.prog:=by rw[← hX'q];rfl
 have ew:X'.w=X.w:=by rw[← hX'q];rfl
 have eK:X'.K=X.K:=by rw[← hX'q];rfl
 have eA:X'.A=X.A:=by rw[← hX'q];rfl
 have ec:X'.calm=true:=by rw[← hX'q];exact hc
 have eL:X'.env.locals=C:=by rw[← hX'q];rfl
 have eex:X'.ex=fp:=by rw[← hX'q];rfl
 have es0:X'.s₀=s2:=by rw[← hX'q];rfl
 have eH0:X'.H₀=H2:=by rw[← hX'q];rfl
 have efs:X'.fs=frs X.stack:=by rw[← hX'q];rfl
 have epn:X'.pn=[]:=by rw[← hX'q];rfl
 have exe:X'.xe=fun _ _=>False:=by rw[← hX'q];rfl
 have eenv:X'.env=compEnvC scope (cV X.env scope.names) C X.env:=by rw[← hX'q];rfl
 have ecell:∀ x c,X'.env.cells.lookup x=some c→X.env.cells.lookup x=some c:=fun x c h=>(S.sub I2.ok (by rw[eenv] at h;exact h)).1
 -- a cell is no new thing
 have nD:∀ x c,X'.env.cells.lookup x=some c→c≠D:=fun x c h z=>by
  obtain⟨v,o,ho,_⟩:=I2.cell x c (ecell x c h)
  have:=Heap.lt_size ho
  rw[z,← hDq] at this
  exact Nat.lt_irrefl _ this
 have fpD:∀ b∈fp,b≠D:=fun b hb z=>by
  have:=hlt b hb
  rw[z,← hDq] at this
  exact Nat.lt_irrefl _ this
 have fsD:D∉X'.fs:=fun z=>by
  obtain⟨_,o,ho,_⟩:=hok'.funs.mem z
  rw[es0] at ho
  have:=Heap.lt_size ho
  rw[hDq] at this
  exact Nat.lt_irrefl _ this
 have fpo:∀ (H':Hp) (o:Obj),(∀ b∈fp,H' b=none)→∀ b∈fp,bv X' [(D,o)] H' b:=fun H' o hn b hb=>by
  refine⟨hn b hb,?_,?_,.inl (by rw[eex];exact hb),fun x c h=>(f2 b hb).2.2.2.2.1 x c (ecell x c h),fun p hp=>?_⟩
  ·rw[eL]
   exact Nat.ne_of_lt (Nat.lt_of_lt_of_le (hlt b hb) hCs)
  ·exact hok'.exfs b (by rw[eex];exact hb)
  ·rw[epn] at hp
   have:p=(D,o):=by simpa using hp
   rw[this]
   exact Ne.symm (fpD b hb)
 have loop:∀ s₃:Shared,s₃={ s2 with heap:=h₁,toks:=s2.toks+([]:List (Str×Value)).length }→
   codeAny (model X.prog X.w) X.A (.compLoop (.ListComp elt [⟨tg,iter,ifs,0⟩] scope pos) 0 (.ref it) (.ref D) X'.env)
    (compPost (model X.prog X.w) X.A X.xe none (EP X pins σ Q) (.ref D) C) s₃:=by
  rintro s₃ rfl
  refine mh (fun n s'=>∃ (i:Nat) (ys:List V) (H':Hp) (its:List Value) (k:Nat),Inv X' [(D,{ cls:=.type "list",data:=.seq its.toArray k })] (ci own caps σ) H' s'∧ak ys its∧ys.length≤sizeLine∧tn i s'.heap∧
   (∀ b∈fp,H' b=none)∧W i n ys H') ?_ m0 ?_
  ·rintro n s3 ⟨i,ys,H3,its,k,I3,rv,hz,st3,fr3,w3⟩
   rcases turn i n ys H3 w3 with ⟨stop,qn⟩ | ⟨go,N,hN,step⟩
   ·have:=T.done X' eP ew eK ec i _ s3 _ H3 (fun _ _=>False) I3 (fpo H3 _ fr3) st3 stop
    rw[eA] at this
    refine thn this fun r s4 ⟨hr,I4⟩=>?_
    subst hr
    obtain⟨m,hn,_⟩:=I4.loc
    refine⟨m,by rw[← eL];exact hn,fun h' sb=>?_⟩
    have hp:=I4.pin (D,{ cls:=.type "list",data:=.seq its.toArray k }) (by rw[epn];simp)
    have hD0:H3 D=none:=hp.2.1
    have kp:∀ b,b≠C→h'.get? b=s4.heap.get? b:=fun b hb=>sb.2 b hb
    have nC:∀ b o,s2.heap.get? b=some o→b≠C:=fun b o e=>Nat.ne_of_lt (Nat.lt_of_lt_of_le (Heap.lt_size e) hCs)
    have nDs:∀ b o,s2.heap.get? b=some o→b≠D:=fun b o e=>by rw[← hDq];exact Nat.ne_of_lt (Heap.lt_size e)
    have ub:Un (frs X.stack) fp H2 H3 s2.heap s4.heap:=by
     have:=I4.base
     rw[efs,eex,eH0,es0] at this
     exact this
    have u:Un (frs X.stack) fp H2 (upd H3 D (.lst ys)) s2.heap h':=
     ⟨fun b o e n hb hx=>(kp b (nC b o e)).trans (ub.keep b o e n hb hx),
      fun b o e n hb hx=>by
      obtain⟨sl,q⟩:=ub.slot b o e n hb hx
      exact⟨sl,(kp b (nC b o e)).trans q⟩,
      fun b o e n hx=>by rw[ar (nDs b o e)];exact ub.free b o e n hx,
      fun b o e hx=>by
      obtain⟨o',q⟩:=ub.there b o e hx
      exact⟨o',(kp b (nC b o e)).trans q⟩,
      fun b xs e=>by rw[ar (bf (ub.tups b xs e) hD0)];exact ub.tups b xs e,
      fun b o xs e=>by rw[ar (bf (ub.frzs b o xs e) hD0)];exact ub.frzs b o xs e,
      fun b ps e=>by
      obtain⟨more,q⟩:=ub.tbls b ps e
      exact⟨more,by rw[ar (bf q hD0)];exact q⟩⟩
    have hokC:∀ b o,H3 b=some o→b≠C:=fun b o e z=>by
     have:=I4.free
     rw[eL,← z,e] at this
     cases this
    have hk:HOk X.prog X.w (upd H3 D (.lst ys)) h':=fun a o e=>by
     by_cases ha:a=D
     ·subst ha
      rw[aO] at e
      cases e
      exact⟨hz,its,k,rv,(kp _ hDC).trans hp.1⟩
     ·rw[ar ha] at e
      have:=I4.hok a o e
      rw[eP,ew] at this
      refine this.stay (fun b u hb q=>(kp b ?_).trans q) (fun b q=>by rw[ar (bf q hD0)];exact q) fun b xs q=>by rw[ar (bf q hD0)];exact q
      rcases hb with z | z
      ·rw[z];exact hokC a o e
      ·exact hokC b _ z
    refine⟨.ref D,upd H3 D (.lst ys),?_,rfl,qn D hD0⟩
    exact I2.call' (s':={ s4 with heap:=h' }) (ch:=fp) (by have:=I4.os;rw[es0] at this;exact this) u hk I4.bare fun b hb=>⟨(f2 b hb).2.2.2.1,(f2 b hb).2.1,(f2 b hb).2.2.2.2.1,(f2 b hb).2.2.2.2.2⟩
   ·have:=T.item X' eP ew eK ec i _ s3 _ H3 (fun _ _=>False) I3 (fpo H3 _ fr3) st3 go
    rw[eA] at this
    refine thn this fun r s4 ⟨u,hr,h4⟩=>?_
    subst hr
    refine thn h4 fun _ s5 ⟨x,H5,I5,r5,y5,st5,fr5⟩=>?_
    have I5':=I5.pinned (fpo H5 _ fr5) (T.obj _ _ st5)
    have a6:=hgY _ s5 _ H5 x u _ I5' r5 (step x H5 y5)
    rw[eP,ew,eA,exe] at a6
    refine thn a6 fun _ s6 ⟨σ6,H6,I6,keepσ,q6⟩=>?_
    have a7:=htY _ s6 σ6 H6 _ I6 q6
    rw[eP,ew,eA,exe] at a7
    refine thn a7 fun b s7 ⟨H7,I7,q7⟩=>?_
    -- the next turn's state
    have keep2:∀ {σ':St}{H':Hp}{s':Shared},Inv X' ([(D,{ cls:=.type "list",data:=.seq its.toArray k })]++cv fp s5.heap) σ' H' s'→(∀ b∈fp,H' b=none)∧tn (i+1) s'.heap:=fun {σ' H' s'} I'=>by
     refine⟨fun b hb=>?_,T.keep _ _ _ st5 fun b hb o e=>(I'.pin (b,o) (List.mem_append_right _ (List.mem_append_right _ (fq hb e)))).1⟩
     obtain⟨o,e,_⟩:=T.obj _ _ st5 b hb
     exact (I'.pin (b,o) (List.mem_append_right _ (List.mem_append_right _ (fq hb e)))).2.1
    have wk:∀ {pins':List (Addr×Obj)}{H':Hp}{s':Shared},Inv X' pins' σ6 H' s'→Inv X' pins' (ci own caps σ) H' s':=fun {pins' H' s'} I'=>
     I'.weak (by rw[I'.len,I3.len]) keepσ
    cases b with
    | false=>
     rw[if_neg Bool.false_ne_true] at q7
     obtain⟨m',hm,w7⟩:=hN _ _ q7
     rw[if_neg Bool.false_ne_true]
     obtain⟨k1,k2⟩:=keep2 I7
     exact⟨m',hm,i+1,ys,H7,its,k,wk (I7.pins_of fun p hp=>I7.pin p (by
      rw[epn]
      simp at hp ⊢
      exact .inl hp)),rv,hz,k2,k1,w7⟩
    | true=>
     rw[if_pos rfl] at q7 ⊢
     have a8:=heY _ s7 σ6 H7 _ I7 q7
     rw[eP,ew,eA,exe] at a8
     refine thn a8 fun uv s8 ⟨v8,H8,I8,r8,hz8,n8⟩=>?_
     obtain⟨m',hm,w8⟩:=hN _ _ n8
     have hp:=I8.pin (D,{ cls:=.type "list",data:=.seq its.toArray k }) (List.mem_append_right _ (List.mem_append_left _ (by simp)))
     have eD:=hp.1
     refine call_meets F.slot_list_append ⟨_,eD,rfl⟩ F.entry_list_append (F.args_list_append_2 _ _) (PySem.list_append D its.toArray k uv (by rw[List.size_toArray,← rv.length];omega)) ⟨eD,?_⟩
     have q:=PySem.IsL.update eD (fun a=>a.push uv)
     obtain⟨k1,k2⟩:=keep2 I8
     have I8':Inv X' (cv fp s5.heap) σ6 H8 s8:=I8.pins_of fun p hp=>I8.pin p (List.mem_append_right _ (List.mem_append_right _ hp))
     have oth:∀ b o,b≠D→s8.heap.get? b=some o→(s8.heap.update D (Obj.mapSeq fun a=>a.push uv)).get? b=some o:=fun b o hb e=>(Heap.get?_update_other s8.heap _ (Ne.symm hb)).trans e
     have I9:Inv X' (cv fp s5.heap) σ6 H8 { s8 with heap:=s8.heap.update D (Obj.mapSeq fun a=>a.push uv),toks:=s8.toks }:=
      I8'.turned (it:=D) oth hp.2.1 (by rw[eL];exact hDC) (.inr (by rw[es0,hDq];exact Nat.le_refl _)) nD fun p hp'=>by
       rw[epn] at hp'
       obtain⟨hb,_⟩:=i7 (show p∈cv fp s5.heap by simpa using hp')
       exact fpD _ hb
     refine⟨m',hm,i+1,ys++[v8],H8,its++[uv],k+1,wk (I9.pins_of fun p hp'=>?_),rv.append (.cons r8 .nil),?_,?_,k1,w8⟩
     ·have e:p=(D,{ cls:=.type "list",data:=.seq (its++[uv]).toArray (k+1) }):=by simpa using hp'
      subst e
      refine⟨?_,hp.2.1,hp.2.2.1,hp.2.2.2.1,fun v z=>by cases z⟩
      have e2:its.toArray.push uv=(its++[uv]).toArray:=by simp
      rw[← e2]
      have q':IsL (s8.heap.update D (Obj.mapSeq fun a=>a.push uv)) D (its.toArray.push uv) (if (its.toArray.push uv).size == its.toArray.size then k else k+1):=q
      rw[if_neg (by simp)] at q'
      exact q'
     ·rw[List.length_append,List.length_singleton]
      omega
     ·refine T.keep _ _ _ k2 fun b hb o e=>oth b o (fpD b hb) e
  ·refine⟨0,[],H2,[],0,?_,.nil,Nat.zero_le _,T.keep _ _ _ st2 fun b _ o e=>old b o e,fun b hb=>(f2 b hb).1,w0⟩
   refine (hX' _).pins_of fun p hp=>?_
   have e:p=(D,{ cls:=.type "list",data:=.seq ([]:List Value).toArray 0 }):=by simpa using hp
   subst e
   exact⟨hacc,I2.hok.fresh (by rw[hDq];exact Nat.le_refl _),by rw[eL];exact hDC,fsD,fun v z=>by cases z⟩
 have eenv':compEnvC scope (cV X.env scope.names) C X.env=X'.env:=eenv.symm
 show codeAny (model X.prog X.w) X.A (.compStart _ 0 (.ref it) (.ref D) (compEnvC scope (cV X.env scope.names) C X.env)) _ _
 rw[eenv']
 exact codeAny_compStart_list (loop _ rfl) (T.self X.A 0 _ _ _ (T.keep _ _ _ st2 fun b _ o e=>old b o e) (loop _ rfl))
end
end L2
namespace L2
open PySem PySem.Spec PyProof.Rows
noncomputable def KAt (h:Heap) (d:Addr) (ks:List Value) (ep:Nat):Prop:=∃ o es,h.get? d=some o∧o.ExactDict∧o.data=.dict es ep∧es.toList.map (·.key)=ks
theorem KAt.ty {s:Shared}{d:Addr}{ks:List Value}{ep:Nat} (x:KAt s.heap d ks ep):s.TypeIs (.ref d) "dict" := let ⟨o,_,e,c,_⟩:=x;⟨o,e,c.1⟩
theorem KAt.lt {h:Heap}{d:Addr}{ks:List Value}{ep:Nat} (x:KAt h d ks ep):d<h.objs.size:=let ⟨_,_,e,_⟩:=x;Heap.lt_size e
theorem KAt.go {h h':Heap}{d:Addr}{ks:List Value}{ep:Nat} (x:KAt h d ks ep) (k:∀ o,h.get? d=some o→h'.get? d=some o):KAt h' d ks ep:=let ⟨o,es,e,r⟩:=x;⟨o,es,k o e,r⟩
section
variable {prog:Program}{w:World}{A:Around}{E:Value→Shared→Prop}{s:Shared}
theorem ud {d:Addr}{ks:List Value}{ep:Nat}{Q:Value→Shared→Prop} (lo:(d == sysModules)=false) (x:KAt s.heap d ks ep)
  (q:Q (.ref s.heap.objs.size) { s with heap:=s.heap.push { cls:=.type "dict_keyiterator",data:=.fields #[.ref d,.int 0 0,.int ks.length 0,.int ep 0] } }):wpAny (model prog w) A (pyIter (.ref d)) Q E s:=by
 have ty:=x.ty
 obtain⟨o,es,e1,e2,e3,e4⟩:=x
 have n:es.size=ks.length:=by rw[← e4,List.length_map,Array.length_toList]
 refine wpAny_pyIter_slot ty F.slot_dict_iter (wpAny_call_entry F.slot_dict_iter ty F.entry_dict_iter ?z (F.args_dict_iter_1 _))
 case z=>
  unfold Builtin.«dict.__iter__» Builtin.Dict.dictSlotNone
  refine wpAny_bind (wpAny_bind (wpAny_notOrdered_dict ty ?_))
  show wpAny _ _ (pure (Value.ref d)) _ _ s
  apply wpAny_pure
  show wpAny _ _ (Builtin.Dict.showsAll d >>= _) _ _ s
  unfold Builtin.Dict.showsAll
  rw[if_neg (by rw[lo];simp)]
  refine wpAny_bind (wpAny_pure (wpAny_bind (wpAny_dictEntries e1 e3 (wpAny_bind (wpAny_dictEpoch e1 e3 (wpAny_bind (wpAny_newObj_type (wpAny_pure ⟨_,rfl,"dict_keyiterator",_,⟨_,Heap.get?_push_size _ rfl,rfl⟩,F.slot_dict_keyiterator_next.lookup,?_⟩))))))))
  simpa [rawInt,n] using q
theorem ue {it d:Addr}{i ep:Nat}{ks:List Value}{v:Value}{Q:Option Value→Shared→Prop} (hit:s.heap.IsKeyIter it d i ks.length ep) (x:KAt s.heap d ks ep) (hv:ks[i]?=some v)
  (q:∀ h',h'.IsKeyIter it d (i+1) ks.length ep→Heap.SameBut it s.heap h'→Q (some v) { s with heap:=h' }):wpAny (model prog w) A (pyNext (.ref it)) Q E s:=by
 obtain⟨oi,f1,f2,f3⟩:=id hit
 obtain⟨o,es,e1,e2,e3,e4⟩:=x
 have n:es.size=ks.length:=by rw[← e4,List.length_map,Array.length_toList]
 have hi:i<es.size:=by
  have:i<ks.length:=(List.getElem?_eq_some_iff.mp hv).1
  omega
 have ek:es[i].key=v:=by
  rw[← e4,List.getElem?_map,Array.getElem?_toList,Array.getElem?_eq_getElem hi] at hv
  exact Option.some.inj hv
 unfold pyNext
 refine wpAny_bind (wpAny_attempt (wpAny_callSpecial?_slot (name:=Str.ofString "__next__") hit.typeIs F.slot_dict_keyiterator_next (wpAny_call_entry F.slot_dict_keyiterator_next hit.typeIs F.entry_dict_keyiterator_next ?z (F.args_dict_keyiterator_next_1 _))))
 case z=>
  refine wpAny_bind (wpAny_pure (wpAny_bind (wpAny_bind ?_)))
  refine wpAny_bind (wpAny_typeNameOfWhole_keyiter hit.typeIs (wpAny_pure (wpAny_bind (wpAny_fieldsOf f1 f3 ?_))))
  simp only[show Builtin.Dict_items.ownsTuple "dict_keyiterator" = false by decide,Bool.false_eq_true,if_false]
  show wpAny _ _ (if (Value.ref d == Value.none)=true then _ else _) _ _ s
  rw[if_neg (show ¬ (Value.ref d == Value.none)=true by intro z;cases z)]
  refine wpAny_bind (wpAny_pure (wpAny_bind (wpAny_dictEntries e1 e3 ?_)))
  rw[if_neg (by simp[n])]
  refine wpAny_bind (wpAny_pure (wpAny_bind (wpAny_dictEpoch e1 e3 ?_)))
  rw[if_neg (by simp)]
  apply wpAny_pure
  simp only[show ¬ ((i:Int)<0) by omega,if_false,Int.toNat_natCast,Array.getElem?_eq_getElem hi]
  refine wpAny_bind (wpAny_bind (wpAny_typeNameOfWhole_keyiter hit.typeIs (wpAny_pure (wpAny_bind (wpAny_isOneOf_keyiter hit.typeIs ?_)))))
  show wpAny _ _ (setField (.ref it) 1 (rawInt ((i:Int)+1)) >>= _) _ _ s
  have hit':(s.heap.update it (Obj.mapFields (·.setIfInBounds 1 (rawInt ((i:Int)+1))))).IsKeyIter it d (i+1) ks.length ep:=
   ⟨_,Heap.get?_update_self _ f1 (Obj.isFreed_of_fields (Obj.data_mapFields f3 _)),(Obj.cls_mapFields ..).trans f2,by rw[Obj.data_mapFields f3];simp[rawInt]⟩
  refine wpAny_bind (wpAny_setField f1 f3 (by simp) (wpAny_bind (wpAny_holding (wpAny_bind (wpAny_isOneOf_keyiter (s:={ s with heap:=s.heap.update it (Obj.mapFields (·.setIfInBounds 1 (rawInt ((i:Int)+1)))) }) hit'.typeIs ?_)))))
  show wpAny _ _ (pure es[i].key) _ _ _
  rw[ek]
  exact wpAny_pure (wpAny_pure ⟨_,rfl,wpAny_pure (q _ hit' (Heap.SameBut.update ..))⟩)
theorem uf {it d:Addr}{i ep:Nat}{ks:List Value}{Q:Option Value→Shared→Prop} (hh:A.handled=none) (hit:s.heap.IsKeyIter it d i ks.length ep) (x:KAt s.heap d ks ep) (hv:ks.length≤i)
  (q:∀ h',Heap.ExtBut it s.heap h'→Q none { s with heap:=h' }):wpAny (model prog w) A (pyNext (.ref it)) Q E s:=by
 obtain⟨oi,f1,f2,f3⟩:=id hit
 obtain⟨o,es,e1,e2,e3,e4⟩:=x
 have n:es.size=ks.length:=by rw[← e4,List.length_map,Array.length_toList]
 unfold pyNext
 refine wpAny_bind (wpAny_attempt (wpAny_callSpecial?_slot (name:=Str.ofString "__next__") hit.typeIs F.slot_dict_keyiterator_next (wpAny_call_entry F.slot_dict_keyiterator_next hit.typeIs F.entry_dict_keyiterator_next ?z (F.args_dict_keyiterator_next_1 _))))
 case z=>
  refine wpAny_bind (wpAny_pure (wpAny_bind (wpAny_bind ?_)))
  refine wpAny_bind (wpAny_typeNameOfWhole_keyiter hit.typeIs (wpAny_pure (wpAny_bind (wpAny_fieldsOf f1 f3 ?_))))
  simp only[show Builtin.Dict_items.ownsTuple "dict_keyiterator" = false by decide,Bool.false_eq_true,if_false]
  show wpAny _ _ (if (Value.ref d == Value.none)=true then _ else _) _ _ s
  rw[if_neg (show ¬ (Value.ref d == Value.none)=true by intro z;cases z)]
  refine wpAny_bind (wpAny_pure (wpAny_bind (wpAny_dictEntries e1 e3 ?_)))
  rw[if_neg (by simp[n])]
  refine wpAny_bind (wpAny_pure (wpAny_bind (wpAny_dictEpoch e1 e3 ?_)))
  rw[if_neg (by simp)]
  apply wpAny_pure
  simp only[show ¬ ((i:Int)<0) by omega,if_false,Int.toNat_natCast,Array.getElem?_eq_none (show es.size≤i by omega)]
  refine wpAny_bind (wpAny_bind (wpAny_typeNameOfWhole_keyiter hit.typeIs (wpAny_pure ?_)))
  show wpAny _ _ (setField (.ref it) 0 .none >>= _) _ _ s
  refine wpAny_bind (wpAny_setField f1 f3 (by simp) ?_)
  show wpAny _ _ (newExc (.type "StopIteration") [] >>= _) _ _ _
  apply wpAny_bind
  simp only[newExc,newTuple]
  refine wpAny_bind (wpAny_newObj_type (wpAny_bind (m:=firstArgMember _ _) (wpAny_of_eq (a:=Value.none) (by first | rfl | (simp only[firstArgMember];rfl)) (wpAny_newObj_type ?_ (by size_fits)))) (by size_fits))
  simp only[raiseNew]
  apply wpAny_bind
  apply wpAny_handled
  rw[show A.in1.handled=none from hh]
  refine wpAny_bind (m:=pure _) (wpAny_pure (wpAny_throw ?_))
  apply wpAny_bind
  refine wpAny_isInstance (T := "StopIteration") (b:=true) ⟨_,Heap.get?_push_size _ rfl,rfl⟩ isSubtype_stop ?_
  exact wpAny_pure (q _ (((Heap.SameBut.update ..).extBut.push _).push _))
theorem ug (hh:A.handled=none) (it d:Addr) (ne:d≠it) (ks:List Value) (ep:Nat):Walks prog w A it [it,d] [it] ks.length (fun i v=>ks[i]?=some v) (fun i h=>h.IsKeyIter it d i ks.length ep∧KAt h d ks ep) where
 sub:=fun b hb=>by
  have:b=it:=by simpa using hb
  simp[this]
 frame:=fun i h h' st k=>⟨let ⟨o,e,r⟩:=st.1;⟨o,k it (by simp) o e,r⟩,st.2.go (k d (by simp))⟩
 item:=fun i s Q E hi st hQ=>by
  have hv:ks[i]?=some ks[i]:=by simp[hi]
  refine ue st.1 st.2 hv fun h' a b=>hQ _ h' s.toks hv ⟨a,st.2.go fun o e=>b.extBut d o ne e⟩ fun c o hc e=>b.extBut c o (by simpa using hc) e
 done:=fun s Q E st hQ=>uf hh st.1 st.2 (Nat.le_refl _) fun h' b=>hQ h' s.toks fun c o hc e=>b c o (by simpa using hc) e
 self:=fun i s Q E st hQ=>wpAny_pyIter_keyiter st.1 hQ
theorem uh {d:Addr}{ks:List Value}{ep:Nat} (lo:(d == sysModules)=false):PySem.W.KdlSrc prog w "dict" d d ks.length (fun i v=>ks[i]?=some v) (fun h=>KAt h d ks ep) where
 type:=fun s x=>x.ty
 there:=fun h x=>⟨x.lt,x.lt⟩
 keep:=fun h h' x k=>x.go (k d (.inl rfl))
 notList:=by decide
 notTuple:=by decide
 hint:=fun A E s Q x q=>PySem.W.kdl_hint_dict x.ty q
 iter:=fun A s hh x=>⟨_,_,(fun E Q q=>ud lo x q),ug hh _ d (Nat.ne_of_lt x.lt) ks ep,⟨⟨_,Heap.get?_push_size _ rfl,rfl,rfl⟩,x.go fun o e=>Heap.get?_push_of_some _ e⟩⟩
end
end L2
namespace L2
open PySem PySem.Spec PyProof.Rows PySem.W
section
variable {n:Nat}{key:Nat→Int}{cmp:Nat→Nat→(Bool→Shared→Prop)→Shared→Prop}
noncomputable def kyA (key:Nat→Int) (p:Array Nat) (i:Nat):Int:=key (p.getD i 0)
noncomputable def Up (key:Nat→Int) (p:Array Nat) (m:Nat):Prop:=∀ i j,i≤j→j<m→kyA key p i≤kyA key p j
noncomputable def aS (n:Nat) (key:Nat→Int) (cmp:Nat→Nat→(Bool→Shared→Prop)→Shared→Prop) (s:Shared):Prop:=∀ i j C,i<n→j<n→C (decide (key i<key j)) s→cmp i j C s
noncomputable def Rg (n:Nat) (p:Array Nat):Prop:=p.toList.Perm (List.range n)
theorem Rg.size {p:Array Nat} (h:Rg n p):p.size=n:=by
 have:=h.length_eq
 simpa using this
theorem Rg.lt {p:Array Nat} (h:Rg n p) {i:Nat} (hi:i<n):p.getD i 0<n:=by
 have hs:=h.size
 have e:p.getD i 0=p[i]:=by simp[Array.getD,hs,hi]
 rw[e]
 have:p[i]∈p.toList:=by simp
 exact List.mem_range.mp (h.mem_iff.mp this)
theorem Rg.ne {p:Array Nat} (h:Rg n p) (inj:∀ i j,i<n→j<n→key i=key j→i=j) {i j:Nat} (hij:i<j) (hj:j<n):kyA key p i≠kyA key p j:=by
 intro e
 have hs:=h.size
 have e':=inj _ _ (h.lt (by lia)) (h.lt hj) e
 have e1:p.getD i 0=p[i]:=by simp[Array.getD,hs,show i<n by lia]
 have e2:p.getD j 0=p[j]:=by simp[Array.getD,hs,hj]
 rw[e1,e2] at e'
 have nd:p.toList.Nodup:=h.nodup_iff.mpr List.nodup_range
 have e3:p.toList[i]'(by simpa [hs] using (show i<n by lia))=p.toList[j]'(by simpa [hs] using hj):=by simpa using e'
 have:=(List.getElem_inj nd).mp e3
 lia
theorem cH {p q:Array Nat}{i j:Nat} (e:p[i]?=q[j]?):kyA key p i=kyA key q j:=by
 unfold kyA
 rw[Array.getD_eq_getD_getElem?,Array.getD_eq_getD_getElem?,e]
theorem Rg.rev {p:Array Nat} (h:Rg n p) (i j:Nat):Rg n (kas_rev p i j):=(Array.perm_iff_toList_perm.mp (mirror_perm p i j _)).trans h
theorem Rg.bub {p:Array Nat} (h:Rg n p) (i j:Nat):Rg n (bubble p i j):=(Array.perm_iff_toList_perm.mp (bubble_perm p i j)).trans h
theorem gZ {s:Shared} (hc:aS n key cmp s) {p:Array Nat} (hp:Rg n p) {Q:Nat→Shared→Prop}:∀ (f m:Nat),1≤m→m+f≤n→
  (∀ m',m≤m'→m'≤m+f→(∀ j,m≤j→j<m'→kyA key p (j - 1)≤kyA key p j)→(m'=m+f∨kyA key p m'<kyA key p (m' - 1))→Q m' s)→(kas_asc p f m).kasWp cmp Q s
 | 0,m,h1,hn,h=>h m (Nat.le_refl _) (Nat.le_refl _) (fun j a b=>by lia) (.inl rfl)
 | f+1,m,h1,hn,h=>by
  show cmp (p.getD m 0) (p.getD (m - 1) 0) (fun b s'=>KasT.kasWp cmp (if b=true then .ret m else kas_asc p f (m+1)) Q s') s
  refine hc _ _ _ (hp.lt (by lia)) (hp.lt (by lia)) ?_
  by_cases hb:key (p.getD m 0)<key (p.getD (m - 1) 0)
  ·rw[decide_eq_true hb,if_pos rfl]
   exact h m (Nat.le_refl _) (by lia) (fun j a b=>by lia) (.inr hb)
  ·rw[decide_eq_false hb,if_neg Bool.false_ne_true]
   refine gZ hc hp f (m+1) (by lia) (by lia) fun m' a b c d=>h m' (by lia) (by lia) (fun j x y=>?_) (by rcases d with d | d;exact .inl (by lia);exact .inr d)
   by_cases e:j=m
   ·subst e
    have:¬ kyA key p j<kyA key p (j - 1):=hb
    lia
   ·exact c j (by lia) y
theorem g8 {p : Array Nat} {m : Nat} (h : ∀ j, 1 ≤ j → j < m → kyA key p (j - 1) ≤ kyA key p j) : Up key p m := by
  intro i j hij hj
  induction j with
  | zero => have : i = 0 := by lia
            subst this; exact Int.le_refl _
  | succ j ih =>
    by_cases e : i = j + 1
    · subst e; exact Int.le_refl _
    · have h1 := ih (by lia) (by lia)
      have h2 := h (j + 1) (by lia) hj
      rw [Nat.add_sub_cancel] at h2
      exact Int.le_trans h1 h2
theorem mw {s:Shared} (hc:aS n key cmp s) (inj:∀ i j,i<n→j<n→key i=key j→i=j) {p:Array Nat} (hp:Rg n p) {Q:Array Nat×Nat×Nat→Shared→Prop}:∀ (f m:Nat),1≤m→m+f≤n→
  (∀ m',m≤m'→m'≤m+f→(∀ j,m≤j→j<m'→kyA key p j<kyA key p (j - 1))→Q (p,m',0) s)→(kas_desc f p m 0).kasWp cmp Q s
 | 0,m,h1,hn,h=>h m (Nat.le_refl _) (Nat.le_refl _) (fun j a b=>by lia)
 | f+1,m,h1,hn,h=>by
  show cmp (p.getD m 0) (p.getD (m - 1) 0) (fun b s'=>KasT.kasWp cmp (if b=true then (if 0 > 0 then kas_desc f (kas_rev p (m - (0+1)) m) (m+1) 0 else kas_desc f p (m+1) 0)
   else .ask (p.getD (m - 1) 0) (p.getD m 0) fun d=>if d=true then .ret (p,m,0) else kas_desc f p (m+1) (0+1)) Q s') s
  refine hc _ _ _ (hp.lt (by lia)) (hp.lt (by lia)) ?_
  by_cases hb:key (p.getD m 0)<key (p.getD (m - 1) 0)
  ·rw[decide_eq_true hb,if_pos rfl,if_neg (by lia)]
   refine mw hc inj hp f (m+1) (by lia) (by lia) fun m' a b c=>h m' (by lia) (by lia) fun j x y=>?_
   by_cases e:j=m
   ·subst e;exact hb
   ·exact c j (by lia) y
  ·rw[decide_eq_false hb,if_neg Bool.false_ne_true]
   refine hc _ _ _ (hp.lt (by lia)) (hp.lt (by lia)) ?_
   have h2:key (p.getD (m - 1) 0)<key (p.getD m 0):=by
    have:=hp.ne inj (show m - 1<m by lia) (by lia)
    unfold kyA at this
    lia
   rw[decide_eq_true h2]
   dsimp only
   rw[if_pos rfl]
   exact h m (Nat.le_refl _) (by lia) fun j a b=>by lia
theorem ui {s:Shared} (hc:aS n key cmp s) (inj:∀ i j,i<n→j<n→key i=key j→i=j) {p:Array Nat} (hp:Rg n p) {Q:Nat×Array Nat→Shared→Prop} (hn:1≤n)
  (h:∀ m p',1≤m→m≤n→Rg n p'→Up key p' m→Q (m,p') s):(kas_count n p).kasWp cmp Q s:=by
 unfold kas_count
 rw[KasT.kasWp_bind]
 refine gZ hc hp (n - 1) 1 (Nat.le_refl _) (by lia) fun m a b c d=>?_
 have up:Up key p m:=g8 c
 by_cases e:m=n
 ·subst e
  rw[if_pos (by simp)]
  exact h m p a (Nat.le_refl _) hp up
 ·rw[if_neg (by simpa using e)]
  by_cases e1:m > 1
  ·rw[if_pos e1]
   refine hc _ _ _ (hp.lt (by lia)) (hp.lt (by lia)) ?_
   have h2:key (p.getD 0 0)<key (p.getD (m - 1) 0):=by
    have x:=hp.ne inj (show 0<m - 1 by lia) (by lia)
    have y:=up 0 (m - 1) (by lia) (by lia)
    unfold kyA at x y
    lia
   rw[decide_eq_true h2]
   dsimp only
   rw[if_pos rfl]
   exact h m p a (by lia) hp up
  ·rw[if_neg e1]
   have e2:m=1:=by lia
   subst e2
   have d:kyA key p 1<kyA key p 0:=by
    rcases d with d | d
    ·lia
    ·exact d
   unfold kas_descPart
   rw[KasT.kasWp_bind]
   refine mw hc inj hp (n - (1+1)) (1+1) (by lia) (by lia) fun k a1 b1 c1=>?_
   dsimp only
   rw[if_neg (by lia)]
   unfold kas_tail3
   rw[KasT.kasWp_bind]
   have hp':=hp.rev 0 k
   have ky:∀ i,kyA key (kas_rev p 0 k) i=if i<k then kyA key p (k - 1 - i) else kyA key p i:=fun i=>by
    by_cases hi:i<k
    ·rw[if_pos hi]
     exact cH (by unfold kas_rev;rw[getElem?_mirror_all (by rw[hp.size];lia),if_pos ⟨Nat.zero_le _,hi⟩];congr 1;lia)
    ·rw[if_neg hi]
     exact cH (by unfold kas_rev;rw[getElem?_mirror_all (by rw[hp.size];lia),if_neg (by lia)])
   have dn:∀ j,1≤j→j<k→kyA key p j<kyA key p (j - 1):=fun j x y=>by
    by_cases z:j=1
    ·subst z;exact d
    ·exact c1 j (by lia) y
   refine gZ hc hp' (n - k) k (by lia) (by lia) fun m' a2 b2 c2 _=>?_
   refine h m' (kas_rev p 0 k) (by lia) (by lia) hp' (g8 fun j x y=>?_)
   by_cases z:j<k
   ·rw[ky,ky,if_pos (by lia),if_pos z]
    have:=dn (k - 1 - (j - 1)) (by lia) (by lia)
    rw[show k - 1 - (j - 1) - 1=k - 1 - j by lia] at this
    exact Int.le_of_lt this
   ·exact c2 j (by lia) y
theorem jn {s:Shared} (hc:aS n key cmp s) {p:Array Nat} (hp:Rg n p) {k:Nat} (hk:k<n) (up:Up key p k) {Q:Nat→Shared→Prop}:∀ (f l r:Nat),l≤r→r≤k→r - l≤f→
  (∀ i,i<l→kyA key p i≤kyA key p k)→(∀ i,r≤i→i<k→kyA key p k≤kyA key p i)→
  (∀ l',l'≤k→(∀ i,i<l'→kyA key p i≤kyA key p k)→(∀ i,l'≤i→i<k→kyA key p k≤kyA key p i)→Q l' s)→(kas_place p k f l r).kasWp cmp Q s
 | 0,l,r,h1,h2,h3,a,b,h=>h l (by lia) a fun i x y=>b i (by lia) y
 | f+1,l,r,h1,h2,h3,a,b,h=>by
  by_cases e:l ≥ r
  ·show KasT.kasWp cmp (if l ≥ r then .ret l else _) Q s
   rw[if_pos e]
   exact h l (by lia) a fun i x y=>b i (by lia) y
  ·show KasT.kasWp cmp (if l ≥ r then .ret l else .ask (p.getD k 0) (p.getD ((l+r) / 2) 0) fun c=>if c=true then kas_place p k f l ((l+r) / 2) else kas_place p k f ((l+r) / 2+1) r) Q s
   rw[if_neg e]
   refine hc _ _ _ (hp.lt hk) (hp.lt (by lia)) ?_
   have m1:l≤(l+r) / 2:=by lia
   have m2:(l+r) / 2<r:=by lia
   generalize (l+r) / 2=mid at m1 m2 ⊢
   by_cases hb:key (p.getD k 0)<key (p.getD mid 0)
   ·rw[decide_eq_true hb]
    dsimp only
    rw[if_pos rfl]
    refine jn hc hp hk up f l mid m1 (by lia) (by lia) a (fun i x y=>?_) h
    have:=up mid i x y
    have hb:kyA key p k<kyA key p mid:=hb
    lia
   ·rw[decide_eq_false hb]
    dsimp only
    rw[if_neg Bool.false_ne_true]
    refine jn hc hp hk up f (mid+1) r (by lia) h2 (by lia) (fun i x=>?_) b h
    have:=up i mid (by lia) (by lia)
    have hb:¬ kyA key p k<kyA key p mid:=hb
    lia
theorem my {s:Shared} (hc:aS n key cmp s) {Q:Array Nat→Shared→Prop}:∀ (f k:Nat) (p:Array Nat),Rg n p→Up key p k→k+f≤n→(∀ p',Rg n p'→Up key p' (k+f)→Q p' s)→(kas_bin f p k).kasWp cmp Q s
 | 0,k,p,hp,up,hn,h=>h p hp up
 | f+1,k,p,hp,up,hn,h=>by
  show KasT.kasWp cmp ((kas_place p k k 0 k).bind fun l=>kas_bin f (bubble p k (k - l)) (k+1)) Q s
  rw[KasT.kasWp_bind]
  refine jn hc hp (by lia) up k 0 k (Nat.zero_le _) (Nat.le_refl _) (by lia) (fun i x=>by lia) (fun i x y=>by lia) fun l hl a b=>?_
  have ky:∀ i,kyA key (bubble p k (k - l)) i=if i=l then kyA key p k else if l<i∧i≤k then kyA key p (i - 1) else kyA key p i:=fun i=>by
   have g:=getElem?_bubble (xs:=p) (src:=k) (by rw[hp.size];lia) (k - l) (by lia) i
   rw[show k - (k - l)=l by lia] at g
   by_cases e:i=l
   ·rw[if_pos e] at g ⊢;exact cH g
   ·rw[if_neg e] at g ⊢
    by_cases e2:l<i∧i≤k
    ·rw[if_pos e2] at g ⊢;exact cH g
    ·rw[if_neg e2] at g ⊢;exact cH g
  refine my hc f (k+1) _ (hp.bub _ _) (g8 fun j x y=>?_) (by lia) fun p' r1 r2=>h p' r1 (by rw[show k+(f+1)=k+1+f by lia];exact r2)
  rw[ky,ky]
  by_cases c1:j - 1=l
  ·rw[if_pos c1,if_neg (by lia),if_pos (by lia)]
   exact b (j - 1) (by lia) (by lia)
  ·rw[if_neg c1]
   by_cases c2:j=l
   ·rw[if_pos c2,if_neg (by lia)]
    exact a (j - 1) (by lia)
   ·rw[if_neg c2]
    by_cases c3:l<j - 1
    ·rw[if_pos (by lia),if_pos (by lia)]
     exact up _ _ (by lia) (by lia)
    ·rw[if_neg (by lia),if_neg (by lia)]
     exact up _ _ (by lia) (by lia)
theorem uj {s:Shared} (hc:aS n key cmp s) (inj:∀ i j,i<n→j<n→key i=key j→i=j) {Q:Array Nat→Shared→Prop} (hn:1≤n) (h:∀ p',Rg n p'→Up key p' n→Q p' s):(kas_sort n).kasWp cmp Q s:=by
 unfold kas_sort
 rw[KasT.kasWp_bind]
 refine ui hc inj (p:=(List.range n).toArray) (List.Perm.refl _) hn fun m p' a b c d=>?_
 by_cases e:m<n
 ·show KasT.kasWp cmp (if m<n then kas_bin (n - max m 1) p' (max m 1) else .ret p') Q s
  rw[if_pos e]
  refine my hc _ _ p' c (by rw[show max m 1=m by lia];exact d) (by lia) fun p'' r1 r2=>h p'' r1 (by rw[show max m 1+(n - max m 1)=n by lia] at r2;exact r2)
 ·show KasT.kasWp cmp (if m<n then kas_bin (n - max m 1) p' (max m 1) else .ret p') Q s
  rw[if_neg e]
  have:m=n:=by lia
  subst this
  exact h p' c d
end
end L2
namespace L2
open PySem PySem.Spec PyProof.Rows PySem.W
theorem mz:∀ (f n r:Nat),minRun' f n r≤n+r
 | 0,n,r=>Nat.le_refl _
 | f+1,n,r=>by
  rw[minRun'_succ]
  by_cases h:n<64
  ·rw[if_pos h]
   exact Nat.le_refl _
  ·rw[if_neg h]
   have:=mz f (n / 2) (max r (n % 2))
   lia
section
variable {prog:Program}{w:World}{A:Around}{E:Value→Shared→Prop}{κ:SortKind}{it:Array Keyed}{key:Nat→Int}
theorem uk {n:Nat}{Q:Unit→SortSt→Shared→Prop}{s:Shared} (hc:aS n key (kas_cmp prog w A κ it) s) (inj:∀ i j,i<n→j<n→key i=key j→i=j) (h2:2≤n) (up:∀ j,1≤j→j<n→key (j - 1)≤key j)
  (hG:∀ p' st',Rg n p'→Up key p' n→arrOf st'=p'.map (kas_item it)→failedOf st'=none→Q () st' s):kasC (model prog w) A E sortRuns' Q (kas_st κ it (List.range n).toArray) s:=by
 obtain⟨r,rfl⟩:∃ r,n=r+2:=⟨n - 2,by lia⟩
 have hr:Rg (r+2) (List.range (r+2)).toArray:=List.Perm.refl _
 have ky:∀ j,j<r+2→kyA key (List.range (r+2)).toArray j=key j:=fun j hj=>by
  unfold kyA
  simp[Array.getD,hj]
 have cw:(kas_count (r+2) (List.range (r+2)).toArray).kasWp (kas_cmp prog w A κ it) (fun q s'=>s'=s∧q=(r+2,(List.range (r+2)).toArray)) s:=by
  unfold kas_count
  rw[KasT.kasWp_bind]
  refine gZ hc hr (r+2 - 1) 1 (Nat.le_refl _) (by lia) fun m a b c d=>?_
  have e:m=r+2:=by
   rcases d with d | d
   ·lia
   ·by_cases hm:m<r+2
    ·rw[ky m hm,ky (m - 1) (by lia)] at d
     have:=up m a hm
     lia
    ·lia
  subst e
  rw[if_pos (by simp)]
  exact⟨rfl,rfl⟩
 rw[sortRuns'_eq]
 apply kasC_bind
 apply kasC_get
 dsimp only
 have hsz:(arrOf (kas_st κ it (List.range (r+2)).toArray)).size=r+2:=by
  show ((List.range (r+2)).toArray.map (kas_item it)).size=r+2
  simp
 simp only[hsz]
 apply kasC_bind
 apply kasC_range
 show kasC _ _ _ (forIn (0::1::List.range' 2 r) _ _) _ _ _
 apply kasC_cons
 dsimp only
 rw[if_neg (by lia)]
 simp only[Nat.sub_zero,Nat.zero_add]
 apply kasC_bind
 refine kas_count_ (by lia) (by simp) (fun m p' s' _ _ _ hg=>?_) cw
 obtain⟨rfl,hg⟩:=hg
 cases hg
 dsimp only
 rw[if_neg (by have:=mz (r+2) (r+2) 0;lia)]
 apply kasC_bind
 apply kasC_get
 rw[show (pendingOf (kas_st κ it (List.range (r+2)).toArray)).back?=none from rfl]
 dsimp only
 refine kasC_bind (kasC_modify (kasC_pure ?_))
 show kasC _ _ _ (forIn (1::List.range' 2 r) _ _) _ _ _
 apply kasC_cons
 dsimp only
 rw[if_pos (Nat.le_refl _)]
 apply kasC_pure
 dsimp only
 apply kasC_bind
 apply kasC_range
 show kasC _ _ _ (forIn (0::1::List.range' 2 r) _ _) _ _ _
 apply kasC_cons
 apply kasC_bind
 apply kasC_get
 rw[if_pos (show (pendingOf (setPending (kas_st κ it (List.range (r+2)).toArray) ((pendingOf (kas_st κ it (List.range (r+2)).toArray)).push (0,r+2,0)))).size≤1 from Nat.le_refl 1)]
 apply kasC_pure
 dsimp only
 apply kasC_pure
 exact hG (List.range (r+2)).toArray _ hr (fun i j hij hj=>by
  rw[ky i (by lia),ky j hj]
  have:=g8 (key:=key) (p:=(List.range (r+2)).toArray) (m:=r+2) (fun j x y=>by rw[ky _ (by lia),ky _ y];exact up j x y) i j hij hj
  rw[ky i (by lia),ky j hj] at this
  exact this) rfl rfl
theorem yt {n:Nat}{Q:Unit→SortSt→Shared→Prop}{s:Shared} (hc:aS n key (kas_cmp prog w A κ it) s) (inj:∀ i j,i<n→j<n→key i=key j→i=j) (h2:2≤n) (up:n<64∨∀ j,1≤j→j<n→key (j - 1)≤key j)
  (hG:∀ p' st',Rg n p'→Up key p' n→arrOf st'=p'.map (kas_item it)→failedOf st'=none→Q () st' s):kasC (model prog w) A E sortRuns' Q (kas_st κ it (List.range n).toArray) s:=by
 rcases up with h | up
 ·exact kas_runs (G:=fun p' s'=>s'=s∧Rg n p'∧Up key p' n) h2 h (fun p' st' s' _ a b ⟨e,c,d⟩=>by subst e;exact hG p' st' c d a b) (uj hc inj (by lia) fun p' a b=>⟨rfl,a,b⟩)
 ·exact uk hc inj h2 up hG
end
end L2
namespace L2
open PySem PySem.Spec PyProof.Rows PySem.W
section
variable {prog:Program}{w:World}{A:Around}{E:Value→Shared→Prop}{κ:SortKind}{it:Array Keyed}{key:Nat→Int}{n:Nat}{s:Shared}
noncomputable def g9:Bool→Keyed→Array Keyed→Nat→Nat→Nat→StateT SortSt Sem (Option Nat):=sortPriv% PySem.Builtin.gallop
theorem gn (hc:aS n key (kas_cmp prog w A κ it) s) {i j:Nat} (hi:i<n) (hj:j<n) {st:SortSt} (hk:kindOf st=κ) {Q:Option Bool→SortSt→Shared→Prop} (h:Q (some (decide (key i<key j))) st s):
  kasC (model prog w) A E (lt' (kas_item it i) (kas_item it j)) Q st s:=by
 rw[lt'_eq]
 apply kasC_bind
 apply kasC_get
 have:=hc i j (fun c s'=>s'=s∧c=decide (key i<key j)) hi hj ⟨rfl,rfl⟩
 unfold kas_cmp at this
 rw[hk]
 refine kasC_bind (kasC_lift (wpAny_attempt (wpAny_mono this (fun c s' hcs=>?_) fun _ _ hF=>hF.elim)))
 obtain⟨rfl,rfl⟩:=hcs
 exact kasC_pure h
theorem bo {σ β:Type}{M:Model}{f:Nat→β→StateT σ Sem (ForInStep β)}{Q:β→σ→Shared→Prop} (I:Nat→β→σ→Shared→Prop)
  (step:∀ x c st s',I x c st s'→kasC M A E (f x c) (fun r st2 s2=>match r with | .yield c'=>I (x+1) c' st2 s2 | .done c'=>Q c' st2 s2) st s'):∀ (m a:Nat) (c:β) (st:σ) (s':Shared),(∀ c st s',I (a+m) c st s'→Q c st s')→I a c st s'→
   kasC M A E (forIn (List.range' a m) c f) Q st s'
 | 0,a,c,st,s',fin,h=>by
  show kasC M A E (forIn ([]:List Nat) c f) Q st s'
  exact kasC_nil (fin c st s' h)
 | m+1,a,c,st,s',fin,h=>by
  show kasC M A E (forIn (a::List.range' (a+1) m) c f) Q st s'
  refine kasC_cons (wpAny_mono (step a c st s' h) (fun r s2 h'=>?_) fun _ _ e=>e)
  obtain⟨r,st2⟩:=r
  cases r with
  | done c'=>exact h'
  | yield c'=>exact bo I step m (a+1) c' st2 s2 (fun c st s' hi=>fin c st s' (by rw[show a+(m+1)=a+1+m by lia];exact hi)) h'
noncomputable def bey (key:Nat→Int) (left:Bool) (k:Nat) (pa:Array Nat) (base i:Nat):Bool:=if left=true then decide (key (pa.getD (base+i) 0)<key k) else !decide (key k<key (pa.getD (base+i) 0))
set_option maxHeartbeats 2000000 in
theorem mC (hc:aS n key (kas_cmp prog w A κ it) s) {left:Bool}{k:Nat} (hk:k<n) {pa:Array Nat} (hpa:∀ i,i<pa.size→pa.getD i 0<n) {base m hint:Nat} (hb:base+m≤pa.size) (hh:hint<m)
  (mono:∀ i j,i≤j→j<m→bey key left k pa base j=true→bey key left k pa base i=true) {st:SortSt} (hkind:kindOf st=κ) {Q:Option Nat→SortSt→Shared→Prop}
  (h:∀ r,r≤m→(∀ i,i<r→bey key left k pa base i=true)→(∀ i,r≤i→i<m→bey key left k pa base i=false)→Q (some r) st s):
  kasC (model prog w) A E (g9 left (kas_item it k) (pa.map (kas_item it)) base m hint) Q st s:=by
 have el:∀ i,i<m→(pa.map (kas_item it))[base+i]?=some (kas_item it (pa.getD (base+i) 0)):=fun i hi=>by
  have:base+i<pa.size:=by lia
  simp[Array.getD,this]
 have ask:∀ i,i<m→∀ Q':Option Bool→SortSt→Shared→Prop,Q' (some (bey key left k pa base i)) st s→
   kasC (model prog w) A E (do let x ← elem' (pa.map (kas_item it)) (base+i);if left=true then lt' x (kas_item it k) else do let r ← lt' (kas_item it k) x;pure (r.map fun x=>!x)) Q' st s:=fun i hi Q' hq=>by
  rw[elem'_eq,el i hi]
  apply kasC_bind
  apply kasC_pure
  have hx:=hpa (base+i) (by lia)
  unfold bey at hq
  cases left with
  | true=>
   rw[if_pos rfl] at hq ⊢
   exact gn hc hx hk hkind hq
  | false=>
   rw[if_neg Bool.false_ne_true] at hq ⊢
   exact kasC_bind (gn hc hk hx hkind (kasC_pure hq))
 unfold g9
 with_unfolding_all refine kasC_bind ?_
 refine ask hint hh _ ?_
 dsimp only
 cases hB0:bey key left k pa base hint with
 | true=>
  rw[if_pos rfl]
  apply kasC_bind
  apply kasC_range
  have nxt:∀ last ofs,last<ofs→hint+last<m→bey key left k pa base (hint+last)=true→(ofs ≥ m - hint∨bey key left k pa base (hint+ofs)=false)→
    hint+last+1≤hint+min ofs (m - hint)∧hint+min ofs (m - hint)≤m∧(∀ i,i<hint+last+1→bey key left k pa base i=true)∧(∀ i,hint+min ofs (m - hint)≤i→i<m→bey key left k pa base i=false)∧hint+min ofs (m - hint) - (hint+last+1)≤m - 0:=fun last ofs a1 a2 a3 a4=>by
   refine⟨by lia,by lia,fun i hi=>mono i (hint+last) (by lia) a2 a3,fun i h1 h2=>?_,by lia⟩
   rcases a4 with a4 | a4
   ·lia
   ·cases hi2:bey key left k pa base i with
    | false=>rfl
    | true=>rw[mono (hint+ofs) i (by lia) h2 hi2] at a4;cases a4
  refine bo (fun x c st' s'=>st'=st∧s'=s∧∃ last ofs,c=(none,last,ofs)∧last<ofs∧x<ofs∧hint+last<m∧bey key left k pa base (hint+last)=true) ?_ _ 0 _ _ _ ?_ ⟨rfl,rfl,0,1,rfl,by lia,by lia,by lia,hB0⟩
  ·rintro x c st' s' ⟨e1,e2,last,ofs,rfl,h1,h2,h3,h4⟩
   rw[e1,e2]
   dsimp only
   by_cases ho:ofs ≥ m - hint
   ·rw[if_pos ho]
    apply kasC_pure
    dsimp only
    have LH:=nxt last ofs h1 h3 h4 (.inl ho)
    apply kasC_bind
    apply kasC_range
    refine bo (fun x c st' s'=>st'=st∧s'=s∧∃ lo hi,c=(none,lo,hi)∧lo≤hi∧hi≤m∧(∀ i,i<lo→bey key left k pa base i=true)∧(∀ i,hi≤i→i<m→bey key left k pa base i=false)∧hi - lo≤m - x) ?_ _ 0 _ _ _ ?_ ⟨rfl,rfl,_,_,rfl,LH⟩
    ·rintro x c st' s' ⟨e1,e2,lo,hi,rfl,h1,h2,h3,h4,h5⟩
     rw[e1,e2]
     dsimp only
     by_cases hlh:lo ≥ hi
     ·rw[if_pos hlh]
      apply kasC_pure
      dsimp only
      have e:lo=hi:=by lia
      subst e
      exact kasC_pure (h lo h2 h3 h4)
     ·rw[if_neg hlh]
      have m1:lo≤lo+(hi - lo) / 2:=by lia
      have m2:lo+(hi - lo) / 2<hi:=by lia
      generalize lo+(hi - lo) / 2=mid at m1 m2 ⊢
      refine kasC_bind (ask mid (by lia) _ ?_)
      dsimp only
      cases hB:bey key left k pa base mid with
      | true=>
       rw[if_pos rfl]
       exact kasC_pure ⟨rfl,rfl,mid+1,hi,rfl,by lia,h2,fun i hi'=>mono i mid (by lia) (by lia) hB,h4,by lia⟩
      | false=>
       rw[if_neg Bool.false_ne_true]
       refine kasC_pure ⟨rfl,rfl,lo,mid,rfl,by lia,by lia,h3,fun i a b=>?_,by lia⟩
       cases hi2:bey key left k pa base i with
       | false=>rfl
       | true=>rw[mono mid i a b hi2] at hB;cases hB
    ·rintro c st' s' ⟨e1,e2,lo,hi,rfl,h1,h2,h3,h4,h5⟩
     rw[e1,e2]
     dsimp only
     have e:lo=hi:=by lia
     subst e
     exact kasC_pure (h lo h2 h3 h4)
   ·rw[if_neg ho]
    refine kasC_bind (ask (hint+ofs) (by lia) _ ?_)
    dsimp only
    cases hB:bey key left k pa base (hint+ofs) with
    | true=>
     simp only[Bool.not_true,Bool.false_eq_true,if_false]
     exact kasC_pure ⟨rfl,rfl,ofs,2 * ofs+1,rfl,by lia,by lia,by lia,hB⟩
    | false=>
     simp only[Bool.not_false,if_true]
     apply kasC_pure
     dsimp only
     have LH:=nxt last ofs h1 h3 h4 (.inr hB)
     apply kasC_bind
     apply kasC_range
     refine bo (fun x c st' s'=>st'=st∧s'=s∧∃ lo hi,c=(none,lo,hi)∧lo≤hi∧hi≤m∧(∀ i,i<lo→bey key left k pa base i=true)∧(∀ i,hi≤i→i<m→bey key left k pa base i=false)∧hi - lo≤m - x) ?_ _ 0 _ _ _ ?_ ⟨rfl,rfl,_,_,rfl,LH⟩
     ·rintro x c st' s' ⟨e1,e2,lo,hi,rfl,h1,h2,h3,h4,h5⟩
      rw[e1,e2]
      dsimp only
      by_cases hlh:lo ≥ hi
      ·rw[if_pos hlh]
       apply kasC_pure
       dsimp only
       have e:lo=hi:=by lia
       subst e
       exact kasC_pure (h lo h2 h3 h4)
      ·rw[if_neg hlh]
       have m1:lo≤lo+(hi - lo) / 2:=by lia
       have m2:lo+(hi - lo) / 2<hi:=by lia
       generalize lo+(hi - lo) / 2=mid at m1 m2 ⊢
       refine kasC_bind (ask mid (by lia) _ ?_)
       dsimp only
       cases hB:bey key left k pa base mid with
       | true=>
        rw[if_pos rfl]
        exact kasC_pure ⟨rfl,rfl,mid+1,hi,rfl,by lia,h2,fun i hi'=>mono i mid (by lia) (by lia) hB,h4,by lia⟩
       | false=>
        rw[if_neg Bool.false_ne_true]
        refine kasC_pure ⟨rfl,rfl,lo,mid,rfl,by lia,by lia,h3,fun i a b=>?_,by lia⟩
        cases hi2:bey key left k pa base i with
        | false=>rfl
        | true=>rw[mono mid i a b hi2] at hB;cases hB
     ·rintro c st' s' ⟨e1,e2,lo,hi,rfl,h1,h2,h3,h4,h5⟩
      rw[e1,e2]
      dsimp only
      have e:lo=hi:=by lia
      subst e
      exact kasC_pure (h lo h2 h3 h4)
  ·rintro c st' s' ⟨e1,e2,last,ofs,rfl,h1,h2,h3,h4⟩
   rw[e1,e2]
   dsimp only
   have LH:=nxt last ofs h1 h3 h4 (.inl (by lia))
   apply kasC_bind
   apply kasC_range
   refine bo (fun x c st' s'=>st'=st∧s'=s∧∃ lo hi,c=(none,lo,hi)∧lo≤hi∧hi≤m∧(∀ i,i<lo→bey key left k pa base i=true)∧(∀ i,hi≤i→i<m→bey key left k pa base i=false)∧hi - lo≤m - x) ?_ _ 0 _ _ _ ?_ ⟨rfl,rfl,_,_,rfl,LH⟩
   ·rintro x c st' s' ⟨e1,e2,lo,hi,rfl,h1,h2,h3,h4,h5⟩
    rw[e1,e2]
    dsimp only
    by_cases hlh:lo ≥ hi
    ·rw[if_pos hlh]
     apply kasC_pure
     dsimp only
     have e:lo=hi:=by lia
     subst e
     exact kasC_pure (h lo h2 h3 h4)
    ·rw[if_neg hlh]
     have m1:lo≤lo+(hi - lo) / 2:=by lia
     have m2:lo+(hi - lo) / 2<hi:=by lia
     generalize lo+(hi - lo) / 2=mid at m1 m2 ⊢
     refine kasC_bind (ask mid (by lia) _ ?_)
     dsimp only
     cases hB:bey key left k pa base mid with
     | true=>
      rw[if_pos rfl]
      exact kasC_pure ⟨rfl,rfl,mid+1,hi,rfl,by lia,h2,fun i hi'=>mono i mid (by lia) (by lia) hB,h4,by lia⟩
     | false=>
      rw[if_neg Bool.false_ne_true]
      refine kasC_pure ⟨rfl,rfl,lo,mid,rfl,by lia,by lia,h3,fun i a b=>?_,by lia⟩
      cases hi2:bey key left k pa base i with
      | false=>rfl
      | true=>rw[mono mid i a b hi2] at hB;cases hB
   ·rintro c st' s' ⟨e1,e2,lo,hi,rfl,h1,h2,h3,h4,h5⟩
    rw[e1,e2]
    dsimp only
    have e:lo=hi:=by lia
    subst e
    exact kasC_pure (h lo h2 h3 h4)
 | false=>
  rw[if_neg Bool.false_ne_true]
  apply kasC_bind
  apply kasC_range
  have nxt:∀ last ofs,last<ofs→last≤hint→bey key left k pa base (hint - last)=false→(ofs ≥ hint+1∨bey key left k pa base (hint - ofs)=true)→
    hint+1 - min ofs (hint+1)≤hint - last∧hint - last≤m∧(∀ i,i<hint+1 - min ofs (hint+1)→bey key left k pa base i=true)∧(∀ i,hint - last≤i→i<m→bey key left k pa base i=false)∧hint - last - (hint+1 - min ofs (hint+1))≤m - 0:=fun last ofs a1 a2 a3 a4=>by
   refine⟨by lia,by lia,fun i hi=>?_,fun i h1 h2=>?_,by lia⟩
   ·rcases a4 with a4 | a4
    ·lia
    ·exact mono i (hint - ofs) (by lia) (by lia) a4
   ·cases hi2:bey key left k pa base i with
    | false=>rfl
    | true=>rw[mono (hint - last) i (by lia) h2 hi2] at a3;cases a3
  refine bo (fun x c st' s'=>st'=st∧s'=s∧∃ last ofs,c=(none,last,ofs)∧last<ofs∧x<ofs∧last≤hint∧bey key left k pa base (hint - last)=false) ?_ _ 0 _ _ _ ?_ ⟨rfl,rfl,0,1,rfl,by lia,by lia,by lia,hB0⟩
  ·rintro x c st' s' ⟨e1,e2,last,ofs,rfl,h1,h2,h3,h4⟩
   rw[e1,e2]
   dsimp only
   by_cases ho:ofs ≥ hint+1
   ·rw[if_pos ho]
    apply kasC_pure
    dsimp only
    have LH:=nxt last ofs h1 h3 h4 (.inl ho)
    apply kasC_bind
    apply kasC_range
    refine bo (fun x c st' s'=>st'=st∧s'=s∧∃ lo hi,c=(none,lo,hi)∧lo≤hi∧hi≤m∧(∀ i,i<lo→bey key left k pa base i=true)∧(∀ i,hi≤i→i<m→bey key left k pa base i=false)∧hi - lo≤m - x) ?_ _ 0 _ _ _ ?_ ⟨rfl,rfl,_,_,rfl,LH⟩
    ·rintro x c st' s' ⟨e1,e2,lo,hi,rfl,h1,h2,h3,h4,h5⟩
     rw[e1,e2]
     dsimp only
     by_cases hlh:lo ≥ hi
     ·rw[if_pos hlh]
      apply kasC_pure
      dsimp only
      have e:lo=hi:=by lia
      subst e
      exact kasC_pure (h lo h2 h3 h4)
     ·rw[if_neg hlh]
      have m1:lo≤lo+(hi - lo) / 2:=by lia
      have m2:lo+(hi - lo) / 2<hi:=by lia
      generalize lo+(hi - lo) / 2=mid at m1 m2 ⊢
      refine kasC_bind (ask mid (by lia) _ ?_)
      dsimp only
      cases hB:bey key left k pa base mid with
      | true=>
       rw[if_pos rfl]
       exact kasC_pure ⟨rfl,rfl,mid+1,hi,rfl,by lia,h2,fun i hi'=>mono i mid (by lia) (by lia) hB,h4,by lia⟩
      | false=>
       rw[if_neg Bool.false_ne_true]
       refine kasC_pure ⟨rfl,rfl,lo,mid,rfl,by lia,by lia,h3,fun i a b=>?_,by lia⟩
       cases hi2:bey key left k pa base i with
       | false=>rfl
       | true=>rw[mono mid i a b hi2] at hB;cases hB
    ·rintro c st' s' ⟨e1,e2,lo,hi,rfl,h1,h2,h3,h4,h5⟩
     rw[e1,e2]
     dsimp only
     have e:lo=hi:=by lia
     subst e
     exact kasC_pure (h lo h2 h3 h4)
   ·rw[if_neg ho]
    refine kasC_bind (ask (hint - ofs) (by lia) _ ?_)
    dsimp only
    cases hB:bey key left k pa base (hint - ofs) with
    | false=>
     rw[if_neg Bool.false_ne_true]
     exact kasC_pure ⟨rfl,rfl,ofs,2 * ofs+1,rfl,by lia,by lia,by lia,hB⟩
    | true=>
     rw[if_pos rfl]
     apply kasC_pure
     dsimp only
     have LH:=nxt last ofs h1 h3 h4 (.inr hB)
     apply kasC_bind
     apply kasC_range
     refine bo (fun x c st' s'=>st'=st∧s'=s∧∃ lo hi,c=(none,lo,hi)∧lo≤hi∧hi≤m∧(∀ i,i<lo→bey key left k pa base i=true)∧(∀ i,hi≤i→i<m→bey key left k pa base i=false)∧hi - lo≤m - x) ?_ _ 0 _ _ _ ?_ ⟨rfl,rfl,_,_,rfl,LH⟩
     ·rintro x c st' s' ⟨e1,e2,lo,hi,rfl,h1,h2,h3,h4,h5⟩
      rw[e1,e2]
      dsimp only
      by_cases hlh:lo ≥ hi
      ·rw[if_pos hlh]
       apply kasC_pure
       dsimp only
       have e:lo=hi:=by lia
       subst e
       exact kasC_pure (h lo h2 h3 h4)
      ·rw[if_neg hlh]
       have m1:lo≤lo+(hi - lo) / 2:=by lia
       have m2:lo+(hi - lo) / 2<hi:=by lia
       generalize lo+(hi - lo) / 2=mid at m1 m2 ⊢
       refine kasC_bind (ask mid (by lia) _ ?_)
       dsimp only
       cases hB:bey key left k pa base mid with
       | true=>
        rw[if_pos rfl]
        exact kasC_pure ⟨rfl,rfl,mid+1,hi,rfl,by lia,h2,fun i hi'=>mono i mid (by lia) (by lia) hB,h4,by lia⟩
       | false=>
        rw[if_neg Bool.false_ne_true]
        refine kasC_pure ⟨rfl,rfl,lo,mid,rfl,by lia,by lia,h3,fun i a b=>?_,by lia⟩
        cases hi2:bey key left k pa base i with
        | false=>rfl
        | true=>rw[mono mid i a b hi2] at hB;cases hB
     ·rintro c st' s' ⟨e1,e2,lo,hi,rfl,h1,h2,h3,h4,h5⟩
      rw[e1,e2]
      dsimp only
      have e:lo=hi:=by lia
      subst e
      exact kasC_pure (h lo h2 h3 h4)
  ·rintro c st' s' ⟨e1,e2,last,ofs,rfl,h1,h2,h3,h4⟩
   rw[e1,e2]
   dsimp only
   have LH:=nxt last ofs h1 h3 h4 (.inl (by lia))
   apply kasC_bind
   apply kasC_range
   refine bo (fun x c st' s'=>st'=st∧s'=s∧∃ lo hi,c=(none,lo,hi)∧lo≤hi∧hi≤m∧(∀ i,i<lo→bey key left k pa base i=true)∧(∀ i,hi≤i→i<m→bey key left k pa base i=false)∧hi - lo≤m - x) ?_ _ 0 _ _ _ ?_ ⟨rfl,rfl,_,_,rfl,LH⟩
   ·rintro x c st' s' ⟨e1,e2,lo,hi,rfl,h1,h2,h3,h4,h5⟩
    rw[e1,e2]
    dsimp only
    by_cases hlh:lo ≥ hi
    ·rw[if_pos hlh]
     apply kasC_pure
     dsimp only
     have e:lo=hi:=by lia
     subst e
     exact kasC_pure (h lo h2 h3 h4)
    ·rw[if_neg hlh]
     have m1:lo≤lo+(hi - lo) / 2:=by lia
     have m2:lo+(hi - lo) / 2<hi:=by lia
     generalize lo+(hi - lo) / 2=mid at m1 m2 ⊢
     refine kasC_bind (ask mid (by lia) _ ?_)
     dsimp only
     cases hB:bey key left k pa base mid with
     | true=>
      rw[if_pos rfl]
      exact kasC_pure ⟨rfl,rfl,mid+1,hi,rfl,by lia,h2,fun i hi'=>mono i mid (by lia) (by lia) hB,h4,by lia⟩
     | false=>
      rw[if_neg Bool.false_ne_true]
      refine kasC_pure ⟨rfl,rfl,lo,mid,rfl,by lia,by lia,h3,fun i a b=>?_,by lia⟩
      cases hi2:bey key left k pa base i with
      | false=>rfl
      | true=>rw[mono mid i a b hi2] at hB;cases hB
   ·rintro c st' s' ⟨e1,e2,lo,hi,rfl,h1,h2,h3,h4,h5⟩
    rw[e1,e2]
    dsimp only
    have e:lo=hi:=by lia
    subst e
    exact kasC_pure (h lo h2 h3 h4)
end
end L2
namespace L2
open PySem PySem.Spec PyProof.Rows PySem.W
section
variable {key:Nat→Int}
noncomputable def Srt (key:Nat→Int) (l:List Nat):Prop:=l.Pairwise fun x y=>key x≤key y
structure MLo (key:Nat→Int) (la lb:List Nat) (po:List Nat) (ia ib:Nat):Prop where
 perm:po.Perm (la.take ia++lb.take ib)
 sa:Srt key (po++la.drop ia)
 sb:Srt key (po++lb.drop ib)
 pa:ia+1<la.length
 pb:ib<lb.length
theorem aY {l m:List Nat}:Srt key (l++m)↔Srt key l∧Srt key m∧∀ x∈l,∀ y∈m,key x≤key y:=List.pairwise_append
theorem fu (l:List Nat) (i k:Nat):l.take i++(l.drop i).take k=l.take (i+k):=by rw[List.take_add]
theorem ef {la lb po:List Nat}{ia ib:Nat} (k:Nat) (perm:po.Perm (la.take ia++lb.take ib)) (sa:Srt key (po++la.drop ia)) (sb:Srt key (po++lb.drop ib)) (h:∀ x∈(la.drop ia).take k,∀ y∈lb.drop ib,key x≤key y):
  (po++(la.drop ia).take k).Perm (la.take (ia+k)++lb.take ib)∧Srt key (po++(la.drop ia).take k++la.drop (ia+k))∧Srt key (po++(la.drop ia).take k++lb.drop ib):=by
 refine⟨?_,?_,?_⟩
 ·rw[← fu la ia k]
  refine (perm.append_right _).trans ?_
  rw[List.append_assoc,List.append_assoc]
  exact List.Perm.append_left _ List.perm_append_comm
 ·rw[List.append_assoc,← List.drop_drop,List.take_append_drop]
  exact sa
 ·rw[List.append_assoc]
  have s1:=aY.mp sa
  have s2:=aY.mp sb
  refine aY.mpr ⟨s1.1,aY.mpr ⟨s1.2.1.sublist (List.take_sublist _ _),s2.2.1,h⟩,fun x hx y hy=>?_⟩
  rcases List.mem_append.mp hy with hy | hy
  ·exact s1.2.2 x hx y (List.mem_of_mem_take hy)
  ·exact s2.2.2 x hx y hy
theorem gq {la lb po:List Nat}{ia ib:Nat} (k:Nat) (perm:po.Perm (la.take ia++lb.take ib)) (sa:Srt key (po++la.drop ia)) (sb:Srt key (po++lb.drop ib)) (h:∀ x∈(lb.drop ib).take k,∀ y∈la.drop ia,key x≤key y):
  (po++(lb.drop ib).take k).Perm (la.take ia++lb.take (ib+k))∧Srt key (po++(lb.drop ib).take k++la.drop ia)∧Srt key (po++(lb.drop ib).take k++lb.drop (ib+k)):=by
 have:=ef (la:=lb) (lb:=la) k (perm.trans List.perm_append_comm) sb sa h
 exact⟨this.1.trans List.perm_append_comm,this.2.2,this.2.1⟩
theorem bp {l:List Nat}{i:Nat} (h:i<l.length):(l.drop i).take 1=[l.getD i 0]:=by
 rw[List.drop_eq_getElem_cons h,List.getD_eq_getElem?_getD,List.getElem?_eq_getElem h]
 rfl
theorem bI {l:List Nat}{i y:Nat} (h:y∈l.drop i):∃ j,i≤j∧j<l.length∧y=l.getD j 0:=by
 obtain⟨j,hj,e⟩:=List.mem_iff_getElem.mp h
 have hl:=hj
 rw[List.length_drop] at hl
 exact⟨i+j,by omega,by omega,by rw[← e,List.getElem_drop];simp[List.getD,show i+j<l.length by omega]⟩
theorem eh {l:List Nat}{i k y:Nat} (h:y∈(l.drop i).take k):∃ j,j<k∧i+j<l.length∧y=l.getD (i+j) 0:=by
 obtain⟨j,hj,e⟩:=List.mem_iff_getElem.mp h
 have hl:=hj
 rw[List.length_take,List.length_drop] at hl
 exact⟨j,by omega,by omega,by rw[← e,List.getElem_take,List.getElem_drop];simp[List.getD,show i+j<l.length by omega]⟩
theorem ej {l:List Nat} (h:Srt key l) {i j:Nat} (hij:i≤j) (hj:j<l.length):key (l.getD i 0)≤key (l.getD j 0):=by
 rcases Nat.lt_or_eq_of_le hij with hlt | rfl
 ·have:=List.pairwise_iff_getElem.mp h i j (by omega) hj hlt
  simpa [List.getD,hj,show i<l.length by omega] using this
 ·exact Int.le_refl _
theorem mD {l m:List Nat} (h:Srt key (l++m)):Srt key m:=(aY.mp h).2.1
theorem dC {po l:List Nat}{i j k:Nat} (h:Srt key (po++l.drop i)) (hj:i≤j) (hjk:j≤k) (hk:k<l.length):key (l.getD j 0)≤key (l.getD k 0):=by
 have:=ej (mD h) (i:=j - i) (j:=k - i) (by omega) (by rw[List.length_drop];omega)
 simpa [List.getD,List.getElem?_drop,show i+(j - i)=j by omega,show i+(k - i)=k by omega] using this
noncomputable def Mrg (key:Nat→Int) (it:Array Keyed) (la lb:List Nat) (out:Array Keyed):Prop:=∃ po:List Nat,out=(po.map (kas_item it)).toArray∧po.Perm (la++lb)∧Srt key po
theorem er {it:Array Keyed}{la lb po:List Nat}{ia ib:Nat} (perm:po.Perm (la.take ia++lb.take ib)) (sa:Srt key (po++la.drop ia)) (sb:Srt key (po++lb.drop ib)) (hib:ib=lb.length∨ia=la.length):
  Mrg key it la lb ((po.map (kas_item it)).toArray++(la.map (kas_item it)).toArray.extract ia la.length++(lb.map (kas_item it)).toArray.extract ib lb.length):=by
 refine⟨po++la.drop ia++lb.drop ib,?_,?_,?_⟩
 ·apply Array.ext'
  simp[List.map_drop,List.take_of_length_le]
 ·rw[List.append_assoc]
  refine (perm.append_right _).trans ?_
  have:(la.take ia++lb.take ib++(la.drop ia++lb.drop ib)).Perm ((la.take ia++la.drop ia)++(lb.take ib++lb.drop ib)):=by
   rw[List.append_assoc,List.append_assoc]
   refine List.Perm.append_left _ ?_
   rw[← List.append_assoc,← List.append_assoc]
   exact List.Perm.append_right _ List.perm_append_comm
  rw[List.take_append_drop,List.take_append_drop] at this
  exact this
 ·rcases hib with e | e
  ·rw[e,List.drop_length,List.append_nil]
   exact sa
  ·rw[e,List.drop_length,List.append_nil]
   exact sb
theorem et {it:Array Keyed}{la lb po:List Nat}{ia ib:Nat} (perm:po.Perm (la.take ia++lb.take ib)) (sa:Srt key (po++la.drop ia)) (sb:Srt key (po++lb.drop ib)) (hia:ia+1=la.length) (top:∀ x∈lb,key x≤key (la.getD (la.length - 1) 0)):
  Mrg key it la lb ((po.map (kas_item it)).toArray++(lb.map (kas_item it)).toArray.extract ib lb.length++(la.map (kas_item it)).toArray.extract ia la.length):=by
 refine⟨po++lb.drop ib++la.drop ia,?_,?_,?_⟩
 ·apply Array.ext'
  simp[List.map_drop,List.take_of_length_le]
 ·rw[List.append_assoc]
  refine (perm.append_right _).trans ?_
  have:(la.take ia++lb.take ib++(lb.drop ib++la.drop ia)).Perm ((la.take ia++la.drop ia)++(lb.take ib++lb.drop ib)):=by
   rw[List.append_assoc,List.append_assoc]
   refine List.Perm.append_left _ ?_
   rw[← List.append_assoc]
   exact List.perm_append_comm
  rw[List.take_append_drop,List.take_append_drop] at this
  exact this
 ·refine aY.mpr ⟨sb,mD sa,fun x hx y hy=>?_⟩
  rcases List.mem_append.mp hx with hx | hx
  ·exact (aY.mp sa).2.2 x hx y hy
  ·obtain⟨j,h1,h2,rfl⟩:=bI hy
   have:j=la.length - 1:=by omega
   rw[this]
   exact top x (List.mem_of_mem_drop hx)
end
end L2
namespace L2
open PySem PySem.Spec PyProof.Rows PySem.W
section
variable {prog:Program}{w:World}{A:Around}{E:Value→Shared→Prop}{κ:SortKind}{it:Array Keyed}{key:Nat→Int}{n:Nat}{s:Shared}
noncomputable def mF:Array Keyed→Array Keyed→StateT SortSt Sem (Array Keyed):=sortPriv% PySem.Builtin.mergeLo
structure SameSt (st0 st:SortSt):Prop where
 k:kindOf st=kindOf st0
 a:arrOf st=arrOf st0
 p:pendingOf st=pendingOf st0
 f:failedOf st=failedOf st0
theorem SameSt.refl (st:SortSt):SameSt st st:=⟨rfl,rfl,rfl,rfl⟩
theorem bJ {σ α:Type}{M:Model}{m:StateT σ Sem α}{Q Q':α→σ→Shared→Prop}{st:σ}{s':Shared} (h:kasC M A E m Q' st s') (g:∀ a st s',Q' a st s'→Q a st s'):kasC M A E m Q st s':=
 wpAny_mono h (fun r s' x=>g r.1 r.2 s' x) fun _ _ e=>e
theorem aI {l:List Nat}{i:Nat} (hi:i<l.length) {st:SortSt}{Q:Keyed→SortSt→Shared→Prop} (h:Q (kas_item it (l.getD i 0)) st s):kasC (model prog w) A E (elem' (l.map (kas_item it)).toArray i) Q st s:=by
 rw[elem'_eq,show ((l.map (kas_item it)).toArray)[i]?=some (kas_item it (l.getD i 0)) by simp[List.getD,hi]]
 exact kasC_pure h
theorem bX {l:List Nat} (hl:∀ x∈l,x<n) {i:Nat} (hi:i<l.length):l.getD i 0<n:=by
 rw[List.getD_eq_getElem?_getD,List.getElem?_eq_getElem hi]
 exact hl _ (List.getElem_mem hi)
theorem dh (l:List Nat) (i:Nat):l.toArray.getD i 0=l.getD i 0:=by simp[Array.getD,List.getD];split<;>simp_all
theorem jo (hc:aS n key (kas_cmp prog w A κ it) s) {k:Nat} (hk:k<n) {l:List Nat} (hl:∀ x∈l,x<n) {base m hint:Nat} (hb:base+m≤l.length) (hh:hint<m)
  (mono:∀ i j,base≤i→i≤j→j<base+m→key (l.getD i 0)≤key (l.getD j 0)) {st:SortSt} (hkind:kindOf st=κ) {Q:Option Nat→SortSt→Shared→Prop}
  (h:∀ r,r≤m→(∀ i,base≤i→i<base+r→key (l.getD i 0)≤key k)→(∀ i,base+r≤i→i<base+m→key k<key (l.getD i 0))→Q (some r) st s):
  kasC (model prog w) A E (g9 false (kas_item it k) (l.map (kas_item it)).toArray base m hint) Q st s:=by
 rw[← List.map_toArray]
 refine mC hc hk (fun i hi=>by rw[dh];exact bX hl (by simpa using hi)) (by simpa using hb) hh (fun i j hij hj hB=>?_) hkind fun r hr a b=>h r hr (fun i h1 h2=>?_) (fun i h1 h2=>?_)
 ·simp only[bey,dh,Bool.false_eq_true,if_false,Bool.not_eq_true',decide_eq_false_iff_not,Int.not_lt] at hB ⊢
  have:=mono (base+i) (base+j) (by omega) (by omega) (by omega)
  omega
 ·have:=a (i - base) (by omega)
  simp only[bey,dh,Bool.false_eq_true,if_false,Bool.not_eq_true',decide_eq_false_iff_not,Int.not_lt] at this
  rwa [show base+(i - base)=i by omega] at this
 ·have:=b (i - base) (by omega) (by omega)
  simp only[bey,dh,Bool.false_eq_true,if_false,Bool.not_eq_false',decide_eq_true_eq] at this
  rwa [show base+(i - base)=i by omega] at this
theorem gr (hc:aS n key (kas_cmp prog w A κ it) s) {k:Nat} (hk:k<n) {l:List Nat} (hl:∀ x∈l,x<n) {base m hint:Nat} (hb:base+m≤l.length) (hh:hint<m)
  (mono:∀ i j,base≤i→i≤j→j<base+m→key (l.getD i 0)≤key (l.getD j 0)) {st:SortSt} (hkind:kindOf st=κ) {Q:Option Nat→SortSt→Shared→Prop}
  (h:∀ r,r≤m→(∀ i,base≤i→i<base+r→key (l.getD i 0)<key k)→(∀ i,base+r≤i→i<base+m→key k≤key (l.getD i 0))→Q (some r) st s):
  kasC (model prog w) A E (g9 true (kas_item it k) (l.map (kas_item it)).toArray base m hint) Q st s:=by
 rw[← List.map_toArray]
 refine mC hc hk (fun i hi=>by rw[dh];exact bX hl (by simpa using hi)) (by simpa using hb) hh (fun i j hij hj hB=>?_) hkind fun r hr a b=>h r hr (fun i h1 h2=>?_) (fun i h1 h2=>?_)
 ·simp only[bey,dh,if_true,decide_eq_true_eq] at hB ⊢
  have:=mono (base+i) (base+j) (by omega) (by omega) (by omega)
  omega
 ·have:=a (i - base) (by omega)
  simp only[bey,dh,if_true,decide_eq_true_eq] at this
  rwa [show base+(i - base)=i by omega] at this
 ·have:=b (i - base) (by omega) (by omega)
  simp only[bey,dh,if_true,decide_eq_false_iff_not,Int.not_lt] at this
  rwa [show base+(i - base)=i by omega] at this
theorem aJ (po:List Nat) (y:Nat):(po.map (kas_item it)).toArray.push (kas_item it y)=((po++[y]).map (kas_item it)).toArray:=by simp
theorem bx (po l:List Nat) (i k:Nat):(po.map (kas_item it)).toArray++(l.map (kas_item it)).toArray.extract i (i+k)=((po++(l.drop i).take k).map (kas_item it)).toArray:=by
 apply Array.ext'
 simp[List.map_drop,List.map_take,List.drop_take]
end
end L2
namespace L2
open PySem PySem.Spec PyProof.Rows PySem.W
section
variable {prog:Program}{w:World}{A:Around}{E:Value→Shared→Prop}{κ:SortKind}{it:Array Keyed}{key:Nat→Int}{n:Nat}{s:Shared}
noncomputable def JLo (key:Nat→Int) (it:Array Keyed) (la lb:List Nat) (out:Array Keyed) (ia ib:Nat):Prop:=∃ po:List Nat,out=(po.map (kas_item it)).toArray∧MLo key la lb po ia ib
theorem mG {M:Model}{A:Around}{E:Value→Shared→Prop}{σ α:Type}{c:Nat→Prop}{dc:∀ g,Decidable (c g)}{a P:Nat→StateT σ Sem α}{Q:α→σ→Shared→Prop}{st:σ}{s:Shared} (x:Nat→Nat) (ha:∀ g,a g=P (x g)) (H:∀ g,kasC M A E (P g) Q st s):∀ g,kasC M A E (if c g then a g else P g) Q st s:=by
 intro g
 rw[ha]
 split
 ·exact H _
 ·exact H _
noncomputable def LoA (key:Nat→Int) (it:Array Keyed) (la lb:List Nat) (st:SortSt) (s:Shared)  : Option (Array Keyed)×Array Keyed×Nat×Nat×Nat→SortSt→Shared→Prop:=fun c st' s'=>s=s'∧SameSt st st'∧∃ out' p q r g,c=(some out',p,q,r,g)∧Mrg key it la lb out'
noncomputable def LoI (key:Nat→Int) (it:Array Keyed) (la lb:List Nat) (st:SortSt) (s:Shared) (x:Nat):Option (Array Keyed)×Array Keyed×Nat×Nat×Nat→SortSt→Shared→Prop:=fun c st' s'=>s=s'∧SameSt st st'∧∃ o ia ib g,c=(none,o,ia,ib,g)∧JLo key it la lb o ia ib∧x+1≤ia+ib
noncomputable def LoB (key:Nat→Int) (it:Array Keyed) (la lb:List Nat) (st:SortSt) (s:Shared) (x:Nat):Option (Array Keyed)×Array Keyed×Nat×Nat×Nat×Nat→SortSt→Shared→Prop:=fun c st' s'=>s=s'∧SameSt st st'∧((∃ out' p q r ac bc,c=(some out',p,q,r,ac,bc)∧Mrg key it la lb out')∨∃ o ia ib ac bc,c=(none,o,ia,ib,ac,bc)∧JLo key it la lb o ia ib∧x+2≤ia+ib)
noncomputable def LoJ (key:Nat→Int) (it:Array Keyed) (la lb:List Nat) (st:SortSt) (s:Shared) (x y:Nat):Option (Array Keyed)×Array Keyed×Nat×Nat×Nat×Nat→SortSt→Shared→Prop:=fun c st' s'=>s=s'∧SameSt st st'∧∃ o ia ib ac bc,c=(none,o,ia,ib,ac,bc)∧JLo key it la lb o ia ib∧x+1+y≤ia+ib
noncomputable def LoC (key:Nat→Int) (it:Array Keyed) (la lb:List Nat) (st:SortSt) (s:Shared) (x:Nat):Option (Array Keyed)×Array Keyed×Nat×Nat×Nat×Nat×Nat→SortSt→Shared→Prop:=fun c st' s'=>s=s'∧SameSt st st'∧((∃ out' p q r g ac bc,c=(some out',p,q,r,g,ac,bc)∧Mrg key it la lb out')∨∃ o ia ib g ac bc,c=(none,o,ia,ib,g,ac,bc)∧JLo key it la lb o ia ib∧x+2≤ia+ib)
noncomputable def LoK (key:Nat→Int) (it:Array Keyed) (la lb:List Nat) (st:SortSt) (s:Shared) (x y:Nat):Option (Array Keyed)×Array Keyed×Nat×Nat×Nat×Nat×Nat→SortSt→Shared→Prop:=fun c st' s'=>s=s'∧SameSt st st'∧∃ o ia ib g ac bc,c=(none,o,ia,ib,g,ac,bc)∧JLo key it la lb o ia ib∧x+2≤ia+ib
theorem LoA.a {key:Nat→Int}{it:Array Keyed}{la lb:List Nat}{st st':SortSt}{s:Shared}{out:Array Keyed}{p:Array Keyed}{q r:Nat}{g:Nat} (h:SameSt st st') (m:Mrg key it la lb out):LoA key it la lb st s (some out,p,q,r,g) st' s:=⟨rfl,h,_,_,_,_,_,rfl,m⟩
theorem LoI.k {key:Nat→Int}{it:Array Keyed}{la lb:List Nat}{st st':SortSt}{s:Shared}{x:Nat}{o:Array Keyed}{ia ib:Nat}{g:Nat} (h:SameSt st st') (j:JLo key it la lb o ia ib) (e:x+1≤ia+ib):LoI key it la lb st s x (none,o,ia,ib,g) st' s:=⟨rfl,h,_,_,_,_,rfl,j,e⟩
theorem LoB.a {key:Nat→Int}{it:Array Keyed}{la lb:List Nat}{st st':SortSt}{s:Shared}{x:Nat}{out:Array Keyed}{p:Array Keyed}{q r:Nat}{g g2:Nat} (h:SameSt st st') (m:Mrg key it la lb out):LoB key it la lb st s x (some out,p,q,r,g,g2) st' s:=⟨rfl,h,.inl ⟨_,_,_,_,_,_,rfl,m⟩⟩
theorem LoB.b {key:Nat→Int}{it:Array Keyed}{la lb:List Nat}{st st':SortSt}{s:Shared}{x:Nat}{o:Array Keyed}{ia ib:Nat}{g g2:Nat} (h:SameSt st st') (j:JLo key it la lb o ia ib) (e:x+2≤ia+ib):LoB key it la lb st s x (none,o,ia,ib,g,g2) st' s:=⟨rfl,h,.inr ⟨_,_,_,_,_,rfl,j,e⟩⟩
theorem LoJ.k {key:Nat→Int}{it:Array Keyed}{la lb:List Nat}{st st':SortSt}{s:Shared}{x y:Nat}{o:Array Keyed}{ia ib:Nat}{g g2:Nat} (h:SameSt st st') (j:JLo key it la lb o ia ib) (e:x+1+y≤ia+ib):LoJ key it la lb st s x y (none,o,ia,ib,g,g2) st' s:=⟨rfl,h,_,_,_,_,_,rfl,j,e⟩
theorem LoC.a {key:Nat→Int}{it:Array Keyed}{la lb:List Nat}{st st':SortSt}{s:Shared}{x:Nat}{out:Array Keyed}{p:Array Keyed}{q r:Nat}{g g2 g3:Nat} (h:SameSt st st') (m:Mrg key it la lb out):LoC key it la lb st s x (some out,p,q,r,g,g2,g3) st' s:=⟨rfl,h,.inl ⟨_,_,_,_,_,_,_,rfl,m⟩⟩
theorem LoC.b {key:Nat→Int}{it:Array Keyed}{la lb:List Nat}{st st':SortSt}{s:Shared}{x:Nat}{o:Array Keyed}{ia ib:Nat}{g g2 g3:Nat} (h:SameSt st st') (j:JLo key it la lb o ia ib) (e:x+2≤ia+ib):LoC key it la lb st s x (none,o,ia,ib,g,g2,g3) st' s:=⟨rfl,h,.inr ⟨_,_,_,_,_,_,rfl,j,e⟩⟩
theorem LoK.k {key:Nat→Int}{it:Array Keyed}{la lb:List Nat}{st st':SortSt}{s:Shared}{x y:Nat}{o:Array Keyed}{ia ib:Nat}{g g2 g3:Nat} (h:SameSt st st') (j:JLo key it la lb o ia ib) (e:x+2≤ia+ib):LoK key it la lb st s x y (none,o,ia,ib,g,g2,g3) st' s:=⟨rfl,h,_,_,_,_,_,_,rfl,j,e⟩
theorem bq {a b:Nat} (h:a=b):(a == b)=true:=by simp[h]
theorem nbq {a b:Nat} (h:¬ a=b):¬ (a == b)=true:=by simp[h]
theorem ul (hc:aS n key (kas_cmp prog w A κ it) s) {la lb:List Nat} (hla:∀ x∈la,x<n) (hlb:∀ x∈lb,x<n) (sla:Srt key la) (slb:Srt key lb) (h0:0<la.length) (h1:0<lb.length)
  (first:∀ x∈la,key (lb.getD 0 0)≤key x) (top:∀ x∈lb,key x≤key (la.getD (la.length - 1) 0)) {st:SortSt} (hkind:kindOf st=κ) {Q:Array Keyed→SortSt→Shared→Prop}
  (h:∀ out st',Mrg key it la lb out→SameSt st st'→Q out st' s):
  kasC (model prog w) A E (mF (la.map (kas_item it)).toArray (lb.map (kas_item it)).toArray) Q st s:=by
 unfold mF
 with_unfolding_all refine kasC_bind (kasC_lift (wpAny_rule ?_))
 refine kasC_bind (aI h1 ?_)
 dsimp only
 generalize hza:(List.map (kas_item it) la).toArray.size=za
 obtain rfl:la.length=za:=by rw[← hza];simp
 generalize hzb:(List.map (kas_item it) lb).toArray.size=zb
 obtain rfl:lb.length=zb:=by rw[← hzb];simp
 have perm0:[lb.getD 0 0].Perm (la.take 0++lb.take 1):=by
  have:=bp (l:=lb) (i:=0) h1
  simp only[List.drop_zero] at this
  rw[this]
  exact List.Perm.refl _
 have sb0:Srt key ([lb.getD 0 0]++lb.drop 1):=by
  have:=bp (l:=lb) (i:=0) h1
  simp only[List.drop_zero] at this
  rw[← this,List.take_append_drop]
  exact slb
 have sa0:Srt key ([lb.getD 0 0]++la.drop 0):=aY.mpr ⟨List.pairwise_singleton _ _,by rw[List.drop_zero];exact sla,fun x hx y hy=>by
  rw[List.mem_singleton.mp hx]
  exact first y (by rwa [List.drop_zero] at hy)⟩
 have e0:#[kas_item it (lb.getD 0 0)]=([lb.getD 0 0].map (kas_item it)).toArray:=rfl
 rw[e0]
 by_cases c1:1=lb.length
 ·rw[if_pos (bq c1)]
  exact kasC_pure (h _ _ (er perm0 sa0 sb0 (.inl c1)) (SameSt.refl st))
 rw[if_neg (nbq c1)]
 by_cases c2:0+1=la.length
 ·rw[if_pos (bq c2)]
  exact kasC_pure (h _ _ (et perm0 sa0 sb0 c2 top) (SameSt.refl st))
 rw[if_neg (nbq c2)]
 refine kasC_bind (kasC_get ?_)
 refine kasC_bind (bJ (Q':=LoA key it la lb st s) (kasC_range (bo (LoI key it la lb st s) ?step _ 0 _ _ _ ?fin (LoI.k (SameSt.refl st) ⟨_,rfl,perm0,sa0,sb0,by lia,by lia⟩ (by lia)))) ?after)
 case after=>
  rintro c st' s' ⟨rfl,hs,out',o,ia,ib,g,rfl,hm⟩
  exact kasC_pure (h _ _ hm hs)
 case fin=>
  rintro c st' s' ⟨rfl,hs,o,ia,ib,g,rfl,⟨po,rfl,m⟩,hx⟩
  have:=m.pa
  have:=m.pb
  lia
 case step=>
  rintro x c st' s' ⟨rfl,hs,o,ia,ib,g,rfl,hJ,hx⟩
  dsimp only
  refine kasC_bind (bJ (Q':=LoB key it la lb st s x)
   (kasC_range (bo (LoJ key it la lb st s x) ?step1 _ 0 _ _ _ ?fin1 (LoJ.k hs hJ (by lia)))) ?after1)
  case fin1=>
   rintro c st' s' ⟨rfl,hs,o,ia,ib,ac,bc,rfl,hJ,hx⟩
   exact LoB.b hs hJ (by lia)
  case step1=>
   rintro y c st' s' ⟨rfl,hs,o,ia,ib,ac,bc,rfl,⟨po,rfl,m⟩,hx⟩
   have m1:=m.pa
   have m2:=m.pb
   have hk':kindOf st'=κ:=hs.k.trans hkind
   dsimp only
   refine kasC_bind (aI m2 ?_)
   refine kasC_bind (aI (show ia<la.length by lia) ?_)
   refine kasC_bind (gn hc (bX hlb m2) (bX hla (show ia<la.length by lia)) hk' ?_)
   dsimp only
   by_cases hw:key (lb.getD ib 0)<key (la.getD ia 0)
   ·rw[if_pos (by simpa using hw)]
    refine kasC_bind (aI m2 ?_)
    have b1:=gq 1 m.perm m.sa m.sb (fun x hx y hy=>by
     rw[bp m2,List.mem_singleton] at hx
     obtain⟨j,j1,j2,rfl⟩:=bI hy
     have:=dC m.sa (Nat.le_refl _) j1 j2
     rw[hx]
     lia)
    rw[bp m2] at b1
    rw[aJ]
    try dsimp only
    by_cases hz:ib+1=lb.length
    ·rw[if_pos (bq hz)]
     exact kasC_pure (LoB.a hs (er b1.1 b1.2.1 b1.2.2 (.inl hz)))
    ·rw[if_neg (nbq hz)]
     have J':JLo key it la lb ((po++[lb.getD ib 0]).map (kas_item it)).toArray ia (ib+1):=⟨_,rfl,b1.1,b1.2.1,b1.2.2,m1,by lia⟩
     by_cases hg:bc+1 ≥ g
     ·rw[if_pos hg]
      exact kasC_pure (LoB.b hs J' (by lia))
     ·rw[if_neg hg]
      exact kasC_pure (LoJ.k hs J' (by lia))
   ·rw[if_neg (by simpa using hw)]
    refine kasC_bind (aI (show ia<la.length by lia) ?_)
    have b1:=ef 1 m.perm m.sa m.sb (fun x hx y hy=>by
     rw[bp (show ia<la.length by lia),List.mem_singleton] at hx
     obtain⟨j,j1,j2,rfl⟩:=bI hy
     have:=dC m.sb (Nat.le_refl _) j1 j2
     rw[hx]
     lia)
    rw[bp (show ia<la.length by lia)] at b1
    rw[aJ]
    try dsimp only
    by_cases hz:ia+1+1=la.length
    ·rw[if_pos (bq hz)]
     exact kasC_pure (LoB.a hs (et b1.1 b1.2.1 b1.2.2 hz top))
    ·rw[if_neg (nbq hz)]
     have J':JLo key it la lb ((po++[la.getD ia 0]).map (kas_item it)).toArray (ia+1) ib:=⟨_,rfl,b1.1,b1.2.1,b1.2.2,by lia,m2⟩
     by_cases hg:ac+1 ≥ g
     ·rw[if_pos hg]
      exact kasC_pure (LoB.b hs J' (by lia))
     ·rw[if_neg hg]
      exact kasC_pure (LoJ.k hs J' (by lia))
  case after1=>
   rintro c st' s' ⟨rfl,hs,⟨out',o,ia,ib,ac,bc,rfl,hm⟩ | ⟨o,ia,ib,ac,bc,rfl,hJ,hx⟩⟩
   ·exact kasC_pure (LoA.a hs hm)
   ·dsimp only
    refine kasC_bind (kasC_lift (wpAny_rule ?_))
    try dsimp only
    refine kasC_bind (bJ (Q':=LoC key it la lb st s x)
     (kasC_range (bo (LoK key it la lb st s x) ?step2 _ 0 _ _ _ ?fin2 (LoK.k hs hJ (by lia)))) ?after2)
    case fin2=>
     rintro c st' s' ⟨rfl,hs,o,ia,ib,g,ac,bc,rfl,hJ,hx⟩
     exact LoC.b hs hJ (by lia)
    case after2=>
     rintro c st' s' ⟨rfl,hs,⟨out',o,ia,ib,g,ac,bc,rfl,hm⟩ | ⟨o,ia,ib,g,ac,bc,rfl,hJ,hx⟩⟩
     ·exact kasC_pure (LoA.a hs hm)
     ·dsimp only
      refine kasC_bind (kasC_modify ?_)
      exact kasC_pure (LoI.k ⟨hs.k,hs.a,hs.p,hs.f⟩ hJ (by lia))
    case step2=>
     rintro y c st' s' ⟨rfl,hs,o,ia,ib,g,ac,bc,rfl,⟨po,rfl,m⟩,hx⟩
     have m1:=m.pa
     have m2:=m.pb
     dsimp only
     revert g
     refine mG (fun g=>g - 1) ?ha ?_
     case ha=>exact fun g=>rfl
     intro g
     refine kasC_bind (kasC_modify ?_)
     refine kasC_bind (aI m2 ?_)
     refine kasC_bind (jo hc (bX hlb m2) hla (base:=ia) (m:=la.length - ia) (hint:=0) (by lia) (by lia) (fun i j a b c=>dC m.sa a b (by lia)) (by exact hs.k.trans hkind) ?_)
     intro k hk1 lo1 hi1
     dsimp only
     by_cases hk0:k > 0
     ·rw[if_pos hk0]
      have p1:=ef k m.perm m.sa m.sb (fun x hx y hy=>by
       obtain⟨j,j0,j1,rfl⟩:=eh hx
       obtain⟨j',a1,a2,rfl⟩:=bI hy
       have:=lo1 (ia+j) (by lia) (by lia)
       have:=dC m.sb (Nat.le_refl _) a1 a2
       lia)
      by_cases hz:ia+k+1=la.length
      ·rw[if_pos (bq hz)]
       exact kasC_pure (LoC.a ⟨hs.k,hs.a,hs.p,hs.f⟩ (by rw[bx];exact et p1.1 p1.2.1 p1.2.2 hz top))
      rw[if_neg (nbq hz)]
      by_cases hz2:ia+k=la.length
      ·rw[if_pos (bq hz2)]
       exact kasC_pure (LoC.a ⟨hs.k,hs.a,hs.p,hs.f⟩ (by rw[bx];exact er p1.1 p1.2.1 p1.2.2 (.inr hz2)))
      rw[if_neg (nbq hz2)]
      have hiA:∀ i,ia+k≤i→i<la.length→key (lb.getD ib 0)<key (la.getD i 0):=fun i a b=>hi1 i a (by lia)
      refine kasC_bind (aI m2 ?_)
      have p2:=gq 1 p1.1 p1.2.1 p1.2.2 (fun x hx y hy=>by
       rw[bp m2,List.mem_singleton] at hx
       obtain⟨j,j1,j2,rfl⟩:=bI hy
       have:=hiA j j1 j2
       rw[hx]
       lia)
      rw[bp m2] at p2
      by_cases hz3:ib+1=lb.length
      ·rw[if_pos (bq hz3)]
       exact kasC_pure (LoC.a ⟨hs.k,hs.a,hs.p,hs.f⟩ (by rw[bx,aJ];exact er p2.1 p2.2.1 p2.2.2 (.inl hz3)))
      rw[if_neg (nbq hz3)]
      refine kasC_bind (aI (show ia+k<la.length by lia) ?_)
      refine kasC_bind (gr hc (bX hla (show ia+k<la.length by lia)) hlb (base:=ib+1) (m:=lb.length - (ib+1)) (hint:=0) (by lia) (by lia) (fun i j a b c=>dC p2.2.2 a b (by lia)) (by exact hs.k.trans hkind) ?_)
      intro k2 hk2 lo2 hi2
      dsimp only
      by_cases hk3:k2 > 0
      ·rw[if_pos hk3]
       have p3:=gq k2 p2.1 p2.2.1 p2.2.2 (fun x hx y hy=>by
        obtain⟨j,j0,j1,rfl⟩:=eh hx
        obtain⟨j',a1,a2,rfl⟩:=bI hy
        have:=lo2 (ib+1+j) (by lia) (by lia)
        have:=dC p2.2.1 (Nat.le_refl _) a1 a2
        lia)
       by_cases hz4:ib+1+k2=lb.length
       ·rw[if_pos (bq hz4)]
        exact kasC_pure (LoC.a ⟨hs.k,hs.a,hs.p,hs.f⟩ (by rw[bx,aJ,bx];exact er p3.1 p3.2.1 p3.2.2 (.inl hz4)))
       rw[if_neg (nbq hz4)]
       have hiB:∀ i,ib+1+k2≤i→i<lb.length→key (la.getD (ia+k) 0)≤key (lb.getD i 0):=fun i a b=>hi2 i a (by lia)
       refine kasC_bind (aI (show ia+k<la.length by lia) ?_)
       have p4:=ef 1 p3.1 p3.2.1 p3.2.2 (fun x hx y hy=>by
        rw[bp (show ia+k<la.length by lia),List.mem_singleton] at hx
        obtain⟨j,j1,j2,rfl⟩:=bI hy
        have:=hiB j j1 j2
        rw[hx]
        exact this)
       rw[bp (show ia+k<la.length by lia)] at p4
       by_cases hz5:ia+k+1+1=la.length
       ·rw[if_pos (bq hz5)]
        exact kasC_pure (LoC.a ⟨hs.k,hs.a,hs.p,hs.f⟩ (by rw[bx,aJ,bx,aJ];exact et p4.1 p4.2.1 p4.2.2 hz5 top))
       rw[if_neg (nbq hz5)]
       by_cases hb:(decide (k<7) && decide (k2<7))=true
       ·rw[if_pos hb]
        exact kasC_pure (LoC.b ⟨hs.k,hs.a,hs.p,hs.f⟩ ⟨_,by rw[bx,aJ,bx,aJ],p4.1,p4.2.1,p4.2.2,by lia,by lia⟩ (by lia))
       ·rw[if_neg hb]
        exact kasC_pure (LoK.k ⟨hs.k,hs.a,hs.p,hs.f⟩ ⟨_,by rw[bx,aJ,bx,aJ],p4.1,p4.2.1,p4.2.2,by lia,by lia⟩ (by lia))
      ·rw[if_neg hk3]
       have p3:=p2
       have hiB:∀ i,ib+1≤i→i<lb.length→key (la.getD (ia+k) 0)≤key (lb.getD i 0):=fun i a b=>hi2 i (by lia) (by lia)
       refine kasC_bind (aI (show ia+k<la.length by lia) ?_)
       have p4:=ef 1 p3.1 p3.2.1 p3.2.2 (fun x hx y hy=>by
        rw[bp (show ia+k<la.length by lia),List.mem_singleton] at hx
        obtain⟨j,j1,j2,rfl⟩:=bI hy
        have:=hiB j j1 j2
        rw[hx]
        exact this)
       rw[bp (show ia+k<la.length by lia)] at p4
       by_cases hz5:ia+k+1+1=la.length
       ·rw[if_pos (bq hz5)]
        exact kasC_pure (LoC.a ⟨hs.k,hs.a,hs.p,hs.f⟩ (by rw[bx,aJ,aJ];exact et p4.1 p4.2.1 p4.2.2 hz5 top))
       rw[if_neg (nbq hz5)]
       by_cases hb:(decide (k<7) && decide (k2<7))=true
       ·rw[if_pos hb]
        exact kasC_pure (LoC.b ⟨hs.k,hs.a,hs.p,hs.f⟩ ⟨_,by rw[bx,aJ,aJ],p4.1,p4.2.1,p4.2.2,by lia,by lia⟩ (by lia))
       ·rw[if_neg hb]
        exact kasC_pure (LoK.k ⟨hs.k,hs.a,hs.p,hs.f⟩ ⟨_,by rw[bx,aJ,aJ],p4.1,p4.2.1,p4.2.2,by lia,by lia⟩ (by lia))
     ·rw[if_neg hk0]
      have p1:po.Perm (la.take ia++lb.take ib)∧Srt key (po++la.drop ia)∧Srt key (po++lb.drop ib):=⟨m.perm,m.sa,m.sb⟩
      have hiA:∀ i,ia≤i→i<la.length→key (lb.getD ib 0)<key (la.getD i 0):=fun i a b=>hi1 i (by lia) (by lia)
      refine kasC_bind (aI m2 ?_)
      have p2:=gq 1 p1.1 p1.2.1 p1.2.2 (fun x hx y hy=>by
       rw[bp m2,List.mem_singleton] at hx
       obtain⟨j,j1,j2,rfl⟩:=bI hy
       have:=hiA j j1 j2
       rw[hx]
       lia)
      rw[bp m2] at p2
      by_cases hz3:ib+1=lb.length
      ·rw[if_pos (bq hz3)]
       exact kasC_pure (LoC.a ⟨hs.k,hs.a,hs.p,hs.f⟩ (by rw[aJ];exact er p2.1 p2.2.1 p2.2.2 (.inl hz3)))
      rw[if_neg (nbq hz3)]
      refine kasC_bind (aI (show ia<la.length by lia) ?_)
      refine kasC_bind (gr hc (bX hla (show ia<la.length by lia)) hlb (base:=ib+1) (m:=lb.length - (ib+1)) (hint:=0) (by lia) (by lia) (fun i j a b c=>dC p2.2.2 a b (by lia)) (by exact hs.k.trans hkind) ?_)
      intro k2 hk2 lo2 hi2
      dsimp only
      by_cases hk3:k2 > 0
      ·rw[if_pos hk3]
       have p3:=gq k2 p2.1 p2.2.1 p2.2.2 (fun x hx y hy=>by
        obtain⟨j,j0,j1,rfl⟩:=eh hx
        obtain⟨j',a1,a2,rfl⟩:=bI hy
        have:=lo2 (ib+1+j) (by lia) (by lia)
        have:=dC p2.2.1 (Nat.le_refl _) a1 a2
        lia)
       by_cases hz4:ib+1+k2=lb.length
       ·rw[if_pos (bq hz4)]
        exact kasC_pure (LoC.a ⟨hs.k,hs.a,hs.p,hs.f⟩ (by rw[aJ,bx];exact er p3.1 p3.2.1 p3.2.2 (.inl hz4)))
       rw[if_neg (nbq hz4)]
       have hiB:∀ i,ib+1+k2≤i→i<lb.length→key (la.getD (ia) 0)≤key (lb.getD i 0):=fun i a b=>hi2 i a (by lia)
       refine kasC_bind (aI (show ia<la.length by lia) ?_)
       have p4:=ef 1 p3.1 p3.2.1 p3.2.2 (fun x hx y hy=>by
        rw[bp (show ia<la.length by lia),List.mem_singleton] at hx
        obtain⟨j,j1,j2,rfl⟩:=bI hy
        have:=hiB j j1 j2
        rw[hx]
        exact this)
       rw[bp (show ia<la.length by lia)] at p4
       by_cases hz5:ia+1+1=la.length
       ·rw[if_pos (bq hz5)]
        exact kasC_pure (LoC.a ⟨hs.k,hs.a,hs.p,hs.f⟩ (by rw[aJ,bx,aJ];exact et p4.1 p4.2.1 p4.2.2 hz5 top))
       rw[if_neg (nbq hz5)]
       by_cases hb:(decide (k<7) && decide (k2<7))=true
       ·rw[if_pos hb]
        exact kasC_pure (LoC.b ⟨hs.k,hs.a,hs.p,hs.f⟩ ⟨_,by rw[aJ,bx,aJ],p4.1,p4.2.1,p4.2.2,by lia,by lia⟩ (by lia))
       ·rw[if_neg hb]
        exact kasC_pure (LoK.k ⟨hs.k,hs.a,hs.p,hs.f⟩ ⟨_,by rw[aJ,bx,aJ],p4.1,p4.2.1,p4.2.2,by lia,by lia⟩ (by lia))
      ·rw[if_neg hk3]
       have p3:=p2
       have hiB:∀ i,ib+1≤i→i<lb.length→key (la.getD (ia) 0)≤key (lb.getD i 0):=fun i a b=>hi2 i (by lia) (by lia)
       refine kasC_bind (aI (show ia<la.length by lia) ?_)
       have p4:=ef 1 p3.1 p3.2.1 p3.2.2 (fun x hx y hy=>by
        rw[bp (show ia<la.length by lia),List.mem_singleton] at hx
        obtain⟨j,j1,j2,rfl⟩:=bI hy
        have:=hiB j j1 j2
        rw[hx]
        exact this)
       rw[bp (show ia<la.length by lia)] at p4
       by_cases hz5:ia+1+1=la.length
       ·rw[if_pos (bq hz5)]
        exact kasC_pure (LoC.a ⟨hs.k,hs.a,hs.p,hs.f⟩ (by rw[aJ,aJ];exact et p4.1 p4.2.1 p4.2.2 hz5 top))
       rw[if_neg (nbq hz5)]
       by_cases hb:(decide (k<7) && decide (k2<7))=true
       ·rw[if_pos hb]
        exact kasC_pure (LoC.b ⟨hs.k,hs.a,hs.p,hs.f⟩ ⟨_,by rw[aJ,aJ],p4.1,p4.2.1,p4.2.2,by lia,by lia⟩ (by lia))
       ·rw[if_neg hb]
        exact kasC_pure (LoK.k ⟨hs.k,hs.a,hs.p,hs.f⟩ ⟨_,by rw[aJ,aJ],p4.1,p4.2.1,p4.2.2,by lia,by lia⟩ (by lia))
end
end L2
namespace L2
open PySem PySem.Spec PyProof.Rows PySem.W
section
variable {prog:Program}{w:World}{A:Around}{E:Value→Shared→Prop}{κ:SortKind}{it:Array Keyed}{key:Nat→Int}{n:Nat}{s:Shared}
noncomputable def mH:Array Keyed→Array Keyed→StateT SortSt Sem (Array Keyed):=sortPriv% PySem.Builtin.mergeHi
theorem jp {l:List Nat}{i j:Nat} (hij:i≤j) (hj:j≤l.length):l.drop i=(l.take j).drop i++l.drop j:=by
 have e:l.drop i=(l.take j++l.drop j).drop i:=by rw[List.take_append_drop]
 rw[e,List.drop_append_of_le_length (by rw[List.length_take];omega)]
theorem um {l:List Nat}{i j:Nat} (hij:i≤j):l.take i++(l.take j).drop i=l.take j:=by
 have:=List.take_append_drop i (l.take j)
 rwa [List.take_take,Nat.min_eq_left hij] at this
theorem eu {la lb ro:List Nat}{na nb:Nat} (k:Nat) (hk:k≤na) (hna:na≤la.length) (perm:ro.Perm (la.drop na++lb.drop nb)) (sa:Srt key (la.take na++ro)) (sb:Srt key (lb.take nb++ro)) (h:∀ x∈(la.take na).drop k,∀ y∈lb.take nb,key y≤key x):
  ((la.take na).drop k++ro).Perm (la.drop k++lb.drop nb)∧Srt key (la.take k++((la.take na).drop k++ro))∧Srt key (lb.take nb++((la.take na).drop k++ro)):=by
 refine⟨?_,?_,?_⟩
 ·rw[jp hk hna,List.append_assoc]
  exact List.Perm.append_left _ perm
 ·rw[← List.append_assoc,um hk]
  exact sa
 ·have s1:=aY.mp sa
  have s2:=aY.mp sb
  refine aY.mpr ⟨s2.1,aY.mpr ⟨s1.1.sublist (List.drop_sublist _ _),s2.2.1,fun x hx y hy=>s1.2.2 x (List.mem_of_mem_drop hx) y hy⟩,fun x hx y hy=>?_⟩
  rcases List.mem_append.mp hy with hy | hy
  ·exact h y hy x hx
  ·exact s2.2.2 x hx y hy
theorem gs {la lb ro:List Nat}{na nb:Nat} (k:Nat) (hk:k≤nb) (hnb:nb≤lb.length) (perm:ro.Perm (la.drop na++lb.drop nb)) (sa:Srt key (la.take na++ro)) (sb:Srt key (lb.take nb++ro)) (h:∀ x∈(lb.take nb).drop k,∀ y∈la.take na,key y≤key x):
  ((lb.take nb).drop k++ro).Perm (la.drop na++lb.drop k)∧Srt key (la.take na++((lb.take nb).drop k++ro))∧Srt key (lb.take k++((lb.take nb).drop k++ro)):=by
 have:=eu (la:=lb) (lb:=la) k hk hnb (perm.trans List.perm_append_comm) sb sa h
 exact⟨this.1.trans List.perm_append_comm,this.2.2,this.2.1⟩
theorem bA {l:List Nat}{i:Nat} (h0:0<i) (h:i≤l.length):(l.take i).drop (i - 1)=[l.getD (i - 1) 0]:=by
 rw[List.drop_take,show i - (i - 1)=1 by omega]
 exact bp (by omega)
theorem bY {l:List Nat}{i y:Nat} (h:y∈l.take i):∃ j,j<i∧j<l.length∧y=l.getD j 0:=by
 have:=eh (i:=0) (k:=i) (y:=y) (l:=l) (by rwa [List.drop_zero])
 obtain⟨j,a,b,e⟩:=this
 exact⟨j,a,by omega,by rw[e];congr 1;omega⟩
theorem jq {l:List Nat}{i k y:Nat} (h:y∈(l.take k).drop i):∃ j,i≤j∧j<k∧j<l.length∧y=l.getD j 0:=by
 rw[List.drop_take] at h
 obtain⟨j,a,b,e⟩:=eh h
 exact⟨i+j,by omega,by omega,b,e⟩
theorem dD {l ro:List Nat}{i j k:Nat} (h:Srt key (l.take i++ro)) (hjk:j≤k) (hk:k<i) (hl:k<l.length):key (l.getD j 0)≤key (l.getD k 0):=by
 have:=ej (aY.mp h).1 (i:=j) (j:=k) hjk (by rw[List.length_take];omega)
 simpa [List.getD,List.getElem?_take,show j<i by omega,hk] using this
theorem di {la lb ro:List Nat}{na nb:Nat} (perm:ro.Perm (la.drop na++lb.drop nb)) (sa:Srt key (la.take na++ro)) (sb:Srt key (lb.take nb++ro)) (hz:na=0∨nb=0):
  Mrg key it la lb ((la.map (kas_item it)).toArray.extract 0 na++(lb.map (kas_item it)).toArray.extract 0 nb++(ro.reverse.map (kas_item it)).toArray.reverse):=by
 refine⟨la.take na++lb.take nb++ro,?_,?_,?_⟩
 ·apply Array.ext'
  simp[List.map_take]
 ·refine (List.Perm.append_left _ perm).trans ?_
  have:(la.take na++lb.take nb++(la.drop na++lb.drop nb)).Perm ((la.take na++la.drop na)++(lb.take nb++lb.drop nb)):=by
   rw[List.append_assoc,List.append_assoc]
   refine List.Perm.append_left _ ?_
   rw[← List.append_assoc,← List.append_assoc]
   exact List.Perm.append_right _ List.perm_append_comm
  rw[List.take_append_drop,List.take_append_drop] at this
  exact this
 ·rcases hz with e | e
  ·rw[e,List.take_zero,List.nil_append]
   exact sb
  ·rw[e,List.take_zero,List.append_nil]
   exact sa
theorem fw {la lb ro:List Nat}{na nb:Nat} (perm:ro.Perm (la.drop na++lb.drop nb)) (sa:Srt key (la.take na++ro)) (sb:Srt key (lb.take nb++ro)) (hz:nb=1) (first:∀ x∈la,key (lb.getD 0 0)≤key x):
  Mrg key it la lb ((lb.map (kas_item it)).toArray.extract 0 nb++(la.map (kas_item it)).toArray.extract 0 na++(ro.reverse.map (kas_item it)).toArray.reverse):=by
 refine⟨lb.take nb++la.take na++ro,?_,?_,?_⟩
 ·apply Array.ext'
  simp[List.map_take]
 ·refine (List.Perm.append_left _ perm).trans ?_
  have:(lb.take nb++la.take na++(la.drop na++lb.drop nb)).Perm ((la.take na++la.drop na)++(lb.take nb++lb.drop nb)):=by
   rw[List.append_assoc,← List.append_assoc (la.take na),← List.append_assoc (la.take na++la.drop na)]
   rw[← List.append_assoc (lb.take nb)]
   exact List.Perm.append_right _ List.perm_append_comm
  rw[List.take_append_drop,List.take_append_drop] at this
  exact this
 ·rw[List.append_assoc]
  refine aY.mpr ⟨(aY.mp sb).1,sa,fun x hx y hy=>?_⟩
  rcases List.mem_append.mp hy with hy | hy
  ·obtain⟨j,h1,h2,rfl⟩:=bY hx
   have:j=0:=by omega
   rw[this]
   exact first y (List.mem_of_mem_take hy)
  ·exact (aY.mp sb).2.2 x hx y hy
theorem aF (ro:List Nat) (y:Nat):(ro.reverse.map (kas_item it)).toArray.push (kas_item it y)=(([y]++ro).reverse.map (kas_item it)).toArray:=by simp
theorem bj (ro l:List Nat) (i k:Nat):(ro.reverse.map (kas_item it)).toArray++((l.map (kas_item it)).toArray.extract i k).reverse=(((l.take k).drop i++ro).reverse.map (kas_item it)).toArray:=by
 apply Array.ext'
 simp[List.map_drop,List.map_take,List.drop_take]
structure MHi (key:Nat→Int) (la lb:List Nat) (ro:List Nat) (na nb:Nat):Prop where
 perm:ro.Perm (la.drop na++lb.drop nb)
 sa:Srt key (la.take na++ro)
 sb:Srt key (lb.take nb++ro)
 pa:0<na
 pb:1<nb
 qa:na≤la.length
 qb:nb≤lb.length
noncomputable def JHi (key:Nat→Int) (it:Array Keyed) (la lb:List Nat) (out:Array Keyed) (na nb:Nat):Prop:=∃ ro:List Nat,out=(ro.reverse.map (kas_item it)).toArray∧MHi key la lb ro na nb
end
end L2
namespace L2
open PySem PySem.Spec PyProof.Rows PySem.W
section
variable {prog:Program}{w:World}{A:Around}{E:Value→Shared→Prop}{κ:SortKind}{it:Array Keyed}{key:Nat→Int}{n:Nat}{s:Shared}
noncomputable def HiA (key:Nat→Int) (it:Array Keyed) (la lb:List Nat) (st:SortSt) (s:Shared)  : Option (Array Keyed)×Nat×Nat×Array Keyed×Nat→SortSt→Shared→Prop:=fun c st' s'=>s=s'∧SameSt st st'∧∃ out' p q r g,c=(some out',p,q,r,g)∧Mrg key it la lb out'
noncomputable def HiI (key:Nat→Int) (it:Array Keyed) (la lb:List Nat) (st:SortSt) (s:Shared) (x:Nat):Option (Array Keyed)×Nat×Nat×Array Keyed×Nat→SortSt→Shared→Prop:=fun c st' s'=>s=s'∧SameSt st st'∧∃ na nb o g,c=(none,na,nb,o,g)∧JHi key it la lb o na nb∧na+nb+x+1≤la.length+lb.length
noncomputable def HiB (key:Nat→Int) (it:Array Keyed) (la lb:List Nat) (st:SortSt) (s:Shared) (x:Nat):Option (Array Keyed)×Nat×Nat×Array Keyed×Nat×Nat→SortSt→Shared→Prop:=fun c st' s'=>s=s'∧SameSt st st'∧((∃ out' p q r ac bc,c=(some out',p,q,r,ac,bc)∧Mrg key it la lb out')∨∃ na nb o ac bc,c=(none,na,nb,o,ac,bc)∧JHi key it la lb o na nb∧na+nb+x+2≤la.length+lb.length)
noncomputable def HiJ (key:Nat→Int) (it:Array Keyed) (la lb:List Nat) (st:SortSt) (s:Shared) (x y:Nat):Option (Array Keyed)×Nat×Nat×Array Keyed×Nat×Nat→SortSt→Shared→Prop:=fun c st' s'=>s=s'∧SameSt st st'∧∃ na nb o ac bc,c=(none,na,nb,o,ac,bc)∧JHi key it la lb o na nb∧na+nb+x+1+y≤la.length+lb.length
noncomputable def HiC (key:Nat→Int) (it:Array Keyed) (la lb:List Nat) (st:SortSt) (s:Shared) (x:Nat):Option (Array Keyed)×Nat×Nat×Array Keyed×Nat×Nat×Nat→SortSt→Shared→Prop:=fun c st' s'=>s=s'∧SameSt st st'∧((∃ out' p q r g ac bc,c=(some out',p,q,r,g,ac,bc)∧Mrg key it la lb out')∨∃ na nb o g ac bc,c=(none,na,nb,o,g,ac,bc)∧JHi key it la lb o na nb∧na+nb+x+2≤la.length+lb.length)
noncomputable def HiK (key:Nat→Int) (it:Array Keyed) (la lb:List Nat) (st:SortSt) (s:Shared) (x y:Nat):Option (Array Keyed)×Nat×Nat×Array Keyed×Nat×Nat×Nat→SortSt→Shared→Prop:=fun c st' s'=>s=s'∧SameSt st st'∧∃ na nb o g ac bc,c=(none,na,nb,o,g,ac,bc)∧JHi key it la lb o na nb∧na+nb+x+2≤la.length+lb.length
theorem HiA.a {key:Nat→Int}{it:Array Keyed}{la lb:List Nat}{st st':SortSt}{s:Shared}{out:Array Keyed}{p q:Nat}{r:Array Keyed}{g:Nat} (h:SameSt st st') (m:Mrg key it la lb out):HiA key it la lb st s (some out,p,q,r,g) st' s:=⟨rfl,h,_,_,_,_,_,rfl,m⟩
theorem HiI.k {key:Nat→Int}{it:Array Keyed}{la lb:List Nat}{st st':SortSt}{s:Shared}{x:Nat}{na nb:Nat}{o:Array Keyed}{g:Nat} (h:SameSt st st') (j:JHi key it la lb o na nb) (e:na+nb+x+1≤la.length+lb.length):HiI key it la lb st s x (none,na,nb,o,g) st' s:=⟨rfl,h,_,_,_,_,rfl,j,e⟩
theorem HiB.a {key:Nat→Int}{it:Array Keyed}{la lb:List Nat}{st st':SortSt}{s:Shared}{x:Nat}{out:Array Keyed}{p q:Nat}{r:Array Keyed}{g g2:Nat} (h:SameSt st st') (m:Mrg key it la lb out):HiB key it la lb st s x (some out,p,q,r,g,g2) st' s:=⟨rfl,h,.inl ⟨_,_,_,_,_,_,rfl,m⟩⟩
theorem HiB.b {key:Nat→Int}{it:Array Keyed}{la lb:List Nat}{st st':SortSt}{s:Shared}{x:Nat}{na nb:Nat}{o:Array Keyed}{g g2:Nat} (h:SameSt st st') (j:JHi key it la lb o na nb) (e:na+nb+x+2≤la.length+lb.length):HiB key it la lb st s x (none,na,nb,o,g,g2) st' s:=⟨rfl,h,.inr ⟨_,_,_,_,_,rfl,j,e⟩⟩
theorem HiJ.k {key:Nat→Int}{it:Array Keyed}{la lb:List Nat}{st st':SortSt}{s:Shared}{x y:Nat}{na nb:Nat}{o:Array Keyed}{g g2:Nat} (h:SameSt st st') (j:JHi key it la lb o na nb) (e:na+nb+x+1+y≤la.length+lb.length):HiJ key it la lb st s x y (none,na,nb,o,g,g2) st' s:=⟨rfl,h,_,_,_,_,_,rfl,j,e⟩
theorem HiC.a {key:Nat→Int}{it:Array Keyed}{la lb:List Nat}{st st':SortSt}{s:Shared}{x:Nat}{out:Array Keyed}{p q:Nat}{r:Array Keyed}{g g2 g3:Nat} (h:SameSt st st') (m:Mrg key it la lb out):HiC key it la lb st s x (some out,p,q,r,g,g2,g3) st' s:=⟨rfl,h,.inl ⟨_,_,_,_,_,_,_,rfl,m⟩⟩
theorem HiC.b {key:Nat→Int}{it:Array Keyed}{la lb:List Nat}{st st':SortSt}{s:Shared}{x:Nat}{na nb:Nat}{o:Array Keyed}{g g2 g3:Nat} (h:SameSt st st') (j:JHi key it la lb o na nb) (e:na+nb+x+2≤la.length+lb.length):HiC key it la lb st s x (none,na,nb,o,g,g2,g3) st' s:=⟨rfl,h,.inr ⟨_,_,_,_,_,_,rfl,j,e⟩⟩
theorem HiK.k {key:Nat→Int}{it:Array Keyed}{la lb:List Nat}{st st':SortSt}{s:Shared}{x y:Nat}{na nb:Nat}{o:Array Keyed}{g g2 g3:Nat} (h:SameSt st st') (j:JHi key it la lb o na nb) (e:na+nb+x+2≤la.length+lb.length):HiK key it la lb st s x y (none,na,nb,o,g,g2,g3) st' s:=⟨rfl,h,_,_,_,_,_,_,rfl,j,e⟩
theorem uo (hc:aS n key (kas_cmp prog w A κ it) s) {la lb:List Nat} (hla:∀ x∈la,x<n) (hlb:∀ x∈lb,x<n) (sla:Srt key la) (slb:Srt key lb) (h0:0<la.length) (h1:0<lb.length)
  (first:∀ x∈la,key (lb.getD 0 0)≤key x) (top:∀ x∈lb,key x≤key (la.getD (la.length - 1) 0)) {st:SortSt} (hkind:kindOf st=κ) {Q:Array Keyed→SortSt→Shared→Prop}
  (h:∀ out st',Mrg key it la lb out→SameSt st st'→Q out st' s):
  kasC (model prog w) A E (mH (la.map (kas_item it)).toArray (lb.map (kas_item it)).toArray) Q st s:=by
 unfold mH
 with_unfolding_all refine kasC_bind (kasC_lift (wpAny_rule ?_))
 dsimp only
 generalize hza:(List.map (kas_item it) la).toArray.size=za
 obtain rfl:la.length=za:=by rw[← hza];simp
 generalize hzb:(List.map (kas_item it) lb).toArray.size=zb
 obtain rfl:lb.length=zb:=by rw[← hzb];simp
 refine kasC_bind (aI (show la.length - 1<la.length by lia) ?_)
 try dsimp only
 have l1:=bA h0 (Nat.le_refl _)
 rw[List.take_length] at l1
 have perm0:[la.getD (la.length - 1) 0].Perm (la.drop (la.length - 1)++lb.drop lb.length):=by
  rw[l1,List.drop_length]
  exact List.Perm.refl _
 have sa0:Srt key (la.take (la.length - 1)++[la.getD (la.length - 1) 0]):=by
  rw[← l1,List.take_append_drop]
  exact sla
 have sb0:Srt key (lb.take lb.length++[la.getD (la.length - 1) 0]):=aY.mpr ⟨by rw[List.take_length];exact slb,List.pairwise_singleton _ _,fun x hx y hy=>by
  rw[List.mem_singleton.mp hy]
  exact top x (by rwa [List.take_length] at hx)⟩
 have e0:#[kas_item it (la.getD (la.length - 1) 0)]=([la.getD (la.length - 1) 0].reverse.map (kas_item it)).toArray:=rfl
 rw[e0]
 by_cases c1:la.length - 1=0
 ·rw[if_pos (bq c1)]
  exact kasC_pure (h _ _ (di perm0 sa0 sb0 (.inl c1)) (SameSt.refl st))
 rw[if_neg (nbq c1)]
 by_cases c2:lb.length=1
 ·rw[if_pos (bq c2)]
  exact kasC_pure (h _ _ (fw perm0 sa0 sb0 c2 first) (SameSt.refl st))
 rw[if_neg (nbq c2)]
 refine kasC_bind (kasC_get ?_)
 refine kasC_bind (bJ (Q':=HiA key it la lb st s) (kasC_range (bo (HiI key it la lb st s) ?step _ 0 _ _ _ ?fin (HiI.k (SameSt.refl st) ⟨_,rfl,perm0,sa0,sb0,by lia,by lia,by lia,by lia⟩ (by lia)))) ?after)
 case after=>
  rintro c st' s' ⟨rfl,hs,out',o,ia,ib,g,rfl,hm⟩
  exact kasC_pure (h _ _ hm hs)
 case fin=>
  rintro c st' s' ⟨rfl,hs,na,nb,o,g,rfl,⟨po,rfl,m⟩,hx⟩
  have:=m.pa
  have:=m.pb
  lia
 case step=>
  rintro x c st' s' ⟨rfl,hs,na,nb,o,g,rfl,hJ,hx⟩
  dsimp only
  refine kasC_bind (bJ (Q':=HiB key it la lb st s x)
   (kasC_range (bo (HiJ key it la lb st s x) ?step1 _ 0 _ _ _ ?fin1 (HiJ.k hs hJ (by lia)))) ?after1)
  case fin1=>
   rintro c st' s' ⟨rfl,hs,na,nb,o,ac,bc,rfl,hJ,hx⟩
   exact HiB.b hs hJ (by lia)
  case step1=>
   rintro y c st' s' ⟨rfl,hs,na,nb,o,ac,bc,rfl,⟨po,rfl,m⟩,hx⟩
   have m1:=m.pa
   have m2:=m.pb
   have m3:=m.qa
   have m4:=m.qb
   have hk':kindOf st'=κ:=hs.k.trans hkind
   dsimp only
   refine kasC_bind (aI (show nb - 1<lb.length by lia) ?_)
   refine kasC_bind (aI (show na - 1<la.length by lia) ?_)
   refine kasC_bind (gn hc (bX hlb (show nb - 1<lb.length by lia)) (bX hla (show na - 1<la.length by lia)) hk' ?_)
   dsimp only
   by_cases hw:key (lb.getD (nb - 1) 0)<key (la.getD (na - 1) 0)
   ·rw[if_pos (by simpa using hw)]
    refine kasC_bind (aI (show na - 1<la.length by lia) ?_)
    have b1:=eu (na - 1) (by lia) m3 m.perm m.sa m.sb (fun x hx y hy=>by
     rw[bA m1 m3,List.mem_singleton] at hx
     obtain⟨j,j1,j2,rfl⟩:=bY hy
     have:=dD m.sb (show j≤nb - 1 by lia) (by lia) (by lia)
     rw[hx]
     lia)
    rw[bA m1 m3] at b1
    rw[aF]
    try dsimp only
    by_cases hz:na - 1=0
    ·rw[if_pos (bq hz)]
     exact kasC_pure (HiB.a hs (di b1.1 b1.2.1 b1.2.2 (.inl hz)))
    ·rw[if_neg (nbq hz)]
     have J':JHi key it la lb (([la.getD (na - 1) 0]++po).reverse.map (kas_item it)).toArray (na - 1) nb:=⟨_,rfl,b1.1,b1.2.1,b1.2.2,by lia,m2,by lia,m4⟩
     by_cases hg:ac+1 ≥ g
     ·rw[if_pos hg]
      exact kasC_pure (HiB.b hs J' (by lia))
     ·rw[if_neg hg]
      exact kasC_pure (HiJ.k hs J' (by lia))
   ·rw[if_neg (by simpa using hw)]
    refine kasC_bind (aI (show nb - 1<lb.length by lia) ?_)
    have b1:=gs (nb - 1) (by lia) m4 m.perm m.sa m.sb (fun x hx y hy=>by
     rw[bA (by lia) m4,List.mem_singleton] at hx
     obtain⟨j,j1,j2,rfl⟩:=bY hy
     have:=dD m.sa (show j≤na - 1 by lia) (by lia) (by lia)
     rw[hx]
     lia)
    rw[bA (by lia) m4] at b1
    rw[aF]
    try dsimp only
    by_cases hz:nb - 1=1
    ·rw[if_pos (bq hz)]
     exact kasC_pure (HiB.a hs (fw b1.1 b1.2.1 b1.2.2 hz first))
    ·rw[if_neg (nbq hz)]
     have J':JHi key it la lb (([lb.getD (nb - 1) 0]++po).reverse.map (kas_item it)).toArray na (nb - 1):=⟨_,rfl,b1.1,b1.2.1,b1.2.2,m1,by lia,m3,by lia⟩
     by_cases hg:bc+1 ≥ g
     ·rw[if_pos hg]
      exact kasC_pure (HiB.b hs J' (by lia))
     ·rw[if_neg hg]
      exact kasC_pure (HiJ.k hs J' (by lia))
  case after1=>
   rintro c st' s' ⟨rfl,hs,⟨out',o,ia,ib,ac,bc,rfl,hm⟩ | ⟨na,nb,o,ac,bc,rfl,hJ,hx⟩⟩
   ·exact kasC_pure (HiA.a hs hm)
   ·try dsimp only
    refine kasC_bind (kasC_lift (wpAny_rule ?_))
    try dsimp only
    refine kasC_bind (bJ (Q':=HiC key it la lb st s x)
     (kasC_range (bo (HiK key it la lb st s x) ?step2 _ 0 _ _ _ ?fin2 (HiK.k hs hJ (by lia)))) ?after2)
    case fin2=>
     rintro c st' s' ⟨rfl,hs,na,nb,o,g,ac,bc,rfl,hJ,hx⟩
     exact HiC.b hs hJ (by lia)
    case after2=>
     rintro c st' s' ⟨rfl,hs,⟨out',o,ia,ib,g,ac,bc,rfl,hm⟩ | ⟨na,nb,o,g,ac,bc,rfl,hJ,hx⟩⟩
     ·exact kasC_pure (HiA.a hs hm)
     ·try dsimp only
      refine kasC_bind (kasC_modify ?_)
      exact kasC_pure (HiI.k ⟨hs.k,hs.a,hs.p,hs.f⟩ hJ (by lia))
    case step2=>
     rintro y c st' s' ⟨rfl,hs,na,nb,o,g,ac,bc,rfl,⟨po,rfl,m⟩,hx⟩
     have m1:=m.pa
     have m2:=m.pb
     have m3:=m.qa
     have m4:=m.qb
     dsimp only
     revert g
     refine mG (fun g=>g - 1) ?ha ?_
     case ha=>exact fun g=>rfl
     intro g
     refine kasC_bind (kasC_modify ?_)
     refine kasC_bind (aI (show nb - 1<lb.length by lia) ?_)
     refine kasC_bind (jo hc (bX hlb (show nb - 1<lb.length by lia)) hla (base:=0) (m:=na) (hint:=na - 1) (by lia) (by lia) (fun i j a b c=>dD m.sa b (by lia) (by lia)) (by exact hs.k.trans hkind) ?_)
     intro k hk1 lo1 hi1
     dsimp only
     by_cases hk0:na - k > 0
     ·rw[if_pos hk0]
      have p1:=eu k (by lia) m3 m.perm m.sa m.sb (fun x hx y hy=>by
       obtain⟨j,j0,j1,j2,rfl⟩:=jq hx
       obtain⟨j',a1,a2,rfl⟩:=bY hy
       have:=hi1 j (by lia) (by lia)
       have:=dD m.sb (show j'≤nb - 1 by lia) (by lia) (by lia)
       lia)
      by_cases hz:k=0
      ·rw[if_pos (bq hz)]
       exact kasC_pure (HiC.a ⟨hs.k,hs.a,hs.p,hs.f⟩ (by rw[bj];exact di p1.1 p1.2.1 p1.2.2 (.inl hz)))
      rw[if_neg (nbq hz)]
      have hiA:∀ i,i<k→key (la.getD i 0)≤key (lb.getD (nb - 1) 0):=fun i a=>lo1 i (by lia) (by lia)
      refine kasC_bind (aI (show nb - 1<lb.length by lia) ?_)
      have p2:=gs (nb - 1) (by lia) m4 p1.1 p1.2.1 p1.2.2 (fun x hx y hy=>by
       rw[bA (by lia) m4,List.mem_singleton] at hx
       obtain⟨j,j1,j2,rfl⟩:=bY hy
       have:=hiA j j1
       rw[hx]
       lia)
      rw[bA (by lia) m4] at p2
      by_cases hz3:nb - 1=1
      ·rw[if_pos (bq hz3)]
       exact kasC_pure (HiC.a ⟨hs.k,hs.a,hs.p,hs.f⟩ (by rw[bj,aF];exact fw p2.1 p2.2.1 p2.2.2 hz3 first))
      rw[if_neg (nbq hz3)]
      refine kasC_bind (aI (show k - 1<la.length by lia) ?_)
      refine kasC_bind (gr hc (bX hla (show k - 1<la.length by lia)) hlb (base:=0) (m:=nb - 1) (hint:=nb - 1 - 1) (by lia) (by lia) (fun i j a b c=>dD p2.2.2 b (by lia) (by lia)) (by exact hs.k.trans hkind) ?_)
      intro k2 hk2 lo2 hi2
      dsimp only
      by_cases hk3:nb - 1 - k2 > 0
      ·rw[if_pos hk3]
       have p3:=gs k2 (by lia) (show nb - 1≤lb.length by lia) p2.1 p2.2.1 p2.2.2 (fun x hx y hy=>by
        obtain⟨j,j0,j1,j2,rfl⟩:=jq hx
        obtain⟨j',a1,a2,rfl⟩:=bY hy
        have:=hi2 j (by lia) (by lia)
        have:=dD p2.2.1 (show j'≤k - 1 by lia) (by lia) (by lia)
        lia)
       by_cases hz4:k2=1
       ·rw[if_pos (bq hz4)]
        exact kasC_pure (HiC.a ⟨hs.k,hs.a,hs.p,hs.f⟩ (by rw[bj,aF,bj];exact fw p3.1 p3.2.1 p3.2.2 hz4 first))
       rw[if_neg (nbq hz4)]
       by_cases hz6:k2=0
       ·rw[if_pos (bq hz6)]
        exact kasC_pure (HiC.a ⟨hs.k,hs.a,hs.p,hs.f⟩ (by rw[bj,aF,bj];exact di p3.1 p3.2.1 p3.2.2 (.inr hz6)))
       rw[if_neg (nbq hz6)]
       have hiB:∀ i,i<k2→key (lb.getD i 0)<key (la.getD (k - 1) 0):=fun i a=>lo2 i (by lia) (by lia)
       refine kasC_bind (aI (show k - 1<la.length by lia) ?_)
       have p4:=eu (k - 1) (by lia) (show k≤la.length by lia) p3.1 p3.2.1 p3.2.2 (fun x hx y hy=>by
        rw[bA (by lia) (show k≤la.length by lia),List.mem_singleton] at hx
        obtain⟨j,j1,j2,rfl⟩:=bY hy
        have:=hiB j j1
        rw[hx]
        lia)
       rw[bA (by lia) (show k≤la.length by lia)] at p4
       by_cases hz5:k - 1=0
       ·rw[if_pos (bq hz5)]
        exact kasC_pure (HiC.a ⟨hs.k,hs.a,hs.p,hs.f⟩ (by rw[bj,aF,bj,aF];exact di p4.1 p4.2.1 p4.2.2 (.inl hz5)))
       rw[if_neg (nbq hz5)]
       by_cases hb:(decide (na - k<7) && decide (nb - 1 - k2<7))=true
       ·rw[if_pos hb]
        exact kasC_pure (HiC.b ⟨hs.k,hs.a,hs.p,hs.f⟩ ⟨_,by rw[bj,aF,bj,aF],p4.1,p4.2.1,p4.2.2,by lia,by lia,by lia,by lia⟩ (by lia))
       ·rw[if_neg hb]
        exact kasC_pure (HiK.k ⟨hs.k,hs.a,hs.p,hs.f⟩ ⟨_,by rw[bj,aF,bj,aF],p4.1,p4.2.1,p4.2.2,by lia,by lia,by lia,by lia⟩ (by lia))
      ·rw[if_neg hk3]
       have p3:=p2
       have hiB:∀ i,i<nb - 1→key (lb.getD i 0)<key (la.getD (k - 1) 0):=fun i a=>lo2 i (by lia) (by lia)
       refine kasC_bind (aI (show k - 1<la.length by lia) ?_)
       have p4:=eu (k - 1) (by lia) (show k≤la.length by lia) p3.1 p3.2.1 p3.2.2 (fun x hx y hy=>by
        rw[bA (by lia) (show k≤la.length by lia),List.mem_singleton] at hx
        obtain⟨j,j1,j2,rfl⟩:=bY hy
        have:=hiB j j1
        rw[hx]
        lia)
       rw[bA (by lia) (show k≤la.length by lia)] at p4
       by_cases hz5:k - 1=0
       ·rw[if_pos (bq hz5)]
        exact kasC_pure (HiC.a ⟨hs.k,hs.a,hs.p,hs.f⟩ (by rw[bj,aF,aF];exact di p4.1 p4.2.1 p4.2.2 (.inl hz5)))
       rw[if_neg (nbq hz5)]
       by_cases hb:(decide (na - k<7) && decide (nb - 1 - k2<7))=true
       ·rw[if_pos hb]
        exact kasC_pure (HiC.b ⟨hs.k,hs.a,hs.p,hs.f⟩ ⟨_,by rw[bj,aF,aF],p4.1,p4.2.1,p4.2.2,by lia,by lia,by lia,by lia⟩ (by lia))
       ·rw[if_neg hb]
        exact kasC_pure (HiK.k ⟨hs.k,hs.a,hs.p,hs.f⟩ ⟨_,by rw[bj,aF,aF],p4.1,p4.2.1,p4.2.2,by lia,by lia,by lia,by lia⟩ (by lia))
     ·rw[if_neg hk0]
      have p1:po.Perm (la.drop na++lb.drop nb)∧Srt key (la.take na++po)∧Srt key (lb.take nb++po):=⟨m.perm,m.sa,m.sb⟩
      have hiA:∀ i,i<na→key (la.getD i 0)≤key (lb.getD (nb - 1) 0):=fun i a=>lo1 i (by lia) (by lia)
      refine kasC_bind (aI (show nb - 1<lb.length by lia) ?_)
      have p2:=gs (nb - 1) (by lia) m4 p1.1 p1.2.1 p1.2.2 (fun x hx y hy=>by
       rw[bA (by lia) m4,List.mem_singleton] at hx
       obtain⟨j,j1,j2,rfl⟩:=bY hy
       have:=hiA j j1
       rw[hx]
       lia)
      rw[bA (by lia) m4] at p2
      by_cases hz3:nb - 1=1
      ·rw[if_pos (bq hz3)]
       exact kasC_pure (HiC.a ⟨hs.k,hs.a,hs.p,hs.f⟩ (by rw[aF];exact fw p2.1 p2.2.1 p2.2.2 hz3 first))
      rw[if_neg (nbq hz3)]
      refine kasC_bind (aI (show na - 1<la.length by lia) ?_)
      refine kasC_bind (gr hc (bX hla (show na - 1<la.length by lia)) hlb (base:=0) (m:=nb - 1) (hint:=nb - 1 - 1) (by lia) (by lia) (fun i j a b c=>dD p2.2.2 b (by lia) (by lia)) (by exact hs.k.trans hkind) ?_)
      intro k2 hk2 lo2 hi2
      dsimp only
      by_cases hk3:nb - 1 - k2 > 0
      ·rw[if_pos hk3]
       have p3:=gs k2 (by lia) (show nb - 1≤lb.length by lia) p2.1 p2.2.1 p2.2.2 (fun x hx y hy=>by
        obtain⟨j,j0,j1,j2,rfl⟩:=jq hx
        obtain⟨j',a1,a2,rfl⟩:=bY hy
        have:=hi2 j (by lia) (by lia)
        have:=dD p2.2.1 (show j'≤na - 1 by lia) (by lia) (by lia)
        lia)
       by_cases hz4:k2=1
       ·rw[if_pos (bq hz4)]
        exact kasC_pure (HiC.a ⟨hs.k,hs.a,hs.p,hs.f⟩ (by rw[aF,bj];exact fw p3.1 p3.2.1 p3.2.2 hz4 first))
       rw[if_neg (nbq hz4)]
       by_cases hz6:k2=0
       ·rw[if_pos (bq hz6)]
        exact kasC_pure (HiC.a ⟨hs.k,hs.a,hs.p,hs.f⟩ (by rw[aF,bj];exact di p3.1 p3.2.1 p3.2.2 (.inr hz6)))
       rw[if_neg (nbq hz6)]
       have hiB:∀ i,i<k2→key (lb.getD i 0)<key (la.getD (na - 1) 0):=fun i a=>lo2 i (by lia) (by lia)
       refine kasC_bind (aI (show na - 1<la.length by lia) ?_)
       have p4:=eu (na - 1) (by lia) (show na≤la.length by lia) p3.1 p3.2.1 p3.2.2 (fun x hx y hy=>by
        rw[bA (by lia) (show na≤la.length by lia),List.mem_singleton] at hx
        obtain⟨j,j1,j2,rfl⟩:=bY hy
        have:=hiB j j1
        rw[hx]
        lia)
       rw[bA (by lia) (show na≤la.length by lia)] at p4
       by_cases hz5:na - 1=0
       ·rw[if_pos (bq hz5)]
        exact kasC_pure (HiC.a ⟨hs.k,hs.a,hs.p,hs.f⟩ (by rw[aF,bj,aF];exact di p4.1 p4.2.1 p4.2.2 (.inl hz5)))
       rw[if_neg (nbq hz5)]
       by_cases hb:(decide (na - k<7) && decide (nb - 1 - k2<7))=true
       ·rw[if_pos hb]
        exact kasC_pure (HiC.b ⟨hs.k,hs.a,hs.p,hs.f⟩ ⟨_,by rw[aF,bj,aF],p4.1,p4.2.1,p4.2.2,by lia,by lia,by lia,by lia⟩ (by lia))
       ·rw[if_neg hb]
        exact kasC_pure (HiK.k ⟨hs.k,hs.a,hs.p,hs.f⟩ ⟨_,by rw[aF,bj,aF],p4.1,p4.2.1,p4.2.2,by lia,by lia,by lia,by lia⟩ (by lia))
      ·rw[if_neg hk3]
       have p3:=p2
       have hiB:∀ i,i<nb - 1→key (lb.getD i 0)<key (la.getD (na - 1) 0):=fun i a=>lo2 i (by lia) (by lia)
       refine kasC_bind (aI (show na - 1<la.length by lia) ?_)
       have p4:=eu (na - 1) (by lia) (show na≤la.length by lia) p3.1 p3.2.1 p3.2.2 (fun x hx y hy=>by
        rw[bA (by lia) (show na≤la.length by lia),List.mem_singleton] at hx
        obtain⟨j,j1,j2,rfl⟩:=bY hy
        have:=hiB j j1
        rw[hx]
        lia)
       rw[bA (by lia) (show na≤la.length by lia)] at p4
       by_cases hz5:na - 1=0
       ·rw[if_pos (bq hz5)]
        exact kasC_pure (HiC.a ⟨hs.k,hs.a,hs.p,hs.f⟩ (by rw[aF,aF];exact di p4.1 p4.2.1 p4.2.2 (.inl hz5)))
       rw[if_neg (nbq hz5)]
       by_cases hb:(decide (na - k<7) && decide (nb - 1 - k2<7))=true
       ·rw[if_pos hb]
        exact kasC_pure (HiC.b ⟨hs.k,hs.a,hs.p,hs.f⟩ ⟨_,by rw[aF,aF],p4.1,p4.2.1,p4.2.2,by lia,by lia,by lia,by lia⟩ (by lia))
       ·rw[if_neg hb]
        exact kasC_pure (HiK.k ⟨hs.k,hs.a,hs.p,hs.f⟩ ⟨_,by rw[aF,aF],p4.1,p4.2.1,p4.2.2,by lia,by lia,by lia,by lia⟩ (by lia))
end
end L2
namespace L2
open PySem PySem.Spec PyProof.Rows PySem.W
section
variable {prog:Program}{w:World}{A:Around}{E:Value→Shared→Prop}{κ:SortKind}{it:Array Keyed}{key:Nat→Int}{n:Nat}{s:Shared}
theorem uq {σ:Type}{M:Model}{Q:PUnit→σ→Shared→Prop}{st st2:σ}{s:Shared} (h:Q ⟨⟩ st2 s):kasC M A E (set st2:StateT σ Sem PUnit) Q st s:=by
 unfold kasC;rw[StateT.run_set];exact wpAny_pure h
theorem jr {α:Type}:∀ (l:List α) (arr:List α) (q j0 s0:Nat),q+l.length≤arr.length→q=s0+j0→((l.zipIdx j0).foldl (fun (a:Array α) (x:α×Nat)=>a.setIfInBounds (s0+x.2) x.1) arr.toArray)=(arr.take q++l++arr.drop (q+l.length)).toArray
 | [],arr,q,j0,s0,h,e=>by simp
 | x::l,arr,q,j0,s0,h,e=>by
  rw[List.length_cons] at h
  rw[List.zipIdx_cons,List.foldl_cons]
  dsimp only
  rw[← e,List.setIfInBounds_toArray,jr l (arr.set q x) (q+1) (j0+1) s0 (by rw[List.length_set];lia) (by lia)]
  congr 1
  have e1:(arr.set q x).take (q+1)=arr.take q++[x]:=by
   apply List.ext_getElem?
   intro i
   rw[List.getElem?_take,List.getElem?_append,List.length_take,List.getElem?_take,List.getElem?_set]
   by_cases h1:i<q
   ·rw[if_pos (by lia),if_neg (by lia),if_pos (by lia),if_pos h1]
   ·by_cases h2:i=q
    ·subst h2
     rw[if_pos (by lia),if_pos rfl,if_pos (by lia),if_neg (by lia)]
     simp[show i - min i arr.length=0 by lia]
    ·rw[if_neg (by lia),if_neg (by lia)]
     rw[List.getElem?_eq_none]
     rw[List.length_singleton]
     lia
  have e2:(arr.set q x).drop (q+1+l.length)=arr.drop (q+(l.length+1)):=by
   apply List.ext_getElem?
   intro i
   rw[List.getElem?_drop,List.getElem?_drop,List.getElem?_set,if_neg (by lia)]
   congr 1
   lia
  rw[e1,e2,List.length_cons,List.append_assoc,List.append_assoc,List.append_assoc]
  rfl
theorem mI {LA LB po:List Nat}{k m:Nat} (sA:Srt key LA) (sB:Srt key LB) (hb:0<LB.length) (ha:0<LA.length) (h1:∀ x∈LA.take k,key x≤key (LB.getD 0 0)) (h4:∀ x∈LB.drop m,key (LA.getD (LA.length - 1) 0)≤key x)
  (hp:po.Perm (LA.drop k++LB.take m)) (sp:Srt key po):Srt key (LA.take k++po++LB.drop m)∧(LA.take k++po++LB.drop m).Perm (LA++LB):=by
 have b0:∀ y∈LB,key (LB.getD 0 0)≤key y:=fun y hy=>by
  obtain⟨j,_,hj,rfl⟩:=bI (i:=0) (l:=LB) (by rwa [List.drop_zero])
  exact ej sB (Nat.zero_le _) hj
 have aL:∀ x∈LA,key x≤key (LA.getD (LA.length - 1) 0):=fun x hx=>by
  obtain⟨j,_,hj,rfl⟩:=bI (i:=0) (l:=LA) (by rwa [List.drop_zero])
  exact ej sA (by lia) (by lia)
 have cA:Srt key (LA.take k++LA.drop k):=by rwa [List.take_append_drop]
 have cB:Srt key (LB.take m++LB.drop m):=by rwa [List.take_append_drop]
 have cA:=aY.mp cA
 have cB:=aY.mp cB
 refine⟨aY.mpr ⟨aY.mpr ⟨cA.1,sp,fun x hx y hy=>?_⟩,cB.2.1,fun x hx y hy=>?_⟩,?_⟩
 ·rcases List.mem_append.mp (hp.mem_iff.mp hy) with hy | hy
  ·exact cA.2.2 x hx y hy
  ·exact Int.le_trans (h1 x hx) (b0 y (List.mem_of_mem_take hy))
 ·rcases List.mem_append.mp hx with hx | hx
  ·exact Int.le_trans (h1 x hx) (b0 y (List.mem_of_mem_drop hy))
  ·rcases List.mem_append.mp (hp.mem_iff.mp hx) with hx | hx
   ·exact Int.le_trans (aL x (List.mem_of_mem_drop hx)) (h4 y hy)
   ·exact cB.2.2 x hx y hy
 ·refine (List.Perm.append_right _ (List.Perm.append_left _ hp)).trans ?_
  rw[← List.append_assoc,List.take_append_drop,List.append_assoc,List.take_append_drop]
theorem ur (hc:aS n key (kas_cmp prog w A κ it) s) {lp:List Nat} (hlp:∀ x∈lp,x<n) {i sa na nb pw pw2:Nat}{st:SortSt} (hkind:PyProof.Rows.kindOf st=κ) (harr:arrOf st=(lp.map (kas_item it)).toArray) (hf:failedOf st=none)
  (hi:(pendingOf st)[i]?=some (sa,na,pw)) (hj:(pendingOf st)[i+1]?=some (sa+na,nb,pw2)) (ha:0<na) (hb:0<nb) (hz:sa+na+nb≤lp.length)
  (sA:Srt key ((lp.drop sa).take na)) (sB:Srt key ((lp.drop (sa+na)).take nb)) {Q:Bool→SortSt→Shared→Prop}
  (h:∀ mid st',PyProof.Rows.kindOf st'=κ→failedOf st'=none→pendingOf st'=((pendingOf st).setIfInBounds i (sa,na+nb,pw)).eraseIdxIfInBounds (i+1)→mid.Perm ((lp.drop sa).take (na+nb))→Srt key mid→
   arrOf st'=((lp.take sa++mid++lp.drop (sa+(na+nb))).map (kas_item it)).toArray→Q true st' s):
  kasC (model prog w) A E (mergeAt' i) Q st s:=by
 have lA:((lp.drop sa).take na).length=na:=by rw[List.length_take,List.length_drop];lia
 have lB:((lp.drop (sa+na)).take nb).length=nb:=by rw[List.length_take,List.length_drop];lia
 have gtA:∀ j,j<na→((lp.drop sa).take na).getD j 0=lp.getD (sa+j) 0:=fun j hj=>by simp[List.getD,List.getElem?_take,List.getElem?_drop,hj]
 have gtB:∀ j,j<nb→((lp.drop (sa+na)).take nb).getD j 0=lp.getD (sa+na+j) 0:=fun j hj=>by simp[List.getD,List.getElem?_take,List.getElem?_drop,hj]
 have eW:(lp.drop sa).take na++(lp.drop (sa+na)).take nb=(lp.drop sa).take (na+nb):=by rw[← List.drop_drop,fu]
 have eAll:lp.take sa++(lp.drop sa).take (na+nb)++lp.drop (sa+(na+nb))=lp:=by rw[fu,List.take_append_drop]
 have gA:∀ i j,sa≤i→i≤j→j<sa+na→key (lp.getD i 0)≤key (lp.getD j 0):=fun i j a b c=>by
  have:=ej sA (i:=i - sa) (j:=j - sa) (by lia) (by lia)
  rwa [gtA _ (by lia),gtA _ (by lia),show sa+(i - sa)=i by lia,show sa+(j - sa)=j by lia] at this
 have gB:∀ i j,sa+na≤i→i≤j→j<sa+na+nb→key (lp.getD i 0)≤key (lp.getD j 0):=fun i j a b c=>by
  have:=ej sB (i:=i - (sa+na)) (j:=j - (sa+na)) (by lia) (by lia)
  rwa [gtB _ (by lia),gtB _ (by lia),show sa+na+(i - (sa+na))=i by lia,show sa+na+(j - (sa+na))=j by lia] at this
 have mA:∀ x∈(lp.drop sa).take na,∃ j,sa≤j∧j<sa+na∧x=lp.getD j 0:=fun x hx=>by
  obtain⟨j,j0,j1,rfl⟩:=eh hx
  exact⟨sa+j,by lia,by lia,rfl⟩
 have mB:∀ x∈(lp.drop (sa+na)).take nb,∃ j,sa+na≤j∧j<sa+na+nb∧x=lp.getD j 0:=fun x hx=>by
  obtain⟨j,j0,j1,rfl⟩:=eh hx
  exact⟨sa+na+j,by lia,by lia,rfl⟩
 unfold mergeAt'
 with_unfolding_all refine kasC_bind (kasC_get ?_)
 simp only[hi,hj,harr]
 refine kasC_bind (uq ?_)
 refine kasC_bind (aI (show sa+na<lp.length by lia) ?_)
 refine kasC_bind (jo hc (bX hlp (show sa+na<lp.length by lia)) hlp (base:=sa) (m:=na) (hint:=0) (by lia) ha gA (by exact hkind) ?_)
 intro k hk1 lo1 hi1
 dsimp only
 by_cases c1:na - k=0
 ·rw[if_pos (by simpa using c1)]
  refine kasC_pure (h _ _ (by exact hkind) (by exact hf) rfl (List.Perm.refl _) ?_ ?_)
  ·rw[← eW]
   refine aY.mpr ⟨sA,sB,fun x hx y hy=>?_⟩
   obtain⟨j,j1,j2,rfl⟩:=mA x hx
   obtain⟨j',j3,j4,rfl⟩:=mB y hy
   have:=lo1 j j1 (by lia)
   have:=gB (sa+na) j' (by lia) j3 j4
   lia
  ·rw[eAll]
 rw[if_neg (by simpa using c1)]
 rw[show sa+k+(na - k) - 1=sa+na - 1 by lia]
 refine kasC_bind (aI (show sa+na - 1<lp.length by lia) ?_)
 refine kasC_bind (gr hc (bX hlp (show sa+na - 1<lp.length by lia)) hlp (base:=sa+na) (m:=nb) (hint:=nb - 1) (by lia) (by lia) gB (by exact hkind) ?_)
 intro nb' hk2 lo2 hi2
 dsimp only
 by_cases c2:nb'=0
 ·rw[if_pos (by simpa using c2)]
  refine kasC_pure (h _ _ (by exact hkind) (by exact hf) rfl (List.Perm.refl _) ?_ ?_)
  ·rw[← eW]
   refine aY.mpr ⟨sA,sB,fun x hx y hy=>?_⟩
   obtain⟨j,j1,j2,rfl⟩:=mA x hx
   obtain⟨j',j3,j4,rfl⟩:=mB y hy
   have:=hi2 j' (by lia) j4
   have:=gA j (sa+na - 1) j1 (by lia) (by lia)
   lia
  ·rw[eAll]
 rw[if_neg (by simpa using c2)]
 have eX:(lp.map (kas_item it)).toArray.extract (sa+k) (sa+na)=((((lp.drop sa).take na).drop k).map (kas_item it)).toArray:=by
  apply Array.ext'
  simp only[List.extract_toArray,List.extract_eq_drop_take,List.map_drop,List.map_take]
  rw[List.drop_take,List.drop_drop,show sa+na - (sa+k)=na - k by lia]
 have eY:(lp.map (kas_item it)).toArray.extract (sa+na) (sa+na+nb')=((((lp.drop (sa+na)).take nb).take nb').map (kas_item it)).toArray:=by
  apply Array.ext'
  simp only[List.extract_toArray,List.extract_eq_drop_take,List.map_drop,List.map_take]
  rw[List.take_take,Nat.min_eq_left hk2,show sa+na+nb' - (sa+na)=nb' by lia]
 rw[eX,eY]
 have h1:∀ x∈((lp.drop sa).take na).take k,key x≤key (((lp.drop (sa+na)).take nb).getD 0 0):=fun x hx=>by
  rw[gtB 0 hb]
  obtain⟨j,j0,j1,rfl⟩:=bY hx
  rw[gtA j (by lia)]
  exact lo1 _ (by lia) (by lia)
 have h4:∀ x∈((lp.drop (sa+na)).take nb).drop nb',key (((lp.drop sa).take na).getD (((lp.drop sa).take na).length - 1) 0)≤key x:=fun x hx=>by
  rw[lA,gtA _ (by lia)]
  obtain⟨j,j0,j1,rfl⟩:=bI hx
  rw[gtB j (by lia),show sa+(na - 1)=sa+na - 1 by lia]
  exact hi2 _ (by lia) (by lia)
 have f1:∀ x∈((lp.drop sa).take na).drop k,key ((((lp.drop (sa+na)).take nb).take nb').getD 0 0)≤key x:=fun x hx=>by
  rw[show (((lp.drop (sa+na)).take nb).take nb').getD 0 0=((lp.drop (sa+na)).take nb).getD 0 0 by simp only[List.getD,List.getElem?_take,if_pos (show 0<nb' by lia)],gtB 0 hb]
  obtain⟨j,j0,j1,rfl⟩:=bI hx
  rw[gtA j (by lia)]
  have:=hi1 (sa+j) (by lia) (by lia)
  rw[Nat.add_zero]
  lia
 have l2:(((lp.drop sa).take na).drop k).length=na - k:=by rw[List.length_drop,lA]
 have l3:(((lp.drop (sa+na)).take nb).take nb').length=nb':=by rw[List.length_take,lB];lia
 have f2:∀ x∈((lp.drop (sa+na)).take nb).take nb',key x≤key ((((lp.drop sa).take na).drop k).getD ((((lp.drop sa).take na).drop k).length - 1) 0):=fun x hx=>by
  rw[l2,show (((lp.drop sa).take na).drop k).getD (na - k - 1) 0=((lp.drop sa).take na).getD (na - 1) 0 by simp only[List.getD,List.getElem?_drop,show k+(na - k - 1)=na - 1 by lia],gtA _ (by lia),show sa+(na - 1)=sa+na - 1 by lia]
  obtain⟨j,j0,j1,rfl⟩:=bY hx
  rw[gtB j (by lia)]
  have:=lo2 (sa+na+j) (by lia) (by lia)
  lia
 have u1:∀ x∈((lp.drop sa).take na).drop k,x<n:=fun x hx=>hlp x (List.mem_of_mem_drop (List.mem_of_mem_take (List.mem_of_mem_drop hx)))
 have u2:∀ x∈((lp.drop (sa+na)).take nb).take nb',x<n:=fun x hx=>hlp x (List.mem_of_mem_drop (List.mem_of_mem_take (List.mem_of_mem_take hx)))
 by_cases c3:na - k≤nb'
 ·rw[if_pos c3]
  refine kasC_bind (ul hc u1 u2 (sA.sublist (List.drop_sublist _ _)) (sB.sublist (List.take_sublist _ _)) (by lia) (by lia) f1 f2 (by exact hkind) ?_)
  intro out st' hM hss
  obtain⟨po,rfl,hperm,hsrt⟩:=hM
  have hmid:=mI (key:=key) sA sB (by lia) (by lia) h1 h4 hperm hsrt
  refine kasC_bind (kasC_modify ?_)
  refine kasC_bind (kasC_get ?_)
  refine kasC_pure ?_
  have e:failedOf st'=none:=hss.f.trans hf
  show Q (failedOf st').isNone _ s
  rw[e]
  refine h (((lp.drop sa).take na).take k++po++((lp.drop (sa+na)).take nb).drop nb') _ (hss.k.trans hkind) (by first | rfl | exact e) (by exact hss.p) (by rw[← eW];exact hmid.2) hmid.1 ?_
  have ea:arrOf st'=(lp.map (kas_item it)).toArray:=hss.a
  have pl:po.length=na - k+nb':=by rw[hperm.length_eq,List.length_append,l2,l3]
  have sA':=jr (po.map (kas_item it)) (lp.map (kas_item it)) (sa+k) 0 (sa+k) (by rw[List.length_map,List.length_map,pl];lia) rfl
  show List.foldl (fun a x=>a.setIfInBounds (sa+k+x.2) x.1) (arrOf st') (po.map (kas_item it)).toArray.toList.zipIdx=_
  rw[ea]
  refine sA'.trans ?_
  rw[List.length_map,pl,← List.map_take,← List.map_drop,← List.map_append,← List.map_append]
  congr 2
  have q1:lp.take (sa+k)=lp.take sa++((lp.drop sa).take na).take k:=by
   rw[List.take_take,Nat.min_eq_left hk1,fu]
  have q2:lp.drop (sa+k+(na - k+nb'))=((lp.drop (sa+na)).take nb).drop nb'++lp.drop (sa+(na+nb)):=by
   have:=jp (l:=lp.drop (sa+na)) (i:=nb') (j:=nb) hk2 (by rw[List.length_drop];lia)
   rw[List.drop_drop,List.drop_drop] at this
   rw[show sa+k+(na - k+nb')=sa+na+nb' by lia,this,show sa+na+nb=sa+(na+nb) by lia]
  rw[q1,q2]
  simp only[List.append_assoc]
 ·rw[if_neg c3]
  refine kasC_bind (uo hc u1 u2 (sA.sublist (List.drop_sublist _ _)) (sB.sublist (List.take_sublist _ _)) (by lia) (by lia) f1 f2 (by exact hkind) ?_)
  intro out st' hM hss
  obtain⟨po,rfl,hperm,hsrt⟩:=hM
  have hmid:=mI (key:=key) sA sB (by lia) (by lia) h1 h4 hperm hsrt
  refine kasC_bind (kasC_modify ?_)
  refine kasC_bind (kasC_get ?_)
  refine kasC_pure ?_
  have e:failedOf st'=none:=hss.f.trans hf
  show Q (failedOf st').isNone _ s
  rw[e]
  refine h (((lp.drop sa).take na).take k++po++((lp.drop (sa+na)).take nb).drop nb') _ (hss.k.trans hkind) (by first | rfl | exact e) (by exact hss.p) (by rw[← eW];exact hmid.2) hmid.1 ?_
  have ea:arrOf st'=(lp.map (kas_item it)).toArray:=hss.a
  have pl:po.length=na - k+nb':=by rw[hperm.length_eq,List.length_append,l2,l3]
  have sA':=jr (po.map (kas_item it)) (lp.map (kas_item it)) (sa+k) 0 (sa+k) (by rw[List.length_map,List.length_map,pl];lia) rfl
  show List.foldl (fun a x=>a.setIfInBounds (sa+k+x.2) x.1) (arrOf st') (po.map (kas_item it)).toArray.toList.zipIdx=_
  rw[ea]
  refine sA'.trans ?_
  rw[List.length_map,pl,← List.map_take,← List.map_drop,← List.map_append,← List.map_append]
  congr 2
  have q1:lp.take (sa+k)=lp.take sa++((lp.drop sa).take na).take k:=by
   rw[List.take_take,Nat.min_eq_left hk1,fu]
  have q2:lp.drop (sa+k+(na - k+nb'))=((lp.drop (sa+na)).take nb).drop nb'++lp.drop (sa+(na+nb)):=by
   have:=jp (l:=lp.drop (sa+na)) (i:=nb') (j:=nb) hk2 (by rw[List.length_drop];lia)
   rw[List.drop_drop,List.drop_drop] at this
   rw[show sa+k+(na - k+nb')=sa+na+nb' by lia,this,show sa+na+nb=sa+(na+nb) by lia]
  rw[q1,q2]
  simp only[List.append_assoc]
end
end L2
namespace L2
open PySem PySem.Spec PyProof.Rows PySem.W
section
variable {prog:Program}{w:World}{A:Around}{E:Value→Shared→Prop}{κ:SortKind}{it:Array Keyed}{key:Nat→Int}{n:Nat}{s:Shared}{pend:Array (Nat×Nat×Nat)}
structure Hd (κ:SortKind) (it:Array Keyed) (pend:Array (Nat×Nat×Nat)) (st:SortSt) (p:Array Nat):Prop where
 k:PyProof.Rows.kindOf st=κ
 a:arrOf st=p.map (kas_item it)
 p:pendingOf st=pend
 f:failedOf st=none
theorem gu (hc:aS n key (kas_cmp prog w A κ it) s) {p:Array Nat} (hp:Rg n p) {i j:Nat} (hi:i<n) (hj:j<n) {st:SortSt} (H:Hd κ it pend st p) {Q:Option Bool→SortSt→Shared→Prop} (h:Q (some (decide (kyA key p i<kyA key p j))) st s):
  kasC (model prog w) A E (ltAt' i j) Q st s:=by
 have el:∀ i,i<n→(p.map (kas_item it))[i]?=some (kas_item it (p.getD i 0)):=fun i hi=>by
  have:i<p.size:=by rw[hp.size];exact hi
  simp[Array.getD,this]
 rw[ltAt'_eq]
 refine kasC_bind (kasC_get ?_)
 rw[H.a]
 dsimp only
 rw[elem'_eq,elem'_eq,el i hi,el j hj]
 refine kasC_bind (kasC_pure ?_)
 refine kasC_bind (kasC_pure ?_)
 exact gn hc (hp.lt hi) (hp.lt hj) H.k h
theorem ut {p:Array Nat}{st:SortSt} (H:Hd κ it pend st p) {i j:Nat}{Q:Unit→SortSt→Shared→Prop} (h:∀ st',Hd κ it pend st' (kas_rev p i j)→Q () st' s):kasC (model prog w) A E (reverseSlice' i j) Q st s:=by
 rw[reverseSlice'_eq]
 refine kasC_modify (h _ ⟨H.k,?_,H.p,H.f⟩)
 show mirror (arrOf st) i j ((j - i) / 2)=_
 rw[H.a]
 exact kas_swaps_map (kas_item it) (fun k=>i+k) (fun k=>j - 1 - k) _ p
theorem uu {p:Array Nat}{st:SortSt} (H:Hd κ it pend st p) {i j:Nat}{Q:Unit→SortSt→Shared→Prop} (h:∀ st',Hd κ it pend st' (bubble p i (i - j))→Q () st' s):kasC (model prog w) A E (moveDown' i j) Q st s:=by
 rw[moveDown'_eq]
 refine kasC_modify (h _ ⟨H.k,?_,H.p,H.f⟩)
 show bubble (arrOf st) i (i - j)=_
 rw[H.a]
 exact kas_swaps_map (kas_item it) (fun k=>i - k) (fun k=>i - k - 1) _ p
theorem gw {σ β:Type}{M:Model}{f:Nat→β→StateT σ Sem (ForInStep β)}{Q:β→σ→Shared→Prop} (I:Nat→β→σ→Shared→Prop) (B:Nat)
  (step:∀ x c st s',x<B→I x c st s'→kasC M A E (f x c) (fun r st2 s2=>match r with | .yield c'=>I (x+1) c' st2 s2 | .done c'=>Q c' st2 s2) st s'):∀ (m a:Nat) (c:β) (st:σ) (s':Shared),a+m≤B→(∀ c st s',I (a+m) c st s'→Q c st s')→I a c st s'→
   kasC M A E (forIn (List.range' a m) c f) Q st s'
 | 0,a,c,st,s',hB,fin,h=>by
  show kasC M A E (forIn ([]:List Nat) c f) Q st s'
  exact kasC_nil (fin c st s' h)
 | m+1,a,c,st,s',hB,fin,h=>by
  show kasC M A E (forIn (a::List.range' (a+1) m) c f) Q st s'
  refine kasC_cons (wpAny_mono (step a c st s' (by lia) h) (fun r s2 h'=>?_) fun _ _ e=>e)
  obtain⟨r,st2⟩:=r
  cases r with
  | done c'=>exact h'
  | yield c'=>exact gw I B step m (a+1) c' st2 s2 (by lia) (fun c st s' hi=>fin c st s' (by rw[show a+(m+1)=a+1+m by lia];exact hi)) h'
theorem uw (hc:aS n key (kas_cmp prog w A κ it) s) (inj:∀ i j,i<n→j<n→key i=key j→i=j) {p:Array Nat} (hp:Rg n p) {lo nrem:Nat} (h1:1≤nrem) (hz:lo+nrem≤n) {st:SortSt} (H:Hd κ it pend st p) {Q:Option Nat→SortSt→Shared→Prop}
  (h:∀ m p' st',1≤m→m≤nrem→Rg n p'→Hd κ it pend st' p'→(∀ i,i<lo→p'[i]?=p[i]?)→(∀ j,lo+1≤j→j<lo+m→kyA key p' (j - 1)≤kyA key p' j)→Q (some m) st' s):
  kasC (model prog w) A E (countRun' lo nrem) Q st s:=by
 unfold countRun'
 have asc:∀ (q:Array Nat) (st1:SortSt) (a:Nat),Rg n q→Hd κ it pend st1 q→1≤a→a≤nrem→(∀ j,lo+1≤j→j<lo+a→kyA key q (j - 1)≤kyA key q j)→
   kasC (model prog w) A E (forIn [a:nrem] ((none:Option (Option Nat)),a) fun x c=>do
    let r ← ltAt' (lo+c.2) (lo+c.2 - 1)
    match r with
    | some smaller=>if smaller=true then pure (ForInStep.done (none,c.2)) else pure (ForInStep.yield (none,c.2+1))
    | x=>pure (ForInStep.done (some none,c.2)))
    (fun c st' s'=>s=s'∧st1=st'∧∃ m,c=(none,m)∧a≤m∧m≤nrem∧(∀ j,lo+1≤j→j<lo+m→kyA key q (j - 1)≤kyA key q j)∧(m=nrem∨kyA key q (lo+m)<kyA key q (lo+m - 1))) st1 s:=fun q st1 a hq H1 a1 a2 a3=>by
  refine kasC_range (gw (fun x c st' s'=>s=s'∧st1=st'∧c=(none,x)∧a≤x∧∀ j,lo+1≤j→j<lo+x→kyA key q (j - 1)≤kyA key q j) nrem ?_ _ _ _ _ _ (by lia) ?_ ⟨rfl,rfl,rfl,Nat.le_refl _,a3⟩)
  ·rintro x c st' s' hx ⟨rfl,rfl,rfl,x1,x2⟩
   dsimp only
   refine kasC_bind (gu hc hq (by lia) (by lia) H1 ?_)
   dsimp only
   by_cases hk:kyA key q (lo+x)<kyA key q (lo+x - 1)
   ·rw[if_pos (by simpa using hk)]
    exact kasC_pure ⟨rfl,rfl,x,rfl,x1,by lia,x2,.inr hk⟩
   ·rw[if_neg (by simpa using hk)]
    refine kasC_pure ⟨rfl,rfl,rfl,by lia,fun j j1 j2=>?_⟩
    by_cases e:j=lo+x
    ·subst e
     lia
    ·exact x2 j j1 (by lia)
  ·rintro c st' s' ⟨rfl,rfl,rfl,x1,x2⟩
   rw[show a+(nrem - a)=nrem by lia] at x2 ⊢
   exact⟨rfl,rfl,nrem,rfl,by lia,Nat.le_refl _,x2,.inl rfl⟩
 with_unfolding_all refine kasC_bind (bJ (asc p st 1 hp H (Nat.le_refl _) h1 fun j a b=>by lia) ?_)
 rintro c st' s' ⟨rfl,rfl,m,rfl,m1,m2,m3,m4⟩
 dsimp only
 by_cases e:m=nrem
 ·rw[if_pos (by simpa using e)]
  exact kasC_pure (h m p _ m1 m2 hp H (fun _ _=>rfl) m3)
 rw[if_neg (by simpa using e)]
 have lt1:kyA key p (lo+m)<kyA key p (lo+m - 1):=m4.resolve_left e
 by_cases e1:m > 1
 ·rw[if_pos e1]
  refine kasC_bind (gu hc hp (by lia) (by lia) H ?_)
  dsimp only
  have:∀ d,1≤d→d<m→kyA key p lo<kyA key p (lo+d):=fun d=>by
   induction d with
   | zero=>intro x;lia
   | succ d ih=>
    intro _ hd
    have a:=m3 (lo+(d+1)) (by lia) (by lia)
    rw[show lo+(d+1) - 1=lo+d by lia] at a
    have b:=hp.ne inj (show lo+d<lo+(d+1) by lia) (by lia)
    by_cases z:d=0
    ·subst z
     rw[Nat.add_zero] at a b
     lia
    ·have:=ih (by lia) (by lia)
     lia
  have hr:=this (m - 1) (by lia) (by lia)
  rw[show lo+(m - 1)=lo+m - 1 by lia] at hr
  rw[if_pos (by simpa using hr)]
  exact kasC_pure (h m p _ m1 m2 hp H (fun _ _=>rfl) m3)
 rw[if_neg e1]
 obtain rfl:m=1:=by lia
 refine kasC_bind (kasC_lift (wpAny_rule ?_))
 refine kasC_bind (bJ (Q':=fun c st' s'=>s=s'∧st=st'∧∃ m,c=(none,m,0)∧2≤m∧m≤nrem∧∀ j,lo+1≤j→j<lo+m→kyA key p j<kyA key p (j - 1))
  (kasC_range (gw (fun x c st' s'=>s=s'∧st=st'∧c=(none,x,0)∧2≤x∧∀ j,lo+1≤j→j<lo+x→kyA key p j<kyA key p (j - 1)) nrem ?d1 _ _ _ _ _ (by lia) ?d2 ⟨rfl,rfl,rfl,Nat.le_refl _,fun j j1 j2=>by
   obtain rfl:j=lo+1:=by lia
   exact lt1⟩)) ?d3)
 case d1=>
  rintro x c st' s' hx ⟨rfl,rfl,rfl,x1,x2⟩
  dsimp only
  refine kasC_bind (gu hc hp (by lia) (by lia) H ?_)
  dsimp only
  by_cases hk:kyA key p (lo+x)<kyA key p (lo+x - 1)
  ·rw[if_pos (by simpa using hk),if_neg (by lia)]
   refine kasC_pure ⟨rfl,rfl,rfl,by lia,fun j j1 j2=>?_⟩
   by_cases e:j=lo+x
   ·subst e
    exact hk
   ·exact x2 j j1 (by lia)
  ·rw[if_neg (by simpa using hk)]
   refine kasC_bind (gu hc hp (by lia) (by lia) H ?_)
   dsimp only
   have b:=hp.ne inj (show lo+x - 1<lo+x by lia) (by lia)
   rw[if_pos (by rw[decide_eq_true_eq];lia)]
   exact kasC_pure ⟨rfl,rfl,x,rfl,x1,by lia,x2⟩
 case d2=>
  rintro c st' s' ⟨rfl,rfl,rfl,x1,x2⟩
  rw[show 1+1+(nrem - (1+1))=nrem by lia] at x2 ⊢
  exact⟨rfl,rfl,nrem,rfl,by lia,Nat.le_refl _,x2⟩
 case d3=>
  rintro c st' s' ⟨rfl,rfl,k,rfl,k1,k2,k3⟩
  dsimp only
  rw[if_neg (by lia)]
  refine kasC_bind (ut H ?_)
  intro st2 H2
  have hp':=hp.rev lo (lo+k)
  have g:∀ i,(kas_rev p lo (lo+k))[i]?=if lo≤i∧i<lo+k then p[lo+(lo+k) - 1 - i]? else p[i]?:=fun i=>by
   unfold kas_rev
   rw[getElem?_mirror_all (by rw[hp.size];lia)]
  have ky:∀ i,lo≤i→i<lo+k→kyA key (kas_rev p lo (lo+k)) i=kyA key p (lo+(lo+k) - 1 - i):=fun i a b=>cH (by rw[g,if_pos ⟨a,b⟩])
  refine kasC_bind (bJ (asc (kas_rev p lo (lo+k)) st2 k hp' H2 (by lia) k2 fun j j1 j2=>?_) ?_)
  ·rw[ky _ (by lia) (by lia),ky _ (by lia) (by lia)]
   have:=k3 (lo+(lo+k) - 1 - (j - 1)) (by lia) (by lia)
   rw[show lo+(lo+k) - 1 - (j - 1) - 1=lo+(lo+k) - 1 - j by lia] at this
   lia
  ·rintro c st' s' ⟨rfl,rfl,m',rfl,q1,q2,q3,q4⟩
   dsimp only
   exact kasC_pure (h m' _ _ (by lia) q2 hp' H2 (fun i hi=>by rw[g,if_neg (by lia)]) q3)
end
end L2
namespace L2
open PySem PySem.Spec PyProof.Rows PySem.W
section
variable {prog:Program}{w:World}{A:Around}{E:Value→Shared→Prop}{κ:SortKind}{it:Array Keyed}{key:Nat→Int}{n:Nat}{s:Shared}{pend:Array (Nat×Nat×Nat)}
noncomputable def bS (key:Nat→Int) (p:Array Nat) (lo m:Nat):Prop:=∀ i j,lo≤i→i≤j→j<lo+m→kyA key p i≤kyA key p j
theorem mJ {p:Array Nat}{lo m:Nat} (h:∀ j,lo+1≤j→j<lo+m→kyA key p (j - 1)≤kyA key p j):bS key p lo m:=by
 intro i j hi hij hj
 obtain⟨d,rfl⟩:∃ d,j=i+d:=⟨j - i,by lia⟩
 clear hij
 induction d with
 | zero=>exact Int.le_refl _
 | succ d ih=>
  have a:=ih (by lia)
  have b:=h (i+(d+1)) (by lia) hj
  rw[show i+(d+1) - 1=i+d by lia] at b
  lia
theorem ux (hc:aS n key (kas_cmp prog w A κ it) s) {p:Array Nat} (hp:Rg n p) {lo m okk:Nat} (hz:lo+m≤n) (h1:1≤okk) (hm:okk≤m) (up:bS key p lo okk) {st:SortSt} (H:Hd κ it pend st p) {Q:Bool→SortSt→Shared→Prop}
  (h:∀ p' st',Rg n p'→Hd κ it pend st' p'→(∀ i,i<lo→p'[i]?=p[i]?)→bS key p' lo m→Q true st' s):
  kasC (model prog w) A E (binarySort' lo m okk) Q st s:=by
 rw[binarySort'_eq]
 rw[show max okk 1=okk by lia]
 with_unfolding_all refine kasC_bind (bJ (Q':=fun c st' s'=>s=s'∧c=(none,())∧∃ q,Rg n q∧Hd κ it pend st' q∧(∀ i,i<lo→q[i]?=p[i]?)∧bS key q lo m)
  (kasC_range (gw (fun x c st' s'=>s=s'∧c=(none,())∧1≤x∧∃ q,Rg n q∧Hd κ it pend st' q∧(∀ i,i<lo→q[i]?=p[i]?)∧bS key q lo x) m ?step _ _ _ _ _ (by lia) ?fin ⟨rfl,rfl,h1,p,hp,H,fun _ _=>rfl,up⟩)) ?after)
 case after=>
  rintro c st' s' ⟨rfl,rfl,q,q1,q2,q3,q4⟩
  exact kasC_pure (h q _ q1 q2 q3 q4)
 case fin=>
  rintro c st' s' ⟨rfl,rfl,x1,q,q1,q2,q3,q4⟩
  rw[show okk+(m - okk)=m by lia] at q4
  exact⟨rfl,rfl,q,q1,q2,q3,q4⟩
 case step=>
  rintro k c st' s' hk ⟨rfl,rfl,k1,q,hq,H',fr,up⟩
  dsimp only
  have L0:∀ i,lo≤i→i<lo+0→kyA key q i≤kyA key q (lo+k):=fun i a b=>by lia
  have R0:∀ i,lo+k≤i→i<lo+k→kyA key q (lo+k)≤kyA key q i:=fun i a b=>by lia
  refine kasC_bind (bJ (Q':=fun c st2 s'=>s=s'∧st'=st2∧∃ l r,c=(none,l,r)∧l≤k∧(∀ i,lo≤i→i<lo+l→kyA key q i≤kyA key q (lo+k))∧(∀ i,lo+l≤i→i<lo+k→kyA key q (lo+k)≤kyA key q i))
   (kasC_range (gw (fun x c st2 s'=>s=s'∧st'=st2∧∃ l r,c=(none,l,r)∧l≤r∧r≤k∧r - l≤k - x∧(∀ i,lo≤i→i<lo+l→kyA key q i≤kyA key q (lo+k))∧(∀ i,lo+r≤i→i<lo+k→kyA key q (lo+k)≤kyA key q i)) k ?s2 _ _ _ _ _ (by lia) ?f2 ⟨rfl,rfl,0,k,rfl,by lia,by lia,by lia,L0,R0⟩)) ?a2)
  case f2=>
   rintro c st2 s' ⟨rfl,rfl,l,r,rfl,b1,b2,b3,b4,b5⟩
   exact⟨rfl,rfl,l,r,rfl,by lia,b4,fun i x y=>b5 i (by lia) y⟩
  case s2=>
   rintro x c st2 s' hx ⟨rfl,rfl,l,r,rfl,b1,b2,b3,b4,b5⟩
   dsimp only
   by_cases e:l ≥ r
   ·rw[if_pos e]
    exact kasC_pure ⟨rfl,rfl,l,r,rfl,by lia,b4,fun i x y=>b5 i (by lia) y⟩
   rw[if_neg e]
   have m1:l≤(l+r) / 2:=by lia
   have m2:(l+r) / 2<r:=by lia
   have m3:(l+r) / 2 - l≤k - (x+1):=by lia
   have m4:r - ((l+r) / 2+1)≤k - (x+1):=by lia
   generalize (l+r) / 2=mid at m1 m2 m3 m4 ⊢
   refine kasC_bind (gu hc hq (by lia) (by lia) H' ?_)
   dsimp only
   by_cases hk2:kyA key q (lo+k)<kyA key q (lo+mid)
   ·rw[if_pos (by simpa using hk2)]
    refine kasC_pure ⟨rfl,rfl,l,mid,rfl,m1,by lia,m3,b4,fun i x y=>?_⟩
    have:=up (lo+mid) i (by lia) x y
    lia
   ·rw[if_neg (by simpa using hk2)]
    refine kasC_pure ⟨rfl,rfl,mid+1,r,rfl,by lia,b2,m4,fun i x y=>?_,b5⟩
    have:=up i (lo+mid) x (by lia) (by lia)
    lia
  case a2=>
   rintro c st2 s' ⟨rfl,rfl,l,r,rfl,b1,b4,b5⟩
   dsimp only
   refine kasC_bind (uu H' ?_)
   intro st3 H3
   have g:∀ i,(bubble q (lo+k) (lo+k - (lo+l)))[i]?=if i=lo+l then q[lo+k]? else if lo+l<i∧i≤lo+k then q[i - 1]? else q[i]?:=fun i=>by
    have:=getElem?_bubble (xs:=q) (src:=lo+k) (by rw[hq.size];lia) (lo+k - (lo+l)) (by lia) i
    rwa [show lo+k - (lo+k - (lo+l))=lo+l by lia] at this
   have ky:∀ i,kyA key (bubble q (lo+k) (lo+k - (lo+l))) i=if i=lo+l then kyA key q (lo+k) else if lo+l<i∧i≤lo+k then kyA key q (i - 1) else kyA key q i:=fun i=>by
    have g:=g i
    by_cases e:i=lo+l
    ·rw[if_pos e] at g ⊢;exact cH g
    ·rw[if_neg e] at g ⊢
     by_cases e2:lo+l<i∧i≤lo+k
     ·rw[if_pos e2] at g ⊢;exact cH g
     ·rw[if_neg e2] at g ⊢;exact cH g
   refine kasC_pure ⟨rfl,rfl,by lia,_,hq.bub _ _,H3,fun i hi=>by rw[g,if_neg (by lia),if_neg (by lia)];exact fr i hi,mJ fun j x y=>?_⟩
   rw[ky,ky]
   by_cases c1:j - 1=lo+l
   ·rw[if_pos c1,if_neg (by lia),if_pos (by lia)]
    exact b5 (j - 1) (by lia) (by lia)
   ·rw[if_neg c1]
    by_cases c2:j=lo+l
    ·rw[if_pos c2,if_neg (by lia)]
     exact b4 (j - 1) (by lia) (by lia)
    ·rw[if_neg c2]
     by_cases c3:lo+l<j - 1
     ·rw[if_pos (by lia),if_pos (by lia)]
      exact up _ _ (by lia) (by lia) (by lia)
     ·rw[if_neg (by lia),if_neg (by lia)]
      exact up _ _ (by lia) (by lia) (by lia)
end
end L2
namespace L2
open PySem PySem.Spec PyProof.Rows PySem.W
section
variable {prog:Program}{w:World}{A:Around}{E:Value→Shared→Prop}{κ:SortKind}{it:Array Keyed}{key:Nat→Int}{n:Nat}{s:Shared}{pend:Array (Nat×Nat×Nat)}
noncomputable def aE (key:Nat→Int) (p:Array Nat):Nat→List (Nat×Nat×Nat)→Nat→Prop
 | a,[],b=>a=b
 | a,(x,l,_)::t,b=>x=a∧0<l∧bS key p x l∧aE key p (a+l) t b
theorem aE.le {p:Array Nat}:∀ {t:List (Nat×Nat×Nat)}{a b:Nat},aE key p a t b→a+t.length≤b
 | [],a,b,h=>by rw[show b=a from h.symm];exact Nat.le_refl _
 | (x,l,_)::t,a,b,h=>by
  have:=h.2.2.2.le
  have:=h.2.1
  rw[List.length_cons]
  lia
theorem aE.congr {p q:Array Nat}:∀ {t:List (Nat×Nat×Nat)}{a b:Nat},aE key p a t b→(∀ i,a≤i→i<b→kyA key q i=kyA key p i)→aE key q a t b
 | [],a,b,h,_=>h
 | (x,l,_)::t,a,b,h,g=>by
  have:=h.2.2.2.le
  obtain⟨rfl,h2,h3,h4⟩:=h
  refine⟨rfl,h2,fun i j hi hij hj=>?_,h4.congr fun i a b=>g i (by lia) b⟩
  rw[g i hi (by lia),g j (by lia) (by lia)]
  exact h3 i j hi hij hj
theorem aE.app {p:Array Nat}:∀ {t u:List (Nat×Nat×Nat)}{a b:Nat},aE key p a (t++u) b↔∃ c,aE key p a t c∧aE key p c u b
 | [],u,a,b=>⟨fun h=>⟨a,rfl,h⟩,fun ⟨c,e,h⟩=>by rw[show a=c from e];exact h⟩
 | (x,l,z)::t,u,a,b=>by
  show (x=a∧0<l∧bS key p x l∧aE key p (a+l) (t++u) b)↔_
  rw[aE.app]
  constructor
  ·rintro⟨h1,h2,h3,c,h4,h5⟩
   exact⟨c,⟨h1,h2,h3,h4⟩,h5⟩
  ·rintro⟨c,⟨h1,h2,h3,h4⟩,h5⟩
   exact⟨h1,h2,h3,c,h4,h5⟩
theorem uy {α:Type}{l:List α}{i:Nat} (h:i+1<l.length):∃ l1 x y l2,l=l1++x::y::l2∧l1.length=i:=by
 refine⟨l.take i,l[i]'(by lia),l[i+1],l.drop (i+2),?_,by rw[List.length_take];lia⟩
 have e1:=List.drop_eq_getElem_cons (l:=l) (i:=i) (by lia)
 have e2:=List.drop_eq_getElem_cons (l:=l) (i:=i+1) h
 rw[← e2,← e1,List.take_append_drop]
theorem kyT (l:List Nat) (i:Nat):kyA key l.toArray i=key (l.getD i 0):=by unfold kyA;rw[dh]
theorem js (hc:aS n key (kas_cmp prog w A κ it) s) {p:Array Nat} (hp:Rg n p) {st:SortSt} (H:Hd κ it pend st p) {lo i:Nat} (hi:i+1<pend.size) (R:aE key p 0 pend.toList lo) (hlo:lo≤n) {Q:Bool→SortSt→Shared→Prop}
  (h:∀ pend' p' st',Rg n p'→Hd κ it pend' st' p'→pend'.size+1=pend.size→aE key p' 0 pend'.toList lo→(∀ i,lo≤i→kyA key p' i=kyA key p i)→Q true st' s):kasC (model prog w) A E (mergeAt' i) Q st s:=by
 obtain⟨l1,⟨sa,na,pw⟩,⟨sb,nb,pw2⟩,l2,e,rfl⟩:=uy (l:=pend.toList) (i:=i) (by simpa using hi)
 rw[e] at R
 obtain⟨c,R1,rfl,na0,A1,rfl,nb0,A2,R2⟩:=aE.app.mp R
 have b2:=R2.le
 have pe:pend=(l1++(sa,na,pw)::(sa+na,nb,pw2)::l2).toArray:=by rw[← e]
 have psz:p.size=n:=hp.size
 have plt:∀ x∈p.toList,x<n:=fun x hx=>List.mem_range.mp (hp.mem_iff.mp hx)
 have gk:∀ i,kyA key p i=key (p.toList.getD i 0):=fun i=>kyT p.toList i
 have pl:p.toList.length=n:=by rw[Array.length_toList,psz]
 have srtOf:∀ a m,a+m≤n→bS key p a m→Srt key ((p.toList.drop a).take m):=fun a m hz h=>by
  refine List.pairwise_iff_getElem.mpr fun i j hi hj hij=>?_
  have hi':=hi
  have hj':=hj
  rw[List.length_take,List.length_drop,pl] at hi' hj'
  have:=h (a+i) (a+j) (by lia) (by lia) (by lia)
  rw[gk,gk] at this
  rw[List.getElem_take,List.getElem_drop,List.getElem_take,List.getElem_drop]
  rw[List.getD_eq_getElem?_getD,List.getD_eq_getElem?_getD,List.getElem?_eq_getElem (by lia),List.getElem?_eq_getElem (by lia)] at this
  exact this
 refine ur hc (lp:=p.toList) plt (i:=l1.length) (sa:=sa) (na:=na) (nb:=nb) (pw:=pw) (pw2:=pw2) H.k (by rw[H.a];apply Array.ext';simp) H.f (by rw[H.p,pe];simp) (by rw[H.p,pe];simp) na0 nb0 (by lia) (srtOf _ _ (by lia) A1) (srtOf _ _ (by lia) A2) ?_
 intro mid st' k1 f1 p1 m1 m2 a1
 have ml:mid.length=na+nb:=by rw[m1.length_eq,List.length_take,List.length_drop,pl];lia
 have eAll:p.toList.take sa++(p.toList.drop sa).take (na+nb)++p.toList.drop (sa+(na+nb))=p.toList:=by rw[fu,List.take_append_drop]
 have hp':Rg n (p.toList.take sa++mid++p.toList.drop (sa+(na+nb))).toArray:=by
  show (p.toList.take sa++mid++p.toList.drop (sa+(na+nb))).Perm (List.range n)
  refine List.Perm.trans (List.Perm.append_right _ (List.Perm.append_left _ m1)) ?_
  rw[eAll]
  exact hp
 have tl:(p.toList.take sa).length=sa:=by rw[List.length_take,pl];lia
 have k1':∀ i,i<sa→kyA key (p.toList.take sa++mid++p.toList.drop (sa+(na+nb))).toArray i=kyA key p i:=fun i hi=>by
  rw[kyT,gk]
  congr 1
  rw[List.getD_eq_getElem?_getD,List.getD_eq_getElem?_getD,List.append_assoc,List.getElem?_append_left (by lia),List.getElem?_take,if_pos hi]
 have k2':∀ i,sa+(na+nb)≤i→kyA key (p.toList.take sa++mid++p.toList.drop (sa+(na+nb))).toArray i=kyA key p i:=fun i hi=>by
  rw[kyT,gk]
  congr 1
  rw[List.getD_eq_getElem?_getD,List.getD_eq_getElem?_getD,List.getElem?_append_right (by rw[List.length_append];lia),List.getElem?_drop,List.length_append,tl,ml]
  congr 2
  lia
 have k3':∀ i,sa≤i→i<sa+(na+nb)→kyA key (p.toList.take sa++mid++p.toList.drop (sa+(na+nb))).toArray i=key (mid.getD (i - sa) 0):=fun i h1 h2=>by
  rw[kyT]
  congr 1
  rw[List.getD_eq_getElem?_getD,List.getD_eq_getElem?_getD,List.append_assoc,List.getElem?_append_right (by lia),tl,List.getElem?_append_left (by lia)]
 have pe':((l1++(sa,na,pw)::(sa+na,nb,pw2)::l2).toArray.setIfInBounds l1.length (sa,na+nb,pw)).eraseIdxIfInBounds (l1.length+1)=(l1++(sa,na+nb,pw)::l2).toArray:=by
  rw[List.setIfInBounds_toArray,List.set_append_right _ _ (Nat.le_refl _),Nat.sub_self,List.set_cons_zero]
  rw[List.eraseIdxIfInBounds_toArray,List.eraseIdx_append_of_length_le (by lia),show l1.length+1 - l1.length=1 by lia]
  rfl
 refine h ((l1++(sa,na+nb,pw)::l2).toArray) _ st' hp' ⟨k1,by rw[a1];apply Array.ext';simp,by rw[p1,H.p,pe,pe'],f1⟩ (by rw[pe];simp;lia) ?_ (fun i hi=>k2' i (by lia))
 have R2':aE key p (sa+(na+nb)) l2 lo:=by rw[← Nat.add_assoc];exact R2
 refine aE.app.mpr ⟨sa,R1.congr fun i _ b=>k1' i b,rfl,by lia,fun i j h1 h2 h3=>?_,R2'.congr fun i a b=>k2' i a⟩
 ·rw[k3' i h1 (by lia),k3' j (by lia) h3]
  exact ej m2 (by lia) (by lia)
end
end L2
namespace L2
open PySem PySem.Spec PyProof.Rows PySem.W
section
variable {prog:Program}{w:World}{A:Around}{E:Value→Shared→Prop}{κ:SortKind}{it:Array Keyed}{key:Nat→Int}{n:Nat}{s:Shared}{pend:Array (Nat×Nat×Nat)}
theorem aE.same {p:Array Nat}:∀ {t u:List (Nat×Nat×Nat)}{a b:Nat},aE key p a t b→(t.map fun x=>(x.1,x.2.1))=(u.map fun x=>(x.1,x.2.1))→aE key p a u b
 | [],[],a,b,h,_=>h
 | [],_::_,a,b,h,e=>by cases e
 | _::_,[],a,b,h,e=>by cases e
 | (x,l,z)::t,(x',l',z')::u,a,b,h,e=>by
  rw[List.map_cons,List.map_cons] at e
  injection e with e1 e2
  injection e1 with e3 e4
  dsimp only at e3 e4
  subst e3
  subst e4
  exact⟨h.1,h.2.1,h.2.2.1,h.2.2.2.same e2⟩
theorem mK (xs:Array (Nat×Nat×Nat)) (i z:Nat):(xs.toList.map fun x=>(x.1,x.2.1))=((xs.modify i fun x=>(x.1,x.2.1,z)).toList.map fun x=>(x.1,x.2.1)):=by
 apply List.ext_getElem?
 intro j
 rw[List.getElem?_map,List.getElem?_map,Array.getElem?_toList,Array.getElem?_toList,Array.getElem?_modify]
 split
 ·rw[Option.map_map]
  rfl
 ·rfl
theorem bS.congr {p q:Array Nat}{lo m:Nat} (h:bS key p lo m) (g:∀ i,lo≤i→kyA key q i=kyA key p i):bS key q lo m:=fun i j a b c=>by
 rw[g i a,g j (by lia)]
 exact h i j a b c
theorem uz {Q:Unit→SortSt→Shared→Prop} (hc:aS n key (kas_cmp prog w A κ it) s) (inj:∀ i j,i<n→j<n→key i=key j→i=j) (h2:2≤n)
  (hG:∀ p' st',Rg n p'→Up key p' n→arrOf st'=p'.map (kas_item it)→failedOf st'=none→Q () st' s):kasC (model prog w) A E sortRuns' Q (kas_st κ it (List.range n).toArray) s:=by
 rw[sortRuns'_eq]
 refine kasC_bind (kasC_get ?_)
 dsimp only
 have hsz:(arrOf (kas_st κ it (List.range n).toArray)).size=n:=by
  show ((List.range n).toArray.map (kas_item it)).size=n
  simp
 simp only[hsz]
 refine kasC_bind (bJ (Q':=fun c st' s'=>s=s'∧c=(none,n)∧∃ pend p,Rg n p∧Hd κ it pend st' p∧aE key p 0 pend.toList n)
  (kasC_range (bo (fun x c st' s'=>s=s'∧∃ lo pend p,c=(none,lo)∧x≤lo∧lo≤n∧Rg n p∧Hd κ it pend st' p∧aE key p 0 pend.toList lo) ?step _ 0 _ _ _ ?fin ⟨rfl,0,#[],(List.range n).toArray,rfl,Nat.le_refl _,by lia,List.Perm.refl _,⟨rfl,rfl,rfl,rfl⟩,rfl⟩)) ?after)
 case fin=>
  rintro c st' s' ⟨rfl,lo,pend,p,rfl,a,b,d,e,f⟩
  have:lo=n:=by lia
  subst this
  exact⟨rfl,rfl,pend,p,d,e,f⟩
 case after=>
  rintro c st' s' ⟨rfl,rfl,pend,p,hp,H,R⟩
  dsimp only
  refine kasC_bind (bJ (Q':=fun c st' s'=>s=s'∧c=(none,())∧∃ p,Rg n p∧Up key p n∧arrOf st'=p.map (kas_item it)∧failedOf st'=none)
   (kasC_range (bo (fun x c st' s'=>s=s'∧c=(none,())∧∃ pend p,Rg n p∧Hd κ it pend st' p∧aE key p 0 pend.toList n∧pend.size+x≤n) ?s2 _ 0 _ _ _ ?f2 ⟨rfl,rfl,pend,p,hp,H,R,by have:=R.le;rw[Array.length_toList] at this;lia⟩)) ?a2)
  case a2=>
   rintro c st' s' ⟨rfl,rfl,p,a,b,c,d⟩
   exact kasC_pure (hG p _ a b c d)
  case f2=>
   rintro c st' s' ⟨rfl,rfl,pend,p,hp,H,R,hx⟩
   have e:pend.toList=[]:=List.eq_nil_of_length_eq_zero (by rw[Array.length_toList];lia)
   rw[e] at R
   have:0=n:=R
   lia
  case s2=>
   rintro x c st' s' ⟨rfl,rfl,pend,p,hp,H,R,hx⟩
   refine kasC_bind (kasC_get ?_)
   by_cases e:(pendingOf st').size≤1
   ·rw[if_pos e]
    refine kasC_pure ⟨rfl,rfl,p,hp,?_,H.a,H.f⟩
    rw[H.p] at e
    have el:pend.toList.length≤1:=by rw[Array.length_toList];exact e
    match hl:pend.toList,el with
    | [],_=>
     rw[hl] at R
     have:0=n:=R
     lia
    | [(x,l,z)],_=>
     rw[hl] at R
     obtain⟨rfl,_,a3,a4⟩:=R
     have:0+l=n:=a4
     exact fun i j hij hj=>a3 i j (Nat.zero_le _) hij (by lia)
    | _::_::_,h=>exact absurd h (by simp)
   ·rw[if_neg e]
    rw[H.p] at e
    have stp:∀ idx,idx+1<pend.size→kasC (model prog w) A E (mergeAt' idx) (fun b st2 s2=>b=true∧s=s2∧∃ pend p,Rg n p∧Hd κ it pend st2 p∧aE key p 0 pend.toList n∧pend.size+(x+1)≤n) st' s:=fun idx hidx=>
     js hc hp H hidx R (Nat.le_refl _) fun pend' p' st'' a b c d fr=>⟨rfl,rfl,pend',p',a,b,d,by lia⟩
    refine kasC_bind (bJ (stp _ ?_) ?_)
    ·rw[H.p]
     have:∀ (c:Prop) [Decidable c],(if c then pend.size - 2 - 1 else pend.size - 2)+1<pend.size:=fun c _=>by split<;>lia
     exact this _
    ·rintro b st2 s2 ⟨rfl,rfl,hh⟩
     rw[if_neg (by decide)]
     exact kasC_pure ⟨rfl,rfl,hh⟩
 case step=>
  rintro x c st' s' ⟨rfl,lo,pend,p,rfl,x1,x2,hp,H,R⟩
  dsimp only
  by_cases c1:lo ≥ n
  ·rw[if_pos c1]
   have:lo=n:=by lia
   subst this
   exact kasC_pure ⟨rfl,rfl,pend,p,hp,H,R⟩
  rw[if_neg c1]
  refine kasC_bind (uw hc inj hp (by lia) (by lia) H ?_)
  intro m p1 st1 m1 m2 hp1 H1 fr1 A1
  have A1:=mJ A1
  have R1:aE key p1 0 pend.toList lo:=R.congr fun i _ b=>cH (fr1 i b)
  dsimp only
  by_cases c2:m<minRun' n n 0
  ·rw[if_pos c2]
   refine kasC_bind (kasC_lift (wpAny_rule ?_))
   have mm:m≤min (n - lo) (minRun' n n 0):=by lia
   have mn:min (n - lo) (minRun' n n 0)≤n - lo:=by lia
   generalize min (n - lo) (minRun' n n 0)=force at mm mn ⊢
   refine kasC_bind (ux hc hp1 (by lia) m1 mm A1 H1 ?_)
   intro p2 st2 hp2 H2 fr2 A2
   have R2:aE key p2 0 pend.toList lo:=R1.congr fun i _ b=>cH (fr2 i b)
   rw[if_neg (by decide)]
   refine kasC_bind (kasC_get ?_)
   rcases hbk:(pendingOf st2).back? with _ | ⟨s1,n1,z1⟩
   ·dsimp only
    refine kasC_bind (kasC_modify ?_)
    refine kasC_pure ⟨rfl,lo+force,pend.push (lo,force,0),p2,rfl,by lia,by lia,hp2,⟨H2.k,H2.a,by show (pendingOf st2).push _=_;rw[H2.p],H2.f⟩,?_⟩
    rw[Array.toList_push]
    exact aE.app.mpr ⟨lo,R2,rfl,by lia,A2,rfl⟩
   ·dsimp only
    refine kasC_bind (bJ (Q':=fun c st' s'=>s=s'∧c=(none,())∧∃ pend p,Rg n p∧Hd κ it pend st' p∧aE key p 0 pend.toList lo∧bS key p lo (force))
     (kasC_range (bo (fun x c st' s'=>s=s'∧c=(none,())∧∃ pend p,Rg n p∧Hd κ it pend st' p∧aE key p 0 pend.toList lo∧bS key p lo (force)) ?_ _ 0 _ _ _ (fun _ _ _ z=>z) ⟨rfl,rfl,pend,p2,hp2,H2,R2,A2⟩)) ?_)
    ·rintro y c st' s' ⟨rfl,rfl,pend,p,hp,H,R,A⟩
     refine kasC_bind (kasC_get ?_)
     by_cases e:(pendingOf st').size > 1
     ·rw[if_pos e]
      rcases hg:(pendingOf st')[(pendingOf st').size - 2]? with _ | ⟨a,b,older⟩
      ·dsimp only
       exact kasC_pure ⟨rfl,rfl,pend,p,hp,H,R,A⟩
      ·dsimp only
       split
       ·exact kasC_pure ⟨rfl,rfl,pend,p,hp,H,R,A⟩
       ·refine kasC_bind (js hc hp H (by rw[H.p] at e ⊢;lia) R (by lia) ?_)
        intro pend' p' st'' a b c d fr
        rw[if_neg (by decide)]
        exact kasC_pure ⟨rfl,rfl,pend',p',a,b,d,A.congr fr⟩
     ·rw[if_neg e]
      dsimp only
      exact kasC_pure ⟨rfl,rfl,pend,p,hp,H,R,A⟩
    ·rintro c st' s' ⟨rfl,rfl,pend,p,hp,H,R,A⟩
     dsimp only
     refine kasC_bind (kasC_modify ?_)
     refine kasC_bind (kasC_modify ?_)
     refine kasC_pure ⟨rfl,lo+force,(pend.modify (pend.size - 1) _).push (lo,force,0),p,rfl,by lia,by lia,hp,⟨H.k,H.a,by show ((pendingOf st').modify ((pendingOf st').size - 1) _).push _=_;rw[H.p],H.f⟩,?_⟩
     rw[Array.toList_push]
     exact aE.app.mpr ⟨lo,R.same (mK _ _ _),rfl,by lia,A,rfl⟩
  ·rw[if_neg c2]
   have hp2:=hp1
   have H2:=H1
   have R2:=R1
   have A2:=A1
   revert hp2 H2 R2 A2
   generalize p1=p2
   generalize st1=st2
   intro hp2 H2 R2 A2
   refine kasC_bind (kasC_get ?_)
   rcases hbk:(pendingOf st2).back? with _ | ⟨s1,n1,z1⟩
   ·dsimp only
    refine kasC_bind (kasC_modify ?_)
    refine kasC_pure ⟨rfl,lo+m,pend.push (lo,m,0),p2,rfl,by lia,by lia,hp2,⟨H2.k,H2.a,by show (pendingOf st2).push _=_;rw[H2.p],H2.f⟩,?_⟩
    rw[Array.toList_push]
    exact aE.app.mpr ⟨lo,R2,rfl,by lia,A2,rfl⟩
   ·dsimp only
    refine kasC_bind (bJ (Q':=fun c st' s'=>s=s'∧c=(none,())∧∃ pend p,Rg n p∧Hd κ it pend st' p∧aE key p 0 pend.toList lo∧bS key p lo (m))
     (kasC_range (bo (fun x c st' s'=>s=s'∧c=(none,())∧∃ pend p,Rg n p∧Hd κ it pend st' p∧aE key p 0 pend.toList lo∧bS key p lo (m)) ?_ _ 0 _ _ _ (fun _ _ _ z=>z) ⟨rfl,rfl,pend,p2,hp2,H2,R2,A2⟩)) ?_)
    ·rintro y c st' s' ⟨rfl,rfl,pend,p,hp,H,R,A⟩
     refine kasC_bind (kasC_get ?_)
     by_cases e:(pendingOf st').size > 1
     ·rw[if_pos e]
      rcases hg:(pendingOf st')[(pendingOf st').size - 2]? with _ | ⟨a,b,older⟩
      ·dsimp only
       exact kasC_pure ⟨rfl,rfl,pend,p,hp,H,R,A⟩
      ·dsimp only
       split
       ·exact kasC_pure ⟨rfl,rfl,pend,p,hp,H,R,A⟩
       ·refine kasC_bind (js hc hp H (by rw[H.p] at e ⊢;lia) R (by lia) ?_)
        intro pend' p' st'' a b c d fr
        rw[if_neg (by decide)]
        exact kasC_pure ⟨rfl,rfl,pend',p',a,b,d,A.congr fr⟩
     ·rw[if_neg e]
      dsimp only
      exact kasC_pure ⟨rfl,rfl,pend,p,hp,H,R,A⟩
    ·rintro c st' s' ⟨rfl,rfl,pend,p,hp,H,R,A⟩
     dsimp only
     refine kasC_bind (kasC_modify ?_)
     refine kasC_bind (kasC_modify ?_)
     refine kasC_pure ⟨rfl,lo+m,(pend.modify (pend.size - 1) _).push (lo,m,0),p,rfl,by lia,by lia,hp,⟨H.k,H.a,by show ((pendingOf st').modify ((pendingOf st').size - 1) _).push _=_;rw[H.p],H.f⟩,?_⟩
     rw[Array.toList_push]
     exact aE.app.mpr ⟨lo,R.same (mK _ _ _),rfl,by lia,A,rfl⟩
theorem uA {Q:Unit→SortSt→Shared→Prop} (hc:aS n key (kas_cmp prog w A κ it) s) (inj:∀ i j,i<n→j<n→key i=key j→i=j) (h2:2≤n) (up:n<1001∨∀ j,1≤j→j<n→key (j - 1)≤key j)
  (hG:∀ p' st',Rg n p'→Up key p' n→arrOf st'=p'.map (kas_item it)→failedOf st'=none→Q () st' s):kasC (model prog w) A E sortRuns' Q (kas_st κ it (List.range n).toArray) s:=uz hc inj h2 hG
end
end L2
namespace L2
open PySem PySem.Spec PyProof.Rows
section
variable {X:Cx}{pins:List (Addr×Obj)}{σ:St}{H:Hp}{s:Shared}{h':Heap}
theorem Inv.turnT {ch:List Addr}{T:Addr}{xs:List V}{t':Nat} (I:Inv X pins σ H s) (hch:∀ b∈ch,bv X pins H b) (k:∀ b o,b∉ch→s.heap.get? b=some o→h'.get? b=some o) (hT:s.heap.objs.size≤T)
  (new:aX X.prog X.w (upd H T (.tup xs)) h' T (.tup xs)):Inv X pins σ (upd H T (.tup xs)) { s with heap:=h',toks:=t' }:=by
 have fT:H T=none:=I.hok.fresh hT
 have nT:∀ b o,s.heap.get? b=some o→b≠T:=fun b o e=>Nat.ne_of_lt (Nat.lt_of_lt_of_le (Heap.lt_size e) hT)
 have nc:∀ b u,H b=some u→b∉ch:=fun b u e z=>by rw[(hch b z).1] at e;cases e
 refine I.step (g':=s.gens) (d':=s.drawn) (ch:=ch) (fun b hb=>⟨(hch b hb).2.2.2.1,(hch b hb).2.1,(hch b hb).2.2.2.2.1,(hch b hb).2.2.2.2.2⟩) (fun b o _ _ hc e _=>k b o hc e) (fun b o _ _ hc e _=>⟨o.slots,k b o hc e⟩)
  (fun b o _ e n=>by rw[ar (nT b o e)];exact n) (fun b o hc e=>⟨o,k b o hc e⟩) (fun b ys e=>by rw[ar (bf e fT)];exact e) (fun b o u e=>by rw[ar (bf e fT)];exact e)
  (fun b ps e=>⟨#[],by rw[ar (bf e fT),e];simp⟩) (fun m hm=>?_) (fun a o e=>?_) I.bare
 ·obtain⟨o,es,ep,ho,r⟩:=hm
  exact⟨o,es,ep,k _ o (fun z=>(hch _ z).2.1 rfl) ho,r⟩
 ·by_cases ha:a=T
  ·subst ha
   rw[aO] at e
   cases e
   exact new
  ·rw[ar ha] at e
   refine (I.hok a o e).stay (fun b u hb q=>k b u ?_ q) (fun b q=>by rw[ar (bf q fT)];exact q) fun b ys q=>by rw[ar (bf q fT)];exact q
   rcases hb with z | z
   ·rw[z];exact nc a o e
   ·exact nc b _ z
theorem Inv.turnL {ch:List Addr}{t':Nat} (I:Inv X pins σ H s) (hch:∀ b∈ch,bv X pins H b) (k:∀ b o,b∉ch→s.heap.get? b=some o→h'.get? b=some o):Inv X pins σ H { s with heap:=h',toks:=t' }:=by
 have nc:∀ b u,H b=some u→b∉ch:=fun b u e z=>by rw[(hch b z).1] at e;cases e
 refine I.step (g':=s.gens) (d':=s.drawn) (ch:=ch) (fun b hb=>⟨(hch b hb).2.2.2.1,(hch b hb).2.1,(hch b hb).2.2.2.2.1,(hch b hb).2.2.2.2.2⟩) (fun b o _ _ hc e _=>k b o hc e) (fun b o _ _ hc e _=>⟨o.slots,k b o hc e⟩)
  (fun b o _ _ n=>n) (fun b o hc e=>⟨o,k b o hc e⟩) (fun b ys e=>e) (fun b o u e=>e) (fun b ps e=>⟨#[],by rw[e];simp⟩) (fun m hm=>?_) (fun a o e=>?_) I.bare
 ·obtain⟨o,es,ep,ho,r⟩:=hm
  exact⟨o,es,ep,k _ o (fun z=>(hch _ z).2.1 rfl) ho,r⟩
 ·refine (I.hok a o e).stay (fun b u hb q=>k b u ?_ q) (fun b q=>q) fun b ys q=>q
  rcases hb with z | z
  ·rw[z];exact nc a o e
  ·exact nc b _ z
end
section
variable {prog:Program}{w:World}{A:Around}{E:Value→Shared→Prop}{s:Shared}
theorem jt {it t:Addr}{i:Nat}{items:Array Value}{x:Value}{Q:Value→Shared→Prop} (hit:s.heap.IsTupleIter it t i) (ht:s.heap.IsTuple t items) (hx:items[i]?=some x)
  (q:∀ h',h'.IsTupleIter it t (i+1)→Heap.SameBut it s.heap h'→Q x { s with heap:=h' }):wpAny (model prog w) A (Builtin.SmallTypes.nextOf (.ref it)) Q E s:=by
 obtain⟨o,f1,f2,f3⟩:=id hit
 obtain⟨ol,g1,_,nl,g2⟩:=ht
 unfold Builtin.SmallTypes.nextOf
 refine wpAny_bind (wpAny_callSpecial?_slot (name:=Str.ofString "__next__") hit.typeIs F.slot_tuple_iterator_next (wpAny_call_entry F.slot_tuple_iterator_next hit.typeIs F.entry_tuple_iterator_next ?z (F.args_tuple_iterator_next_1 _)))
 case z=>
  show wpAny _ _ (field (.ref it) 0 >>= _) _ _ s
  refine wpAny_bind (wpAny_field f1 f3 (x:=.ref t) rfl ?_)
  show wpAny _ _ (if (Value.ref t == Value.none)=true then _ else _) _ _ s
  rw[if_neg (show ¬ (Value.ref t == Value.none)=true by intro z;cases z)]
  show wpAny _ _ (field (.ref it) 1 >>= _) _ _ s
  refine wpAny_bind (wpAny_field f1 f3 (x:=.int i 0) rfl ?_)
  show wpAny _ _ (seqItems? (.ref t) >>= _) _ _ s
  refine wpAny_bind (wpAny_seqItems g1 g2 ?_)
  simp only[Int.toNat_natCast,hx]
  refine wpAny_bind (wpAny_setField f1 f3 (by simp) (wpAny_pure ⟨x,rfl,wpAny_pure (q _ ⟨_,Heap.get?_update_self _ f1 (Obj.isFreed_of_fields (Obj.data_mapFields f3 _)),(Obj.cls_mapFields ..).trans f2,by rw[Obj.data_mapFields f3];simp[rawInt]⟩ (Heap.SameBut.update ..))⟩))
theorem mL {it t:Addr}{i:Nat}{items:Array Value}{Q:Value→Shared→Prop} (hh:A.handled=none) (hit:s.heap.IsTupleIter it t i) (ht:s.heap.IsTuple t items) (hx:items[i]?=none)
  (q:∀ h' e,Heap.ExtBut it s.heap h'→(∃ o,h'.get? e=some o∧o.cls=.type "StopIteration")→E (.ref e) { s with heap:=h' }):wpAny (model prog w) A (Builtin.SmallTypes.nextOf (.ref it)) Q E s:=by
 obtain⟨o,f1,f2,f3⟩:=id hit
 obtain⟨ol,g1,_,nl,g2⟩:=ht
 unfold Builtin.SmallTypes.nextOf
 refine wpAny_bind (wpAny_callSpecial?_slot (name:=Str.ofString "__next__") hit.typeIs F.slot_tuple_iterator_next (wpAny_call_entry F.slot_tuple_iterator_next hit.typeIs F.entry_tuple_iterator_next ?z (F.args_tuple_iterator_next_1 _)))
 case z=>
  show wpAny _ _ (field (.ref it) 0 >>= _) _ _ s
  refine wpAny_bind (wpAny_field f1 f3 (x:=.ref t) rfl ?_)
  show wpAny _ _ (if (Value.ref t == Value.none)=true then _ else _) _ _ s
  rw[if_neg (show ¬ (Value.ref t == Value.none)=true by intro z;cases z)]
  show wpAny _ _ (field (.ref it) 1 >>= _) _ _ s
  refine wpAny_bind (wpAny_field f1 f3 (x:=.int i 0) rfl ?_)
  show wpAny _ _ (seqItems? (.ref t) >>= _) _ _ s
  refine wpAny_bind (wpAny_seqItems g1 g2 ?_)
  simp only[Int.toNat_natCast,hx]
  refine wpAny_bind (wpAny_rule (wpAny_bind (wpAny_setField f1 f3 (by simp) ?_)))
  show wpAny _ _ (newExc (.type "StopIteration") [] >>= _) _ _ _
  apply wpAny_bind
  simp only[newExc,newTuple]
  refine wpAny_bind (wpAny_newObj_type (wpAny_bind (m:=firstArgMember _ _) (wpAny_of_eq (a:=Value.none) (by first | rfl | (simp only[firstArgMember];rfl)) (wpAny_newObj_type ?_ (by size_fits)))) (by size_fits))
  simp only[raiseNew]
  apply wpAny_bind
  apply wpAny_handled
  rw[show A.in1.handled=none from hh]
  refine wpAny_bind (m:=pure _) (wpAny_pure (wpAny_throw ?_))
  exact q _ _ (((Heap.SameBut.update ..).extBut.push _).push _) ⟨_,Heap.get?_push_size _ rfl,rfl⟩
end
end L2
namespace L2
open PySem PySem.Spec PyProof.Rows
section
variable {prog:Program}{w:World}{A:Around}{E:Value→Shared→Prop}{s:Shared}
theorem cj {h h':Heap}{a t:Addr}{i:Nat} (x:h.IsTupleIter a t i) (k:∀ o,h.get? a=some o→h'.get? a=some o):h'.IsTupleIter a t i:=let ⟨o,e,r⟩:=x;⟨o,k o e,r⟩
theorem fy {h h':Heap}{a:Addr}{xs:Array Value} (x:h.IsTuple a xs) (k:∀ o,h.get? a=some o→h'.get? a=some o):h'.IsTuple a xs:=let ⟨o,e,r⟩:=x;⟨o,k o e,r⟩
theorem uB {z TI TO i1 i2 l1 l2:Addr}{k1 k2:Nat}{xs ys:Array Value}{x y a b:Value}{Q:Value→Shared→Prop} (D:ZipApart z TI TO i1 i2 l1 l2)
  (hz:IsZip s.heap z TI TO .none) (hTI:IsPair s.heap TI (.ref i1) (.ref i2)) (hTO:IsPair s.heap TO a b)
  (h1:s.heap.IsTupleIter i1 l1 k1) (h2:s.heap.IsTupleIter i2 l2 k2) (hl1:s.heap.IsTuple l1 xs) (hl2:s.heap.IsTuple l2 ys) (hx:xs[k1]?=some x) (hy:ys[k2]?=some y)
  (hQ:∀ h',IsZip h' z TI TO (rawInt s.heap.objs.size)→IsPair h' TO x y→h'.IsTupleIter i1 l1 (k1+1)→h'.IsTupleIter i2 l2 (k2+1)→IsPair h' s.heap.objs.size x y→
   (∀ c o,c≠z→c≠TO→c≠i1→c≠i2→s.heap.get? c=some o→h'.get? c=some o)→Q (.ref s.heap.objs.size) { s with heap:=h' }):
  wpAny (model prog w) A (Builtin.«zip.__next__» ⟨[.ref z],[]⟩) (fun fin s'=>∃ v,fin=.done (.ret v)∧Q v s') E s:=by
 show wpAny _ _ (field (.ref z) 2 >>= _) _ _ _
 refine wpAny_bind (wpAny_field hz rfl (x:=.bool false) rfl ?_)
 show wpAny _ _ (field (.ref z) 3 >>= _) _ _ _
 refine wpAny_bind (wpAny_field hz rfl (x:=.ref TI) rfl (wpAny_bind (wpAny_seqItems hTI rfl ?_)))
 show wpAny _ _ (Builtin.SmallTypes.ownedTupleIsFree (.ref z) >>= _) _ _ _
 apply wpAny_bind
 unfold Builtin.SmallTypes.ownedTupleIsFree
 refine wpAny_bind (wpAny_field hz rfl (x:=.none) rfl (wpAny_pure ?_))
 simp only[if_true]
 refine wpAny_bind (wpAny_rule (wpAny_bind (wpAny_field hz rfl (x:=.ref TO) rfl (wpAny_bind (wpAny_setField_rec hz (by simp) fun j1 z1 s1=>?_)))))
 replace z1:IsZip j1 z TI TO .ellipsis:=z1
 apply wpAny_bind
 simp only[List.zipIdx_cons,List.zipIdx_nil,List.forIn_cons,List.forIn_nil]
 refine wpAny_bind (wpAny_bind (wpAny_onRaise ?_))
 show wpAny _ _ (Builtin.SmallTypes.nextOf (.ref i1) >>= _) _ _ _
 refine wpAny_bind (jt (s:={ s with heap:=j1 }) (cj h1 fun o e=>s1.extBut _ o D.i1z e) (fy hl1 fun o e=>s1.extBut _ o D.l1z e) hx fun j2 a2 s2=>wpAny_pure ?_)
 have o2:IsPair j2 TO a b:=s2.extBut _ _ D.TOi1 (s1.extBut _ _ D.TOz hTO)
 refine wpAny_bind (wpAny_seqItems (s:={ s with heap:=j2 }) o2 rfl (wpAny_bind (wpAny_updateSeq_pair (s:={ s with heap:=j2 }) o2 fun j3 o3 s3=>?_)))
 replace o3:IsPair j3 TO x b:=o3
 refine wpAny_bind (wpAny_letGo (wpAny_pure (wpAny_bind (wpAny_bind (wpAny_onRaise ?_)))))
 show wpAny _ _ (Builtin.SmallTypes.nextOf (.ref i2) >>= _) _ _ _
 refine wpAny_bind (jt (s:={ s with heap:=j3 }) (cj h2 fun o e=>s3.extBut _ o D.TOi2.symm (s2.extBut _ o D.i12.symm (s1.extBut _ o D.i2z e))) (fy hl2 fun o e=>s3.extBut _ o D.l2TO (s2.extBut _ o D.l2i1 (s1.extBut _ o D.l2z e))) hy fun j4 a4 s4=>wpAny_pure ?_)
 have o4:IsPair j4 TO x b:=s4.extBut _ _ D.TOi2 o3
 refine wpAny_bind (wpAny_seqItems (s:={ s with heap:=j4 }) o4 rfl (wpAny_bind (wpAny_updateSeq_pair (s:={ s with heap:=j4 }) o4 fun j5 o5 s5=>?_)))
 replace o5:IsPair j5 TO x y:=o5
 refine wpAny_bind (wpAny_letGo (wpAny_pure (wpAny_pure (wpAny_bind (wpAny_seqItems (s:={ s with heap:=j5 }) o5 rfl (wpAny_bind (wpAny_newTuple ?_)))))))
 have hsz:j5.objs.size=s.heap.objs.size:=by rw[s5.1,s4.1,s3.1,s2.1,s1.1]
 have z5:IsZip j5 z TI TO .ellipsis:=s5.extBut _ _ D.TOz.symm (s4.extBut _ _ D.i2z.symm (s3.extBut _ _ D.TOz.symm (s2.extBut _ _ D.i1z.symm z1)))
 have k5:∀ c o,c≠z→c≠TO→c≠i1→c≠i2→s.heap.get? c=some o→j5.get? c=some o:=fun c o c1 c2 c3 c4 e=>s5.extBut _ _ c2 (s4.extBut _ _ c4 (s3.extBut _ _ c2 (s2.extBut _ _ c3 (s1.extBut _ _ c1 e))))
 have b1:j5.IsTupleIter i1 l1 (k1+1):=cj a2 fun o e=>s5.extBut _ o D.TOi1.symm (s4.extBut _ o D.i12 (s3.extBut _ o D.TOi1.symm e))
 have b2:j5.IsTupleIter i2 l2 (k2+1):=cj a4 fun o e=>s5.extBut _ o D.TOi2.symm e
 have zlt:z<j5.objs.size:=Heap.lt_size z5
 show wpAny _ _ (Builtin.SmallTypes.ownedTupleHandOut (.ref z) (.ref j5.objs.size) >>= _) _ _ _
 apply wpAny_bind
 unfold Builtin.SmallTypes.ownedTupleHandOut
 have z6:IsZip (j5.push { cls:=.type "tuple",data:=.seq #[x,y] }) z TI TO .ellipsis:=Heap.get?_push_of_some _ z5
 refine wpAny_bind (wpAny_setField_rec z6 (by simp) fun j7 z7 s7=>?_)
 replace z7:IsZip j7 z TI TO (rawInt j5.objs.size):=z7
 refine wpAny_setField_rec z7 (by simp) fun j8 z8 s8=>?_
 replace z8:IsZip j8 z TI TO (rawInt j5.objs.size):=z8
 have up:∀ c o,c≠z→j5.get? c=some o→j8.get? c=some o:=fun c o c1 e=>s8.extBut _ _ c1 (s7.extBut _ _ c1 (Heap.get?_push_of_some _ e))
 have t8:IsPair j8 j5.objs.size x y:=s8.extBut _ _ (Nat.ne_of_gt zlt) (s7.extBut _ _ (Nat.ne_of_gt zlt) (Heap.get?_push_size _ rfl))
 rw[hsz] at z8 t8
 refine wpAny_pure ⟨_,rfl,?_⟩
 show Q (.ref j5.objs.size) _
 rw[hsz]
 exact hQ j8 z8 (up _ _ D.TOz o5) (cj b1 fun o e=>up _ o D.i1z e) (cj b2 fun o e=>up _ o D.i2z e) t8 fun c o c1 c2 c3 c4 e=>up c o c1 (k5 c o c1 c2 c3 c4 e)
theorem uD {z TI TO i1 i2 l1 l2:Addr}{k1 k2:Nat}{xs ys:Array Value}{a b:Value}{Q:PySem.Fin→Shared→Prop} (hh:A.handled=none) (D:ZipApart z TI TO i1 i2 l1 l2)
  (hz:IsZip s.heap z TI TO .none) (hTI:IsPair s.heap TI (.ref i1) (.ref i2)) (hTO:IsPair s.heap TO a b)
  (h1:s.heap.IsTupleIter i1 l1 k1) (h2:s.heap.IsTupleIter i2 l2 k2) (hl1:s.heap.IsTuple l1 xs) (hl2:s.heap.IsTuple l2 ys) (hend:xs[k1]?=none∨ys[k2]?=none)
  (hE:∀ h' e,(∀ c o,c≠z→c≠TO→c≠i1→c≠i2→s.heap.get? c=some o→h'.get? c=some o)→(∃ o,h'.get? e=some o∧o.cls=.type "StopIteration")→E (.ref e) { s with heap:=h' }):
  wpAny (model prog w) A (Builtin.«zip.__next__» ⟨[.ref z],[]⟩) Q E s:=by
 show wpAny _ _ (field (.ref z) 2 >>= _) _ _ _
 refine wpAny_bind (wpAny_field hz rfl (x:=.bool false) rfl ?_)
 show wpAny _ _ (field (.ref z) 3 >>= _) _ _ _
 refine wpAny_bind (wpAny_field hz rfl (x:=.ref TI) rfl (wpAny_bind (wpAny_seqItems hTI rfl ?_)))
 show wpAny _ _ (Builtin.SmallTypes.ownedTupleIsFree (.ref z) >>= _) _ _ _
 apply wpAny_bind
 unfold Builtin.SmallTypes.ownedTupleIsFree
 refine wpAny_bind (wpAny_field hz rfl (x:=.none) rfl (wpAny_pure ?_))
 simp only[if_true]
 refine wpAny_bind (wpAny_rule (wpAny_bind (wpAny_field hz rfl (x:=.ref TO) rfl (wpAny_bind (wpAny_setField_rec hz (by simp) fun j1 z1 s1=>?_)))))
 replace z1:IsZip j1 z TI TO .ellipsis:=z1
 apply wpAny_bind
 simp only[List.zipIdx_cons,List.zipIdx_nil,List.forIn_cons,List.forIn_nil]
 refine wpAny_bind (wpAny_bind (wpAny_onRaise ?_))
 show wpAny _ _ (Builtin.SmallTypes.nextOf (.ref i1) >>= _) _ _ _
 cases hx:xs[k1]? with
 | none=>
  refine wpAny_bind (mL (s:={ s with heap:=j1 }) hh (cj h1 fun o e=>s1.extBut _ o D.i1z e) (fy hl1 fun o e=>s1.extBut _ o D.l1z e) hx fun j2 e s2 ⟨oe,e1,e2⟩=>?_)
  have z2:IsZip j2 z TI TO .ellipsis:=s2 _ _ D.i1z.symm z1
  have ez:e≠z:=fun q=>by subst q;rw[z2] at e1;cases e1;simp at e2
  refine wpAny_setField_rec z2 (by simp) fun j3 _ s3=>hE j3 e (fun c o c1 _ c3 _ q=>s3.extBut _ _ c1 (s2 _ _ c3 (s1.extBut _ _ c1 q))) ⟨oe,s3.extBut _ _ ez e1,e2⟩
 | some x=>
  have hy:ys[k2]?=none:=by
   rcases hend with h | h
   ·rw[hx] at h;cases h
   ·exact h
  refine wpAny_bind (jt (s:={ s with heap:=j1 }) (cj h1 fun o e=>s1.extBut _ o D.i1z e) (fy hl1 fun o e=>s1.extBut _ o D.l1z e) hx fun j2 a2 s2=>wpAny_pure ?_)
  have o2:IsPair j2 TO a b:=s2.extBut _ _ D.TOi1 (s1.extBut _ _ D.TOz hTO)
  refine wpAny_bind (wpAny_seqItems (s:={ s with heap:=j2 }) o2 rfl (wpAny_bind (wpAny_updateSeq_pair (s:={ s with heap:=j2 }) o2 fun j3 o3 s3=>?_)))
  refine wpAny_bind (wpAny_letGo (wpAny_pure (wpAny_bind (wpAny_bind (wpAny_onRaise ?_)))))
  show wpAny _ _ (Builtin.SmallTypes.nextOf (.ref i2) >>= _) _ _ _
  refine wpAny_bind (mL (s:={ s with heap:=j3 }) hh (cj h2 fun o e=>s3.extBut _ o D.TOi2.symm (s2.extBut _ o D.i12.symm (s1.extBut _ o D.i2z e))) (fy hl2 fun o e=>s3.extBut _ o D.l2TO (s2.extBut _ o D.l2i1 (s1.extBut _ o D.l2z e))) hy fun j4 e s4 ⟨oe,e1,e2⟩=>?_)
  have z4:IsZip j4 z TI TO .ellipsis:=s4 _ _ D.i2z.symm (s3.extBut _ _ D.TOz.symm (s2.extBut _ _ D.i1z.symm z1))
  have ez:e≠z:=fun q=>by subst q;rw[z4] at e1;cases e1;simp at e2
  refine wpAny_setField_rec z4 (by simp) fun j5 _ s5=>hE j5 e (fun c o c1 c2 c3 c4 q=>s5.extBut _ _ c1 (s4 _ _ c4 (s3.extBut _ _ c2 (s2.extBut _ _ c3 (s1.extBut _ _ c1 q))))) ⟨oe,s5.extBut _ _ ez e1,e2⟩
end
noncomputable def ztH (h:Heap) (l1 l2:Addr):Heap:=((((h.push { cls:=.type "tuple_iterator",data:=.fields #[.ref l1,.int 0 0] }).push { cls:=.type "tuple_iterator",data:=.fields #[.ref l2,.int 0 0] }).push
 { cls:=.type "tuple",data:=.seq #[.ref h.objs.size,.ref (h.push { cls:=.type "tuple_iterator",data:=.fields #[.ref l1,.int 0 0] }).objs.size] }).push { cls:=.type "tuple",data:=.seq #[.none,.none] })
theorem uE (l1 l2 : Addr) (xs ys : Array Value) :
    Meets (Builtin.«zip.__new__» ⟨[.type "zip", .ref l1, .ref l2], []⟩) (fun _ R s => s.heap.IsTuple l1 xs ∧ s.heap.IsTuple l2 ys ∧
      R (.ok (.ret (.ref (ztH s.heap l1 l2).objs.size))) { s with heap := (ztH s.heap l1 l2).push { cls := .type "zip", data := .fields #[.none, .bool false, .bool false, .ref ((s.heap.push { cls := .type "tuple_iterator", data := .fields #[.ref l1, .int 0 0] }).push { cls := .type "tuple_iterator", data := .fields #[.ref l2, .int 0 0] }).objs.size,
        .ref (((s.heap.push { cls := .type "tuple_iterator", data := .fields #[.ref l1, .int 0 0] }).push { cls := .type "tuple_iterator", data := .fields #[.ref l2, .int 0 0] }).push
  { cls := .type "tuple", data := .seq #[.ref s.heap.objs.size, .ref (s.heap.push { cls := .type "tuple_iterator", data := .fields #[.ref l1, .int 0 0] }).objs.size] }).objs.size] } }) :=
  .of_wp fun prog w A R s h => by
    obtain ⟨hp, g, d, tk, os⟩ := s
    obtain ⟨q1, q2, h⟩ := h
    have hsub := sub_zip
    have m1 : Heap.IsTuple (Shared.heap ⟨hp, g, d, tk, os⟩) l1 xs := q1
    have m2 : Heap.IsTuple (Shared.heap ⟨hp.push { cls := .type "tuple_iterator", data := .fields #[.ref l1, .int 0 0] }, g, d, tk, os⟩) l2 ys := fy q2 fun o e => Heap.get?_push_of_some _ e
    wp_walk using wpAny_pyIter_tuple m1, wpAny_pyIter_tuple m2
    exact ⟨_, rfl, h⟩
end L2
namespace L2
open PySem PySem.Spec PyProof.Rows
noncomputable def Itz (K:PySem.W.Frag) (a b:Addr):It:=
 ⟨fun i H=>∃ xs ys x y,SqT K H a xs∧SqT K H b ys∧xs[i]?=some x∧ys[i]?=some y,
  fun i H v H'=>∃ T x y,H T=none∧v=.ref T∧H'=upd H T (.tup [x,y])∧(∀ xs,SqT K H a xs→xs[i]?=some x)∧(∀ ys,SqT K H b ys→ys[i]?=some y),
  fun i H=>∃ xs ys,SqT K H a xs∧SqT K H b ys∧(xs.length≤i∨ys.length≤i)⟩
noncomputable def mM (a b z TI TO i1 i2:Addr) (i:Nat) (h:Heap):Prop:=IsZip h z TI TO .none∧IsPair h TI (.ref i1) (.ref i2)∧(∃ p q,IsPair h TO p q)∧h.IsTupleIter i1 a i∧h.IsTupleIter i2 b i
theorem uF {P:Program}{w:World}{K:PySem.W.Frag}{es:List Expr}{ek:Nat}{pos:Pos} (a b z TI TO i1 i2:Addr) (D:ZipApart z TI TO i1 i2 a b):
  Turn P w K (.Tuple es ek pos) (Itz K a b) [z,TI,TO,i1,i2] z (mM a b z TI TO i1 i2) where
 mem:=by simp
 obj:=fun i h st c hc=>by
  obtain⟨h1,h2,⟨p,q,h3⟩,⟨o4,e4,_,d4⟩,⟨o5,e5,_,d5⟩⟩:=st
  simp only[List.mem_cons,List.mem_nil_iff,or_false] at hc
  rcases hc with rfl | rfl | rfl | rfl | rfl
  ·exact⟨_,h1,fun v e=>by cases e⟩
  ·exact⟨_,h2,fun v e=>by cases e⟩
  ·exact⟨_,h3,fun v e=>by cases e⟩
  ·exact⟨_,e4,fun v e=>by rw[d4] at e;cases e⟩
  ·exact⟨_,e5,fun v e=>by rw[d5] at e;cases e⟩
 keep:=fun i h h' st k=>by
  obtain⟨h1,h2,⟨p,q,h3⟩,h4,h5⟩:=st
  exact⟨k z (by simp) _ h1,k TI (by simp) _ h2,⟨p,q,k TO (by simp) _ h3⟩,cj h4 fun o e=>k i1 (by simp) o e,cj h5 fun o e=>k i2 (by simp) o e⟩
 item:=by
  intro X hP hw hK hc i pins s σ H E I hf st hg
  subst hP hw hK
  obtain⟨xs,ys,x,y,q1,q2,x1,y1⟩:=hg
  obtain⟨its,rv,p,hz⟩:=I.tuple q1
  obtain⟨its2,rv2,p2,hz2⟩:=I.tuple q2
  obtain⟨u,hu,ru⟩:=rv.get x1
  obtain⟨u2,hu2,ru2⟩:=rv2.get y1
  have there:=st
  obtain⟨h1,h2,⟨pa,pb,h3⟩,h4,h5⟩:=st
  have hT:s.TypeIs (.ref z) "zip" := ⟨_,h1,rfl⟩
  unfold pyNext
  refine wpAny_bind (wpAny_attempt (wpAny_callSpecial?_slot (name:=Str.ofString "__next__") hT F.slot_zip_next (wpAny_call_entry F.slot_zip_next hT F.entry_zip_next
   (uB (Q:=fun v s'=>wpAny (model X.prog X.w) X.A (pure (some v)) (fun r s1=>∃ u,r=some u∧wpAny (model X.prog X.w) X.A (letOwnedTupleGo (.Tuple es ek pos) (.ref z) u) (fun _ s2=>∃ x H',Inv X pins σ H' s2∧am x u∧(Itz X.K a b).yld i H x H'∧mM a b z TI TO i1 i2 (i+1) s2.heap∧∀ b∈[z,TI,TO,i1,i2],H' b=none) E s1) E s')
    D h1 h2 h3 h4 h5 (show s.heap.IsTuple a its.toArray from p) (show s.heap.IsTuple b its2.toArray from p2) (x:=u) (y:=u2) (by simpa using hu) (by simpa using hu2) fun h' g1 g2 g3 g4 g5 kk=>wpAny_pure ⟨_,rfl,?_⟩) (F.args_zip_next_1 _))))
  refine wpAny_letOwnedTupleGo_zip g1 fun h2' g1' sb=>?_
  have lt:∀ c∈[z,TI,TO,i1,i2],c<s.heap.objs.size:=fun c hc=>by
   obtain⟨h1,h2,⟨p,q,h3⟩,⟨o4,e4,_⟩,⟨o5,e5,_⟩⟩:=there
   simp only[List.mem_cons,List.mem_nil_iff,or_false] at hc
   rcases hc with rfl | rfl | rfl | rfl | rfl
   ·exact Heap.lt_size h1
   ·exact Heap.lt_size h2
   ·exact Heap.lt_size h3
   ·exact Heap.lt_size e4
   ·exact Heap.lt_size e5
  have kp:∀ c o,c∉[z,TI,TO,i1,i2]→s.heap.get? c=some o→h2'.get? c=some o:=fun c o hc e=>by
   simp only[List.mem_cons,List.mem_nil_iff,or_false,not_or] at hc
   exact sb.extBut _ _ hc.1 (kk c o hc.1 hc.2.2.1 hc.2.2.2.1 hc.2.2.2.2 e)
  have zT:s.heap.objs.size≠z:=Nat.ne_of_gt (lt z (by simp))
  have fT:H s.heap.objs.size=none:=I.hok.fresh (Nat.le_refl _)
  refine⟨.ref s.heap.objs.size,upd H s.heap.objs.size (.tup [x,y]),I.turnT (t':=s.toks) hf kp (Nat.le_refl _) ⟨by show 2≤sizeLine;decide,[u,u2],.cons ru (.cons ru2 .nil),?_⟩,rfl,⟨_,x,y,fT,rfl,rfl,fun zs hz=>?_,fun zs hz=>?_⟩,?_,fun c hc=>?_⟩
  ·exact⟨_,sb.extBut _ _ zT g5,rfl,0,rfl⟩
  ·rw[I.tuple_inj hz q1];exact x1
  ·rw[I.tuple_inj hz q2];exact y1
  ·exact⟨g1',sb.extBut _ _ D.TIz (kk _ _ D.TIz D.TITO D.TIi1 D.TIi2 h2),⟨_,_,sb.extBut _ _ D.TOz g2⟩,cj g3 fun o e=>sb.extBut _ o D.i1z e,cj g4 fun o e=>sb.extBut _ o D.i2z e⟩
  ·rw[ar (Nat.ne_of_lt (lt c hc))]
   exact (hf c hc).1
 done:=by
  intro X hP hw hK hc i pins s σ H E I hf st hg
  subst hP hw hK
  obtain⟨xs,ys,q1,q2,hend⟩:=hg
  obtain⟨its,rv,p,hz⟩:=I.tuple q1
  obtain⟨its2,rv2,p2,hz2⟩:=I.tuple q2
  obtain⟨h1,h2,⟨pa,pb,h3⟩,h4,h5⟩:=st
  have hT:s.TypeIs (.ref z) "zip" := ⟨_,h1,rfl⟩
  have l1:=rv.length
  have l2:=rv2.length
  unfold pyNext
  refine wpAny_bind (wpAny_attempt (wpAny_callSpecial?_slot (name:=Str.ofString "__next__") hT F.slot_zip_next (wpAny_call_entry F.slot_zip_next hT F.entry_zip_next
   (uD (I.ok.hd hc) D h1 h2 h3 h4 h5 (show s.heap.IsTuple a its.toArray from p) (show s.heap.IsTuple b its2.toArray from p2) (by
    rcases hend with h | h
    ·exact .inl (by simp;omega)
    ·exact .inr (by simp;omega)) fun h' e kk ⟨o,ho,hcl⟩=>?_) (F.args_zip_next_1 _))))
  refine wpAny_bind (wpAny_isInstance (T := "StopIteration") (b:=true) ⟨o,ho,hcl⟩ isSubtype_stop (wpAny_pure ⟨rfl,I.turnL (t':=s.toks) hf fun c o hc e=>?_⟩))
  simp only[List.mem_cons,List.mem_nil_iff,or_false,not_or] at hc
  exact kk c o hc.1 hc.2.2.1 hc.2.2.2.1 hc.2.2.2.2 e
 self:=fun _ _ _ _ _ st h=>wpAny_pyIter_zip st.1 h
section
variable {X:Cx}
noncomputable def uG (K:PySem.W.Frag) (ta:TA):TI:=fun σ H R=>ta σ H fun vs H1=>∃ a b,vs=[.ref a,.ref b]∧(∃ xs,SqT K H1 a xs)∧(∃ ys,SqT K H1 b ys)∧R (Itz K a b) H1
theorem uH {a b:Expr}{ta:TA}{p pos:Pos}{es:List Expr}{ek:Nat}{ps:Pos} (hg:Gl X "zip") (hm:X.mg "zip" = none) (ha:PA X [a,b] ta) (hs:starEach [a,b] X.env=[(false,eval a X.env),(false,eval b X.env)]:=by rfl) (hs2:starEach [b] X.env=[(false,eval b X.env)]:=by rfl):
  PI X (.Tuple es ek ps) (.Call (.Name "zip" p) [a,b] [] pos) (uG X.K ta):=by
 intro pins s σ H R I h
 refine Call_ (fo I hg hm boot_zip (PyProof.Rows.callWith_type1 (thn (ha pos pins s σ H _ I h) fun us s1 ⟨vs,H1,I1,r1,q1⟩=>?_) (by rw[hs,hs2]) (by rw[hs2];rfl)))
 obtain⟨l1,l2,e,⟨xs,hx⟩,⟨ys,hy⟩,q⟩:=q1
 subst e
 cases r1 with
 | cons r rr=>
  cases rr with
  | cons r' rr=>
   cases rr
   cases r
   cases r'
   obtain⟨its,rv,p,hz⟩:=I1.tuple hx
   obtain⟨its2,rv2,p2,hz2⟩:=I1.tuple hy
   have lt1:l1<s1.heap.objs.size:=by obtain⟨o,e,_⟩:=p;exact Heap.lt_size e
   have lt2:l2<s1.heap.objs.size:=by obtain⟨o,e,_⟩:=p2;exact Heap.lt_size e
   refine callType_new F.called_zip (by decide) (F.typeCall_zip_2 _ _) (F.newCall_zip_2 _ _) (fun obj=>F.args_object_init_3 obj _ _) F.entry_zip_new (uE l1 l2 its.toArray its2.toArray) ⟨p,p2,?_⟩
   have z1:(s1.heap.push { cls:=.type "tuple_iterator",data:=.fields #[.ref l1,.int 0 0] }).objs.size=s1.heap.objs.size+1:=Heap.size_push ..
   have z2:((s1.heap.push { cls:=.type "tuple_iterator",data:=.fields #[.ref l1,.int 0 0] }).push { cls:=.type "tuple_iterator",data:=.fields #[.ref l2,.int 0 0] }).objs.size=s1.heap.objs.size+2:=by rw[Heap.size_push,z1]
   have z3:(((s1.heap.push { cls:=.type "tuple_iterator",data:=.fields #[.ref l1,.int 0 0] }).push { cls:=.type "tuple_iterator",data:=.fields #[.ref l2,.int 0 0] }).push
    { cls:=.type "tuple",data:=.seq #[.ref s1.heap.objs.size,.ref (s1.heap.push { cls:=.type "tuple_iterator",data:=.fields #[.ref l1,.int 0 0] }).objs.size] }).objs.size=s1.heap.objs.size+3:=by rw[Heap.size_push,z2]
   have z4:(ztH s1.heap l1 l2).objs.size=s1.heap.objs.size+4:=by unfold ztH;rw[Heap.size_push,z3]
   show _∧_
   refine⟨⟨_,Heap.get?_push_size _ rfl,rfl⟩,wpAny_pyIter_zip (TI:=s1.heap.objs.size+2) (TO:=s1.heap.objs.size+3) (f0:=.none) ?_ ?_⟩
   ·rw[z2,z3]
    exact Heap.get?_push_size _ rfl
   ·rw[z2,z3,z4]
    have g5:((ztH s1.heap l1 l2).push { cls:=.type "zip",data:=.fields #[.none,.bool false,.bool false,.ref (s1.heap.objs.size+2),.ref (s1.heap.objs.size+3)] }).get? (s1.heap.objs.size+4)=some { cls:=.type "zip",data:=.fields #[.none,.bool false,.bool false,.ref (s1.heap.objs.size+2),.ref (s1.heap.objs.size+3)] }:=by rw[← z4];exact Heap.get?_push_size _ rfl
    have g4:((ztH s1.heap l1 l2).push { cls:=.type "zip",data:=.fields #[.none,.bool false,.bool false,.ref (s1.heap.objs.size+2),.ref (s1.heap.objs.size+3)] }).get? (s1.heap.objs.size+3)=some { cls:=.type "tuple",data:=.seq #[.none,.none] }:=by
     rw[← z3];exact Heap.get?_push_of_some _ (Heap.get?_push_size _ rfl)
    have g3:((ztH s1.heap l1 l2).push { cls:=.type "zip",data:=.fields #[.none,.bool false,.bool false,.ref (s1.heap.objs.size+2),.ref (s1.heap.objs.size+3)] }).get? (s1.heap.objs.size+2)=some { cls:=.type "tuple",data:=.seq #[.ref s1.heap.objs.size,.ref (s1.heap.objs.size+1)] }:=by
     rw[← z2,← z1];exact Heap.get?_push_of_some _ (Heap.get?_push_of_some _ (Heap.get?_push_size _ rfl))
    have g2:((ztH s1.heap l1 l2).push { cls:=.type "zip",data:=.fields #[.none,.bool false,.bool false,.ref (s1.heap.objs.size+2),.ref (s1.heap.objs.size+3)] }).get? (s1.heap.objs.size+1)=some { cls:=.type "tuple_iterator",data:=.fields #[.ref l2,.int 0 0] }:=by
     rw[← z1];exact Heap.get?_push_of_some _ (Heap.get?_push_of_some _ (Heap.get?_push_of_some _ (Heap.get?_push_size _ rfl)))
    have g1:((ztH s1.heap l1 l2).push { cls:=.type "zip",data:=.fields #[.none,.bool false,.bool false,.ref (s1.heap.objs.size+2),.ref (s1.heap.objs.size+3)] }).get? s1.heap.objs.size=some { cls:=.type "tuple_iterator",data:=.fields #[.ref l1,.int 0 0] }:=
     Heap.get?_push_of_some _ (Heap.get?_push_of_some _ (Heap.get?_push_of_some _ (Heap.get?_push_of_some _ (Heap.get?_push_size _ rfl))))
    have kp:∀ c o,s1.heap.get? c=some o→((ztH s1.heap l1 l2).push { cls:=.type "zip",data:=.fields #[.none,.bool false,.bool false,.ref (s1.heap.objs.size+2),.ref (s1.heap.objs.size+3)] }).get? c=some o:=fun c o e=>
     Heap.get?_push_of_some _ (Heap.get?_push_of_some _ (Heap.get?_push_of_some _ (Heap.get?_push_of_some _ (Heap.get?_push_of_some _ e))))
    generalize ((ztH s1.heap l1 l2).push { cls:=.type "zip",data:=.fields #[.none,.bool false,.bool false,.ref (s1.heap.objs.size+2),.ref (s1.heap.objs.size+3)] })=h5 at g1 g2 g3 g4 g5 kp ⊢
    have D:ZipApart (s1.heap.objs.size+4) (s1.heap.objs.size+2) (s1.heap.objs.size+3) s1.heap.objs.size (s1.heap.objs.size+1) l1 l2:=PySem.W.ktu_apart _ _ _ lt1 lt2
    refine⟨_,_,_,_,H1,rfl,I1.kept (t':=s1.toks) kp,uF l1 l2 _ _ _ _ _ D,⟨g5,g3,⟨_,_,g4⟩,⟨_,g1,rfl,rfl⟩,⟨_,g2,rfl,rfl⟩⟩,fun c hc=>?_,q⟩
    have:s1.heap.objs.size≤c:=by
     simp only[List.mem_cons,List.mem_nil_iff,or_false] at hc
     rcases hc with rfl | rfl | rfl | rfl | rfl
     ·exact Nat.le_add_right _ _
     ·exact Nat.le_add_right _ _
     ·exact Nat.le_add_right _ _
     ·exact Nat.le_refl _
     ·exact Nat.le_add_right _ _
    exact I1.fpOk this (I1.hok.fresh this)
end
end L2
namespace L2
open PySem PySem.Spec PyProof.Rows
section
variable {prog:Program}{w:World}{A:Around}{E:Value→Shared→Prop}{s:Shared}
end
section
variable {X:Cx}
end
end L2
namespace L2
open PySem PySem.Spec PyProof.Rows PySem.W
theorem uJ {α:Type} (l:List α) (d:α):(List.range l.length).map (fun i=>l.getD i d)=l:=by
 apply List.ext_getElem
 ·simp
 ·intro i h1 h2
  simp[List.getD,h2]
theorem hU {α:Type}{l:List α}{d:α}{p:Array Nat} (h:Rg l.length p):(p.toList.map fun i=>l.getD i d).Perm l:=by
 have:=List.Perm.map (fun i=>l.getD i d) h
 rw[uJ] at this
 exact this
theorem hV {α β:Type}{F:α→β→Prop}:∀ {l₁:List α}{l₂:List β},l₁.length=l₂.length→(∀ (i:Nat) a b,l₁[i]?=some a→l₂[i]?=some b→F a b)→Paired F l₁ l₂
 | [],[],_,_=>.nil
 | a::l,b::m,h,f=>.cons (f 0 a b rfl rfl) (hV (by simpa using h) fun i x y h1 h2=>f (i+1) x y (by simpa using h1) (by simpa using h2))
 | [],_::_,h,_=>by simp at h
 | _::_,[],h,_=>by simp at h
section
variable {prog:Program}{w:World}{A:Around}{E:Value→Shared→Prop}{s:Shared}{vs:List Value}
theorem ju {B:Addr}{n0:Nat}{P:PySem.Fin→Shared→Prop} (key:Nat→Int) (κ:SortKind) (ho:s.heap.get? B=some (seqObj "list" vs.toArray n0))
  (hkind:2≤vs.length→∀ h6:Heap,(∀ b o,b≠B→s.heap.get? b=some o→h6.get? b=some o)→∀ Q:SortKind→Shared→Prop,Q κ { s with heap:=h6 }→wpAny (model prog w) A (keyKind' vs.toArray) Q E { s with heap:=h6 })
  (hcmp:∀ h6:Heap,(∀ b o,b≠B→s.heap.get? b=some o→h6.get? b=some o)→aS vs.length key (kas_cmp prog w A κ (vs.toArray.zip vs.toArray)) { s with heap:=h6 })
  (inj:∀ i j,i<vs.length→j<vs.length→key i=key j→i=j) (up:vs.length<1001∨∀ j,1≤j→j<vs.length→key (j - 1)≤key j) (hz:vs.length≤1000)
  (h:∀ (p:Array Nat) (h':Heap),Rg vs.length p→Up key p vs.length→(∀ b o,b≠B→s.heap.get? b=some o→h'.get? b=some o)→(∃ e,h'.get? B=some (seqObj "list" (p.toList.map fun i=>vs.getD i Value.none).toArray e))→
   P (.done (.ret .none)) { s with heap:=h' }):wpAny (model prog w) A (Builtin.«list.sort» ⟨[.ref B],[]⟩) P E s:=by
 have hzl:vs.length≤sizeLine:=Nat.le_trans hz (by decide)
 rw[list_sort_plain]
 have hB:B<s.heap.objs.size:=Heap.lt_size ho
 refine wpAny_bind (listItems_at ho rfl (wpAny_bind (listUpdate_at ho rfl ?_ (hsz:=by rw[List.size_toArray];exact hzl) (hsz2:=by show 0≤_;exact Nat.zero_le _))))
 have ho1:=get?_update_seq ho (fun _=>#[])
 generalize he1:(if (#[]:Array Value).size == vs.toArray.size then n0 else n0+1)=e1 at ho1
 refine wpAny_bind (seqEpoch_at ho1 rfl (wpAny_bind (wpAny_newTuple (wpAny_bind (wpAny_newList (wpAny_holding ?_))) (by simpa using hzl))))
 have k6:∀ b o,b≠B→s.heap.get? b=some o→(((s.heap.update B (Obj.mapSeq fun _=>#[])).push (seqObj "tuple" vs.toArray.toList.toArray 0)).push (seqObj "list" ([]:List Value).toArray 0)).get? b=some o:=fun b o hb e=>
  Heap.get?_push_of_some _ (Heap.get?_push_of_some _ ((Heap.get?_update_other _ _ (Ne.symm hb)).trans e))
 have o6:(((s.heap.update B (Obj.mapSeq fun _=>#[])).push (seqObj "tuple" vs.toArray.toList.toArray 0)).push (seqObj "list" ([]:List Value).toArray 0)).get? B=some (seqObj "list" #[] e1):=
  Heap.get?_push_of_some _ (Heap.get?_push_of_some _ ho1)
 show wpAny (model prog w) A _ P E { s with heap:=((s.heap.update B (Obj.mapSeq fun _=>#[])).push (seqObj "tuple" vs.toArray.toList.toArray 0)).push (seqObj "list" ([]:List Value).toArray 0) }
 generalize ((s.heap.update B (Obj.mapSeq fun _=>#[])).push (seqObj "tuple" vs.toArray.toList.toArray 0)).push (seqObj "list" ([]:List Value).toArray 0)=h6 at k6 o6 ⊢
 -- the end,whatever the order found
 have fin:∀ (st:SortSt) (p:Array Nat),Rg vs.length p→Up key p vs.length→arrOf st=p.map (kas_item (vs.toArray.zip vs.toArray))→failedOf st=none→
   wpAny (model prog w) A (do
    let touched:=(← seqEpoch B) != e1
    Builtin.List.listUpdate (.ref B) fun _=>(arrOf st).map (·.2)
    if let some e:=failedOf st then rule "list.sort.comparison-raised";throw e
    if touched then rule "list.sort.modified";raiseError "ValueError" "list modified during sort"
    ret .none) P E { s with heap:=h6 }:=fun st p r1 r2 r3 r4=>by
  have out:=kat_snds (ks:=vs) (vs:=vs) rfl r3
  rw[out,r4]
  refine wpAny_bind (seqEpoch_at (s:={ s with heap:=h6 }) o6 rfl (wpAny_bind (listUpdate_at (s:={ s with heap:=h6 }) o6 rfl ?_ (hsz:=Nat.zero_le _) (hsz2:=by
   show (List.toArray (p.toList.map fun i=>vs.getD i Value.none)).size≤_
   rw[List.size_toArray,List.length_map,Array.length_toList,r1.size]
   omega))))
  simp only[bne_self_eq_false,Bool.false_eq_true,if_false]
  refine wpAny_pure (h p _ r1 r2 (fun b o hb e=>(Heap.get?_update_other _ _ (Ne.symm hb)).trans (k6 b o hb e)) ⟨_,get?_update_seq o6 fun _=>_⟩)
 dsimp only
 by_cases h2:vs.toArray.size<2
 ·rw[if_pos h2,if_pos h2]
  refine wpAny_bind (wpAny_pure ?_)
  rw[StateT.run_pure]
  apply wpAny_bind
  apply wpAny_pure
  have h2':vs.length<2:=by simpa using h2
  refine fin (SortSt.mk' general' (vs.toArray.zip vs.toArray) #[] 7 none) (List.range vs.length).toArray (List.Perm.refl _) (fun i j hij hj=>?_) ?_ rfl
  ·have:i=j:=by omega
   subst this
   exact Int.le_refl _
  ·have:=kas_range (vs.toArray.zip vs.toArray)
   rw[show (vs.toArray.zip vs.toArray).size=vs.length by simp] at this
   exact this.symm
 ·rw[if_neg h2,if_neg h2]
  have h2':2≤vs.length:=by simpa using h2
  refine wpAny_bind (hkind h2' h6 k6 _ ?_)
  ·have cm:=hcmp h6 k6
   have kr:=kas_range (vs.toArray.zip vs.toArray)
   rw[show (vs.toArray.zip vs.toArray).size=vs.length by simp] at kr
   have run:=uA (E:=E) (Q:=fun _ st s'=>s'={ s with heap:=h6 }∧∃ p,Rg vs.length p∧Up key p vs.length∧arrOf st=p.map (kas_item (vs.toArray.zip vs.toArray))∧failedOf st=none) cm
    inj h2' up fun p' st' a b c d=>⟨rfl,p',a,b,c,d⟩
   unfold kas_st at run
   rw[kr] at run
   refine wpAny_bind (wpAny_mono run (fun r s' hr=>?_) fun _ _ e=>e)
   obtain⟨u,st⟩:=r
   obtain⟨rfl,p,r1,r2,r3,r4⟩:=hr
   exact fin st p r1 r2 r3 r4
end
section
variable {X:Cx}{pins:List (Addr×Obj)}{σ:L2.St}{H:Hp}{s:Shared}
theorem mN (hc:X.calm=true) {a:Addr}{ys:List V}{its:List Value}{n:Nat}{T:String}{o:Obj}{Q:VK} (key:Nat→Int) (κ:SortKind) (I:Inv X pins σ H s) (rv:ak ys its) (hT:T = "list" ∨ T = "tuple") (e:s.heap.get? a=some o) (eC:o.cls=.type T) (eD:o.data=.seq its.toArray n) (hz:ys.length≤1000)
  (hkind:2≤its.length→∀ (h6:Heap) (tk:Nat),(∀ b o,s.heap.get? b=some o→h6.get? b=some o)→∀ (A:Around) (E:Value→Shared→Prop) (Q:SortKind→Shared→Prop),Q κ { s with heap:=h6,toks:=tk }→wpAny (model X.prog X.w) A (keyKind' its.toArray) Q E { s with heap:=h6,toks:=tk })
  (hcmp:∀ (h6:Heap) (tk:Nat),(∀ b o,s.heap.get? b=some o→h6.get? b=some o)→aS its.length key (kas_cmp X.prog X.w X.A.in1.in1 κ (its.toArray.zip its.toArray)) { s with heap:=h6,toks:=tk })
  (inj:∀ i j,i<its.length→j<its.length→key i=key j→i=j) (up:its.length<1001∨∀ j,1≤j→j<its.length→key (j - 1)≤key j)
  (q:∀ (p:Array Nat) l,Rg its.length p→Up key p its.length→H l=none→Q (.ref l) (upd H l (.lst (p.toList.map fun i=>ys.getD i .non)))):
  wpAny (model X.prog X.w) X.A (call (.builtin "sorted") [.ref a]) (EP X pins σ Q) X.xe s:=by
 have hl:ys.length=its.length:=rv.length
 have hsl:its.length≤sizeLine:=Nat.le_trans (by omega) (show 1000≤sizeLine by decide)
 refine Calls.call_function_entry kind_sorted plain_sorted entry_sorted (args_sorted1 _) ?z
 case z=>
  unfold Builtin.«sorted»
  refine wpAny_bind (m:=checkCount "sorted" 1 1 _) (wpAny_pure (wpAny_bind (wpAny_collect_seq a hT e eC eD (fun h' hkp=>?_) (by rw[List.size_toArray];exact hsl))))
  show wpAny _ _ (newList its >>= _) _ _ _
  refine wpAny_bind (wpAny_newList ?_ hsl)
  have oB:(h'.push (seqObj "list" its.toArray 0)).get? h'.objs.size=some (seqObj "list" its.toArray 0):=Heap.get?_push_size _ rfl
  have kB:∀ b o,s.heap.get? b=some o→(h'.push (seqObj "list" its.toArray 0)).get? b=some o:=fun b o e=>Heap.get?_push_of_some _ (hkp b o e)
  have I1:Inv X pins σ H { s with heap:=h' }:=I.kept (t':=s.toks) hkp
  have nB:∀ b o,s.heap.get? b=some o→b≠h'.objs.size:=fun b o e=>Nat.ne_of_lt (Heap.lt_size (hkp b o e))
  refine wpAny_bind (wpAny_holding (wpAny_call_entry slot_list_sort ⟨_,oB,rfl⟩ entry_list_sort ?y (args_list_sort _)))
  case y=>
   refine ju (s:={ s with heap:=h'.push (seqObj "list" its.toArray 0) }) key κ oB (fun h2 h6 k6 Q hq=>hkind h2 h6 s.toks (fun b o eb=>k6 b o (nB b o eb) (kB b o eb)) _ _ Q hq) (fun h6 k6=>hcmp h6 s.toks fun b o eb=>k6 b o (nB b o eb) (kB b o eb)) inj up (by omega) fun p h2 r1 r2 k2 ⟨e9,oB2⟩=>⟨_,rfl,wpAny_pure ⟨_,rfl,?_⟩⟩
   have fB:H h'.objs.size=none:=I1.hok.fresh (Nat.le_refl _)
   have neB:∀ b o,h'.get? b=some o→b≠h'.objs.size:=fun b o e=>Nat.ne_of_lt (Heap.lt_size e)
   refine⟨.ref h'.objs.size,upd H h'.objs.size (.lst (p.toList.map fun i=>ys.getD i .non)),?_,rfl,q p _ r1 r2 fB⟩
   refine I1.laid (t':=s.toks) (fun b u e=>k2 b u (neB b u e) (Heap.get?_push_of_some _ e)) (Nat.le_refl _) ⟨?_,_,e9,?_,oB2⟩
   ·rw[List.length_map,Array.length_toList,r1.size]
    omega
   ·refine hV (by simp) fun i v u h1 h2=>?_
    rw[List.getElem?_map] at h1 h2
    cases hpi:p.toList[i]? with
    | none=>rw[hpi] at h1;cases h1
    | some k=>
     rw[hpi] at h1 h2
     cases h1
     cases h2
     have hk:k<its.length:=List.mem_range.mp (r1.mem_iff.mp (List.mem_of_getElem? hpi))
     obtain⟨u,h3,h4⟩:=rv.get (i:=k) (x:=ys[k]'(by omega)) (by simp[show k<ys.length by omega])
     rw[List.getElem?_eq_getElem hk] at h3
     have h3:=Option.some.inj h3
     simp only[List.getD,List.getElem?_eq_getElem hk,List.getElem?_eq_getElem (show k<ys.length by omega),Option.getD_some]
     rw[h3]
     exact h4
end
noncomputable def fA (ns:List Int) (i:Nat):Int:=ns.getD i 0
theorem mO {ns:List Int} (nd:ns.Nodup):∀ i j,i<ns.length→j<ns.length→fA ns i=fA ns j→i=j:=fun i j hi hj e=>by
 unfold fA at e
 rw[List.getD_eq_getElem?_getD,List.getD_eq_getElem?_getD,List.getElem?_eq_getElem hi,List.getElem?_eq_getElem hj] at e
 have e':ns[i]=ns[j]:=e
 rcases Nat.lt_trichotomy i j with h | h | h
 ·exact absurd e' ((List.pairwise_iff_getElem.mp nd) i j hi hj h)
 ·exact h
 ·exact absurd e'.symm ((List.pairwise_iff_getElem.mp nd) j i hj hi h)
theorem upZ {ns:List Int}{p:Array Nat} (hp:Rg ns.length p) (up:Up (fA ns) p ns.length) (nd:ns.Nodup):(p.toList.map fun i=>ns.getD i 0).Pairwise (· < ·):=by
 rw[List.pairwise_iff_getElem]
 intro i j hi hj hij
 have hs:=hp.size
 have hi':i<ns.length:=by simpa [hs] using hi
 have hj':j<ns.length:=by simpa [hs] using hj
 have ne:=hp.ne (mO nd) hij hj'
 have le:=up i j (by omega) hj'
 have g:∀ k (hk:k<(p.toList.map fun i=>ns.getD i 0).length),(p.toList.map fun i=>ns.getD i 0)[k]=kyA (fA ns) p k:=fun k hk=>by
  have hk':k<p.size:=by simpa using hk
  rw[List.getElem_map,Array.getElem_toList]
  show _=ns.getD (p.getD k 0) 0
  simp[Array.getD,hk']
 rw[g i hi,g j hj]
 omega
section
variable {X:Cx}
theorem hX {H:Hp}:∀ {ns:List Int}{its:List Value},ak (ns.map V.int) its→∀ (i:Nat),i<ns.length→∃ t,its[i]?=some (.int (ns.getD i 0) t)
 | n::r,_,.cons a b,0,h=>by obtain⟨t,rfl⟩:=a;exact⟨t,rfl⟩
 | n::r,_,.cons a b,i+1,h=>by
  obtain⟨t,e⟩:=hX (H:=H) b i (by simpa using h)
  exact⟨t,by simpa using e⟩
theorem uK (hc:X.calm=true):aP X (.builtin "sorted") (fun xs H Q=>∃ (a:Addr) (ns:List Int),xs=[.ref a]∧H a=some (.lst (ns.map V.int))∧ns.Nodup∧ns.length≤1000∧
  ∀ l (ns':List Int),H l=none→ns'.Perm ns→ns'.Pairwise (· < ·)→Q (.ref l) (upd H l (.lst (ns'.map V.int)))):=by
 intro pins s σ H xs us Q I r h
 obtain⟨a,ns,rfl,ha,nd,hz,q⟩:=h
 obtain⟨u,rfl,ru⟩:=cx r
 cases ru
 obtain⟨z,its,n,rv,e⟩:=I.hok a _ ha
 have li:its.length=ns.length:=by rw[← rv.length,List.length_map]
 refine mN hc (fA ns) oneType' I rv (.inl rfl) e rfl rfl (by rw[List.length_map];exact hz) (fun h2 h6 tk k A E Q hq=>?_) (fun h6 tk k=>?_) (by rw[li];exact mO nd) (.inl (by omega)) fun p l r1 r2 fl=>?_
 ·refine kas_kind (T:=Value.type "int") h2 (fun v hv=>?_) (by decide) (by decide) hq
  obtain⟨i,hi⟩:=List.getElem?_of_mem hv
  obtain⟨t,ht⟩:=hX (H:=H) rv i (by rw[← li];exact (List.getElem?_eq_some_iff.mp hi).1)
  rw[hi] at ht
  cases ht
  exact Looks.of_pure rfl
 ·intro i j C hi hj q
  obtain⟨t,h1⟩:=hX (H:=H) rv i (by omega)
  obtain⟨u,h2⟩:=hX (H:=H) rv j (by omega)
  unfold kas_cmp
  rw[kat_item rfl,kat_item rfl,List.getD_eq_getElem?_getD,List.getD_eq_getElem?_getD,h1,h2]
  show wpAny _ _ (keyLt' oneType' (.int _ t) (.int _ u)) _ _ _
  rw[keyLt'_oneType]
  exact oneLt_int q
 ·rw[li] at r1 r2
  have e2:(p.toList.map fun i=>(ns.map V.int).getD i .non)=(p.toList.map fun i=>ns.getD i 0).map V.int:=by
   rw[List.map_map]
   refine List.map_congr_left fun k hk=>?_
   have hk':k<ns.length:=List.mem_range.mp (r1.mem_iff.mp hk)
   show (ns.map V.int).getD k .non=V.int (ns.getD k 0)
   simp[List.getD,hk']
  rw[e2]
  exact q l _ fl (hU r1) (upZ r1 r2 nd)
end
end L2
namespace L2
open PySem PySem.Spec PyProof.Rows
section
variable {prog:Program}{w:World}{A:Around}{E:Value→Shared→Prop}{s:Shared}
end
section
variable {X:Cx}
end
end L2
namespace L2
open PySem PySem.Spec PyProof.Rows
section
variable {X:Cx}
end
end L2
namespace L2
open PySem PySem.Spec PyProof.Rows
noncomputable def mP (K:PySem.W.Frag) (H:Hp) (x:V) (T:String) (b:Bool):Prop:=
 (∃ i,x=.int i∧((T = "int" ∧ b=true)∨(T = "tuple" ∧ b=false)∨(T = "str" ∧ b=false)∨(T = "bool" ∧ b=false)∨(T = "list" ∧ b=false)))∨
 (∃ i,x=.bl i∧((T = "bool" ∧ b=true)∨(T = "int" ∧ b=true)∨(T = "tuple" ∧ b=false)∨(T = "str" ∧ b=false)∨(T = "list" ∧ b=false)))∨
 (∃ i,x=.str i∧((T = "str" ∧ b=true)∨(T = "int" ∧ b=false)∨(T = "tuple" ∧ b=false)∨(T = "bool" ∧ b=false)∨(T = "list" ∧ b=false)))∨
 (∃ a xs,x=.ref a∧SqT K H a xs∧((T = "tuple" ∧ b=true)∨(T = "int" ∧ b=false)∨(T = "str" ∧ b=false)∨(T = "bool" ∧ b=false)∨(T = "list" ∧ b=false)))∨
 (∃ a xs,x=.ref a∧SqL K H a xs∧((T = "list" ∧ b=true)∨(T = "int" ∧ b=false)∨(T = "str" ∧ b=false)∨(T = "bool" ∧ b=false)∨(T = "tuple" ∧ b=false)))
section
variable {X:Cx}
theorem uL:aP X (.builtin "isinstance") (fun xs H Q=>∃ x T b,xs=[x,.ty T]∧mP X.K H x T b∧Q (.bl b) H):=by
 intro pins s σ H xs us Q I r h
 obtain⟨x,T,b,rfl,hi,q⟩:=h
 cases r with
 | cons r rr=>
  cases rr with
  | cons r' rr=>
   cases rr
   cases r'
   have f0:∀ {b:Bool},Q (.bl b) H→EP X pins σ Q (.bool b) s:=fun {b} q=>⟨.bl b,H,I,rfl,q⟩
   have f1:∀ {b:Bool},Q (.bl b) H→EP X pins σ Q (.bool b) { s with toks:=s.toks+1 }:=fun {b} q=>⟨.bl b,H,I.tok _,rfl,q⟩
   rcases hi with ⟨i,rfl,hi⟩ | ⟨i,rfl,hi⟩ | ⟨i,rfl,hi⟩ | ⟨a,xs,rfl,hs,hi⟩ | ⟨a,xs,rfl,hs,hi⟩
   ·obtain⟨t,rfl⟩:=r
    rcases hi with ⟨rfl,rfl⟩ | ⟨rfl,rfl⟩ | ⟨rfl,rfl⟩ | ⟨rfl,rfl⟩ | ⟨rfl,rfl⟩
    ·exact IsiPair.int_int (f0 q)
    ·exact IsiPair.int_tuple (f1 q)
    ·exact IsiPair.int_str (f1 q)
    ·exact IsiPair.int_bool (f1 q)
    ·exact IsiPair.int_list (f1 q)
   ·cases r
    rcases hi with ⟨rfl,rfl⟩ | ⟨rfl,rfl⟩ | ⟨rfl,rfl⟩ | ⟨rfl,rfl⟩ | ⟨rfl,rfl⟩
    ·exact IsiPair.bool_bool (f0 q)
    ·exact IsiPair.bool_int (f0 q)
    ·exact IsiPair.bool_tuple (f1 q)
    ·exact IsiPair.bool_str (f1 q)
    ·exact IsiPair.bool_list (f1 q)
   ·obtain⟨t,rfl⟩:=r
    rcases hi with ⟨rfl,rfl⟩ | ⟨rfl,rfl⟩ | ⟨rfl,rfl⟩ | ⟨rfl,rfl⟩ | ⟨rfl,rfl⟩
    ·exact IsiPair.str_str (f0 q)
    ·exact IsiPair.str_int (f1 q)
    ·exact IsiPair.str_tuple (f1 q)
    ·exact IsiPair.str_bool (f1 q)
    ·exact IsiPair.str_list (f1 q)
   ·cases r
    obtain⟨its,rv,⟨o,ho,hc,_⟩,hz⟩:=I.tuple hs
    rcases hi with ⟨rfl,rfl⟩ | ⟨rfl,rfl⟩ | ⟨rfl,rfl⟩ | ⟨rfl,rfl⟩ | ⟨rfl,rfl⟩
    ·exact IsiPair.tuple_tuple ho hc (f0 q)
    ·exact IsiPair.tuple_int ho hc (f1 q)
    ·exact IsiPair.tuple_str ho hc (f1 q)
    ·exact IsiPair.tuple_bool ho hc (f1 q)
    ·exact IsiPair.tuple_list ho hc (f1 q)
   ·cases r
    obtain⟨its,rv,p,hz⟩:=I.list hs
    obtain⟨o,ho,hc,_⟩:=p.isList
    rcases hi with ⟨rfl,rfl⟩ | ⟨rfl,rfl⟩ | ⟨rfl,rfl⟩ | ⟨rfl,rfl⟩ | ⟨rfl,rfl⟩
    ·exact IsiPair.list_list ho hc (f0 q)
    ·exact IsiPair.list_int ho hc (f1 q)
    ·exact IsiPair.list_str ho hc (f1 q)
    ·exact IsiPair.list_bool ho hc (f1 q)
    ·exact IsiPair.list_tuple ho hc (f1 q)
theorem uM:OpR X (binaryOp .Mult) (rI IntMulOk fun i j=>.int (i * j)):=opI fun _ _ _ _ _ _ _ hc q=>mul_int q hc
end
end L2
namespace L2
open PySem PySem.Spec PyProof.Rows
inductive Vl where
 | im (d:Im)
 | jk
 | fz (ds:List Im)
 | lst (ds:List Im)
 | dK (kvs:List (Key×Im))
 | dT (kvs:List (List Im×Im))
 | lstM (xs:List Vl)
 | dTM (ks:List (List Im)) (xs:List Vl)
 | tpl (xs:List Vl)
 | obj (C:Addr) (ns:List Str) (xs:List Vl)
noncomputable abbrev SD:=List (Option Vl)
noncomputable abbrev PKv {κ:Type} (H:Hp):List (κ×Im)→List (κ×V)→Prop:=Paired fun p q=>p.1=q.1∧IsI H p.2 q.2
theorem PKv.mono {κ:Type}{H H':Hp}{l:List (κ×Im)}{m:List (κ×V)} (t:TupS H H') (h:PKv H l m):PKv H' l m:=Paired.mapP h fun _ _ z=>⟨z.1,z.2.mono t⟩
structure StayS (H H':Hp):Prop where
 tup:TupS H H'
 frz:∀ a o u,H a=some (.frz o u)→H' a=some (.frz o u)
mutual
noncomputable def Own (H:Hp):Vl→V→List Addr→Prop
 | .im d,v,F=>IsI H d v∧F=[]
 | .jk,_,F=>F=[]
 | .fz ds,v,F=>∃ a xs o,v=.ref a∧H a=some (.frz o (.lst xs))∧aj H ds xs∧F=[]
 | .lst ds,v,F=>∃ a xs,v=.ref a∧H a=some (.lst xs)∧aj H ds xs∧F=[a]
 | .dK kvs,v,F=>∃ a kws,v=.ref a∧H a=some (.dK kws)∧PKv H kvs kws∧F=[a]
 | .dT kvs,v,F=>∃ a kws,v=.ref a∧H a=some (.dT kws)∧PKv H kvs kws∧F=[a]
 | .lstM ds,v,F=>∃ a xs G,v=.ref a∧H a=some (.lst xs)∧aA H ds xs G∧F=a::G
 | .dTM ks ds,v,F=>∃ a kws G,v=.ref a∧H a=some (.dT kws)∧kws.map (·.1)=ks∧aA H ds (kws.map (·.2)) G∧F=a::G
 | .tpl ds,v,F=>∃ a xs,v=.ref a∧H a=some (.tup xs)∧aA H ds xs F
 | .obj C ns ds,v,F=>∃ a dx fs G,v=.ref a∧H a=some (.ins C dx fs)∧fs.map (·.1)=ns∧aA H ds (fs.map (·.2)) G∧F=a::G
noncomputable def aA (H:Hp):List Vl→List V→List Addr→Prop
 | [],vs,F=>vs=[]∧F=[]
 | d::ds,vs,F=>∃ v r F1 F2,vs=v::r∧Own H d v F1∧aA H ds r F2∧F=F1++F2
end
mutual
theorem Own.mono {H H':Hp} (t:StayS H H'):∀ {d:Vl}{v:V}{F:List Addr},Own H d v F→(∀ a∈F,∀ o,H a=some o→H' a=some o)→Own H' d v F
 | .im d,v,F,h,_=>⟨h.1.mono t.tup,h.2⟩
 | .jk,v,F,h,_=>h
 | .fz ds,v,F,h,_=>by
  obtain⟨a,xs,o,rfl,h1,h2,rfl⟩:=h
  exact⟨a,xs,o,rfl,t.frz _ _ _ h1,h2.mono t.tup,rfl⟩
 | .lst ds,v,F,h,k=>by
  obtain⟨a,xs,rfl,h1,h2,rfl⟩:=h
  exact⟨a,xs,rfl,k a (.head _) _ h1,h2.mono t.tup,rfl⟩
 | .dK kvs,v,F,h,k=>by
  obtain⟨a,xs,rfl,h1,h2,rfl⟩:=h
  exact⟨a,xs,rfl,k a (.head _) _ h1,h2.mono t.tup,rfl⟩
 | .dT kvs,v,F,h,k=>by
  obtain⟨a,xs,rfl,h1,h2,rfl⟩:=h
  exact⟨a,xs,rfl,k a (.head _) _ h1,h2.mono t.tup,rfl⟩
 | .lstM ds,v,F,h,k=>by
  obtain⟨a,xs,G,rfl,h1,h2,rfl⟩:=h
  exact⟨a,xs,G,rfl,k a (.head _) _ h1,aA.mono t h2 fun b hb=>k b (.tail _ hb),rfl⟩
 | .dTM ks ds,v,F,h,k=>by
  obtain⟨a,xs,G,rfl,h1,hk,h2,rfl⟩:=h
  exact⟨a,xs,G,rfl,k a (.head _) _ h1,hk,aA.mono t h2 fun b hb=>k b (.tail _ hb),rfl⟩
 | .tpl ds,v,F,h,k=>by
  obtain⟨a,xs,rfl,h1,h2⟩:=h
  exact⟨a,xs,rfl,t.tup a xs h1,aA.mono t h2 k⟩
 | .obj C ns ds,v,F,h,k=>by
  obtain⟨a,dx,fs,G,rfl,h1,hk,h2,rfl⟩:=h
  exact⟨a,dx,fs,G,rfl,k a (.head _) _ h1,hk,aA.mono t h2 fun b hb=>k b (.tail _ hb),rfl⟩
theorem aA.mono {H H':Hp} (t:StayS H H'):∀ {ds:List Vl}{vs:List V}{F:List Addr},aA H ds vs F→(∀ a∈F,∀ o,H a=some o→H' a=some o)→aA H' ds vs F
 | [],vs,F,h,_=>h
 | d::ds,vs,F,h,k=>by
  obtain⟨v,r,F1,F2,rfl,h1,h2,rfl⟩:=h
  exact⟨v,r,F1,F2,rfl,Own.mono t h1 fun a ha=>k a (List.mem_append_left _ ha),aA.mono t h2 fun a ha=>k a (List.mem_append_right _ ha),rfl⟩
end
noncomputable def Chg (H:Hp) (a:Addr):Prop:=∃ o,H a=some o∧(∀ xs,o≠.tup xs)∧∀ p u,o≠.frz p u
mutual
theorem Own.chg {H:Hp}:∀ {d:Vl}{v:V}{F:List Addr},Own H d v F→∀ a∈F,Chg H a
 | .im d,v,F,h,a,ha=>by rw[h.2] at ha;cases ha
 | .jk,v,F,h,a,ha=>by rw[show F=[] from h] at ha;cases ha
 | .fz ds,v,F,h,b,hb=>by
  obtain⟨a,xs,o,rfl,h1,h2,rfl⟩:=h
  cases hb
 | .lst ds,v,F,h,b,hb=>by
  obtain⟨a,xs,rfl,h1,h2,rfl⟩:=h
  rw[List.mem_singleton.mp hb]
  exact⟨_,h1,(fun _ e=>by cases e),(fun _ _ e=>by cases e)⟩
 | .dK kvs,v,F,h,b,hb=>by
  obtain⟨a,xs,rfl,h1,h2,rfl⟩:=h
  rw[List.mem_singleton.mp hb]
  exact⟨_,h1,(fun _ e=>by cases e),(fun _ _ e=>by cases e)⟩
 | .dT kvs,v,F,h,b,hb=>by
  obtain⟨a,xs,rfl,h1,h2,rfl⟩:=h
  rw[List.mem_singleton.mp hb]
  exact⟨_,h1,(fun _ e=>by cases e),(fun _ _ e=>by cases e)⟩
 | .lstM ds,v,F,h,b,hb=>by
  obtain⟨a,xs,G,rfl,h1,h2,rfl⟩:=h
  rcases List.mem_cons.mp hb with rfl | hb
  ·exact⟨_,h1,(fun _ e=>by cases e),(fun _ _ e=>by cases e)⟩
  ·exact aA.chg h2 b hb
 | .dTM ks ds,v,F,h,b,hb=>by
  obtain⟨a,xs,G,rfl,h1,hk,h2,rfl⟩:=h
  rcases List.mem_cons.mp hb with rfl | hb
  ·exact⟨_,h1,(fun _ e=>by cases e),(fun _ _ e=>by cases e)⟩
  ·exact aA.chg h2 b hb
 | .tpl ds,v,F,h,b,hb=>by
  obtain⟨a,xs,rfl,h1,h2⟩:=h
  exact aA.chg h2 b hb
 | .obj C ns ds,v,F,h,b,hb=>by
  obtain⟨a,dx,fs,G,rfl,h1,hk,h2,rfl⟩:=h
  rcases List.mem_cons.mp hb with rfl | hb
  ·exact⟨_,h1,(fun _ e=>by cases e),(fun _ _ e=>by cases e)⟩
  ·exact aA.chg h2 b hb
theorem aA.chg {H:Hp}:∀ {ds:List Vl}{vs:List V}{F:List Addr},aA H ds vs F→∀ a∈F,Chg H a
 | [],vs,F,h,a,ha=>by rw[h.2] at ha;cases ha
 | d::ds,vs,F,h,a,ha=>by
  obtain⟨v,r,F1,F2,rfl,h1,h2,rfl⟩:=h
  rcases List.mem_append.mp ha with ha | ha
  ·exact Own.chg h1 a ha
  ·exact aA.chg h2 a ha
end
theorem aA.length {H:Hp}:∀ {ds:List Vl}{vs:List V}{F:List Addr},aA H ds vs F→ds.length=vs.length
 | [],vs,F,h=>by rw[h.1];rfl
 | d::ds,vs,F,h=>by
  obtain⟨v,r,F1,F2,rfl,h1,h2,rfl⟩:=h
  rw[List.length_cons,List.length_cons,h2.length]
theorem aj.length {H:Hp}:∀ {ds:List Im}{vs:List V},aj H ds vs→ds.length=vs.length
 | [],vs,h=>by rw[show vs=[] from h];rfl
 | d::ds,vs,h=>by
  obtain⟨v,r,rfl,h1,h2⟩:=h
  rw[List.length_cons,List.length_cons,h2.length]
noncomputable def dE (H:Hp):Option Vl→Option V→List Addr→Prop
 | none,_,F=>F=[]
 | some d,x,F=>∃ v,x=some v∧Own H d v F
noncomputable def ah (H:Hp):SD→St→List Addr→Prop
 | [],σ,F=>σ=[]∧F=[]
 | o::D,σ,F=>∃ x r F1 F2,σ=x::r∧dE H o x F1∧ah H D r F2∧F=F1++F2
structure Stp (H:Hp) (F:List Addr) (H':Hp) (F':List Addr):Prop where
 keep:∀ a o,H a=some o→a∉F→H' a=some o
 sub:∀ a∈F',a∈F∨H a=none
 nd:F'.Nodup
 tup:StayS H H'
 grow:∀ a o,H a=some o→∃ o',H' a=some o'
theorem dE.mono {H H':Hp} (t:StayS H H'):∀ {o:Option Vl}{x:Option V}{F:List Addr},dE H o x F→(∀ a∈F,∀ o,H a=some o→H' a=some o)→dE H' o x F
 | none,_,_,h,_=>h
 | some d,x,F,h,k=>by
  obtain⟨v,rfl,h⟩:=h
  exact⟨v,rfl,h.mono t k⟩
theorem ah.mono {H H':Hp} (t:StayS H H'):∀ {D:SD}{σ:St}{F:List Addr},ah H D σ F→(∀ a∈F,∀ o,H a=some o→H' a=some o)→ah H' D σ F
 | [],σ,F,h,_=>h
 | o::D,σ,F,h,k=>by
  obtain⟨x,r,F1,F2,rfl,h1,h2,rfl⟩:=h
  exact⟨x,r,F1,F2,rfl,h1.mono t fun a ha=>k a (List.mem_append_left _ ha),ah.mono t h2 fun a ha=>k a (List.mem_append_right _ ha),rfl⟩
theorem dE.chg {H:Hp}:∀ {o:Option Vl}{x:Option V}{F:List Addr},dE H o x F→∀ a∈F,Chg H a
 | none,_,F,h,a,ha=>by rw[show F=[] from h] at ha;cases ha
 | some d,x,F,h,a,ha=>by
  obtain⟨v,rfl,h⟩:=h
  exact h.chg a ha
theorem ah.chg {H:Hp}:∀ {D:SD}{σ:St}{F:List Addr},ah H D σ F→∀ a∈F,Chg H a
 | [],σ,F,h,a,ha=>by rw[h.2] at ha;cases ha
 | o::D,σ,F,h,a,ha=>by
  obtain⟨x,r,F1,F2,rfl,h1,h2,rfl⟩:=h
  rcases List.mem_append.mp ha with ha | ha
  ·exact h1.chg a ha
  ·exact ah.chg h2 a ha
theorem ah.len {H:Hp}:∀ {D:SD}{σ:St}{F:List Addr},ah H D σ F→D.length=σ.length
 | [],σ,F,h=>by rw[h.1];rfl
 | o::D,σ,F,h=>by
  obtain⟨x,r,F1,F2,rfl,h1,h2,rfl⟩:=h
  rw[List.length_cons,List.length_cons,ah.len h2]
noncomputable def Vl.cp:Vl→Bool
 | .im _=>true
 | .fz _=>true
 | _=>false
theorem Own.cp {H:Hp}{d:Vl}{v:V}{F:List Addr} (h:Own H d v F) (c:d.cp=true):F=[]:=by
 cases d with
 | im d=>exact h.2
 | fz ds=>obtain⟨a,xs,o,rfl,h1,h2,rfl⟩:=h;rfl
 | _=>cases c
theorem ah.out {H:Hp}:∀ {D:SD}{σ:St}{F:List Addr}{i:Nat}{d:Vl},ah H D σ F→D[i]?=some (some d)→∃ v F1 F2,σ[i]?=some (some v)∧Own H d v F1∧ah H (D.set i (some .jk)) σ F2∧(F2++F1).Perm F
 | [],σ,F,i,d,h,e=>by simp at e
 | o::D,σ,F,0,d,h,e=>by
  obtain⟨x,r,F1,F2,rfl,h1,h2,rfl⟩:=h
  simp at e
  subst e
  obtain⟨v,rfl,h1⟩:=h1
  exact⟨v,F1,F2,rfl,h1,⟨some v,r,[],F2,rfl,⟨v,rfl,rfl⟩,h2,rfl⟩,List.perm_append_comm⟩
 | o::D,σ,F,i+1,d,h,e=>by
  obtain⟨x,r,F1,F2,rfl,h1,h2,rfl⟩:=h
  obtain⟨v,G1,G2,g1,g2,g3,g4⟩:=ah.out (i:=i) h2 (by simpa using e)
  refine⟨v,G1,F1++G2,by simpa using g1,g2,⟨x,r,F1,G2,rfl,h1,g3,rfl⟩,?_⟩
  rw[List.append_assoc]
  exact List.Perm.append_left _ g4
theorem ah.put {H:Hp}:∀ {D:SD}{σ:St}{F:List Addr}{i:Nat}{d:Vl}{v:V}{G:List Addr},ah H D σ F→Own H d v G→i<D.length→∃ F1 F2,ah H (D.set i (some d)) (σ.set i (some v)) F1∧(F1++F2).Perm (F++G)
 | [],σ,F,i,d,v,G,h,w,l=>by simp at l
 | o::D,σ,F,0,d,v,G,h,w,l=>by
  obtain⟨x,r,F1,F2,rfl,h1,h2,rfl⟩:=h
  refine⟨G++F2,F1,⟨some v,r,G,F2,rfl,⟨v,rfl,w⟩,h2,rfl⟩,?_⟩
  refine List.perm_append_comm.trans ?_
  rw[List.append_assoc]
  exact List.Perm.append_left _ List.perm_append_comm
 | o::D,σ,F,i+1,d,v,G,h,w,l=>by
  obtain⟨x,r,F1,F2,rfl,h1,h2,rfl⟩:=h
  obtain⟨G1,G2,g1,g2⟩:=ah.put (i:=i) h2 w (by simpa using l)
  refine⟨F1++G1,G2,⟨x,_,F1,G1,rfl,h1,g1,rfl⟩,?_⟩
  rw[List.append_assoc,List.append_assoc]
  exact List.Perm.append_left _ g2
theorem ah.cp {H:Hp}{D:SD}{σ:St}{F:List Addr}{i:Nat}{d:Vl} (h:ah H D σ F) (e:D[i]?=some (some d)) (c:d.cp=true):∃ v,σ[i]?=some (some v)∧Own H d v []:=by
 obtain⟨v,F1,F2,g1,g2,_⟩:=h.out e
 obtain rfl:=g2.cp c
 exact⟨v,g1,g2⟩
theorem uN {σ:St}{i:Nat}{v:V} (h:σ[i]?=some (some v)):σ.set i (some v)=σ:=by
 refine List.ext_getElem? fun j=>?_
 by_cases e:i=j
 ·subst e
  rw[h,List.getElem?_set_self (List.getElem?_eq_some_iff.mp h).1]
 ·rw[List.getElem?_set_ne e]
theorem ah.back {H:Hp}{D:SD}{σ:St}{F:List Addr}{i:Nat}{d:Vl}{v:V}{G:List Addr} (h:ah H D σ F) (w:Own H d v G) (hv:σ[i]?=some (some v)):∃ F1 F2,ah H (D.set i (some d)) σ F1∧(F1++F2).Perm (F++G):=by
 have l:i<D.length:=by rw[h.len];exact (List.getElem?_eq_some_iff.mp hv).1
 obtain⟨F1,F2,h1,h2⟩:=h.put (i:=i) w l
 rw[uN hv] at h1
 exact⟨F1,F2,h1,h2⟩
theorem StayS.of {H H':Hp} (f:gf H H') (g:∀ a o u,H a=some (.frz o u)→H' a=some (.frz o u)):StayS H H':=⟨⟨f,g⟩,g⟩
theorem uO (H:Hp):StayS H H:=⟨⟨fun _ _ e=>e,fun _ _ _ e=>e⟩,fun _ _ _ e=>e⟩
theorem StayS.trans {H H1 H2:Hp} (a:StayS H H1) (b:StayS H1 H2):StayS H H2:=⟨⟨fun x xs e=>b.tup.t x xs (a.tup.t x xs e),fun x o u e=>b.frz x o u (a.frz x o u e)⟩,fun x o u e=>b.frz x o u (a.frz x o u e)⟩
theorem Stp.refl {H:Hp}{F F':List Addr} (h:F'.Nodup) (s:∀ a∈F',a∈F):Stp H F H F':=⟨fun _ _ e _=>e,fun a ha=>.inl (s a ha),h,uO H,fun _ o e=>⟨o,e⟩⟩
theorem Stp.perm {H:Hp}{F F':List Addr} (h:F.Nodup) (p:F'.Perm F):Stp H F H F':=Stp.refl ((p.nodup_iff).mpr h) fun a ha=>p.mem_iff.mp ha
theorem Stp.trans {H H1 H2:Hp}{F F1 F2 R:List Addr} (a:Stp H F H1 (F1++R)) (b:Stp H1 F1 H2 F2) (cr:∀ x∈R,Chg H1 x):Stp H F H2 (F2++R):=by
 have nd:=List.nodup_append.mp a.nd
 have al:∀ x∈F2,x∉R:=fun x hx hr=>by
  rcases b.sub x hx with h | h
  ·exact nd.2.2 x h x hr rfl
  ·obtain⟨o,e,_⟩:=cr x hr
   rw[e] at h
   cases h
 refine⟨fun x o e hx=>?_,fun x hx=>?_,List.nodup_append.mpr ⟨b.nd,nd.2.1,fun x hx y hy e=>al x hx (e ▸ hy)⟩,a.tup.trans b.tup,fun x o e=>let ⟨o',e'⟩:=a.grow x o e;b.grow x o' e'⟩
 ·refine b.keep x o (a.keep x o e hx) fun h1=>?_
  rcases a.sub x (List.mem_append_left _ h1) with h | h
  ·exact hx h
  ·rw[e] at h;cases h
 ·rcases List.mem_append.mp hx with hx | hx
  ·rcases b.sub x hx with h | h
   ·exact a.sub x (List.mem_append_left _ h)
   ·refine .inr ?_
    cases e:H x with
    | none=>rfl
    | some o=>
     obtain⟨o',e'⟩:=a.grow x o e
     rw[e'] at h
     cases h
  ·exact a.sub x (List.mem_append_right _ hx)
end L2
namespace L2
open PySem PySem.Spec PyProof.Rows
theorem ap.tupS {H H':Hp} (s:ap H H'):StayS H H':=⟨⟨fun a xs e=>s a _ e,fun a o u e=>s a _ e⟩,fun a o u e=>s a _ e⟩
theorem mQ {H:Hp}{a b:Addr}{o u:HO} (e:H b=some o) (h:H a=none):L2.upd H a u b=some o:=by rw[ar (bf e h)];exact e
theorem ap.upd {H H':Hp} (s:ap H H') {a:Addr}{o:HO} (h:H' a=none):ap H (L2.upd H' a o):=fun b u e=>mQ (s b u e) h
noncomputable abbrev M (α:Type):=SD→Option (α×SD)
inductive Opd where
 | sl (i:Nat)
 | vl (d:Vl)
noncomputable def rsl (D:SD):Opd→Option Vl
 | .sl i=>(D[i]?).getD none
 | .vl d=>some d
noncomputable def bZ (H:Hp) (σ:St):Opd→V→List Addr→Prop
 | .sl i,v,R=>σ[i]?=some (some v)∧R=[]
 | .vl d,v,R=>Own H d v R
noncomputable def tV (g:M Vl):TE:=fun σ H Q=>∃ D F r D',ah H D σ F∧F.Nodup∧g D=some (r,D')∧∀ v H' F' R,ah H' D' σ F'→Own H' r v R→Stp H F H' (F'++R)→Q v H'
noncomputable def tO (g:M Opd):TE:=fun σ H Q=>∃ D F r D',ah H D σ F∧F.Nodup∧g D=some (r,D')∧∀ v H' F' R,ah H' D' σ F'→bZ H' σ r v R→Stp H F H' (F'++R)→Q v H'
noncomputable def tVT (g:M Bool):TT:=fun σ H Q=>∃ D F b D',ah H D σ F∧F.Nodup∧g D=some (b,D')∧∀ H' F',ah H' D' σ F'→Stp H F H' F'→Q b H'
noncomputable def VE (X:Cx) (e:Expr) (g:M Vl):Prop:=PE X e (tV g)
noncomputable def VO (X:Cx) (e:Expr) (g:M Opd):Prop:=PE X e (tO g)
noncomputable def VT (X:Cx) (e:Expr) (g:M Bool):Prop:=PT X e (tVT g)
theorem aZ {X:Cx}{e:Expr}{t t':TE} (h:PE X e t) (i:∀ σ H Q,t' σ H Q→t σ H Q):PE X e t':=fun pins s σ H Q I hw=>h pins s σ H Q I (i σ H Q hw)
theorem ic {X:Cx}{e:Expr}{t t':TT} (h:PT X e t) (i:∀ σ H Q,t' σ H Q→t σ H Q):PT X e t':=fun pins s σ H Q I hw=>h pins s σ H Q I (i σ H Q hw)
theorem bZ.mono {H H':Hp}{σ:St}{r:Opd}{v:V}{R:List Addr} (h:bZ H σ r v R) (t:StayS H H') (k:∀ a∈R,∀ o,H a=some o→H' a=some o):bZ H' σ r v R:=by
 cases r with
 | sl i=>exact h
 | vl d=>exact Own.mono t h k
theorem bZ.chg {H:Hp}{σ:St}{r:Opd}{v:V}{R:List Addr} (h:bZ H σ r v R):∀ a∈R,Chg H a:=by
 cases r with
 | sl i=>intro a ha;rw[h.2] at ha;cases ha
 | vl d=>exact Own.chg h
noncomputable def Rdb (H:Hp) (d:Vl) (v:V):Prop:=∃ R,Own H d v R
theorem bZ.read {H:Hp}{D:SD}{σ:St}{F:List Addr}{r:Opd}{v:V}{R:List Addr}{d:Vl} (h:bZ H σ r v R) (st:ah H D σ F) (e:rsl D r=some d):Rdb H d v:=by
 cases r with
 | vl d'=>cases e;exact⟨R,h⟩
 | sl i=>
  have e':D[i]?=some (some d):=by
   have:(D[i]?).getD none=some d:=e
   cases q:D[i]? with
   | none=>rw[q] at this;cases this
   | some o=>rw[q] at this;rw[show o=some d from this]
  obtain⟨v',F1,F2,g1,g2,_⟩:=st.out e'
  rw[h.1] at g1
  cases g1
  exact⟨F1,g2⟩
@[simp] noncomputable def a9 (i:Nat):M Vl:=fun D=>match D[i]? with
 | some (some d)=>if d.cp=true then some (d,D) else some (d,D.set i (some .jk))
 | _=>none
noncomputable def eC (d:Im):M Vl:=fun D=>some (.im d,D)
@[simp] noncomputable def oSl (i:Nat):M Opd:=fun D=>match D[i]? with
 | some (some _)=>some (.sl i,D)
 | _=>none
@[simp] noncomputable def oV (g:M Vl):M Opd:=fun D=>(g D).map fun p=>(.vl p.1,p.2)
section
variable {X:Cx}
theorem cy {i:Nat}{e:Expr} (h:PE X e (dz i)):VE X e (a9 i):=by
 refine aZ h fun σ H Q ⟨D,F,r,D',st,nd,hg,q⟩=>?_
 unfold a9 at hg
 split at hg
 ·rename_i d hd
  split at hg
  ·rename_i hc
   cases hg
   obtain⟨v,h1,h2⟩:=st.cp hd hc
   exact⟨v,h1,q v H F [] st h2 (by rw[List.append_nil];exact Stp.perm nd (List.Perm.refl _))⟩
  ·cases hg
   obtain⟨v,F1,F2,h1,h2,h3,h4⟩:=st.out hd
   exact⟨v,h1,q v H F2 F1 h3 h2 (Stp.perm nd h4)⟩
 ·cases hg
theorem af {i:Nat}{e:Expr} (h:PE X e (dz i)):VO X e (oSl i):=by
 refine aZ h fun σ H Q ⟨D,F,r,D',st,nd,hg,q⟩=>?_
 unfold oSl at hg
 split at hg
 ·rename_i d hd
  cases hg
  obtain⟨v,F1,F2,h1,h2,h3,h4⟩:=st.out hd
  exact⟨v,h1,q v H F [] st ⟨h1,rfl⟩ (by rw[List.append_nil];exact Stp.perm nd (List.Perm.refl _))⟩
 ·cases hg
theorem aa {e:Expr}{g:M Vl} (h:VE X e g):VO X e (oV g):=by
 refine aZ h fun σ H Q ⟨D,F,r,D',st,nd,hg,q⟩=>?_
 unfold oV at hg
 obtain⟨⟨r',D1⟩,h1,h2⟩:=Option.map_eq_some_iff.mp hg
 cases h2
 exact⟨D,F,r',_,st,nd,h1,q⟩
theorem mR {e:Expr}{v:V}{d:Im} (h:PE X e (tC v)) (hd:∀ H,IsI H d v):VE X e (eC d):=by
 refine aZ h fun σ H Q ⟨D,F,r,D',st,nd,hg,q⟩=>?_
 cases hg
 exact q v H F [] st ⟨hd H,rfl⟩ (by rw[List.append_nil];exact Stp.perm nd (List.Perm.refl _))
theorem ag {i:Int}{j pos}:VE X (.Constant (.int i) j pos) (eC (.int i)):=mR qA fun _=>rfl
theorem gx {b:Bool}{j pos}:VE X (.Constant (.bool b) j pos) (eC (.bl b)):=mR qB fun _=>rfl
theorem two {ga gb:M Opd}{D D1 D2:SD}{x y:Opd}{σ:St}{H:Hp}{F:List Addr}{K:V→V→Hp→Prop} (st:ah H D σ F) (nd:F.Nodup) (ha:ga D=some (x,D1)) (hb:gb D1=some (y,D2))
  (k:∀ v u H' F' R1 R2,ah H' D2 σ F'→bZ H' σ x v R1→bZ H' σ y u R2→Stp H F H' ((F'++R2)++R1)→K v u H'):tO ga σ H fun v H1=>tO gb σ H1 fun u H2=>K v u H2:=by
 refine⟨D,F,x,D1,st,nd,ha,fun v H1 F1 R1 st1 o1 s1=>⟨D1,F1,y,D2,st1,(List.nodup_append.mp s1.nd).1,hb,fun u H2 F2 R2 st2 o2 s2=>?_⟩⟩
 refine k v u H2 F2 R1 R2 st2 (o1.mono s2.tup fun a ha o e=>s2.keep a o e fun h=>?_) o2 (s1.trans s2 o1.chg)
 exact (List.nodup_append.mp s1.nd).2.2 a h a ha rfl
theorem Stp.new {H H1 H2:Hp}{F F1 R R':List Addr} (a:Stp H F H1 (F1++R)) (s:ap H1 H2) (nd:R'.Nodup) (fr:∀ x∈R',H1 x=none) (c:∀ x∈F1,Chg H1 x):Stp H F H2 (F1++R'):=by
 refine⟨fun x o e hx=>s _ _ (a.keep x o e hx),fun x hx=>?_,List.nodup_append.mpr ⟨(List.nodup_append.mp a.nd).1,nd,fun x hx y hy e=>?_⟩,a.tup.trans s.tupS,fun x o e=>let ⟨o',e'⟩:=a.grow x o e;⟨o',s _ _ e'⟩⟩
 ·rcases List.mem_append.mp hx with hx | hx
  ·exact a.sub x (List.mem_append_left _ hx)
  ·refine .inr ?_
   cases e:H x with
   | none=>rfl
   | some o=>
    obtain⟨o',e'⟩:=a.grow x o e
    rw[fr x hx] at e'
    cases e'
 ·subst e
  obtain⟨o,e,_⟩:=c x hx
  rw[fr x hy] at e
  cases e
noncomputable def OpV (X:Cx) (f:Value→Value→Sem Value) (op:Vl→Vl→Option Vl):Prop:=
 OpR X f fun x y H Q=>∃ d1 d2 d,Rdb H d1 x∧Rdb H d2 y∧op d1 d2=some d∧∀ v H' R,ap H H'→Own H' d v R→R.Nodup→(∀ a∈R,H a=none)→Q v H'
@[simp] noncomputable def ad (op:Vl→Vl→Option Vl) (ga gb:M Opd):M Vl:=fun D=>(ga D).bind fun p=>(gb p.2).bind fun q=>(rsl q.2 p.1).bind fun d1=>(rsl q.2 q.1).bind fun d2=>(op d1 d2).map fun d=>(d,q.2)
theorem ie {op:Vl→Vl→Option Vl}{ga gb:M Opd}{σ:St}{H:Hp}{Q:VK} (h:tV (ad op ga gb) σ H Q):
  tO ga σ H fun x H1=>tO gb σ H1 fun y H2=>∃ d1 d2 d,Rdb H2 d1 x∧Rdb H2 d2 y∧op d1 d2=some d∧∀ v H' R,ap H2 H'→Own H' d v R→R.Nodup→(∀ a∈R,H2 a=none)→Q v H':=by
 obtain⟨D,F,r,D',st,nd,hg,q⟩:=h
 unfold ad at hg
 obtain⟨⟨x,D1⟩,ha,hg⟩:=Option.bind_eq_some_iff.mp hg
 obtain⟨⟨y,D2⟩,hb,hg⟩:=Option.bind_eq_some_iff.mp hg
 obtain⟨d1,h1,hg⟩:=Option.bind_eq_some_iff.mp hg
 obtain⟨d2,h2,hg⟩:=Option.bind_eq_some_iff.mp hg
 obtain⟨d,h3,hg⟩:=Option.map_eq_some_iff.mp hg
 cases hg
 refine two st nd ha hb fun v u H2 F2 R1 R2 st2 o1 o2 s2=>⟨d1,d2,_,o1.read st2 h1,o2.read st2 h2,h3,fun w H3 R s3 ow ndR fr=>?_⟩
 rw[List.append_assoc] at s2
 exact q w H3 F2 R (st2.mono s3.tupS fun a _ o e=>s3 a o e) ow (s2.new s3 ndR fr st2.chg)
theorem av {op:Operator}{f:Vl→Vl→Option Vl}{a b:Expr}{ga gb:M Opd}{pos:Pos} (ho:OpV X (binaryOp op) f) (ha:VO X a ga) (hb:VO X b gb):VE X (.BinOp a op b pos) (ad f ga gb):=
 aZ (rA ho ha hb) fun _ _ _ h=>ie h
theorem jv {op:CmpOp}{f:Vl→Vl→Option Vl}{a b:Expr}{ga gb:M Opd}{pos:Pos} (ho:OpV X (compareOp op) f) (ha:VO X a ga) (hb:VO X b gb) (hm:behindInMarks op b=false):VE X (.Compare a [op] [b] pos) (ad f ga gb):=
 aZ (rO ho ha hb hm) fun _ _ _ h=>ie h
theorem aK {f:Vl→Vl→Option Vl}{a b:Expr}{ga gb:M Opd}{pos:Pos} (ho:IxR X (fun x y H Q=>∃ d1 d2 d,Rdb H d1 x∧Rdb H d2 y∧f d1 d2=some d∧∀ v H' R,ap H H'→Own H' d v R→R.Nodup→(∀ a∈R,H a=none)→Q v H')) (ha:VO X a ga) (hb:VO X b gb) (hs:lZ b):VE X (.Subscript a b pos) (ad f ga gb):=
 aZ (sO ho ha hb hs) fun _ _ _ h=>ie h
@[simp] noncomputable def asB:Vl→Option Bool
 | .im (.bl b)=>some b
 | _=>none
@[simp] noncomputable def kB (g:M Vl):M Bool:=fun D=>(g D).bind fun p=>(asB p.1).map fun b=>(b,p.2)
theorem ig {d:Vl}{b:Bool} (h:asB d=some b):d=.im (.bl b):=by
 unfold asB at h
 split at h
 ·cases h;rfl
 ·cases h
theorem bB {op:CmpOp}{f:Vl→Vl→Option Vl}{a b:Expr}{ga gb:M Opd}{pos:Pos} (ho:OpV X (compareOp op) f) (ha:VO X a ga) (hb:VO X b gb) (hm:behindInMarks op b=false):VT X (.Compare a [op] [b] pos) (kB (ad f ga gb)):=by
 refine ic (rP ho ha hb hm) fun σ H Q ⟨D,F,c,D',st,nd,hg,q⟩=>?_
 refine ie ⟨D,F,.im (.bl c),D',st,nd,?_,fun v H' F' R st' ow s=>⟨c,ow.1,q H' F' st' (by rw[ow.2,List.append_nil] at s;exact s)⟩⟩
 obtain⟨p,h1,h2⟩:=Option.bind_eq_some_iff.mp hg
 obtain⟨c',h3,h4⟩:=Option.map_eq_some_iff.mp h2
 cases h4
 rw[h1,← ig h3]
@[simp] noncomputable def jw (g:M Bool):M Bool:=fun D=>(g D).map fun p=>(!p.1,p.2)
theorem uP {a:Expr}{g:M Bool}{pos:Pos} (h:VT X a g):VT X (.UnaryOp .Not a pos) (jw g):=by
 refine ic (qJ h) fun σ H Q ⟨D,F,c,D',st,nd,hg,q⟩=>?_
 obtain⟨p,h1,h2⟩:=Option.map_eq_some_iff.mp hg
 cases h2
 exact⟨D,F,p.1,_,st,nd,h1,q⟩
@[simp] noncomputable def dF (g h:M Bool):M Bool:=fun D=>(g D).bind fun p=>if p.1=true then h p.2 else some (false,p.2)
@[simp] noncomputable def kOr (g h:M Bool):M Bool:=fun D=>(g D).bind fun p=>if p.1=true then some (true,p.2) else h p.2
theorem uQ {g h:M Bool}{σ:St}{H:Hp}{Q:Bool→Hp→Prop} (w:tVT (dF g h) σ H Q):lz (tVT g) (tVT h) σ H Q:=by
 obtain⟨D,F,c,D',st,nd,hg,q⟩:=w
 obtain⟨⟨b,D1⟩,h1,h2⟩:=Option.bind_eq_some_iff.mp hg
 refine⟨D,F,b,D1,st,nd,h1,fun H1 F1 st1 s1=>?_⟩
 cases b with
 | true=>
  rw[if_pos rfl]
  rw[if_pos rfl] at h2
  exact⟨D1,F1,c,D',st1,s1.nd,h2,fun H2 F2 st2 s2=>q H2 F2 st2 (by
   have:=Stp.trans (R:=[]) (by rw[List.append_nil];exact s1) s2 (fun x hx=>nomatch hx)
   rwa [List.append_nil] at this)⟩
 | false=>
  rw[if_neg Bool.false_ne_true] at h2 ⊢
  cases h2
  exact q H1 F1 st1 s1
theorem uR {g h:M Bool}{σ:St}{H:Hp}{Q:Bool→Hp→Prop} (w:tVT (kOr g h) σ H Q):tOr (tVT g) (tVT h) σ H Q:=by
 obtain⟨D,F,c,D',st,nd,hg,q⟩:=w
 obtain⟨⟨b,D1⟩,h1,h2⟩:=Option.bind_eq_some_iff.mp hg
 refine⟨D,F,b,D1,st,nd,h1,fun H1 F1 st1 s1=>?_⟩
 cases b with
 | false=>
  rw[if_neg Bool.false_ne_true] at h2 ⊢
  exact⟨D1,F1,c,D',st1,s1.nd,h2,fun H2 F2 st2 s2=>q H2 F2 st2 (by
   have:=Stp.trans (R:=[]) (by rw[List.append_nil];exact s1) s2 (fun x hx=>nomatch hx)
   rwa [List.append_nil] at this)⟩
 | true=>
  rw[if_pos rfl] at h2 ⊢
  cases h2
  exact q H1 F1 st1 s1
noncomputable def VW (X:Cx) (e:Expr) (g:M Bool):Prop:=PW X e (tVT g)
theorem mS {e:Expr}{t t':TT} (h:PW X e t) (i:∀ σ H Q,t' σ H Q→t σ H Q):PW X e t':=fun wh pins s σ H Q I hw=>h wh pins s σ H Q I (i σ H Q hw)
theorem mT {a:Expr}{g:M Bool}{pos:Pos} (h:VT X a g):VW X (.BoolOp .And [a] pos) g:=qF h
theorem jx {a:Expr}{g:M Bool}{pos:Pos} (h:VT X a g):VW X (.BoolOp .Or [a] pos) g:=qG h
theorem jy {a b:Expr}{r:List Expr}{g k:M Bool}{pos:Pos} (h:VT X a g) (hb:VW X (.BoolOp .And (b::r) pos) k):VW X (.BoolOp .And (a::b::r) pos) (dF g k):=mS (qH h hb) fun _ _ _ w=>uQ w
theorem ii {a b:Expr}{r:List Expr}{g k:M Bool}{pos:Pos} (h:VT X a g) (hb:VW X (.BoolOp .Or (b::r) pos) k):VW X (.BoolOp .Or (a::b::r) pos) (kOr g k):=mS (qI h hb) fun _ _ _ w=>uR w
theorem VW.vt {e:Expr}{g:M Bool} (h:VW X e g):VT X e g:=h.pt
@[simp] noncomputable def eIf (c:M Bool) (a b:M Vl):M Vl:=fun D=>(c D).bind fun p=>if p.1=true then a p.2 else b p.2
theorem Stp.seq {H H1 H2:Hp}{F F1 F2:List Addr} (a:Stp H F H1 F1) (b:Stp H1 F1 H2 F2):Stp H F H2 F2:=by
 have:=Stp.trans (R:=[]) (by rw[List.append_nil];exact a) b (fun x hx=>nomatch hx)
 rwa [List.append_nil] at this
theorem uS {c a b:Expr}{gc:M Bool}{ga gb:M Vl}{pos:Pos} (hc:VT X c gc) (ha:VE X a ga) (hb:VE X b gb):VE X (.IfExp c a b pos) (eIf gc ga gb):=by
 refine aZ (qK hc ha hb) fun σ H Q ⟨D,F,r,D',st,nd,hg,q⟩=>?_
 obtain⟨⟨t,D1⟩,h1,h2⟩:=Option.bind_eq_some_iff.mp hg
 refine⟨D,F,t,D1,st,nd,h1,fun H1 F1 st1 s1=>?_⟩
 cases t with
 | true=>
  rw[if_pos rfl] at h2 ⊢
  exact⟨D1,F1,r,D',st1,s1.nd,h2,fun v H2 F2 R st2 ow s2=>q v H2 F2 R st2 ow (s1.seq s2)⟩
 | false=>
  rw[if_neg Bool.false_ne_true] at h2 ⊢
  exact⟨D1,F1,r,D',st1,s1.nd,h2,fun v H2 F2 R st2 ow s2=>q v H2 F2 R st2 ow (s1.seq s2)⟩
end
end L2
namespace L2
open PySem PySem.Spec PyProof.Rows
noncomputable def cW (H:Hp) (σ:St):List Opd→List V→List Addr→Prop
 | [],vs,R=>vs=[]∧R=[]
 | o::os,vs,R=>∃ v r R1 R2,vs=v::r∧bZ H σ o v R1∧cW H σ os r R2∧R=R1++R2
noncomputable def tA (g:M (List Opd)):TA:=fun σ H Q=>∃ D F r D',ah H D σ F∧F.Nodup∧g D=some (r,D')∧∀ vs H' F' R,ah H' D' σ F'→cW H' σ r vs R→Stp H F H' (F'++R)→Q vs H'
noncomputable def VA (X:Cx) (es:List Expr) (g:M (List Opd)):Prop:=PA X es (tA g)
theorem mU {X:Cx}{es:List Expr}{t t':TA} (h:PA X es t) (i:∀ σ H Q,t' σ H Q→t σ H Q):PA X es t':=fun pos pins s σ H Q I hw=>h pos pins s σ H Q I (i σ H Q hw)
noncomputable def aNil:M (List Opd):=fun D=>some ([],D)
@[simp] noncomputable def ab (g:M Opd) (h:M (List Opd)):M (List Opd):=fun D=>(g D).bind fun p=>(h p.2).map fun q=>(p.1::q.1,q.2)
theorem Stp.permR {H H':Hp}{F A B:List Addr} (s:Stp H F H' A) (p:A.Perm B):Stp H F H' B:=⟨s.keep,fun a ha=>s.sub a (p.mem_iff.mpr ha),(p.nodup_iff).mp s.nd,s.tup,s.grow⟩
theorem Stp.less {H H':Hp}{F A B C:List Addr} (s:Stp H F H' A) (p:(B++C).Perm A):Stp H F H' B:=
 ⟨s.keep,fun a ha=>s.sub a (p.mem_iff.mp (List.mem_append_left _ ha)),(List.nodup_append.mp ((p.nodup_iff).mpr s.nd)).1,s.tup,s.grow⟩
section
variable {X:Cx}
theorem ai:VA X [] aNil:=by
 refine mU lK fun σ H Q ⟨D,F,r,D',st,nd,hg,q⟩=>?_
 cases hg
 exact q [] H F [] st ⟨rfl,rfl⟩ (by rw[List.append_nil];exact Stp.perm nd (List.Perm.refl _))
theorem ae {e:Expr}{es:List Expr}{g:M Opd}{h:M (List Opd)} (he:VO X e g) (hr:VA X es h) (hs:starEach (e::es) X.env=(false,eval e X.env)::starEach es X.env:=by rfl):VA X (e::es) (ab g h):=by
 refine mU (jb he hr hs) fun σ H Q ⟨D,F,r,D',st,nd,hg,q⟩=>?_
 obtain⟨⟨x,D1⟩,h1,h2⟩:=Option.bind_eq_some_iff.mp hg
 obtain⟨⟨ys,D2⟩,h3,h4⟩:=Option.map_eq_some_iff.mp h2
 cases h4
 refine⟨D,F,x,D1,st,nd,h1,fun v H1 F1 R1 st1 o1 s1=>⟨D1,F1,ys,_,st1,(List.nodup_append.mp s1.nd).1,h3,fun vs H2 F2 R2 st2 o2 s2=>?_⟩⟩
 refine q (v::vs) H2 F2 (R1++R2) st2 ⟨v,vs,R1,R2,rfl,o1.mono s2.tup fun a ha o e=>s2.keep a o e fun h=>?_,o2,rfl⟩ ((s1.trans s2 o1.chg).permR ?_)
 ·exact (List.nodup_append.mp s1.nd).2.2 a h a ha rfl
 ·rw[List.append_assoc]
  exact List.Perm.append_left _ List.perm_append_comm
end
noncomputable def dG (D:SD):List Opd→Option (List Vl)
 | []=>some []
 | o::os=>(rsl D o).bind fun d=>(dG D os).map fun ds=>d::ds
noncomputable def dH (H:Hp):List Vl→List V→Prop
 | [],vs=>vs=[]
 | d::ds,vs=>∃ v r,vs=v::r∧Rdb H d v∧dH H ds r
theorem cW.read {H:Hp}{D:SD}{σ:St}{F:List Addr} (st:ah H D σ F):∀ {os:List Opd}{vs:List V}{R:List Addr}{ds:List Vl},cW H σ os vs R→dG D os=some ds→dH H ds vs
 | [],_,_,_,h,e=>by cases e;exact h.1
 | o::os,_,_,_,h,e=>by
  obtain⟨v,r,R1,R2,rfl,h1,h2,rfl⟩:=h
  obtain⟨d,e1,e2⟩:=Option.bind_eq_some_iff.mp e
  obtain⟨ds,e3,e4⟩:=Option.map_eq_some_iff.mp e2
  cases e4
  exact⟨v,r,rfl,h1.read st e1,cW.read st h2 e3⟩
noncomputable def b6:List Opd→SD→Option (List Vl×SD)
 | [],D=>some ([],D)
 | .vl d::os,D=>(b6 os D).map fun p=>(d::p.1,p.2)
 | .sl i::os,D=>(a9 i D).bind fun p=>(b6 os p.2).map fun q=>(p.1::q.1,q.2)
theorem mV {H:Hp}{D D':SD}{σ:St}{F:List Addr}{i:Nat}{d:Vl} (st:ah H D σ F) (h:a9 i D=some (d,D')):∃ v F1 R,σ[i]?=some (some v)∧Own H d v R∧ah H D' σ F1∧(F1++R).Perm F:=by
 unfold a9 at h
 split at h
 ·rename_i e hd
  split at h
  ·rename_i hc
   cases h
   obtain⟨v,h1,h2⟩:=st.cp hd hc
   exact⟨v,F,[],h1,h2,st,by rw[List.append_nil]⟩
  ·cases h
   obtain⟨v,F1,F2,h1,h2,h3,h4⟩:=st.out hd
   exact⟨v,F2,F1,h1,h2,h3,h4⟩
 ·cases h
theorem cX {A B C:List Addr}:(A++(B++C)).Perm (B++(A++C)):=by
 rw[← List.append_assoc,← List.append_assoc]
 exact List.Perm.append_right _ List.perm_append_comm
theorem fC {H:Hp}{σ:St}:∀ {os:List Opd}{vs:List V}{R F:List Addr}{D D':SD}{ds:List Vl},ah H D σ F→cW H σ os vs R→b6 os D=some (ds,D')→∃ F1 R1,ah H D' σ F1∧aA H ds vs R1∧(F1++R1).Perm (F++R)
 | [],_,_,F,_,_,_,st,h,e=>by
  cases e
  exact⟨F,[],st,⟨h.1,rfl⟩,by rw[h.2]⟩
 | .vl d::os,_,_,F,D,_,_,st,h,e=>by
  obtain⟨v,r,R1,R2,rfl,h1,h2,rfl⟩:=h
  rw[b6] at e
  obtain⟨p,e3,e4⟩:=Option.map_eq_some_iff.mp e
  cases e4
  obtain⟨F1,R3,g1,g2,g3⟩:=fC (D':=p.2) (ds:=p.1) st h2 e3
  exact⟨F1,R1++R3,g1,⟨v,r,R1,R3,rfl,h1,g2,rfl⟩,cX.trans ((List.Perm.append_left _ g3).trans cX)⟩
 | .sl i::os,_,_,F,D,_,_,st,h,e=>by
  obtain⟨v,r,R1,R2,rfl,⟨h1,rfl⟩,h2,rfl⟩:=h
  rw[b6] at e
  obtain⟨⟨d,D1⟩,e1,e2⟩:=Option.bind_eq_some_iff.mp e
  obtain⟨p,e3,e4⟩:=Option.map_eq_some_iff.mp e2
  cases e4
  obtain⟨v',F1,R3,g1,g2,g3,g4⟩:=mV st e1
  rw[h1] at g1
  cases g1
  obtain⟨F2,R4,k1,k2,k3⟩:=fC (D':=p.2) (ds:=p.1) g3 h2 e3
  refine⟨F2,R3++R4,k1,⟨v,r,R3,R4,rfl,g2,k2,rfl⟩,cX.trans ((List.Perm.append_left _ k3).trans ?_)⟩
  rw[← List.append_assoc]
  exact List.Perm.append_right _ (List.perm_append_comm.trans g4)
@[simp] noncomputable def wb:List Opd→List Vl→SD→SD
 | .sl i::os,d::ds,D=>wb os ds (match D[i]? with | some (some .jk)=>D.set i (some d) | _=>D)
 | .vl _::os,_::ds,D=>wb os ds D
 | _,_,D=>D
theorem ij {H H0:Hp}{σ:St}:∀ {os:List Opd}{ds:List Vl}{vs:List V}{R F S:List Addr}{D:SD},ah H D σ F→cW H0 σ os vs S→aA H ds vs R→∃ F1 R1,ah H (wb os ds D) σ F1∧(F1++R1).Perm (F++R)
 | [],ds,_,R,F,_,D,st,_,_=>⟨F,R,by unfold wb;exact st,List.Perm.refl _⟩
 | .vl _::os,[],_,R,F,_,D,st,_,_=>⟨F,R,by unfold wb;exact st,List.Perm.refl _⟩
 | .sl _::os,[],_,R,F,_,D,st,_,_=>⟨F,R,by unfold wb;exact st,List.Perm.refl _⟩
 | .vl _::os,d::ds,_,R,F,_,D,st,h,w=>by
  obtain⟨v,r,S1,S2,rfl,h1,h2,rfl⟩:=h
  obtain⟨v',r',R1,R2,e,w1,w2,rfl⟩:=w
  cases e
  obtain⟨F1,R3,g1,g2⟩:=ij (D:=D) st h2 w2
  refine⟨F1,R1++R3,by rw[wb];exact g1,cX.trans ((List.Perm.append_left _ g2).trans cX)⟩
 | .sl i::os,d::ds,_,R,F,_,D,st,h,w=>by
  obtain⟨v,r,S1,S2,rfl,⟨h1,_⟩,h2,rfl⟩:=h
  obtain⟨v',r',R1,R2,e,w1,w2,rfl⟩:=w
  cases e
  rw[wb]
  split
  ·obtain⟨F1,G,g1,g2⟩:=st.back w1 h1
   obtain⟨F2,R3,k1,k2⟩:=ij g1 h2 w2
   refine⟨F2,R3++G,k1,?_⟩
   rw[← List.append_assoc,← List.append_assoc]
   refine (List.Perm.append_right _ k2).trans ?_
   rw[List.append_assoc]
   refine (List.Perm.append_left _ List.perm_append_comm).trans ?_
   rw[← List.append_assoc]
   exact List.Perm.append_right _ g2
  ·obtain⟨F1,R3,g1,g2⟩:=ij st h2 w2
   exact⟨F1,R1++R3,g1,cX.trans ((List.Perm.append_left _ g2).trans cX)⟩
noncomputable def ims:List Vl→Option (List Im)
 | []=>some []
 | .im d::ds=>(ims ds).map fun r=>d::r
 | _::_=>none
@[simp] noncomputable def mkT (ds:List Vl):Vl:=match ims ds with
 | some is=>.im (.tup is)
 | none=>.tpl ds
@[simp] noncomputable def mkL (ds:List Vl):Vl:=match ims ds with
 | some is=>.lst is
 | none=>.lstM ds
theorem jz {H:Hp}:∀ {ds:List Vl}{vs:List V}{R:List Addr}{is:List Im},aA H ds vs R→ims ds=some is→aj H is vs∧R=[]
 | [],_,_,_,h,e=>by cases e;exact h
 | .im d::ds,_,_,_,h,e=>by
  obtain⟨v,r,R1,R2,rfl,⟨h1,rfl⟩,h2,rfl⟩:=h
  rw[ims] at e
  obtain⟨p,e3,e4⟩:=Option.map_eq_some_iff.mp e
  cases e4
  obtain⟨g1,rfl⟩:=jz h2 e3
  exact⟨⟨v,r,rfl,h1,g1⟩,rfl⟩
 | .jk::_,_,_,_,_,e=>by rw[ims] at e;cases e;all_goals (intro _ z;cases z)
 | .fz _::_,_,_,_,_,e=>by rw[ims] at e;cases e;all_goals (intro _ z;cases z)
 | .lst _::_,_,_,_,_,e=>by rw[ims] at e;cases e;all_goals (intro _ z;cases z)
 | .dK _::_,_,_,_,_,e=>by rw[ims] at e;cases e;all_goals (intro _ z;cases z)
 | .dT _::_,_,_,_,_,e=>by rw[ims] at e;cases e;all_goals (intro _ z;cases z)
 | .lstM _::_,_,_,_,_,e=>by rw[ims] at e;cases e;all_goals (intro _ z;cases z)
 | .dTM _ _::_,_,_,_,_,e=>by rw[ims] at e;cases e;all_goals (intro _ z;cases z)
 | .tpl _::_,_,_,_,_,e=>by rw[ims] at e;cases e;all_goals (intro _ z;cases z)
 | .obj _ _ _::_,_,_,_,_,e=>by rw[ims] at e;cases e;all_goals (intro _ z;cases z)
@[simp] noncomputable def bK (g:M (List Opd)):M Vl:=fun D=>(g D).bind fun p=>(b6 p.1 p.2).bind fun q=>if q.1.length≤100000 then some (mkT q.1,q.2) else none
@[simp] noncomputable def ck (g:M (List Opd)):M Vl:=fun D=>(g D).bind fun p=>(b6 p.1 p.2).bind fun q=>if q.1.length≤100000 then some (mkL q.1,q.2) else none
theorem uT {H H':Hp}{ds:List Vl}{vs:List V}{R:List Addr}{p:Addr} (s:ap H H') (h:aA H ds vs R) (e:H' p=some (.tup vs)):∃ R',Own H' (mkT ds) (.ref p) R'∧R'=R:=by
 unfold mkT
 split
 ·rename_i is hi
  obtain⟨g1,rfl⟩:=jz h hi
  exact⟨[],⟨⟨p,vs,rfl,e,g1.mono s.tupS.tup⟩,rfl⟩,rfl⟩
 ·exact⟨R,⟨p,vs,rfl,e,h.mono s.tupS fun a _ o q=>s a o q⟩,rfl⟩
theorem uU {H H':Hp}{ds:List Vl}{vs:List V}{R:List Addr}{p:Addr} (s:ap H H') (h:aA H ds vs R) (e:H' p=some (.lst vs)):Own H' (mkL ds) (.ref p) (p::R):=by
 unfold mkL
 split
 ·rename_i is hi
  obtain⟨g1,rfl⟩:=jz h hi
  exact⟨p,vs,rfl,e,g1.mono s.tupS.tup,rfl⟩
 ·exact⟨p,vs,R,rfl,e,h.mono s.tupS fun a _ o q=>s a o q,rfl⟩
theorem eB {n:Nat} (h:n≤100000):n≤sizeLine:=Nat.le_trans h (by decide)
theorem Stp.add {H H1:Hp}{F A:List Addr}{p:Addr}{o:HO} (a:Stp H F H1 A) (fr:H1 p=none) (c:∀ x∈A,Chg H1 x):Stp H F (upd H1 p o) (A++[p]):=by
 have s:ap H1 (upd H1 p o):=(ap.refl H1).upd fr
 have:=Stp.new (R:=[]) (R':=[p]) (by rw[List.append_nil];exact a) s (List.pairwise_singleton _ _) (fun x hx=>by rw[List.mem_singleton.mp hx];exact fr) c
 exact this
theorem Stp.same {H H1 H2:Hp}{F A:List Addr} (a:Stp H F H1 A) (s:ap H1 H2):Stp H F H2 A:=
 ⟨fun x o e hx=>s _ _ (a.keep x o e hx),a.sub,a.nd,a.tup.trans s.tupS,fun x o e=>let ⟨o',e'⟩:=a.grow x o e;⟨o',s _ _ e'⟩⟩
section
variable {X:Cx}
theorem cl {es:List Expr}{g:M (List Opd)}{x1}{pos:Pos} (h:VA X es g):VE X (.Tuple es x1 pos) (bK g):=by
 refine aZ (sd h) fun σ H Q ⟨D,F,r,D',st,nd,hg,q⟩=>?_
 obtain⟨⟨os,D1⟩,h1,h2⟩:=Option.bind_eq_some_iff.mp hg
 obtain⟨⟨ds,D2⟩,h3,h4⟩:=Option.bind_eq_some_iff.mp h2
 refine⟨D,F,os,D1,st,nd,h1,fun vs H1 F1 R1 st1 o1 s1=>?_⟩
 obtain⟨F2,R2,st2,ow,pm⟩:=fC st1 o1 h3
 split at h4
 ·rename_i hl
  cases h4
  have hl':vs.length≤100000:=by rw[← ow.length];exact hl
  refine⟨eB hl',fun p hp=>?_⟩
  have s:ap H1 (upd H1 p (.tup vs)):=(ap.refl H1).upd hp
  obtain⟨R',g1,rfl⟩:=uT s ow aO
  exact q _ _ F2 R' (st2.mono s.tupS fun a _ o e=>s a o e) g1 ((s1.permR pm.symm).same s)
 ·cases h4
theorem dj {es:List Expr}{g:M (List Opd)}{pos:Pos} (h:VA X es g):VE X (.List es pos) (ck g):=by
 refine aZ (se h) fun σ H Q ⟨D,F,r,D',st,nd,hg,q⟩=>?_
 obtain⟨⟨os,D1⟩,h1,h2⟩:=Option.bind_eq_some_iff.mp hg
 obtain⟨⟨ds,D2⟩,h3,h4⟩:=Option.bind_eq_some_iff.mp h2
 refine⟨D,F,os,D1,st,nd,h1,fun vs H1 F1 R1 st1 o1 s1=>?_⟩
 obtain⟨F2,R2,st2,ow,pm⟩:=fC st1 o1 h3
 split at h4
 ·rename_i hl
  cases h4
  have hl':vs.length≤100000:=by rw[← ow.length];exact hl
  refine⟨eB hl',fun p hp=>?_⟩
  have s:ap H1 (upd H1 p (.lst vs)):=(ap.refl H1).upd hp
  have g1:=uU s ow (p:=p) aO
  refine q _ _ F2 (p::R2) (st2.mono s.tupS fun a _ o e=>s a o e) g1 (((s1.permR pm.symm).add hp fun x hx=>?_).permR ?_)
  ·rcases List.mem_append.mp hx with hx | hx
   ·exact st2.chg x hx
   ·exact ow.chg x hx
  ·rw[List.append_assoc]
   exact List.Perm.append_left _ List.perm_append_comm
 ·cases h4
noncomputable def b7 (X:Cx) (f:Value) (op:List Vl→Option Vl):Prop:=
 aP X f fun xs H Q=>∃ ds d,dH H ds xs∧op ds=some d∧∀ v H' R,ap H H'→Own H' d v R→R.Nodup→(∀ a∈R,H a=none)→Q v H'
@[simp] noncomputable def au (op:List Vl→Option Vl) (g:M (List Opd)):M Vl:=fun D=>(g D).bind fun p=>(dG p.2 p.1).bind fun ds=>(op ds).map fun d=>(d,p.2)
theorem mW {op:List Vl→Option Vl}{g:M (List Opd)}{σ:St}{H:Hp}{Q:VK} (h:tV (au op g) σ H Q):
  tA g σ H fun xs H1=>∃ ds d,dH H1 ds xs∧op ds=some d∧∀ v H' R,ap H1 H'→Own H' d v R→R.Nodup→(∀ a∈R,H1 a=none)→Q v H':=by
 obtain⟨D,F,r,D',st,nd,hg,q⟩:=h
 obtain⟨⟨os,D1⟩,h1,h2⟩:=Option.bind_eq_some_iff.mp hg
 obtain⟨ds,h3,h4⟩:=Option.bind_eq_some_iff.mp h2
 obtain⟨d,h5,h6⟩:=Option.map_eq_some_iff.mp h4
 cases h6
 refine⟨D,F,os,D1,st,nd,h1,fun vs H1 F1 R1 st1 o1 s1=>⟨ds,_,o1.read st1 h3,h5,fun v H2 R s2 ow ndR fr=>?_⟩⟩
 exact q v H2 F1 R (st1.mono s2.tupS fun a _ o e=>s2 a o e) ow (s1.new s2 ndR fr st1.chg)
theorem br {id:String}{op:List Vl→Option Vl}{x:Str}{p pos:Pos}{e:Expr}{es:List Expr}{g:M (List Opd)} (hc:b7 X (.builtin id) op) (hg:Gl X x) (hm:X.mg x=none) (hv:bootBuiltins x=some (.builtin id)) (ha:VA X (e::es) g)
  (hn:x ≠ "__name__" := by decide) (hdb:(x == ("__debug__" : Str))=false:=by decide) (he:starEach (e::es) X.env=(false,eval e X.env)::starEach es X.env:=by rfl) (hpl:(backTo pos (starEach es X.env)).any (·.1)=false:=by rfl):
  VE X (.Call (.Name x p) (e::es) [] pos) (au op g):=aZ (lR hc hg hm hv ha hn hdb he hpl) fun _ _ _ h=>mW h
theorem dJ {T:String}{op:List Vl→Option Vl}{x:Str}{p pos:Pos}{e:Expr}{es:List Expr}{g:M (List Opd)} (hc:b7 X (.type T) op) (hg:Gl X x) (hm:X.mg x=none) (hv:bootBuiltins x=some (.type T)) (ha:VA X (e::es) g)
  (hn:x ≠ "__name__" := by decide) (hdb:(x == ("__debug__" : Str))=false:=by decide) (he:starEach (e::es) X.env=(false,eval e X.env)::starEach es X.env:=by rfl) (hpl:(backTo pos (starEach es X.env)).any (·.1)=false:=by rfl):
  VE X (.Call (.Name x p) (e::es) [] pos) (au op g):=aZ (sn hc hg hm hv ha hn hdb he hpl) fun _ _ _ h=>mW h
noncomputable abbrev Fn:=List Vl→Option (Vl×List Vl)
noncomputable def spV (n:Nat) (G:Fn):Sp:=fun vs H Q _=>vs.length=n∧∃ ds F r outs,aA H ds vs F∧F.Nodup∧G ds=some (r,outs)∧∀ v H' R R',Own H' r v R→aA H' outs vs R'→Stp H F H' (R++R')→Q v H'
@[simp] noncomputable def eCall (n:Nat) (G:Fn) (g:M (List Opd)):M Vl:=fun D=>(g D).bind fun p=>if p.1.length=n then (b6 p.1 p.2).bind fun q=>(G q.1).map fun r=>(r.1,wb p.1 r.2 q.2) else none
theorem cW.length {H:Hp}{σ:St}:∀ {os:List Opd}{vs:List V}{R:List Addr},cW H σ os vs R→os.length=vs.length
 | [],_,_,h=>by rw[h.1];rfl
 | o::os,_,_,h=>by
  obtain⟨v,r,R1,R2,rfl,h1,h2,rfl⟩:=h
  rw[List.length_cons,List.length_cons,cW.length h2]
theorem uV {n:Nat}{G:Fn}{g:M (List Opd)}{E:XK}{σ:St}{H:Hp}{Q:VK} (h:tV (eCall n G g) σ H Q):lL (spV n G) [] E (tA g) σ H Q:=by
 obtain⟨D,F,r,D',st,nd,hg,q⟩:=h
 obtain⟨⟨os,D1⟩,h1,h2⟩:=Option.bind_eq_some_iff.mp hg
 split at h2
 ·rename_i hn
  obtain⟨⟨ds,D2⟩,h3,h4⟩:=Option.bind_eq_some_iff.mp h2
  obtain⟨⟨r',outs⟩,h5,h6⟩:=Option.map_eq_some_iff.mp h4
  cases h6
  refine⟨D,F,os,D1,st,nd,h1,fun vs H1 F1 R1 st1 o1 s1=>?_⟩
  obtain⟨F2,R2,st2,ow,pm⟩:=fC st1 o1 h3
  have s2:=s1.permR (pm.symm.trans List.perm_append_comm)
  rw[List.append_nil]
  refine⟨by rw[← o1.length];exact hn,ds,R2,_,outs,ow,(List.nodup_append.mp s2.nd).1,h5,fun v H3 R R' w1 w2 s3=>?_⟩
  have s4:=s2.trans s3 st2.chg
  have dis:∀ a∈F2,a∉R2:=fun a ha hb=>(List.nodup_append.mp s2.nd).2.2 a hb a ha rfl
  have st3:ah H3 D2 σ F2:=st2.mono s3.tup fun a ha o e=>s3.keep a o e (dis a ha)
  obtain⟨F3,R3,st4,pm4⟩:=ij st3 o1 w2
  refine q v H3 F3 R st4 w1 (s4.less (C:=R3) ?_)
  refine List.Perm.trans ?_ List.perm_append_comm
  rw[List.append_assoc]
  refine (List.Perm.append_left _ List.perm_append_comm).trans ?_
  rw[← List.append_assoc]
  refine (List.Perm.append_right _ pm4).trans ?_
  rw[List.append_assoc]
  exact List.Perm.append_left _ List.perm_append_comm
 ·cases h2
end
end L2
namespace L2
open PySem PySem.Spec PyProof.Rows
section
variable {X:Cx}
theorem aN {n k:Nat}{G:Fn}{f:Addr}{fd:FuncData}{ps:List Str}{x:Str}{p pos:Pos}{e:Expr}{es:List Expr}{g:M (List Opd)} (F:FnOk X.prog X.w X.K X.mg X.base CX0 k f fd ps (spV n G)) (hr:Room k X.A) (hg:Gl X x) (hm:X.mg x=some (.ref f)) (hk:PySem.W.keepIn X.K (.ref f)=true) (hb:bh X.K fd ps [])
  (ha:VA X (e::es) g) (hdb:(x == ("__debug__" : Str))=false:=by decide) (he:starEach (e::es) X.env=(false,eval e X.env)::starEach es X.env:=by rfl) (hpl:(backTo pos (starEach es X.env)).any (·.1)=false:=by rfl):
  VE X (.Call (.Name x p) (e::es) [] pos) (eCall n G g):=aZ (si F hr hg hm hk hb .nil tY ha hdb he hpl) fun _ _ _ h=>uV h
inductive Fl where
 | nx | rt (d:Vl) | bk | ct
noncomputable abbrev MS:=SD→Option (Fl×SD)
noncomputable def aB (fix:List Nat) (σ σ':St):Prop:=σ'.length=σ.length∧∀ i∈fix,σ'[i]?=σ[i]?
theorem aB.refl {fix:List Nat}{σ:St}:aB fix σ σ:=⟨rfl,fun _ _=>rfl⟩
theorem aB.trans {fix:List Nat}{σ σ1 σ2:St} (a:aB fix σ σ1) (b:aB fix σ1 σ2):aB fix σ σ2:=⟨b.1.trans a.1,fun i hi=>(b.2 i hi).trans (a.2 i hi)⟩
theorem aB.set {fix:List Nat}{σ:St}{j:Nat}{v:Option V} (h:j∉fix):aB fix σ (σ.set j v):=⟨List.length_set,fun i hi=>List.getElem?_set_ne fun e=>h (by rw[e];exact hi)⟩
noncomputable def Aft (fix:List Nat) (E:Ends) (σ:St) (H:Hp) (F:List Addr) (D':SD):Fl→Prop
 | .nx=>∀ σ' H' F',aB fix σ σ'→ah H' D' σ' F'→Stp H F H' F'→E.nx σ' H'
 | .bk=>∀ σ' H' F',aB fix σ σ'→ah H' D' σ' F'→Stp H F H' F'→E.bk σ' H'
 | .ct=>∀ σ' H' F',aB fix σ σ'→ah H' D' σ' F'→Stp H F H' F'→E.ct σ' H'
 | .rt d=>∀ v σ' H' F' R,aB fix σ σ'→ah H' D' σ' F'→Own H' d v R→Stp H F H' (F'++R)→E.rt v H'
noncomputable def tS (fix:List Nat) (g:MS):TS:=fun E σ H=>∃ D F fl D',ah H D σ F∧F.Nodup∧g D=some (fl,D')∧Aft fix E σ H F D' fl
noncomputable def VS (X:Cx) (fix:List Nat) (st:Stmt) (g:MS):Prop:=PS X st (tS fix g)
noncomputable def VSs (X:Cx) (fix:List Nat) (sts:List Stmt) (g:MS):Prop:=PSs X sts (tS fix g)
theorem dL {st:Stmt}{t t':TS} (h:PS X st t) (i:∀ E σ H,t' E σ H→t E σ H):PS X st t':=fun pins s σ H D I hw=>h pins s σ H D I (i D σ H hw)
theorem mX {st:List Stmt}{t t':TS} (h:PSs X st t) (i:∀ E σ H,t' E σ H→t E σ H):PSs X st t':=fun pins s σ H D I hw=>h pins s σ H D I (i D σ H hw)
theorem Aft.on {fix:List Nat}{E:Ends}{σ σ1:St}{H H1:Hp}{F F1:List Addr}{D':SD}{fl:Fl} (h:Aft fix E σ H F D' fl) (fx:aB fix σ σ1) (s:Stp H F H1 F1):Aft fix E σ1 H1 F1 D' fl:=by
 cases fl with
 | nx=>exact fun σ' H' F' f st s'=>h σ' H' F' (fx.trans f) st (s.seq s')
 | bk=>exact fun σ' H' F' f st s'=>h σ' H' F' (fx.trans f) st (s.seq s')
 | ct=>exact fun σ' H' F' f st s'=>h σ' H' F' (fx.trans f) st (s.seq s')
 | rt d=>exact fun v σ' H' F' R f st ow s'=>h v σ' H' F' R (fx.trans f) st ow (s.seq s')
noncomputable def sNil:MS:=fun D=>some (.nx,D)
@[simp] noncomputable def ax (g h:MS):MS:=fun D=>(g D).bind fun p=>match p.1 with
 | .nx=>h p.2
 | fl=>some (fl,p.2)
theorem eE {fix:List Nat}:VSs X fix [] sNil:=by
 refine mX qM fun E σ H ⟨D,F,fl,D',st,nd,hg,q⟩=>?_
 cases hg
 exact q σ H F aB.refl st (Stp.perm nd (List.Perm.refl _))
theorem aG {fix:List Nat}{st:Stmt}{g:MS} (h:VS X fix st g):VSs X fix [st] g:=qO h
theorem uW {fix:List Nat}{g h:MS}{E:Ends}{σ:St}{H:Hp} (w:tS fix (ax g h) E σ H):lD (tS fix g) (tS fix h) E σ H:=by
 obtain⟨D,F,fl,D',st,nd,hg,q⟩:=w
 obtain⟨⟨f1,D1⟩,h1,h2⟩:=Option.bind_eq_some_iff.mp hg
 cases f1 with
 | nx=>exact⟨D,F,.nx,D1,st,nd,h1,fun σ' H' F' fx st' s=>⟨D1,F',fl,D',st',s.nd,h2,q.on fx s⟩⟩
 | bk=>cases h2;exact⟨D,F,.bk,D1,st,nd,h1,q⟩
 | ct=>cases h2;exact⟨D,F,.ct,D1,st,nd,h1,q⟩
 | rt d=>cases h2;exact⟨D,F,.rt d,D1,st,nd,h1,q⟩
theorem az {fix:List Nat}{st:Stmt}{sts:List Stmt}{g h:MS} (h1:VS X fix st g) (h2:VSs X fix sts h):VSs X fix (st::sts) (ax g h):=mX (qN h1 h2) fun _ _ _ w=>uW w
@[simp] noncomputable def gy (g:M Vl):MS:=fun D=>(g D).map fun p=>(.nx,p.2)
theorem ik {fix:List Nat}{e:Expr}{g:M Vl}{pos:Pos} (h:VE X e g) (hs:swapsWith e none pos.line X.env=pure false:=by rfl):VS X fix (.Expr e pos) (gy g):=by
 refine dL (qQ h hs) fun E σ H ⟨D,F,fl,D',st,nd,hg,q⟩=>?_
 obtain⟨⟨r,D1⟩,h1,h2⟩:=Option.map_eq_some_iff.mp hg
 cases h2
 exact⟨D,F,r,_,st,nd,h1,fun v H' F' R st' ow s=>q σ H' F' aB.refl st' (s.less (List.Perm.refl _))⟩
@[simp] noncomputable def bC (g:M Vl):MS:=fun D=>(g D).map fun p=>(.rt p.1,p.2)
theorem b8 {fix:List Nat}{e:Expr}{g:M Vl}{pos:Pos} (h:VE X e g):VS X fix (.Return (some e) pos) (bC g):=by
 refine dL (qS h) fun E σ H ⟨D,F,fl,D',st,nd,hg,q⟩=>?_
 obtain⟨⟨r,D1⟩,h1,h2⟩:=Option.map_eq_some_iff.mp hg
 cases h2
 exact⟨D,F,r,_,st,nd,h1,fun v H' F' R st' ow s=>q v σ H' F' R aB.refl st' ow s⟩
@[simp] noncomputable def sIf (c:M Bool) (a b:MS):MS:=fun D=>(c D).bind fun p=>if p.1=true then a p.2 else b p.2
theorem dk {fix:List Nat}{c:Expr}{a b:List Stmt}{gc:M Bool}{ga gb:MS}{pos:Pos} (hc:VT X c gc) (ha:VSs X fix a ga) (hb:VSs X fix b gb):VS X fix (.If c a b pos) (sIf gc ga gb):=by
 refine dL (qU hc ha hb) fun E σ H ⟨D,F,fl,D',st,nd,hg,q⟩=>?_
 obtain⟨⟨t,D1⟩,h1,h2⟩:=Option.bind_eq_some_iff.mp hg
 refine⟨D,F,t,D1,st,nd,h1,fun H1 F1 st1 s1=>?_⟩
 cases t with
 | true=>
  rw[if_pos rfl] at h2 ⊢
  exact⟨D1,F1,fl,D',st1,s1.nd,h2,q.on aB.refl s1⟩
 | false=>
  rw[if_neg Bool.false_ne_true] at h2 ⊢
  exact⟨D1,F1,fl,D',st1,s1.nd,h2,q.on aB.refl s1⟩
@[simp] noncomputable def aw (i:Nat) (g:M Vl):MS:=fun D=>(g D).bind fun p=>if i<p.2.length then some (.nx,p.2.set i (some p.1)) else none
theorem aQ {fix:List Nat}{i:Nat}{x:Str}{e:Expr}{g:M Vl}{pos pos':Pos} (hN:X.N.Nodup) (hi:X.N[i]?=some x) (hx:Loc X.env.scope x) (he:VE X e g) (hf:i∉fix) (hs:swapsWith e (some (.Name x pos')) pos.line X.env=pure false:=by rfl)
  (hfn:X.fn x=true∨X.env.scope.names.lookup x=some .local:=by first | exact .inl rfl | exact .inr rfl | assumption):VS X fix (.Assign [.Name x pos'] e pos) (aw i g):=by
 refine dL (rc hN hi hx he hs hfn) fun E σ H ⟨D,F,fl,D',st,nd,hg,q⟩=>?_
 obtain⟨⟨r,D1⟩,h1,h2⟩:=Option.bind_eq_some_iff.mp hg
 split at h2
 ·rename_i hl
  cases h2
  refine⟨D,F,r,_,st,nd,h1,fun v H1 F1 R st1 ow s1=>?_⟩
  obtain⟨F2,R2,st2,pm⟩:=st1.put (i:=i) ow hl
  exact q _ H1 F2 (aB.set hf) st2 (s1.less pm)
 ·cases h2
noncomputable abbrev MG:=Vl→SD→Option SD
noncomputable def tG (fix:List Nat) (g:MG):TG:=fun v σ H Q=>∃ D F d R D',ah H D σ F∧Own H d v R∧(F++R).Nodup∧g d D=some D'∧∀ σ' H' F',aB fix σ σ'→ah H' D' σ' F'→Stp H (F++R) H' F'→Q σ' H'
noncomputable def VG (X:Cx) (fix:List Nat) (e:Expr) (g:MG):Prop:=PG X e (tG fix g)
theorem il {e:Expr}{t t':TG} (h:PG X e t) (i:∀ v σ H Q,t' v σ H Q→t v σ H Q):PG X e t':=fun pins s σ H x v Q I r hw=>h pins s σ H x v Q I r (i x σ H Q hw)
@[simp] noncomputable def gN (i:Nat):MG:=fun d D=>if i<D.length then some (D.set i (some d)) else none
theorem bm {fix:List Nat}{i:Nat}{x:Str}{pos:Pos} (hN:X.N.Nodup) (hi:X.N[i]?=some x) (hx:Loc X.env.scope x) (hf:i∉fix) (hfn:X.fn x=true∨X.env.scope.names.lookup x=some .local:=by first | exact .inl rfl | exact .inr rfl | assumption):VG X fix (.Name x pos) (gN i):=by
 refine il (qV hN hi hx hfn) fun v σ H Q ⟨D,F,d,R,D',st,ow,nd,hg,q⟩=>?_
 unfold gN at hg
 split at hg
 ·rename_i hl
  cases hg
  obtain⟨F2,R2,st2,pm⟩:=st.put (i:=i) ow hl
  exact q _ H F2 (aB.set hf) st2 ((Stp.perm nd (List.Perm.refl _)).less pm)
 ·cases hg
noncomputable def tGs (fix:List Nat) (g:List Vl→SD→Option SD):TGs:=fun vs σ H Q=>∃ D F ds R D',ah H D σ F∧aA H ds vs R∧(F++R).Nodup∧g ds D=some D'∧∀ σ' H' F',aB fix σ σ'→ah H' D' σ' F'→Stp H (F++R) H' F'→Q σ' H'
noncomputable def VGs (X:Cx) (fix:List Nat) (es:List Expr) (g:List Vl→SD→Option SD):Prop:=PGs X es (tGs fix g)
@[simp] noncomputable def gNil':List Vl→SD→Option SD
 | [],D=>some D
 | _,_=>none
@[simp] noncomputable def bg (g:MG) (h:List Vl→SD→Option SD):List Vl→SD→Option SD
 | d::ds,D=>(g d D).bind (h ds)
 | _,_=>none
theorem mY {es:List Expr}{t t':TGs} (h:PGs X es t) (i:∀ v σ H Q,t' v σ H Q→t v σ H Q):PGs X es t':=fun pins s σ H xs vs Q I r hw=>h pins s σ H xs vs Q I r (i xs σ H Q hw)
theorem io {fix:List Nat}:VGs X fix [] gNil':=by
 refine mY qX fun vs σ H Q ⟨D,F,ds,R,D',st,ow,nd,hg,q⟩=>?_
 cases ds with
 | cons d ds=>cases hg
 | nil=>
  cases hg
  exact⟨ow.1,q σ H F aB.refl st ((Stp.perm nd (List.Perm.refl _)).less (List.Perm.refl _))⟩
theorem dM {fix:List Nat}{e:Expr}{es:List Expr}{g:MG}{h:List Vl→SD→Option SD} (h1:VG X fix e g) (h2:VGs X fix es h) (hs:(assignEach (e::es) X.env).map (·.2)=assign e X.env::(assignEach es X.env).map (·.2):=by rfl):VGs X fix (e::es) (bg g h):=by
 refine mY (qY h1 h2 hs) fun vs σ H Q ⟨D,F,ds,R,D',st,ow,nd,hg,q⟩=>?_
 cases ds with
 | nil=>cases hg
 | cons d ds=>
  obtain⟨v,r,R1,R2,rfl,w1,w2,rfl⟩:=ow
  obtain⟨D1,g1,g2⟩:=Option.bind_eq_some_iff.mp (show (g d D).bind (h ds)=some D' from hg)
  have nd':((F++R1)++R2).Nodup:=by rw[List.append_assoc];exact nd
  refine⟨v,r,rfl,D,F,d,R1,D1,st,w1,(List.nodup_append.mp nd').1,g1,fun σ1 H1 F1 fx st1 s1=>?_⟩
  have dis:∀ a∈R2,a∉F++R1:=fun a ha hb=>(List.nodup_append.mp nd').2.2 a hb a ha rfl
  have w2':aA H1 ds r R2:=w2.mono s1.tup fun a ha o e=>s1.keep a o e (dis a ha)
  have s2:Stp H (F++(R1++R2)) H1 (F1++R2):=by
   refine⟨fun a o e ha=>s1.keep a o e fun h=>ha ?_,fun a ha=>?_,List.nodup_append.mpr ⟨s1.nd,(List.nodup_append.mp nd').2.1,fun a ha b hb e=>?_⟩,s1.tup,s1.grow⟩
   ·rw[← List.append_assoc]
    exact List.mem_append_left _ h
   ·rcases List.mem_append.mp ha with ha | ha
    ·rcases s1.sub a ha with h | h
     ·left
      rw[← List.append_assoc]
      exact List.mem_append_left _ h
     ·exact .inr h
    ·left
     rw[← List.append_assoc]
     exact List.mem_append_right _ ha
   ·subst e
    rcases s1.sub a ha with h | h
    ·exact dis a hb h
    ·obtain⟨o,e,_⟩:=w2.chg a hb
     rw[e] at h
     cases h
  exact⟨D1,F1,ds,R2,D',st1,w2',s2.nd,g2,fun σ2 H2 F2 fx2 st2 s3=>q σ2 H2 F2 (fx.trans fx2) st2 (s2.seq s3)⟩
@[simp] noncomputable def gT (n:Nat) (h:List Vl→SD→Option SD):MG:=fun d D=>match d with
 | .im (.tup is)=>if is.length=n then h (is.map .im) D else none
 | .tpl ds=>if ds.length=n then h ds D else none
 | _=>none
theorem jA {H:Hp}:∀ {is:List Im}{vs:List V},aj H is vs→aA H (is.map .im) vs []
 | [],vs,h=>⟨h,rfl⟩
 | d::is,vs,h=>by
  obtain⟨v,r,rfl,h1,h2⟩:=h
  exact⟨v,r,[],[],rfl,⟨h1,rfl⟩,jA h2,rfl⟩
theorem jB {fix:List Nat}{es:List Expr}{k n:Nat}{pos:Pos}{h:List Vl→SD→Option SD} (hc:X.calm=true) (hs:VGs X fix es h) (hn:(assignEach es X.env).length=n:=by rfl) (hst:(assignEach es X.env).findIdx? (·.1)=none:=by rfl):VG X fix (.Tuple es k pos) (gT n h):=by
 refine il (q8 hc hs hn hst) fun v σ H Q ⟨D,F,d,R,D',st,ow,nd,hg,q⟩=>?_
 unfold gT at hg
 split at hg
 ·rename_i is
  split at hg
  ·rename_i hl
   obtain⟨⟨a,xs,rfl,h1,h2⟩,rfl⟩:=ow
   exact⟨a,xs,rfl,SqT.of h1,by rw[← h2.length];exact hl,D,F,_,[],D',st,jA h2,nd,hg,q⟩
  ·cases hg
 ·rename_i ds
  split at hg
  ·rename_i hl
   obtain⟨a,xs,rfl,h1,h2⟩:=ow
   exact⟨a,xs,rfl,SqT.of h1,by rw[← h2.length];exact hl,D,F,_,R,D',st,h2,nd,hg,q⟩
  ·cases hg
 ·cases hg
@[simp] noncomputable def cJ (g:M Vl) (h:MG):MS:=fun D=>(g D).bind fun p=>(h p.1 p.2).map fun D'=>(.nx,D')
theorem eF {fix:List Nat}{tg e:Expr}{g:M Vl}{h:MG}{pos:Pos} (he:VE X e g) (hg:VG X fix tg h) (hs:swapsWithSole [tg] e pos.line X.env=pure false:=by rfl) (hw:swappedStores [tg] e X.env=pure none:=by rfl)
  (h1:(assignEach [tg] X.env).map (·.2)=[assign tg X.env]:=by rfl):VS X fix (.Assign [tg] e pos) (cJ g h):=by
 refine dL (rb he hg hs hw h1) fun E σ H ⟨D,F,fl,D',st,nd,hgg,q⟩=>?_
 obtain⟨⟨r,D1⟩,g1,g2⟩:=Option.bind_eq_some_iff.mp hgg
 obtain⟨D2,g3,g4⟩:=Option.map_eq_some_iff.mp g2
 cases g4
 exact⟨D,F,r,D1,st,nd,g1,fun v H1 F1 R st1 ow s1=>⟨D1,F1,r,R,_,st1,ow,s1.nd,g3,fun σ' H' F' fx st' s2=>q σ' H' F' fx st' (s1.seq s2)⟩⟩
noncomputable def dl (c:M Bool) (b:MS):Nat→MS
 | 0=>fun _=>none
 | n+1=>fun D=>(c D).bind fun p=>if p.1=true then (b p.2).bind fun q=>match q.1 with
  | .nx=>dl c b n q.2
  | .ct=>dl c b n q.2
  | .bk=>some (.nx,q.2)
  | .rt d=>some (.rt d,q.2) else some (.nx,p.2)
theorem uX {fix:List Nat}{c:Expr}{body:List Stmt}{gc:M Bool}{gb:MS}{pos:Pos} (n:Nat) (hp:PassesOwn (model X.prog X.w) X.A X.env X.xe) (hc:VT X c gc) (hb:VSs X fix body gb):VS X fix (.While c body [] pos) (dl gc gb n):=by
 refine dL (rf hp hc hb) fun E σ H ⟨D,F,fl,D',st,nd,hg,q⟩=>?_
 refine⟨fun m σ' H'=>∃ Dd F',ah H' Dd σ' F'∧aB fix σ σ'∧Stp H F H' F'∧dl gc gb m Dd=some (fl,D'),⟨n,D,F,st,aB.refl,Stp.perm nd (List.Perm.refl _),hg⟩,?_⟩
 rintro m σ1 H1 ⟨D1,F1,st1,fx1,s1,w⟩
 cases m with
 | zero=>cases w
 | succ m=>
  rw[dl] at w
  obtain⟨⟨t,D2⟩,w1,w2⟩:=Option.bind_eq_some_iff.mp w
  refine⟨D1,F1,t,D2,st1,s1.nd,w1,fun H2 F2 st2 s2=>?_⟩
  cases t with
  | false=>
   rw[if_neg Bool.false_ne_true] at w2 ⊢
   cases w2
   exact q σ1 H2 F2 fx1 st2 (s1.seq s2)
  | true=>
   rw[if_pos rfl] at w2 ⊢
   obtain⟨⟨f,D3⟩,w3,w4⟩:=Option.bind_eq_some_iff.mp w2
   refine⟨fun σ' H'=>∃ Dd F',ah H' Dd σ' F'∧aB fix σ σ'∧Stp H F H' F'∧dl gc gb m Dd=some (fl,D'),fun σ' H' h=>⟨m,Nat.lt_succ_self m,h⟩,D2,F2,f,D3,st2,s2.nd,w3,?_⟩
   cases f with
   | nx=>exact fun σ' H' F' fx st' s'=>⟨D3,F',st',fx1.trans fx,(s1.seq s2).seq s',w4⟩
   | ct=>exact fun σ' H' F' fx st' s'=>⟨D3,F',st',fx1.trans fx,(s1.seq s2).seq s',w4⟩
   | bk=>
    cases w4
    exact fun σ' H' F' fx st' s'=>q σ' H' F' (fx1.trans fx) st' ((s1.seq s2).seq s')
   | rt d=>
    cases w4
    exact fun v σ' H' F' R fx st' ow s'=>q v σ' H' F' R (fx1.trans fx) st' ow ((s1.seq s2).seq s')
structure ItOk (J:It) (H:Hp) (R:List Addr) (ds:List Im):Prop where
 go:∀ H',StayS H H'→(∀ a∈R,∀ o,H a=some o→H' a=some o)→∀ (i:Nat) (d:Im),ds[i]?=some d→J.go i H'∧∀ x H'',J.yld i H' x H''→ap H' H''∧IsI H'' d x
 stop:∀ H',StayS H H'→(∀ a∈R,∀ o,H a=some o→H' a=some o)→J.stop ds.length H'
noncomputable def gz (H:Hp) (σ:St) (R:List Addr):Option (Nat×Vl)→Prop
 | none=>True
 | some (i,d)=>∃ v,σ[i]?=some (some v)∧Own H d v R
noncomputable def tI (g:M (List Im×Option (Nat×Vl))):TI:=fun σ H Rk=>∃ D F r D',ah H D σ F∧F.Nodup∧g D=some (r,D')∧∀ J H' F' R,ah H' D' σ F'→ItOk J H' R r.1→gz H' σ R r.2→(∀ a∈R,Chg H' a)→Stp H F H' (F'++R)→Rk J H'
noncomputable def VI (X:Cx) (tg iter:Expr) (g:M (List Im×Option (Nat×Vl))):Prop:=PI X tg iter (tI g)
theorem jC {tg iter:Expr}{t t':TI} (h:PI X tg iter t) (i:∀ σ H R,t' σ H R→t σ H R):PI X tg iter t':=fun pins s σ H R I hw=>h pins s σ H R I (i σ H R hw)
noncomputable def ba (tg:MG) (b:MS):List Im→MS
 | []=>fun D=>some (.nx,D)
 | x::r=>fun D=>(tg (.im x) D).bind fun D1=>(b D1).bind fun q=>match q.1 with
  | .nx=>ba tg b r q.2
  | .ct=>ba tg b r q.2
  | .bk=>some (.nx,q.2)
  | .rt d=>some (.rt d,q.2)
@[simp] noncomputable def rst:Option (Nat×Vl)→SD→SD
 | none,D=>D
 | some (i,d),D=>match D[i]? with
  | some (some .jk)=>D.set i (some d)
  | _=>D
@[simp] noncomputable def bL (g:M (List Im×Option (Nat×Vl))) (tg:MG) (b:MS):MS:=fun D=>(g D).bind fun p=>(ba tg b p.1.1 p.2).map fun q=>(q.1,rst p.1.2 q.2)
theorem jD {H:Hp}{σ:St}{R F:List Addr}{o:Option (Nat×Vl)}{D:SD} (st:ah H D σ F) (h:gz H σ R o):∃ F1 G,ah H (rst o D) σ F1∧(F1++G).Perm (F++R):=by
 cases o with
 | none=>exact⟨F,R,st,List.Perm.refl _⟩
 | some p=>
  obtain⟨i,d⟩:=p
  obtain⟨v,h1,h2⟩:=h
  unfold rst
  dsimp only
  split
  ·exact st.back h2 h1
  ·exact⟨F,R,st,List.Perm.refl _⟩
noncomputable def fE (fx:List Nat):Option (Nat×Vl)→Prop
 | none=>True
 | some (i,_)=>i∈fx
theorem uY {fix fx:List Nat}{tg iter:Expr}{body:List Stmt}{g:M (List Im×Option (Nat×Vl))}{gt:MG}{gb:MS}{pos:Pos} (hp:PassesOwn (model X.prog X.w) X.A X.env X.xe) (hc:X.calm=true) (hi:VI X tg iter g) (hg:VG X fx tg gt) (hb:VSs X fx body gb)
  (hf:∀ i∈fix,i∈fx) (hs:∀ D r D',g D=some (r,D')→fE fx r.2) (hps:PS X (.For tg iter body [] pos) (lE (tI g) (tG fx gt) (tS fx gb))):VS X fix (.For tg iter body [] pos) (bL g gt gb):=by
 refine dL hps fun E σ H ⟨D,F,fl,D',st,nd,hgg,q⟩=>?_
 obtain⟨⟨⟨ds,o⟩,D1⟩,h1,h2⟩:=Option.bind_eq_some_iff.mp hgg
 obtain⟨⟨f,D2⟩,h3,h4⟩:=Option.map_eq_some_iff.mp h2
 cases h4
 refine⟨D,F,(ds,o),D1,st,nd,h1,fun J H1 F1 R st1 it ln cR s1=>?_⟩
 have hso:fE fx o:=hs D _ _ h1
 have nd1:=List.nodup_append.mp s1.nd
 -- what R holds stays while the body runs
 have keepR:∀ {H2:Hp}{F2:List Addr},Stp H1 F1 H2 F2→∀ a∈R,∀ u,H1 a=some u→H2 a=some u:=fun s a ha u e=>s.keep a u e fun h=>nd1.2.2 a h a ha rfl
 have lent:∀ {H2:Hp}{F2:List Addr}{σ2:St},Stp H1 F1 H2 F2→aB fx σ σ2→gz H2 σ2 R o:=fun {H2 F2 σ2} s f=>by
  cases o with
  | none=>trivial
  | some p=>
   obtain⟨i,d⟩:=p
   obtain⟨v,e1,e2⟩:=ln
   exact⟨v,(f.2 i hso).trans e1,e2.mono s.tup (keepR s)⟩
 have fxx:∀ {σ2:St},aB fx σ σ2→aB fix σ σ2:=fun f=>⟨f.1,fun i hi=>f.2 i (hf i hi)⟩
 -- leaving by going on
 have leave:∀ {σ2:St}{H2:Hp}{F2:List Addr}{D2:SD},Aft fix E σ H F (rst o D2) .nx→aB fx σ σ2→ah H2 D2 σ2 F2→Stp H1 F1 H2 F2→E.nx σ2 H2:=fun {σ2 H2 F2 D2} q f st2 s2=>by
  obtain⟨F3,G,st3,pm⟩:=jD st2 (lent s2 f)
  exact q σ2 H2 F3 (fxx f) st3 ((s1.trans s2 cR).less pm)
 refine⟨fun i m σ' H'=>m+i=ds.length∧∃ Dd F',aB fx σ σ'∧ah H' Dd σ' F'∧Stp H1 F1 H' F'∧ba gt gb (ds.drop i) Dd=some (f,D2),⟨ds.length,rfl,D1,F1,aB.refl,st1,Stp.perm nd1.1 (List.Perm.refl _),h3⟩,?_⟩
 rintro i m σ' H' ⟨hm,Dd,F',fx',st',s',hw⟩
 by_cases hlt:i<ds.length
 ·obtain⟨hgo,hy⟩:=it.go H' s'.tup (keepR s') i ds[i] (by simp[hlt])
  rw[List.drop_eq_getElem_cons hlt,ba] at hw
  obtain⟨D3,w1,w2⟩:=Option.bind_eq_some_iff.mp hw
  obtain⟨⟨f2,D4⟩,w3,w4⟩:=Option.bind_eq_some_iff.mp w2
  refine .inr ⟨hgo,fun σ2 H2=>(m - 1)+(i+1)=ds.length∧∃ Dd F',aB fx σ σ2∧ah H2 Dd σ2 F'∧Stp H1 F1 H2 F'∧ba gt gb (ds.drop (i+1)) Dd=some (f,D2),fun σ2 H2 h=>⟨m - 1,by omega,h⟩,fun x H2 hx=>?_⟩
  obtain⟨sm,isx⟩:=hy x H2 hx
  have st2:=st'.mono sm.tupS fun a _ o e=>sm a o e
  have s2:=s'.same sm
  refine⟨Dd,F',.im ds[i],[],D3,st2,⟨isx,rfl⟩,by rw[List.append_nil];exact s2.nd,w1,fun σ3 H3 F3 fx3 st3 sg=>?_⟩
  have s3:Stp H1 F1 H3 F3:=s2.seq (by rw[List.append_nil] at sg;exact sg)
  refine⟨D3,F3,f2,D4,st3,s3.nd,w3,?_⟩
  cases f2 with
  | nx=>exact fun σ4 H4 F4 fx4 st4 s4=>⟨by omega,D4,F4,(fx'.trans fx3).trans fx4,st4,s3.seq s4,w4⟩
  | ct=>exact fun σ4 H4 F4 fx4 st4 s4=>⟨by omega,D4,F4,(fx'.trans fx3).trans fx4,st4,s3.seq s4,w4⟩
  | bk=>
   cases w4
   exact fun σ4 H4 F4 fx4 st4 s4=>leave q ((fx'.trans fx3).trans fx4) st4 (s3.seq s4)
  | rt d=>
   cases w4
   intro v σ4 H4 F4 R4 fx4 st4 ow4 s4
   have s5:=s3.seq s4
   have f5:=(fx'.trans fx3).trans fx4
   obtain⟨F5,G5,st5,pm5⟩:=jD (R:=R) st4 (lent s5 f5)
   refine q v σ4 H4 F5 R4 (fxx f5) st5 ow4 ((s1.trans s5 cR).less (C:=G5) ?_)
   rw[List.append_assoc]
   refine (List.Perm.append_left F5 List.perm_append_comm).trans ?_
   rw[← List.append_assoc]
   refine (List.Perm.append_right R4 pm5).trans ?_
   rw[List.append_assoc,List.append_assoc]
   exact List.Perm.append_left _ List.perm_append_comm
 ·have hi:i=ds.length:=by omega
  subst hi
  refine .inl ⟨it.stop H' s'.tup (keepR s'),?_⟩
  rw[List.drop_of_length_le (Nat.le_refl _)] at hw
  cases hw
  exact leave q fx' st' s'
end
end L2
namespace L2
open PySem PySem.Spec PyProof.Rows
section
variable {X:Cx}
theorem dN {fix fx:List Nat}{tg iter:Expr}{body:List Stmt}{g:M (List Im×Option (Nat×Vl))}{gt:MG}{gb:MS}{pos:Pos} (hp:PassesOwn (model X.prog X.w) X.A X.env X.xe) (hc:X.calm=true) (hi:VI X tg iter g) (hg:VG X fx tg gt) (hb:VSs X fx body gb)
  (hf:∀ i∈fix,i∈fx) (hs:∀ D r D',g D=some (r,D')→fE fx r.2) (hfs:∀ x,foldedSetIterable iter X.env x=pure x:=by intro _;rfl):VS X fix (.For tg iter body [] pos) (bL g gt gb):=
 uY hp hc hi hg hb hf hs (rn hp hc hi hg hb hfs)
noncomputable def iSq (K:PySem.W.Frag) (tl:TE):TI:=fun σ H R=>tl σ H fun x H1=>∃ a,x=.ref a∧(((∃ xs,SqL K H1 a xs)∧R (Itl K a) H1)∨((∃ xs,SqT K H1 a xs)∧R (Itt K a) H1))
theorem uZ {tg l:Expr}{tl:TE} (hl:PE X l tl):PI X tg l (iSq X.K tl):=by
 intro pins s σ H R I h
 refine thn (hl pins s σ H _ I h) fun v s1 ⟨x,H1,I1,r1,q1⟩=>?_
 obtain⟨a,e,q⟩:=q1
 subst e
 cases r1
 rcases q with ⟨⟨xs,hq⟩,q⟩ | ⟨⟨xs,hq⟩,q⟩
 ·obtain⟨its,rv,p,hz⟩:=I1.list hq
  refine wpAny_pyIter_list p.isList ?_
  refine⟨s1.heap.objs.size,[s1.heap.objs.size],_,_,H1,rfl,I1.kept (t':=s1.toks) fun b o e=>Heap.get?_push_of_some _ e,rg a _,⟨_,Heap.get?_push_size _ rfl,rfl,rfl⟩,fun b hb=>?_,q⟩
  have e:b=s1.heap.objs.size:=by simpa using hb
  subst e
  exact I1.fpOk (Nat.le_refl _) (I1.hok.fresh (Nat.le_refl _))
 ·obtain⟨its,rv,p,hz⟩:=I1.tuple hq
  refine wpAny_pyIter_tuple (show s1.heap.IsTuple a its.toArray from p) ?_
  refine⟨s1.heap.objs.size,[s1.heap.objs.size],_,_,H1,rfl,I1.kept (t':=s1.toks) fun b o e=>Heap.get?_push_of_some _ e,rh a _,⟨_,Heap.get?_push_size _ rfl,rfl,rfl⟩,fun b hb=>?_,q⟩
  have e:b=s1.heap.objs.size:=by simpa using hb
  subst e
  exact I1.fpOk (Nat.le_refl _) (I1.hok.fresh (Nat.le_refl _))
theorem aj.get {H:Hp}:∀ {ds:List Im}{vs:List V}{i:Nat}{d:Im},aj H ds vs→ds[i]?=some d→∃ v,vs[i]?=some v∧IsI H d v
 | [],_,_,_,_,e=>by simp at e
 | d::ds,_,0,_,h,e=>by
  obtain⟨v,r,rfl,h1,h2⟩:=h
  simp at e
  subst e
  exact⟨v,rfl,h1⟩
 | d::ds,_,i+1,_,h,e=>by
  obtain⟨v,r,rfl,h1,h2⟩:=h
  obtain⟨u,g1,g2⟩:=aj.get (i:=i) h2 (by simpa using e)
  exact⟨u,by simpa using g1,g2⟩
theorem u0 {K:PySem.W.Frag}{H:Hp}{a:Addr}{xs:List V}{ds:List Im} (h:H a=some (.lst xs)) (hd:aj H ds xs):ItOk (Itl K a) H [a] ds where
 go:=fun H' t k i d e=>by
  obtain⟨v,g1,g2⟩:=hd.get e
  have h':=SqL.of (K:=K) (k a (.head _) _ h)
  refine⟨⟨xs,v,h',g1⟩,fun x H'' ⟨e1,e2⟩=>?_⟩
  subst e1
  rw[e2 xs h'] at g1
  cases g1
  exact⟨ap.refl _,g2.mono t.tup⟩
 stop:=fun H' t k=>⟨xs,SqL.of (k a (.head _) _ h),by rw[← hd.length];exact Nat.le_refl _⟩
theorem u3 {K:PySem.W.Frag}{H:Hp}{a:Addr}{xs:List V}{o:Obj}{ds:List Im} (h:H a=some (.frz o (.lst xs))) (hd:aj H ds xs):ItOk (Itl K a) H [] ds where
 go:=fun H' t k i d e=>by
  obtain⟨v,g1,g2⟩:=hd.get e
  have h':SqL K H' a xs:=.inl (.inr ⟨o,t.frz _ _ _ h⟩)
  refine⟨⟨xs,v,h',g1⟩,fun x H'' ⟨e1,e2⟩=>?_⟩
  subst e1
  rw[e2 xs h'] at g1
  cases g1
  exact⟨ap.refl _,g2.mono t.tup⟩
 stop:=fun H' t k=>⟨xs,.inl (.inr ⟨o,t.frz _ _ _ h⟩),by rw[← hd.length];exact Nat.le_refl _⟩
theorem u4 {K:PySem.W.Frag}{H:Hp}{a:Addr}{xs:List V}{ds:List Im} (h:H a=some (.tup xs)) (hd:aj H ds xs):ItOk (Itt K a) H [] ds where
 go:=fun H' t k i d e=>by
  obtain⟨v,g1,g2⟩:=hd.get e
  have h':=SqT.of (K:=K) (t.tup a _ h)
  refine⟨⟨xs,v,h',g1⟩,fun x H'' ⟨e1,e2⟩=>?_⟩
  subst e1
  rw[e2 xs h'] at g1
  cases g1
  exact⟨ap.refl _,g2.mono t.tup⟩
 stop:=fun H' t k=>⟨xs,SqT.of (t.tup a _ h),by rw[← hd.length];exact Nat.le_refl _⟩
noncomputable abbrev MI:=M (List Im×Option (Nat×Vl))
@[simp] noncomputable def cz (d:Vl):Option (List Im):=match d with
 | .im (.tup ds)=>some ds
 | .lst ds=>some ds
 | .fz ds=>some ds
 | _=>none
@[simp] noncomputable def bb (g:M Opd):MI:=fun D=>(g D).bind fun p=>match p.1 with
 | .vl d=>(cz d).map fun ds=>((ds,none),p.2)
 | .sl i=>(a9 i p.2).bind fun q=>(cz q.1).map fun ds=>((ds,if q.1.cp=true then none else some (i,q.1)),q.2)
theorem mZ {K:PySem.W.Frag}{H:Hp}{d:Vl}{v:V}{R:List Addr}{ds:List Im} (w:Own H d v R) (e:cz d=some ds):
  ∃ a,v=.ref a∧(((∃ xs,SqL K H a xs)∧ItOk (Itl K a) H R ds)∨((∃ xs,SqT K H a xs)∧ItOk (Itt K a) H R ds)):=by
 unfold cz at e
 split at e
 ·cases e
  obtain⟨⟨a,xs,rfl,h1,h2⟩,rfl⟩:=w
  exact⟨a,rfl,.inr ⟨⟨xs,SqT.of h1⟩,u4 h1 h2⟩⟩
 ·cases e
  obtain⟨a,xs,rfl,h1,h2,rfl⟩:=w
  exact⟨a,rfl,.inl ⟨⟨xs,SqL.of h1⟩,u0 h1 h2⟩⟩
 ·cases e
  obtain⟨a,xs,o,rfl,h1,h2,rfl⟩:=w
  exact⟨a,rfl,.inl ⟨⟨xs,.inl (.inr ⟨o,h1⟩)⟩,u3 h1 h2⟩⟩
 ·cases e
theorem eG {tg l:Expr}{g:M Opd} (h:VO X l g):VI X tg l (bb g):=by
 refine jC (uZ h) fun σ H Rk ⟨D,F,r,D',st,nd,hg,q⟩=>?_
 obtain⟨⟨x,D1⟩,h1,h2⟩:=Option.bind_eq_some_iff.mp hg
 refine⟨D,F,x,D1,st,nd,h1,fun v H1 F1 R st1 o1 s1=>?_⟩
 cases x with
 | vl d=>
  obtain⟨ds,h3,h4⟩:=Option.map_eq_some_iff.mp h2
  cases h4
  obtain⟨a,rfl,hh⟩:=mZ (K:=X.K) o1 h3
  refine⟨a,rfl,?_⟩
  rcases hh with ⟨hx,it⟩ | ⟨hx,it⟩
  ·exact .inl ⟨hx,q _ H1 F1 R st1 it trivial (Own.chg o1) s1⟩
  ·exact .inr ⟨hx,q _ H1 F1 R st1 it trivial (Own.chg o1) s1⟩
 | sl i=>
  obtain⟨⟨d,D2⟩,h3,h4⟩:=Option.bind_eq_some_iff.mp h2
  obtain⟨ds,h5,h6⟩:=Option.map_eq_some_iff.mp h4
  cases h6
  obtain⟨v',F2,R2,g1,g2,g3,g4⟩:=mV st1 h3
  obtain⟨o1,rfl⟩:=o1
  rw[o1] at g1
  cases g1
  rw[List.append_nil] at s1
  have s2:=s1.permR g4.symm
  obtain⟨a,rfl,hh⟩:=mZ (K:=X.K) g2 h5
  have ln:gz H1 σ R2 (if d.cp=true then none else some (i,d)):=by
   split
   ·trivial
   ·exact⟨_,o1,g2⟩
  refine⟨a,rfl,?_⟩
  rcases hh with ⟨hx,it⟩ | ⟨hx,it⟩
  ·exact .inl ⟨hx,q _ H1 F2 R2 g3 it ln g2.chg s2⟩
  ·exact .inr ⟨hx,q _ H1 F2 R2 g3 it ln g2.chg s2⟩
theorem m5 {fx:List Nat}{g:M Vl}:∀ D r D',bb (oV g) D=some (r,D')→fE fx r.2:=by
 intro D r D' h
 obtain⟨⟨x,D1⟩,h1,h2⟩:=Option.bind_eq_some_iff.mp h
 unfold oV at h1
 obtain⟨p,h3,h4⟩:=Option.map_eq_some_iff.mp h1
 cases h4
 obtain⟨ds,h5,h6⟩:=Option.map_eq_some_iff.mp h2
 cases h6
 trivial
noncomputable def aT (lo:Int) (n:Nat):List Im:=(List.range n).map fun (k:Nat)=>Im.int (lo+(k:Int))
theorem u5 {H:Hp}{lo:Int}{n:Nat}:ItOk (Itr lo n) H [] (aT lo n) where
 go:=fun H' t k i d e=>by
  have hi:i<n:=by
   have:=(List.getElem?_eq_some_iff.mp e).1
   rwa [aT,List.length_map,List.length_range] at this
  refine⟨hi,fun x H'' ⟨e1,e2⟩=>?_⟩
  subst e1
  rw[aT,List.getElem?_map,List.getElem?_range hi] at e
  cases e
  exact⟨ap.refl _,e2⟩
 stop:=fun H' t k=>by
  show n≤_
  rw[aT,List.length_map,List.length_range]
  exact Nat.le_refl _
noncomputable def fF (i:Int):Prop := -1000000≤i∧i≤1000000
noncomputable instance (i:Int):Decidable (fF i):=inferInstanceAs (Decidable (_∧_))
@[simp] noncomputable def iR1 (g:M (List Opd)):MI:=fun D=>(g D).bind fun p=>(dG p.2 p.1).bind fun ds=>match ds with
 | [.im (.int j)]=>if fF j then some ((aT 0 j.toNat,none),p.2) else none
 | _=>none
theorem m6 {H:Hp}{d:Im}{vs:List V} (h:dH H [.im d] vs):∃ v,vs=[v]∧IsI H d v:=by
 obtain⟨v,r,rfl,⟨R,h1,_⟩,h2⟩:=h
 cases (show r=[] from h2)
 exact⟨v,rfl,h1⟩
theorem jE {H:Hp}{d e:Im}{vs:List V} (h:dH H [.im d,.im e] vs):∃ v u,vs=[v,u]∧IsI H d v∧IsI H e u:=by
 obtain⟨v,r,rfl,⟨R,h1,_⟩,h2⟩:=h
 obtain⟨u,rfl,h3⟩:=m6 h2
 exact⟨v,u,rfl,h1,h3⟩
theorem fG {tg a:Expr}{g:M (List Opd)}{p pos:Pos} (hg:Gl X "range") (hm:X.mg "range" = none) (ha:VA X [a] g) (hs:starEach [a] X.env=[(false,eval a X.env)]:=by rfl):VI X tg (.Call (.Name "range" p) [a] [] pos) (iR1 g):=by
 refine jC (rm hg hm ha hs) fun σ H Rk ⟨D,F,r,D',st,nd,hgg,q⟩=>?_
 obtain⟨⟨os,D1⟩,h1,h2⟩:=Option.bind_eq_some_iff.mp hgg
 obtain⟨ds,h3,h4⟩:=Option.bind_eq_some_iff.mp h2
 refine⟨D,F,os,D1,st,nd,h1,fun vs H1 F1 R1 st1 o1 s1=>?_⟩
 have rd:=o1.read st1 h3
 split at h4
 ·rename_i j
  split at h4
  ·rename_i hj
   cases h4
   obtain⟨v,rfl,e⟩:=m6 rd
   cases (show v=.int j from e)
   exact⟨j,rfl,by have:=hj.1;lia,by have:=hj.2;lia,q _ H1 F1 [] st1 u5 trivial (fun a ha=>nomatch ha) (by rw[List.append_nil];exact s1.less (List.Perm.refl _))⟩
  ·cases h4
 ·cases h4
theorem ip {fx:List Nat}{g:M (List Opd)}:∀ D r D',iR1 g D=some (r,D')→fE fx r.2:=by
 intro D r D' h
 obtain⟨⟨os,D1⟩,h1,h2⟩:=Option.bind_eq_some_iff.mp h
 obtain⟨ds,h3,h4⟩:=Option.bind_eq_some_iff.mp h2
 split at h4
 ·split at h4
  ·cases h4;trivial
  ·cases h4
 ·cases h4
noncomputable def VTs (X:Cx) (ifs:List Expr) (g:M Bool):Prop:=PTs X ifs (tVT g)
noncomputable def kYes:M Bool:=fun D=>some (true,D)
theorem gC:VTs X [] kYes:=by
 intro pins s σ H Q I ⟨D,F,b,D',st,nd,hg,q⟩
 cases hg
 exact t5 pins s σ H Q I (q H F st (Stp.perm nd (List.Perm.refl _)))
theorem m7 {c:Expr}{g:M Bool} (h:VT X c g):VTs X [c] g:=t7 h
@[simp] noncomputable def dm (caps:List Nat) (D:SD):SD:=caps.map fun i=>D.getD i none
noncomputable def cY:List Nat→SD→SD
 | [],D=>D
 | i::r,D=>cY r (match D[i]? with | some (some _)=>D.set i (some .jk) | _=>D)
@[simp] noncomputable def cC:List Nat→SD→SD→SD
 | i::r,o::C,D=>cC r C (D.set i o)
 | _,_,D=>D
noncomputable def bM (own : Nat) (tg : MG) (c : M Bool) (e : M Vl) : List Im → List Im → SD → Option (List Im × SD)
  | [], acc, C => some (acc, C)
  | x :: r, acc, C => (tg (.im x) (List.replicate own none ++ C)).bind fun D1 => (c D1).bind fun p => if p.1 = true then (e p.2).bind fun q => match q.1 with
      | .im d => if acc.length < 100000 then bM own tg c e r (acc ++ [d]) (q.2.drop own) else none
      | _ => none
    else bM own tg c e r acc (p.2.drop own)
@[simp] noncomputable def aU (own:Nat) (caps:List Nat) (gi:MI) (tg:MG) (c:M Bool) (e:M Vl):M Vl:=fun D=>(gi D).bind fun p=>(bM own tg c e p.1.1 [] (dm caps p.2)).map fun q=>(.lst q.1,rst p.1.2 (cC caps q.2 p.2))
noncomputable def gD (own n:Nat):List Nat:=(List.range n).map (·+own)
theorem u6 {D:SD}{i:Nat}{o:Option Vl} (h:D[i]?=some o):D.getD i none=o:=by rw[List.getD_eq_getElem?_getD,h];rfl
theorem ah.void {H:Hp}{D:SD}{σ:St}{F:List Addr} (st:ah H D σ F) (i:Nat):∃ F1 F2,ah H (match D[i]? with | some (some _)=>D.set i (some .jk) | _=>D) σ F1∧dE H (D.getD i none) (σ.getD i none) F2∧(F1++F2).Perm F:=by
 split
 ·rename_i d hd
  obtain⟨v,F1,F2,h1,h2,h3,h4⟩:=st.out hd
  refine⟨F2,F1,h3,?_,h4⟩
  rw[u6 hd,List.getD_eq_getElem?_getD,h1]
  exact⟨v,rfl,h2⟩
 ·rename_i hn
  refine⟨F,[],st,?_,by rw[List.append_nil]⟩
  have:D.getD i none=none:=by
   rw[List.getD_eq_getElem?_getD]
   cases e:D[i]? with
   | none=>rfl
   | some o=>
    cases o with
    | none=>rfl
    | some d=>exact absurd e (hn d)
  rw[this]
  exact rfl
theorem m8 {H:Hp}{σ:St}:∀ {caps:List Nat}{D:SD}{F:List Addr},caps.Nodup→ah H D σ F→∃ F1 F2,ah H (cY caps D) σ F1∧ah H (dm caps D) (caps.map fun i=>σ.getD i none) F2∧(F1++F2).Perm F
 | [],D,F,_,st=>⟨F,[],st,⟨rfl,rfl⟩,by rw[List.append_nil]⟩
 | i::r,D,F,nd,st=>by
  obtain⟨F1,F2,h1,h2,h3⟩:=st.void i
  have hn:=List.nodup_cons.mp nd
  obtain⟨F3,F4,g1,g2,g3⟩:=m8 (caps:=r) hn.2 h1
  refine⟨F3,F2++F4,g1,⟨_,_,F2,F4,rfl,h2,?_,rfl⟩,cX.trans ((List.Perm.append_left _ g3).trans (List.perm_append_comm.trans h3))⟩
  have e:dm r (match D[i]? with | some (some _)=>D.set i (some .jk) | _=>D)=dm r D:=by
   unfold dm
   refine List.map_congr_left fun j hj=>?_
   split
   ·rw[List.getD_eq_getElem?_getD,List.getD_eq_getElem?_getD,List.getElem?_set_ne]
    rintro rfl
    exact hn.1 hj
   ·rfl
  rw[e] at g2
  exact g2
theorem ah.putO {H:Hp}{D:SD}{σ:St}{F G:List Addr}{i:Nat}{o:Option Vl} (st:ah H D σ F) (h:dE H o (σ.getD i none) G):∃ F1 F2,ah H (D.set i o) σ F1∧(F1++F2).Perm (F++G):=by
 cases o with
 | some d=>
  obtain⟨v,e,w⟩:=h
  refine st.back w ?_
  rw[List.getD_eq_getElem?_getD] at e
  cases q:σ[i]? with
  | none=>rw[q] at e;cases e
  | some x=>rw[q] at e;rw[show x=some v from e]
 | none=>
  cases (show G=[] from h)
  rw[List.append_nil]
  by_cases hi:i<D.length
  ·cases q:D[i]? with
   | none=>exact absurd (List.getElem?_eq_none_iff.mp q) (by lia)
   | some x=>
    cases x with
    | none=>
     refine⟨F,[],?_,by rw[List.append_nil]⟩
     have:D.set i none=D:=by
      refine List.ext_getElem? fun j=>?_
      by_cases e:i=j
      ·subst e;rw[q,List.getElem?_set_self hi]
      ·rw[List.getElem?_set_ne e]
     rw[this]
     exact st
    | some d=>
     obtain⟨v,F1,F2,h1,h2,h3,h4⟩:=st.out q
     have gen:∀ {D:SD}{σ:St}{F:List Addr}{i:Nat},ah H D σ F→∃ F1 F2,ah H (D.set i none) σ F1∧(F1++F2).Perm F:=by
      intro D
      induction D with
      | nil=>intro σ F i st;exact⟨F,[],by simpa using st,by rw[List.append_nil]⟩
      | cons o D ih=>
       intro σ F i st
       obtain⟨x,r,A,B,rfl,s1,s2,rfl⟩:=st
       cases i with
       | zero=>exact⟨B,A,⟨x,r,[],B,rfl,rfl,s2,rfl⟩,List.perm_append_comm⟩
       | succ i=>
        obtain⟨C,E,c1,c2⟩:=ih (i:=i) s2
        refine⟨A++C,E,⟨x,r,A,C,rfl,s1,c1,rfl⟩,?_⟩
        rw[List.append_assoc]
        exact List.Perm.append_left _ c2
     exact gen st
  ·refine⟨F,[],?_,by rw[List.append_nil]⟩
   rw[List.set_eq_of_length_le (by lia)]
   exact st
theorem m9 {H:Hp}{σ:St}:∀ {caps:List Nat}{C D:SD}{F G:List Addr},ah H D σ F→ah H C (caps.map fun i=>σ.getD i none) G→∃ F1 F2,ah H (cC caps C D) σ F1∧(F1++F2).Perm (F++G)
 | [],C,D,F,G,st,_=>⟨F,G,by cases C<;>exact st,List.Perm.refl _⟩
 | i::r,[],D,F,G,st,h=>⟨F,G,st,List.Perm.refl _⟩
 | i::r,o::C,D,F,G,st,h=>by
  obtain⟨x,t,G1,G2,e,h1,h2,rfl⟩:=h
  cases e
  obtain⟨F1,A,g1,g2⟩:=st.putO h1
  obtain⟨F2,B,k1,k2⟩:=m9 (caps:=r) (C:=C) g1 h2
  refine⟨F2,B++A,k1,?_⟩
  rw[← List.append_assoc,← List.append_assoc]
  refine (List.Perm.append_right A k2).trans ?_
  rw[List.append_assoc]
  refine (List.Perm.append_left F1 List.perm_append_comm).trans ?_
  rw[← List.append_assoc]
  exact List.Perm.append_right _ g2
theorem u7:∀ {caps:List Nat}{C D:SD},caps.length=C.length→caps.Nodup→cC caps C (cY caps D)=cC caps C D:=by
 -- what is put over is forgotten
 have comm:∀ {r:List Nat}{C D:SD}{i:Nat}{o:Option Vl},i∉r→cC r C (D.set i o)=(cC r C D).set i o:=by
  intro r
  induction r with
  | nil=>intro C D i o _;cases C<;>rfl
  | cons j r ih=>
   intro C D i o h
   cases C with
   | nil=>rfl
   | cons c C=>
    have hj:i≠j:=fun e=>h (by rw[e];exact .head _)
    show cC r C ((D.set i o).set j c)=(cC r C (D.set j c)).set i o
    rw[List.set_comm _ _ hj,ih fun z=>h (.tail _ z)]
 have jcomm:∀ {r:List Nat}{D:SD}{i:Nat}{o:Option Vl},i∉r→cY r (D.set i o)=(cY r D).set i o:=by
  intro r
  induction r with
  | nil=>intro D i o _;rfl
  | cons j r ih=>
   intro D i o h
   have hj:i≠j:=fun e=>h (by rw[e];exact .head _)
   show cY r (match (D.set i o)[j]? with | some (some _)=>(D.set i o).set j (some .jk) | _=>D.set i o)=(cY r (match D[j]? with | some (some _)=>D.set j (some .jk) | _=>D)).set i o
   rw[List.getElem?_set_ne hj]
   cases D[j]? with
   | none=>exact ih fun z=>h (.tail _ z)
   | some q=>
    cases q with
    | none=>exact ih fun z=>h (.tail _ z)
    | some d=>
     show cY r ((D.set i o).set j (some .jk))=_
     rw[List.set_comm _ _ hj]
     exact ih fun z=>h (.tail _ z)
 intro caps
 induction caps with
 | nil=>intro C D _ _;cases C<;>rfl
 | cons i r ih=>
  intro C D hl nd
  have hn:=List.nodup_cons.mp nd
  cases C with
  | nil=>cases hl
  | cons c C=>
   have hl':r.length=C.length:=by simpa using hl
   show cC r C ((cY r (match D[i]? with | some (some _)=>D.set i (some .jk) | _=>D)).set i c)=cC r C (D.set i c)
   split
   ·rw[jcomm hn.1,List.set_set,← jcomm hn.1,ih hl' hn.2]
   ·rw[← jcomm hn.1,ih hl' hn.2]
theorem ng {H:Hp}{D:SD}{r:St}{F:List Addr} (h:ah H D r F):∀ {own:List Str},ah H (List.replicate own.length none++D) (own.map (fun _=>none)++r) F
 | []=>h
 | x::own=>⟨none,_,[],F,rfl,rfl,ng h (own:=own),rfl⟩
theorem jF {H:Hp}:∀ {n:Nat}{D:SD}{σ:St}{F:List Addr},ah H D σ F→∃ F1 F2,ah H (D.drop n) (σ.drop n) F1∧(F1++F2).Perm F
 | 0,D,σ,F,h=>⟨F,[],h,by rw[List.append_nil]⟩
 | n+1,[],σ,F,h=>by
  cases h.1
  exact⟨[],F,⟨rfl,rfl⟩,List.Perm.refl _⟩
 | n+1,o::D,σ,F,h=>by
  obtain⟨x,r,A,B,rfl,h1,h2,rfl⟩:=h
  obtain⟨F1,F2,g1,g2⟩:=jF (n:=n) h2
  exact⟨F1,F2++A,g1,by rw[← List.append_assoc];exact (List.Perm.append_right A g2).trans List.perm_append_comm⟩
theorem Stp.both {H H1:Hp}{F F1 R:List Addr} (a:Stp H F H1 (F1++R)):Stp H F H1 F1:=a.less (List.Perm.refl _)
theorem aj.snoc {H:Hp}:∀ {ds:List Im}{vs:List V}{d:Im}{v:V},aj H ds vs→IsI H d v→aj H (ds++[d]) (vs++[v])
 | [],vs,d,v,h,w=>by cases (show vs=[] from h);exact⟨v,[],rfl,w,rfl⟩
 | e::ds,vs,d,v,h,w=>by
  obtain⟨u,r,rfl,h1,h2⟩:=h
  exact⟨u,r++[v],rfl,h1,h2.snoc w⟩
theorem nh {own:List Str}{caps:List Nat}{gi:MI}{gt:MG}{gc:M Bool}{ge:M Vl}{σ:St}{H:Hp}{Q:VK} (nd:caps.Nodup) (h:tV (aU own.length caps gi gt gc ge) σ H Q):
  jm own caps (tI gi) (fun _=>tG (gD own.length caps.length) gt) (fun _=>tVT gc) (fun _=>tV ge) σ H Q:=by
 obtain⟨D,F,r,D',st,ndF,hgg,q⟩:=h
 obtain⟨⟨⟨xs,o⟩,D1⟩,h1,h2⟩:=Option.bind_eq_some_iff.mp hgg
 obtain⟨⟨ds,C'⟩,h3,h4⟩:=Option.map_eq_some_iff.mp h2
 cases h4
 refine⟨D,F,(xs,o),D1,st,ndF,h1,fun J H1 F1 R st1 it ln cR s1 Y=>?_⟩
 obtain⟨Fo,Fc,so,sc,pm⟩:=m8 nd st1
 have s2:Stp H F H1 (Fc++(Fo++R)):=s1.permR (by
  refine (List.Perm.append_right R pm.symm).trans ?_
  rw[List.append_assoc]
  exact cX)
 have nd2:=List.nodup_append.mp s2.nd
 have cO:∀ x∈Fo++R,Chg H1 x:=fun x hx=>by
  rcases List.mem_append.mp hx with hx | hx
  ·exact so.chg x hx
  ·exact cR x hx
 have keepO:∀ {H2:Hp}{F2:List Addr},Stp H1 Fc H2 F2→∀ a∈Fo++R,∀ u,H1 a=some u→H2 a=some u:=fun s a ha u e=>s.keep a u e fun h=>nd2.2.2 a h a ha rfl
 refine⟨fun i m ys H'=>m+i=xs.length∧∃ acc C Fc',ah H' C (caps.map fun i=>σ.getD i none) Fc'∧C.length=caps.length∧Stp H1 Fc H' Fc'∧aj H' acc ys∧bM own.length gt gc ge (xs.drop i) acc C=some (ds,C'),
  ⟨xs.length,rfl,[],dm caps D1,Fc,sc,by rw[dm,List.length_map],Stp.perm nd2.1 (List.Perm.refl _),rfl,h3⟩,?_⟩
 rintro i m ys H' ⟨hm,acc,C,Fc',sC,lC,s',hys,hw⟩
 by_cases hlt:i<xs.length
 ·obtain⟨hgo,hy⟩:=it.go H' s'.tup (fun a ha=>keepO s' a (List.mem_append_right _ ha)) i xs[i] (by simp[hlt])
  rw[List.drop_eq_getElem_cons hlt,bM] at hw
  obtain⟨D3,w1,w2⟩:=Option.bind_eq_some_iff.mp hw
  obtain⟨⟨b,D4⟩,w3,w4⟩:=Option.bind_eq_some_iff.mp w2
  refine .inr ⟨hgo,fun ys2 H2=>(m - 1)+(i+1)=xs.length∧∃ acc C Fc',ah H2 C (caps.map fun i=>σ.getD i none) Fc'∧C.length=caps.length∧Stp H1 Fc H2 Fc'∧aj H2 acc ys2∧bM own.length gt gc ge (xs.drop (i+1)) acc C=some (ds,C'),fun ys2 H2 h=>⟨m - 1,by lia,h⟩,fun x H2 hx=>?_⟩
  obtain⟨sm,isx⟩:=hy x H2 hx
  have sC2:=sC.mono sm.tupS fun a _ o e=>sm a o e
  have s2':=s'.same sm
  have hys2:=hys.mono sm.tupS.tup
  refine⟨List.replicate own.length none++C,Fc',.im xs[i],[],D3,ng sC2,⟨isx,rfl⟩,by rw[List.append_nil];exact s2'.nd,w1,fun σ3 H3 F3 fx3 st3 sg=>⟨fun j v hj=>?_,?_⟩⟩
  ·-- captured names stay
   have hlen:own.length≤j:=by
    by_cases hjo:j<own.length
    ·rw[ci,List.getElem?_append_left (by simpa using hjo),List.getElem?_map] at hj
     cases e:own[j]? with
     | none=>rw[e] at hj;cases hj
     | some z=>rw[e] at hj;cases hj
    ·lia
   have hlt2:j<own.length+caps.length:=by
    have:=(List.getElem?_eq_some_iff.mp hj).1
    rwa [ci,List.length_append,List.length_map,List.length_map] at this
   have hm:j∈gD own.length caps.length:=List.mem_map.mpr ⟨j - own.length,List.mem_range.mpr (by lia),by lia⟩
   exact (fx3.2 j hm).trans hj
  ·have s3:Stp H1 Fc H3 F3:=s2'.seq (by rw[List.append_nil] at sg;exact sg)
   have hys2:=hys2.mono sg.tup.tup
   have σdrop:σ3.drop own.length=caps.map fun i=>σ.getD i none:=by
    have hl3:=st3.len
    refine List.ext_getElem? fun j=>?_
    by_cases hj:j<caps.length
    ·have hm:j+own.length∈gD own.length caps.length:=List.mem_map.mpr ⟨j,List.mem_range.mpr hj,rfl⟩
     have:=fx3.2 _ hm
     rw[List.getElem?_drop,Nat.add_comm,this,ci,List.getElem?_append_right (by simp),List.length_map,Nat.add_sub_cancel]
    ·have l1:σ3.length≤own.length+caps.length:=by
      rw[fx3.1,ci,List.length_append,List.length_map,List.length_map]
      exact Nat.le_refl _
     rw[List.getElem?_eq_none (by rw[List.length_drop];lia),List.getElem?_eq_none (by rw[List.length_map];lia)]
   have lσ:σ3.length=own.length+caps.length:=by rw[fx3.1,ci,List.length_append,List.length_map,List.length_map]
   refine⟨D3,F3,b,D4,st3,s3.nd,w3,fun H4 F4 st4 s4=>?_⟩
   have s5:=s3.seq s4
   dsimp only at w4 ⊢
   cases b with
   | false=>
    rw[if_neg Bool.false_ne_true] at w4 ⊢
    obtain⟨F5,G5,st5,pm5⟩:=jF (n:=own.length) st4
    rw[σdrop] at st5
    exact⟨by lia,acc,D4.drop own.length,F5,st5,by rw[List.length_drop,st4.len,lσ];lia,s5.less pm5,hys2.mono s4.tup.tup,w4⟩
   | true=>
    rw[if_pos rfl] at w4 ⊢
    obtain⟨⟨v,D5⟩,w5,w6⟩:=Option.bind_eq_some_iff.mp w4
    dsimp only at w6
    split at w6
    ·rename_i d
     split at w6
     ·rename_i hl
      refine⟨D4,F4,.im d,D5,st4,s5.nd,w5,fun u H5 F5 R5 st5 ow s6=>?_⟩
      obtain⟨iu,rfl⟩:=ow
      rw[List.append_nil] at s6
      have hacc:=(hys2.mono s4.tup.tup).mono s6.tup.tup
      refine⟨Nat.lt_of_le_of_lt (show ys.length≤100000 by rw[← hacc.length];lia) (by decide),?_⟩
      obtain⟨F6,G6,st6,pm6⟩:=jF (n:=own.length) st5
      rw[σdrop] at st6
      exact⟨by lia,acc++[d],D5.drop own.length,F6,st6,by rw[List.length_drop,st5.len,lσ];lia,(s5.seq s6).less pm6,hacc.snoc iu,w6⟩
     ·cases w6
    ·cases w6
 ·have hi:i=xs.length:=by lia
  subst hi
  refine .inl ⟨it.stop H' s'.tup (fun a ha=>keepO s' a (List.mem_append_right _ ha)),fun Dn hDn=>?_⟩
  rw[List.drop_of_length_le (Nat.le_refl _),bM] at hw
  cases hw
  have so':ah H' (cY caps D1) σ Fo:=so.mono s'.tup fun a ha=>keepO s' a (List.mem_append_left _ ha)
  obtain⟨F4,G4,st4,pm4⟩:=m9 so' sC
  rw[u7 (by rw[lC]) nd] at st4
  have ln':gz H' σ R o:=by
   cases o with
   | none=>trivial
   | some p=>
    obtain⟨i,d⟩:=p
    obtain⟨v,e1,e2⟩:=ln
    exact⟨v,e1,e2.mono s'.tup fun a ha=>keepO s' a (List.mem_append_right _ ha)⟩
  obtain⟨F5,G5,st5,pm5⟩:=jD (R:=R) st4 ln'
  have sm:ap H' (upd H' Dn (.lst ys)):=(ap.refl H').upd hDn
  have s5:Stp H F H' F5:=(s2.trans s' cO).less (C:=G5++G4) (by
   rw[← List.append_assoc]
   refine (List.Perm.append_right G4 pm5).trans ?_
   rw[List.append_assoc]
   refine (List.Perm.append_left F4 List.perm_append_comm).trans ?_
   rw[← List.append_assoc]
   refine (List.Perm.append_right R pm4).trans ?_
   rw[List.append_assoc]
   exact cX)
  exact q _ _ F5 [Dn] (st5.mono sm.tupS fun a _ o e=>sm a o e) ⟨Dn,ys,rfl,aO,hys.mono sm.tupS.tup,rfl⟩ (s5.add hDn st5.chg)
theorem iq {tg iter elt:Expr}{ifs:List Expr}{scope:Scope}{pos:Pos}{own:List Str}{caps:List Nat}{gi:MI}{gt:MG}{gc:M Bool}{ge:M Vl} (hc:X.calm=true) (S:CompScope X scope own caps) (nd:caps.Nodup) (hi:VI X tg iter gi)
  (hg:∀ Y,VG (X.blk (bz X own caps) scope Y) (gD own.length caps.length) tg gt) (ht:∀ Y,VTs (X.blk (bz X own caps) scope Y) ifs gc) (he:∀ Y,VE (X.blk (bz X own caps) scope Y) elt ge)
  (hs:∀ x,foldedSetIterable iter X.env x=pure x:=by intro _;rfl):VE X (.ListComp elt [⟨tg,iter,ifs,0⟩] scope pos) (aU own.length caps gi gt gc ge):=
 aZ (uc hc S hi hg ht he hs) fun σ H Q h=>nh nd h
end
end L2
namespace L2
open PySem PySem.Spec PyProof.Rows
@[simp] noncomputable def cK (fix:List Nat):List Vl→SD→Nat→List Vl
 | d::ds,o::D,j=>(if d.cp=true then d else if j∈fix then o.getD .jk else .jk)::cK fix ds D (j+1)
 | d::ds,[],j=>(if d.cp=true then d else .jk)::cK fix ds [] (j+1)
 | [],_,_=>[]
@[simp] noncomputable def bN (n m:Nat) (fix:List Nat) (g:MS):Fn:=fun ds=>if ds.length=n then match g (ds.map some++List.replicate (m - n) none) with
 | some (.rt r,D)=>some (r,cK fix ds D 0)
 | some (.nx,D)=>some (.im .non,cK fix ds D 0)
 | _=>none else none
theorem ni {H:Hp}:∀ {ds:List Vl}{vs:List V}{F:List Addr}{m:Nat},aA H ds vs F→ah H (ds.map some++List.replicate m none) (vs.map some++List.replicate m none) F
 | [],vs,F,m,h=>by
  obtain⟨rfl,rfl⟩:=h
  show ah H (List.replicate m none) (List.replicate m none) []
  induction m with
  | zero=>exact⟨rfl,rfl⟩
  | succ m ih=>exact⟨none,_,[],[],rfl,rfl,ih,rfl⟩
 | d::ds,vs,F,m,h=>by
  obtain⟨v,r,F1,F2,rfl,h1,h2,rfl⟩:=h
  exact⟨some v,_,F1,F2,rfl,⟨v,rfl,h1⟩,ni h2,rfl⟩
theorem jG {H H':Hp}{fix:List Nat} (t:StayS H H'):∀ {ds:List Vl}{vs:List V}{F0:List Addr}{D:SD}{σ:St}{F:List Addr}{j0:Nat},aA H ds vs F0→ah H' D σ F→(∀ (j:Nat) (v:V),(j0+j)∈fix→vs[j]?=some v→σ[j]?=some (some v))→
  ∃ R G,aA H' (cK fix ds D j0) vs R∧(R++G).Perm F
 | [],vs,F0,D,σ,F,j0,h,st,_=>⟨[],F,by unfold cK;exact⟨h.1,rfl⟩,List.Perm.refl _⟩
 | d::ds,vs,F0,[],σ,F,j0,h,st,k=>by
  obtain⟨v,r,A,B,rfl,h1,h2,rfl⟩:=h
  obtain⟨rfl,rfl⟩:=st
  obtain⟨R,G,g1,g2⟩:=jG (D:=[]) (σ:=[]) (F:=[]) (j0:=j0+1) t h2 ⟨rfl,rfl⟩ fun j v hj hv=>by
   have:=k (j+1) v (by rw[show j0+(j+1)=j0+1+j by omega];exact hj) (by simpa using hv)
   simp at this
  rw[cK]
  refine⟨R,G,⟨v,r,[],R,rfl,?_,g1,rfl⟩,g2⟩
  split
  ·rename_i hc
   have:=h1.mono t fun a ha=>by rw[h1.cp hc] at ha;cases ha
   rw[h1.cp hc] at this
   exact this
  ·exact rfl
 | d::ds,vs,F0,o::D,σ,F,j0,h,st,k=>by
  obtain⟨v,r,A,B,rfl,h1,h2,rfl⟩:=h
  obtain⟨x,s,C,E,rfl,s1,s2,rfl⟩:=st
  obtain⟨R,G,g1,g2⟩:=jG (D:=D) (σ:=s) (j0:=j0+1) t h2 s2 fun j v hj hv=>by
   have:=k (j+1) v (by rw[show j0+(j+1)=j0+1+j by omega];exact hj) (by simpa using hv)
   simpa using this
  rw[cK]
  split
  ·rename_i hc
   have hm:=h1.mono t fun a ha=>by rw[h1.cp hc] at ha;cases ha
   rw[h1.cp hc] at hm
   refine⟨R,G++C,⟨v,r,[],R,rfl,hm,g1,rfl⟩,?_⟩
   rw[← List.append_assoc]
   exact (List.Perm.append_right C g2).trans List.perm_append_comm
  ·split
   ·rename_i hf
    have hx:x=some v:=by
     have:=k 0 v hf rfl
     simpa using this
    subst hx
    cases o with
    | none=>
     refine⟨R,G++C,⟨v,r,[],R,rfl,rfl,g1,rfl⟩,?_⟩
     rw[← List.append_assoc]
     exact (List.Perm.append_right C g2).trans List.perm_append_comm
    | some e=>
     obtain⟨v',e1,w⟩:=s1
     cases e1
     refine⟨C++R,G,⟨v,r,C,R,rfl,w,g1,rfl⟩,?_⟩
     rw[List.append_assoc]
     exact List.Perm.append_left _ g2
   ·refine⟨R,G++C,⟨v,r,[],R,rfl,rfl,g1,rfl⟩,?_⟩
    rw[← List.append_assoc]
    exact (List.Perm.append_right C g2).trans List.perm_append_comm
section
variable {P:Program}{w:World}{K:PySem.W.Frag}{mg:Str→Option Value}{base:Heap}
theorem fnV {x qual:Str}{st:Stmt}{f:Addr}{fd:FuncData}{N ps:List Str}{k n:Nat}{fix:List Nat}{g:MS} (F:Fun K x qual st f fd) (S:FnScope N ps (ay st)) (hn:ps.length=n) (hfx:∀ i∈fix,i<n)
  (hb:∀ (cdv:Value) (A:Around) (outer:List Env) (s:Shared) (H:Hp) (E:XK),Room k (A.deeper (envOfC qual (ay st) s.heap.objs.size f cdv))→VSs (d7 CX0 P w K mg base N qual (ay st) f cdv A outer s H E).nox fix (bw st) g):
  FnOk P w K mg base CX0 (k+1) f fd ps (spV n (bN n N.length fix g)):=by
 refine F.ok S (fun vs H Q E h=>h.1.trans hn.symm) (fun cdv A outer s H vs Q E hr h=>⟨_,hb cdv A outer s H E hr,?_⟩)
 obtain⟨hl,ds,F0,r,outs,ow,nd,hg,q⟩:=h
 have hdl:ds.length=n:=ow.length.trans hl
 unfold bN at hg
 rw[if_pos hdl] at hg
 have st:=ni (m:=N.length - n) ow
 have es:cU N vs=vs.map some++List.replicate (N.length - n) none:=by unfold cU;rw[hl]
 rw[es]
 have fin:∀ {σ':St}{H':Hp}{F':List Addr}{D':SD}{v:V}{R:List Addr},cK fix ds D' 0=outs→aB fix (vs.map some++List.replicate (N.length - n) none) σ'→ah H' D' σ' F'→Own H' r v R→Stp H F0 H' (F'++R)→Q v H':=fun {σ' H' F' D' v R} eo fx st' wr s'=>by
  obtain⟨R2,G,g1,g2⟩:=jG (fix:=fix) (j0:=0) s'.tup ow st' fun j v hj hv=>by
   rw[Nat.zero_add] at hj
   rw[fx.2 j hj,List.getElem?_append_left (by rw[List.length_map];exact (List.getElem?_eq_some_iff.mp hv).1),List.getElem?_map,hv]
   rfl
  rw[eo] at g1
  refine q v H' R R2 wr g1 (s'.less (C:=G) ?_)
  rw[List.append_assoc]
  exact (List.Perm.append_left R g2).trans List.perm_append_comm
 split at hg
 ·rename_i r' D' e
  cases hg
  exact⟨_,F0,.rt r,D',st,nd,e,fun v σ' H' F' R fx st' wr s'=>fin rfl fx st' wr s'⟩
 ·rename_i D' e
  cases hg
  exact⟨_,F0,.nx,D',st,nd,e,fun σ' H' F' fx st' s'=>fin rfl fx st' ⟨rfl,rfl⟩ (by rw[List.append_nil];exact s')⟩
 ·cases hg
end
noncomputable def Out (H:Hp) (d:Vl) (Q:VK):Prop:=∀ v H' R,ap H H'→Own H' d v R→R.Nodup→(∀ a∈R,H a=none)→Q v H'
theorem Out.imS {H H':Hp}{d:Im}{Q:VK}{v:V} (q:Out H (.im d) Q) (s:ap H H') (h:IsI H' d v):Q v H':=q v H' [] s ⟨h,rfl⟩ List.nodup_nil (fun a ha=>nomatch ha)
theorem Out.i {H:Hp}{d:Im}{Q:VK}{v:V} (q:Out H (.im d) Q) (h:IsI H d v):Q v H:=q.imS (ap.refl H) h
theorem Out.l {H:Hp}{ds:List Im}{xs:List V}{Q:VK}{p:Addr} (q:Out H (.lst ds) Q) (hp:H p=none) (h:aj H ds xs):Q (.ref p) (upd H p (.lst xs)):=by
 have s:ap H (upd H p (.lst xs)):=(ap.refl H).upd hp
 exact q _ _ [p] s ⟨p,xs,rfl,aO,h.mono s.tupS.tup,rfl⟩ (List.pairwise_singleton _ _) fun a ha=>by rw[List.mem_singleton.mp ha];exact hp
theorem Out.t {H:Hp}{ds:List Im}{xs:List V}{Q:VK}{p:Addr} (q:Out H (.im (.tup ds)) Q) (hp:H p=none) (h:aj H ds xs):Q (.ref p) (upd H p (.tup xs)):=by
 have s:ap H (upd H p (.tup xs)):=(ap.refl H).upd hp
 exact q.imS s ⟨p,xs,rfl,aO,h.mono s.tupS.tup⟩
section
variable {X:Cx}
theorem OpR.imp {f:Value→Value→Sem Value}{r r':R2} (h:OpR X f r) (i:∀ x y H Q,r' x y H Q→r x y H Q):OpR X f r':=fun pins s σ H x y v u Q I rx ry hh=>h pins s σ H x y v u Q I rx ry (i x y H Q hh)
theorem aP.imp {f:Value}{r r':List V→Hp→VK→Prop} (h:aP X f r) (i:∀ xs H Q,r' xs H Q→r xs H Q):aP X f r':=fun pins s σ H xs us Q I rx hh=>h pins s σ H xs us Q I rx (i xs H Q hh)
theorem IxR.imp {r r':R2} (h:IxR X r) (i:∀ x y H Q,r' x y H Q→r x y H Q):IxR X r':=fun e1 e2 pins s σ H x y v u Q I rx ry hh=>h e1 e2 pins s σ H x y v u Q I rx ry (i x y H Q hh)
theorem Rdb.i {H:Hp}{d:Im}{v:V} (h:Rdb H (.im d) v):IsI H d v:=h.elim fun _ w=>w.1
end
end L2
namespace L2
open PySem PySem.Spec PyProof.Rows
noncomputable abbrev Op2:=Vl→Vl→Option Vl
@[simp] noncomputable def cD (C:Int→Int→Bool) (g:Int→Int→Im):Op2:=fun a b=>match a,b with
 | .im (.int i),.im (.int j)=>if C i j=true then some (.im (g i j)) else none
 | _,_=>none
theorem nj {C:Int→Int→Bool}{g:Int→Int→Im}{a b d:Vl} (h:cD C g a b=some d):∃ i j,a=.im (.int i)∧b=.im (.int j)∧C i j=true∧d=.im (g i j):=by
 unfold cD at h
 split at h
 ·rename_i i j
  split at h
  ·rename_i hc
   cases h
   exact⟨i,j,rfl,rfl,hc,rfl⟩
  ·cases h
 ·cases h
section
variable {X:Cx}
theorem ir {f:Value→Value→Sem Value}{C:Int→Int→Prop}{B:Int→Int→Bool}{g:Int→Int→V}{h:Int→Int→Im} (o:OpR X f (rI C g)) (hB:∀ i j,B i j=true→C i j) (hg:∀ H i j,IsI H (h i j) (g i j)):OpV X f (cD B h):=
 o.imp fun x y H Q ⟨d1,d2,d,r1,r2,e,q⟩=>by
  obtain⟨i,j,rfl,rfl,hc,rfl⟩:=nj e
  exact⟨i,j,r1.i,r2.i,hB i j hc,Out.i q (hg H i j)⟩
theorem iw {f:Value→Value→Sem Value}{g:Int→Int→V}{h:Int→Int→Im} (o:OpR X f (rI0 g)) (hg:∀ H i j,IsI H (h i j) (g i j)):OpV X f (cD (fun _ _=>true) h):=
 o.imp fun x y H Q ⟨d1,d2,d,r1,r2,e,q⟩=>by
  obtain⟨i,j,rfl,rfl,hc,rfl⟩:=nj e
  exact⟨i,j,r1.i,r2.i,Out.i q (hg H i j)⟩
@[simp] noncomputable def vSub:Op2:=cD (fun _ _=>true) fun i j=>.int (i - j)
noncomputable def bO (i j:Int):Bool:=!(decide (Builtin.Int.intBits i > shortFactorBits) && decide (Builtin.Int.intBits j > shortFactorBits) && Builtin.Int.intTooBig (Builtin.Int.intBits i+Builtin.Int.intBits j))
@[simp] noncomputable def vMul:Op2:=cD bO fun i j=>.int (i * j)
@[simp] noncomputable def vDiv:Op2:=cD (fun _ j=>decide (0<j∧j<1073741824)) fun i j=>.int (i / j)
@[simp] noncomputable def vMod:Op2:=cD (fun _ j=>decide (0<j)) fun i j=>.int (i % j)
@[simp] noncomputable def vPow:Op2:=cD (fun i j=>decide (0≤j∧j≤1000000∧i.natAbs<2 ^ 64)) fun i j=>.int (i ^ j.toNat)
@[simp] noncomputable def vLe:Op2:=cD (fun _ _=>true) fun i j=>.bl (decide (i≤j))
@[simp] noncomputable def vGt:Op2:=cD (fun _ _=>true) fun i j=>.bl (decide (j<i))
@[simp] noncomputable def vGe:Op2:=cD (fun _ _=>true) fun i j=>.bl (decide (j≤i))
theorem jH:OpV X (binaryOp .Sub) vSub:=iw rF fun _ _ _=>rfl
theorem cZ:OpV X (binaryOp .Mult) vMul:=ir uM (fun i j h=>by unfold bO at h;unfold IntMulOk;rw[Bool.not_eq_true'] at h;rw[h];exact Bool.false_ne_true) fun _ _ _=>rfl
theorem gE:OpV X (binaryOp .FloorDiv) vDiv:=ir rG (fun i j h=>show 0<j∧j<1073741824 from of_decide_eq_true h) fun _ _ _=>rfl
theorem cn:OpV X (binaryOp .Mod) vMod:=ir rH (fun i j h=>of_decide_eq_true h) fun _ _ _=>rfl
theorem ix:OpV X (binaryOp .Pow) vPow:=ir rJ (fun i j h=>show 0≤j∧j≤1000000∧i.natAbs<2 ^ 64 from of_decide_eq_true h) fun _ _ _=>rfl
theorem iy:OpV X (compareOp .LtE) vLe:=iw rL fun _ _ _=>rfl
theorem jI:OpV X (compareOp .Gt) vGt:=iw rM fun _ _ _=>rfl
theorem u8:OpV X (compareOp .GtE) vGe:=iw rN fun _ _ _=>rfl
theorem u9:OpR X (binaryOp .Add) (fun x y H Q=>∃ a b ys,x=.ref a∧y=.ref b∧SqT X.K H a []∧SqT X.K H b ys∧Q (.ref b) H):=by
 intro pins s σ H x y v u Q I rx ry h
 obtain⟨a,b,ys,rfl,rfl,ha,hb,q⟩:=h
 cases rx
 cases ry
 obtain⟨its,r1,p1,_⟩:=I.tuple ha
 obtain⟨its2,r2,p2,_⟩:=I.tuple hb
 have e:its=[]:=r1.nil_iff.mpr rfl
 subst e
 obtain⟨⟨cls,dd,data,sl⟩,ho,hc,n,hd⟩:=id p1
 obtain⟨⟨cls2,dd2,data2,sl2⟩,ho2,hc2,n2,hd2⟩:=id p2
 simp only at hc hd hc2 hd2
 subst hc hd hc2 hd2
 exact concat_meets ⟨_,ho,rfl⟩ ⟨_,ho2,rfl⟩ noFill_tuple_add seq_tuple_add PySem.F.slot_tuple_add PySem.F.entry_tuple_add (PySem.F.args_tuple_add_2 _ _) (tuple_addW0 a b _ _ n n2 dd dd2 sl sl2 rfl) ⟨ho,ho2,.ref b,H,I,rfl,q⟩
@[simp] noncomputable def vAdd:Op2:=fun a b=>match a,b with
 | .im (.int i),.im (.int j)=>some (.im (.int (i+j)))
 | .im (.tup x),.im (.tup y)=>if x.length+y.length≤100000 then some (.im (.tup (x++y))) else none
 | .lst x,.lst y=>if x.length+y.length≤100000 then some (.lst (x++y)) else none
 | .im (.str x),.im (.str y)=>if x.length+y.length≤100000 then some (.im (.str (x++y))) else none
 | _,_=>none
theorem aj.app {H:Hp}:∀ {a b:List Im}{x y:List V},aj H a x→aj H b y→aj H (a++b) (x++y)
 | [],b,x,y,h,k=>by cases (show x=[] from h);exact k
 | d::a,b,x,y,h,k=>by
  obtain⟨v,r,rfl,h1,h2⟩:=h
  exact⟨v,r++y,rfl,h1,h2.app k⟩
theorem aj.nil {H:Hp}{a:List Im} (h:aj H a []):a=[]:=by
 cases a with
 | nil=>rfl
 | cons d a=>obtain⟨_,_,e,_⟩:=h;cases e
theorem bT:OpV X (binaryOp .Add) vAdd:=by
 refine (rE.or (u9.or (sN.or (tB.or rV)))).imp fun x y H Q ⟨d1,d2,d,r1,r2,e,q⟩=>?_
 unfold vAdd at e
 split at e
 ·cases e
  exact .inl ⟨_,_,r1.i,r2.i,Out.i q rfl⟩
 ·rename_i a b
  split at e
  ·rename_i hl
   cases e
   obtain⟨p,xs,rfl,h1,h2⟩:=r1.i
   obtain⟨p',ys,rfl,h3,h4⟩:=r2.i
   refine .inr ?_
   by_cases hx:xs=[]
   ·subst hx
    cases h2.nil
    exact .inl ⟨p,p',ys,rfl,rfl,SqT.of h1,SqT.of h3,Out.i q ⟨p',ys,rfl,h3,h4⟩⟩
   ·refine .inr (.inl ⟨p,p',xs,ys,rfl,rfl,SqT.of h1,SqT.of h3,hx,eB (by rw[← h2.length,← h4.length];exact hl),fun hy=>?_,fun hy n hn=>Out.t q hn (h2.app h4)⟩)
    subst hy
    cases h4.nil
    rw[List.append_nil] at q
    exact Out.i q ⟨p,xs,rfl,h1,h2⟩
  ·cases e
 ·rename_i a b
  split at e
  ·rename_i hl
   cases e
   obtain⟨_,p,xs,rfl,h1,h2,_⟩:=r1
   obtain⟨_,p',ys,rfl,h3,h4,_⟩:=r2
   exact .inr (.inr (.inr (.inl ⟨p,p',xs,ys,rfl,rfl,h1,h3,eB (by rw[← h2.length,← h4.length];exact hl),fun n hn=>Out.l q hn (h2.app h4)⟩)))
  ·cases e
 ·rename_i a b
  split at e
  ·rename_i hl
   cases e
   exact .inr (.inr (.inr (.inr ⟨a,b,r1.i,r2.i,eB hl,Out.i q rfl⟩)))
  ·cases e
 ·cases e
theorem va {s:Shared} (n:Nat) {A:Around}{x y:Im}{u v:Value} (kx:Im.pl n x=true) (ky:Im.pl n y=true) (hu:A.units+n+2<cLine) (hx:ImV s.heap x u) (hy:ImV s.heap y v):SeqAt.RcAt A s u v (aq x y):=by
 cases x with
 | non=>
  cases (show u=.none from hx)
  cases y with
  | non=>cases (show v=.none from hy);exact SeqAt.RcAt.none_none
  | bl b=>cases (show v=.bool b from hy);exact SeqAt.RcAt.none_bool b
  | int j=>obtain⟨t,rfl⟩:=hy;exact SeqAt.RcAt.none_int j t
  | str z=>obtain⟨t,rfl⟩:=hy;exact SeqAt.RcAt.none_str z t
  | tup ds=>obtain⟨a,o,items,m,rfl,h1,h2,h3,_⟩:=hy;exact SeqAt.RcAt.none_tuple ⟨o,h1,h2,m,h3⟩ (by omega)
  | fn a=>cases n<;>cases ky
  | fl a=>cases n<;>cases ky
 | bl b=>
  cases (show u=.bool b from hx)
  cases y with
  | non=>cases (show v=.none from hy);exact SeqAt.RcAt.bool_none b
  | bl c=>cases (show v=.bool c from hy);exact SeqAt.RcAt.bool_bool b c
  | int j=>obtain⟨t,rfl⟩:=hy;exact SeqAt.RcAt.bool_int b j t
  | str z=>obtain⟨t,rfl⟩:=hy;exact SeqAt.RcAt.bool_str b z t
  | tup ds=>obtain⟨a,o,items,m,rfl,h1,h2,h3,_⟩:=hy;exact SeqAt.RcAt.bool_tuple b ⟨o,h1,h2,m,h3⟩ (by omega)
  | fn a=>cases n<;>cases ky
  | fl a=>cases n<;>cases ky
 | int i=>
  obtain⟨t0,rfl⟩:=hx
  cases y with
  | non=>cases (show v=.none from hy);exact SeqAt.RcAt.int_none i t0
  | bl c=>cases (show v=.bool c from hy);exact SeqAt.RcAt.int_bool i t0 c
  | int j=>obtain⟨t,rfl⟩:=hy;exact SeqAt.RcAt.int_int i t0 j t
  | str z=>obtain⟨t,rfl⟩:=hy;exact SeqAt.RcAt.int_str i t0 z t
  | tup ds=>obtain⟨a,o,items,m,rfl,h1,h2,h3,_⟩:=hy;exact SeqAt.RcAt.int_tuple i t0 ⟨o,h1,h2,m,h3⟩ (by omega)
  | fn a=>cases n<;>cases ky
  | fl a=>cases n<;>cases ky
 | str i=>
  obtain⟨t0,rfl⟩:=hx
  cases y with
  | non=>cases (show v=.none from hy);exact SeqAt.RcAt.str_none i t0
  | bl c=>cases (show v=.bool c from hy);exact SeqAt.RcAt.str_bool i t0 c
  | int j=>obtain⟨t,rfl⟩:=hy;exact SeqAt.RcAt.str_int i t0 j t
  | str z=>obtain⟨t,rfl⟩:=hy;exact SeqAt.RcAt.str_str i t0 z t
  | tup ds=>obtain⟨a,o,items,m,rfl,h1,h2,h3,_⟩:=hy;exact SeqAt.RcAt.str_tuple i t0 ⟨o,h1,h2,m,h3⟩ (by omega)
  | fn a=>cases n<;>cases ky
  | fl a=>cases n<;>cases ky
 | fn a=>cases n<;>cases kx
 | fl a=>cases n<;>cases kx
 | tup ds=>
  cases n with
  | zero=>cases kx
  | succ n=>
  obtain⟨a,o,items,m,rfl,h1,h2,h3,h4⟩:=hx
  have ta:s.heap.IsTuple a items:=⟨o,h1,h2,m,h3⟩
  cases y with
  | non=>cases (show v=.none from hy);exact SeqAt.RcAt.tuple_none ta (by omega)
  | bl c=>cases (show v=.bool c from hy);exact SeqAt.RcAt.tuple_bool c ta (by omega)
  | int j=>obtain⟨t,rfl⟩:=hy;exact SeqAt.RcAt.tuple_int j t ta (by omega)
  | str z=>obtain⟨t,rfl⟩:=hy;exact SeqAt.RcAt.tuple_str z t ta (by omega)
  | fn a=>cases ky
  | fl a=>cases ky
  | tup es=>
   obtain⟨b,o',items',m',rfl,g1,g2,g3,g4⟩:=hy
   have tb:s.heap.IsTuple b items':=⟨o',g1,g2,m',g3⟩
   have l1:=h4.length
   have l2:=g4.length
   have l3:items.toList.length=items.size:=by simp
   have l4:items'.toList.length=items'.size:=by simp
   rw[l3] at l1
   rw[l4] at l2
   have q:=SeqAt.RcAt.tuples (A:=A) (e:=fun j=>aq (ds.getD j .non) (es.getD j .non)) ta tb (by omega) fun j j1 j2=>by
    obtain⟨d1,e1,r1⟩:=h4.get (j:=j) (v:=items[j]) (by rw[Array.getElem?_toList];simp[j1])
    obtain⟨d2,e2,r2⟩:=g4.get (j:=j) (v:=items'[j]) (by rw[Array.getElem?_toList];simp[j2])
    rw[List.getD_eq_getElem?_getD,e1,List.getD_eq_getElem?_getD,e2]
    exact cf n (cF kx e1) (cF ky e2) (by show A.units+1+n+1<cLine;omega) r1 r2
   rw[← l1,← l2,f9 (ds:=ds) (es:=es) (fun j x y a b=>by rw[List.getD_eq_getElem?_getD,a,List.getD_eq_getElem?_getD,b];rfl)] at q
   rw[aq]
   exact q
@[simp] noncomputable def vEq:Op2:=fun a b=>match a,b with
 | .im x,.im y=>if (Im.pl 8 x && Im.pl 8 y)=true then some (.im (.bl (aq x y))) else none
 | .lst x,.lst y=>if (Im.pls 8 x && Im.pls 8 y)=true then some (.im (.bl (aW x y))) else none
 | _,_=>none
theorem jJ:∀ {x y:List Im},x.length≠y.length→aW x y=false
 | [],[],h=>absurd rfl h
 | [],_::_,_=>rfl
 | _::_,[],_=>rfl
 | a::x,b::y,h=>by
  rw[aW,jJ (fun e=>h (by rw[List.length_cons,List.length_cons,e])),Bool.and_false]
theorem fH {pins:List (Addr×Obj)}{σ:St}{H:Hp}{s:Shared} (I:Inv X pins σ H s) {a:Addr}{xs:List V}{ds:List Im} (h1:H a=some (.lst xs)) (h2:aj H ds xs):∃ its:List Value,s.heap.IsList a its.toArray∧aD s.heap ds its∧its.length=ds.length:=by
 obtain⟨z,its,n,rv,e⟩:=I.hok a _ h1
 have:=h2.imv I.hok rv
 exact⟨its,⟨_,e,rfl,n,rfl⟩,this,this.length.symm⟩
theorem fJ (hu:X.A.units+20<cLine):OpV X (compareOp .Eq) vEq:=by
 intro pins s σ H x y v u Q I rx ry ⟨d1,d2,d,r1,r2,e,q⟩
 unfold vEq at e
 split at e
 ·rename_i a b
  split at e
  ·rename_i hp
   cases e
   rw[Bool.and_eq_true] at hp
   exact va 8 hp.1 hp.2 (by omega) (r1.i.imv I.hok rx) (r2.i.imv I.hok ry) X.prog X.w _ _ ⟨.bl _,H,I,rfl,Out.i q rfl⟩
  ·cases e
 ·rename_i a b
  split at e
  ·rename_i hp
   cases e
   rw[Bool.and_eq_true] at hp
   obtain⟨_,p,xs,rfl,h1,h2,_⟩:=r1
   obtain⟨_,p',ys,rfl,h3,h4,_⟩:=r2
   cases rx
   cases ry
   obtain⟨i1,l1,v1,n1⟩:=fH I h1 h2
   obtain⟨i2,l2,v2,n2⟩:=fH I h3 h4
   by_cases hl:a.length=b.length
   ·have:=SeqAt.RcAt.lists (A:=X.A) (e:=fun j=>aq (a.getD j .non) (b.getD j .non)) l1 l2 (by rw[List.size_toArray,List.size_toArray,n1,n2];exact hl) (by omega) fun j j1 j2=>by
     obtain⟨d1,e1,r1⟩:=v1.get (j:=j) (v:=i1.toArray[j]) (by simp at j1;simp[j1])
     obtain⟨d2,e2,r2⟩:=v2.get (j:=j) (v:=i2.toArray[j]) (by simp at j2;simp[j2])
     rw[List.getD_eq_getElem?_getD,e1,List.getD_eq_getElem?_getD,e2]
     exact cf 8 (cF hp.1 e1) (cF hp.2 e2) (by show X.A.units+1+8+1<cLine;omega) r1 r2
    refine this X.prog X.w _ _ ⟨.bl _,H,I,rfl,?_⟩
    have e5:=f9 (ds:=a) (es:=b) (e:=fun j=>aq (a.getD j .non) (b.getD j .non)) (fun j x y a b=>by rw[List.getD_eq_getElem?_getD,a,List.getD_eq_getElem?_getD,b];rfl)
    rw[← hl,Nat.min_self,beq_self_eq_true,Bool.and_true] at e5
    rw[List.size_toArray,n1,e5]
    exact Out.i q rfl
   ·refine SeqAt.RcAt.lists_lengths (A:=X.A) l1 l2 (by rw[List.size_toArray,List.size_toArray,n1,n2];simpa using hl) (by omega) X.prog X.w _ _ ⟨.bl _,H,I,rfl,?_⟩
    rw[jJ hl] at q
    exact Out.i q rfl
  ·cases e
 ·cases e
end
end L2
namespace L2
open PySem PySem.Spec PyProof.Rows
section
variable {X:Cx}
theorem vc {s:Shared} (n:Nat) {A:Around}{x y:Im}{u v:Value} (kx:Im.pl n x=true) (ky:Im.pl n y=true) (hu:A.units+n+2<cLine) (hx:ImV s.heap x u) (hy:ImV s.heap y v):SeqAt.RcNeAt A s u v (!aq x y):=by
 cases x with
 | non=>
  cases (show u=.none from hx)
  cases y with
  | non=>cases (show v=.none from hy);exact SeqAt.RcNeAt.none_none
  | bl b=>cases (show v=.bool b from hy);exact SeqAt.RcNeAt.none_bool b
  | int j=>obtain⟨t,rfl⟩:=hy;exact SeqAt.RcNeAt.none_int j t
  | str z=>obtain⟨t,rfl⟩:=hy;exact SeqAt.RcNeAt.none_str z t
  | tup ds=>obtain⟨a,o,items,m,rfl,h1,h2,h3,_⟩:=hy;exact SeqAt.RcNeAt.none_tuple ⟨o,h1,h2,m,h3⟩ (by omega)
  | fn a=>cases n<;>cases ky
  | fl a=>cases n<;>cases ky
 | bl b=>
  cases (show u=.bool b from hx)
  cases y with
  | non=>cases (show v=.none from hy);exact SeqAt.RcNeAt.bool_none b
  | bl c=>cases (show v=.bool c from hy);exact SeqAt.RcNeAt.bool_bool b c
  | int j=>obtain⟨t,rfl⟩:=hy;exact SeqAt.RcNeAt.bool_int b j t
  | str z=>obtain⟨t,rfl⟩:=hy;exact SeqAt.RcNeAt.bool_str b z t
  | tup ds=>obtain⟨a,o,items,m,rfl,h1,h2,h3,_⟩:=hy;exact SeqAt.RcNeAt.bool_tuple b ⟨o,h1,h2,m,h3⟩ (by omega)
  | fn a=>cases n<;>cases ky
  | fl a=>cases n<;>cases ky
 | int i=>
  obtain⟨t0,rfl⟩:=hx
  cases y with
  | non=>cases (show v=.none from hy);exact SeqAt.RcNeAt.int_none i t0
  | bl c=>cases (show v=.bool c from hy);exact SeqAt.RcNeAt.int_bool i t0 c
  | int j=>obtain⟨t,rfl⟩:=hy;exact SeqAt.RcNeAt.int_int i t0 j t
  | str z=>obtain⟨t,rfl⟩:=hy;exact SeqAt.RcNeAt.int_str i t0 z t
  | tup ds=>obtain⟨a,o,items,m,rfl,h1,h2,h3,_⟩:=hy;exact SeqAt.RcNeAt.int_tuple i t0 ⟨o,h1,h2,m,h3⟩ (by omega)
  | fn a=>cases n<;>cases ky
  | fl a=>cases n<;>cases ky
 | str i=>
  obtain⟨t0,rfl⟩:=hx
  cases y with
  | non=>cases (show v=.none from hy);exact SeqAt.RcNeAt.str_none i t0
  | bl c=>cases (show v=.bool c from hy);exact SeqAt.RcNeAt.str_bool i t0 c
  | int j=>obtain⟨t,rfl⟩:=hy;exact SeqAt.RcNeAt.str_int i t0 j t
  | str z=>obtain⟨t,rfl⟩:=hy;exact SeqAt.RcNeAt.str_str i t0 z t
  | tup ds=>obtain⟨a,o,items,m,rfl,h1,h2,h3,_⟩:=hy;exact SeqAt.RcNeAt.str_tuple i t0 ⟨o,h1,h2,m,h3⟩ (by omega)
  | fn a=>cases n<;>cases ky
  | fl a=>cases n<;>cases ky
 | fn a=>cases n<;>cases kx
 | fl a=>cases n<;>cases kx
 | tup ds=>
  cases n with
  | zero=>cases kx
  | succ n=>
  obtain⟨a,o,items,m,rfl,h1,h2,h3,h4⟩:=hx
  have ta:s.heap.IsTuple a items:=⟨o,h1,h2,m,h3⟩
  cases y with
  | non=>cases (show v=.none from hy);exact SeqAt.RcNeAt.tuple_none ta (by omega)
  | bl c=>cases (show v=.bool c from hy);exact SeqAt.RcNeAt.tuple_bool c ta (by omega)
  | int j=>obtain⟨t,rfl⟩:=hy;exact SeqAt.RcNeAt.tuple_int j t ta (by omega)
  | str z=>obtain⟨t,rfl⟩:=hy;exact SeqAt.RcNeAt.tuple_str z t ta (by omega)
  | fn a=>cases ky
  | fl a=>cases ky
  | tup es=>
   obtain⟨b,o',items',m',rfl,g1,g2,g3,g4⟩:=hy
   have tb:s.heap.IsTuple b items':=⟨o',g1,g2,m',g3⟩
   have l1:=h4.length
   have l2:=g4.length
   have l3:items.toList.length=items.size:=by simp
   have l4:items'.toList.length=items'.size:=by simp
   rw[l3] at l1
   rw[l4] at l2
   have q:=SeqAt.RcNeAt.tuples (A:=A) (e:=fun j=>aq (ds.getD j .non) (es.getD j .non)) ta tb (by omega) fun j j1 j2=>by
    obtain⟨d1,e1,r1⟩:=h4.get (j:=j) (v:=items[j]) (by rw[Array.getElem?_toList];simp[j1])
    obtain⟨d2,e2,r2⟩:=g4.get (j:=j) (v:=items'[j]) (by rw[Array.getElem?_toList];simp[j2])
    rw[List.getD_eq_getElem?_getD,e1,List.getD_eq_getElem?_getD,e2]
    exact cf n (cF kx e1) (cF ky e2) (by show A.units+1+n+1<cLine;omega) r1 r2
   rw[← l1,← l2,f9 (ds:=ds) (es:=es) (fun j x y a b=>by rw[List.getD_eq_getElem?_getD,a,List.getD_eq_getElem?_getD,b];rfl)] at q
   rw[aq]
   exact q
@[simp] noncomputable def vNe:Op2:=fun a b=>match a,b with
 | .im x,.im y=>if (Im.pl 8 x && Im.pl 8 y)=true then some (.im (.bl (!aq x y))) else none
 | .lst x,.lst y=>if (Im.pls 8 x && Im.pls 8 y)=true then some (.im (.bl (!aW x y))) else none
 | _,_=>none
theorem fK (hu:X.A.units+20<cLine):OpV X (compareOp .NotEq) vNe:=by
 intro pins s σ H x y v u Q I rx ry ⟨d1,d2,d,r1,r2,e,q⟩
 unfold vNe at e
 split at e
 ·rename_i a b
  split at e
  ·rename_i hp
   cases e
   rw[Bool.and_eq_true] at hp
   exact vc 8 hp.1 hp.2 (by omega) (r1.i.imv I.hok rx) (r2.i.imv I.hok ry) X.prog X.w _ _ ⟨.bl _,H,I,rfl,Out.i q rfl⟩
  ·cases e
 ·rename_i a b
  split at e
  ·rename_i hp
   cases e
   rw[Bool.and_eq_true] at hp
   obtain⟨_,p,xs,rfl,h1,h2,_⟩:=r1
   obtain⟨_,p',ys,rfl,h3,h4,_⟩:=r2
   cases rx
   cases ry
   obtain⟨i1,l1,v1,n1⟩:=fH I h1 h2
   obtain⟨i2,l2,v2,n2⟩:=fH I h3 h4
   by_cases hl:a.length=b.length
   ·have:=SeqAt.RcNeAt.lists (A:=X.A) (e:=fun j=>aq (a.getD j .non) (b.getD j .non)) l1 l2 (by rw[List.size_toArray,List.size_toArray,n1,n2];exact hl) (by omega) fun j j1 j2=>by
     obtain⟨d1,e1,r1⟩:=v1.get (j:=j) (v:=i1.toArray[j]) (by simp at j1;simp[j1])
     obtain⟨d2,e2,r2⟩:=v2.get (j:=j) (v:=i2.toArray[j]) (by simp at j2;simp[j2])
     rw[List.getD_eq_getElem?_getD,e1,List.getD_eq_getElem?_getD,e2]
     exact cf 8 (cF hp.1 e1) (cF hp.2 e2) (by show X.A.units+1+8+1<cLine;omega) r1 r2
    refine this X.prog X.w _ _ ⟨.bl _,H,I,rfl,?_⟩
    have e5:=f9 (ds:=a) (es:=b) (e:=fun j=>aq (a.getD j .non) (b.getD j .non)) (fun j x y a b=>by rw[List.getD_eq_getElem?_getD,a,List.getD_eq_getElem?_getD,b];rfl)
    rw[← hl,Nat.min_self,beq_self_eq_true,Bool.and_true] at e5
    rw[List.size_toArray,n1,e5]
    exact Out.i q rfl
   ·refine SeqAt.RcNeAt.lists_lengths (A:=X.A) l1 l2 (by rw[List.size_toArray,List.size_toArray,n1,n2];simpa using hl) (by omega) X.prog X.w _ _ ⟨.bl _,H,I,rfl,?_⟩
    rw[jJ hl] at q
    exact Out.i q rfl
  ·cases e
 ·cases e
noncomputable def aH {κ:Type} [DecidableEq κ] (kvs:List (κ×Im)) (k:κ):Option Im:=(kvs.find? fun p=>decide (p.1=k)).map (·.2)
theorem eI {κ:Type} [DecidableEq κ] {H:Hp}{k:κ}:∀ {kvs:List (κ×Im)}{kws:List (κ×V)},PKv H kvs kws→(∀ d,aH kvs k=some d→∃ v,bF kws k=some v∧IsI H d v)∧(aH kvs k=none→bF kws k=none)
 | _,_,.nil=>⟨(fun d e=>by cases e),(fun _=>rfl)⟩
 | _,_,.cons (a:=p) (b:=q) h t=>by
  obtain⟨h1,h2⟩:=eI (k:=k) t
  by_cases e:p.1=k
  ·have e':q.1=k:=h.1.symm.trans e
   refine⟨fun d hd=>?_,fun hn=>?_⟩
   ·have:∀ r,aH (p::r) k=some p.2:=fun r=>by simp[aH,List.find?_cons,e]
    rw[this] at hd
    cases hd
    exact⟨q.2,gW e',h.2⟩
   ·have:∀ r,aH (p::r) k=some p.2:=fun r=>by simp[aH,List.find?_cons,e]
    rw[this] at hn
    cases hn
  ·have e':¬ q.1=k:=fun z=>e (h.1.trans z)
   have:∀ r,aH (p::r) k=aH r k:=fun r=>by simp[aH,List.find?_cons,e]
   rw[this,gX e']
   exact⟨h1,h2⟩
@[simp] noncomputable def vIx:Op2:=fun a b=>match a,b with
 | .im (.tup ds),.im (.int i)=>(atI ds i).map .im
 | .lst ds,.im (.int i)=>(atI ds i).map .im
 | .fz ds,.im (.int i)=>(atI ds i).map .im
 | .dT kvs,.im (.tup k)=>if Im.keys 7 k=true then (aH kvs k).map .im else none
 | .dK kvs,.im (.int i)=>(aH kvs (.inl i)).map .im
 | .dK kvs,.im (.str i)=>(aH kvs (.inr i)).map .im
 | _,_=>none
theorem vd (hu:X.A.units+20<cLine):IxR X (fun x y H Q=>∃ a v,x=.ref a∧bi H a y (some v)∧Q v H):=by
 intro value slice pins s σ H x y v u Q I rx ry ⟨a,z,e,g,q⟩ hs
 subst e
 cases rx
 exact tail_any (tJ I g) PySem.F.slot_dict_getitem.lookup (tE hu I g ry fun w' s3 I3 rw'=>⟨z,H,I3,rw',q⟩) hs
theorem jK {H:Hp}{ds:List Im}{xs:List V}{i:Int}{d:Im} (h:aj H ds xs) (e:atI ds i=some d):∃ v,atI xs i=some v∧IsI H d v:=by
 unfold atI at e ⊢
 rw[← h.length]
 obtain⟨j,e1,e2⟩:=Option.bind_eq_some_iff.mp e
 obtain⟨v,g1,g2⟩:=h.get e2
 exact⟨v,by rw[e1];exact g1,g2⟩
theorem aM (hu:X.A.units+20<cLine):IxR X (fun x y H Q=>∃ d1 d2 d,Rdb H d1 x∧Rdb H d2 y∧vIx d1 d2=some d∧∀ v H' R,ap H H'→Own H' d v R→R.Nodup→(∀ a∈R,H a=none)→Q v H'):=by
 refine (sR.or (sS.or (vd hu))).imp fun x y H Q ⟨d1,d2,d,r1,r2,e,q⟩=>?_
 unfold vIx at e
 split at e
 ·obtain⟨d',e1,e2⟩:=Option.map_eq_some_iff.mp e
  cases e2
  obtain⟨p,xs,rfl,h1,h2⟩:=r1.i
  obtain⟨v,g1,g2⟩:=jK h2 e1
  exact .inr (.inl ⟨p,xs,_,v,rfl,r2.i,SqT.of h1,g1,Out.i q g2⟩)
 ·obtain⟨d',e1,e2⟩:=Option.map_eq_some_iff.mp e
  cases e2
  obtain⟨_,p,xs,rfl,h1,h2,_⟩:=r1
  obtain⟨v,g1,g2⟩:=jK h2 e1
  exact .inl ⟨p,xs,_,v,rfl,r2.i,SqL.of h1,g1,Out.i q g2⟩
 ·obtain⟨d',e1,e2⟩:=Option.map_eq_some_iff.mp e
  cases e2
  obtain⟨_,p,xs,o,rfl,h1,h2,_⟩:=r1
  obtain⟨v,g1,g2⟩:=jK h2 e1
  exact .inl ⟨p,xs,_,v,rfl,r2.i,.inl (.inr ⟨o,h1⟩),g1,Out.i q g2⟩
 ·rename_i kvs k
  split at e
  ·rename_i hk
   obtain⟨d',e1,e2⟩:=Option.map_eq_some_iff.mp e
   cases e2
   obtain⟨_,p,kws,rfl,h1,h2,_⟩:=r1
   obtain⟨v,g1,g2⟩:=(eI h2).1 d' e1
   obtain⟨b,xs,rfl,k1,k2⟩:=r2.i
   exact .inr (.inr ⟨p,v,rfl,by rw[← g1];exact bi.t h1 ⟨hk,b,xs,rfl,k1,k2⟩,Out.i q g2⟩)
  ·cases e
 ·rename_i kvs i
  obtain⟨d',e1,e2⟩:=Option.map_eq_some_iff.mp e
  cases e2
  obtain⟨_,p,kws,rfl,h1,h2,_⟩:=r1
  obtain⟨v,g1,g2⟩:=(eI h2).1 d' e1
  refine .inr (.inr ⟨p,v,rfl,?_,Out.i q g2⟩)
  rw[show y=kV (.inl i) from r2.i,← g1]
  exact bi.k h1
 ·rename_i kvs i
  obtain⟨d',e1,e2⟩:=Option.map_eq_some_iff.mp e
  cases e2
  obtain⟨_,p,kws,rfl,h1,h2,_⟩:=r1
  obtain⟨v,g1,g2⟩:=(eI h2).1 d' e1
  refine .inr (.inr ⟨p,v,rfl,?_,Out.i q g2⟩)
  rw[show y=kV (.inr i) from r2.i,← g1]
  exact bi.k h1
 ·cases e
end
end L2
namespace HT
open PySem PySem.Spec PyProof.Rows
section
variable {prog:Program}{w:World}{A:Around}{E:Value→Shared→Prop}{s:Shared}
theorem ve {t sl:Addr}{its:Array Value}{vl vu:Value}{lo hi:Option Int}{Q:Value→Shared→Prop} (p:IsTup s.heap t its) (hs:s.heap.IsSliceOf sl vl vu .none) (pl:IsPart vl lo) (pu:IsPart vu hi)
  (h0:sIx its.size 0 lo=0) (h1:sIx its.size its.size hi=its.size) (q:Q (.ref t) s):wpAny (model prog w) A (getItem (.ref t) (.ref sl)) Q E s:=by
 obtain⟨os,ho,hc,hd⟩:=id hs
 have ty:s.TypeIs (.ref sl) "slice" := ⟨os,ho,hc⟩
 unfold getItem
 try with_reducible refine wpAny_holding ?_
 first | refine wpAny_bind (wpAny_pure ?_) | skip
 refine wpAny_bind (wpAny_sequenceKey p.typeIs (by decide) ?_)
 refine wpAny_bind (wpAny_callSpecial?_slot (name:=Str.ofString "__getitem__") p.typeIs PyProof.Rows.slot_tuple_getitem (wpAny_call_entry PyProof.Rows.slot_tuple_getitem p.typeIs entry_tuple_getitem ?_ (args_tuple_getitem _ _)))
 show wpAny _ _ (Builtin.Tuple.tupleItemsOf (.ref t) >>= _) _ _ s
 refine wpAny_bind (tupleItemsOf_ p ?_)
 refine wpAny_bind (wpAny_typeOf ty ?_)
 rw[if_pos (by decide)]
 refine wpAny_bind (lV hs pl pu ?_)
 rw[h0,h1]
 show wpAny _ _ (if (((0:Nat):Int) == 0 && (1:Int) == 1 && (its.size - 0) == its.size)=true then _ else _) _ _ s
 rw[if_pos (by simp)]
 refine wpAny_bind (m:=Builtin.Tuple.tupleIsExact _) (wpAny_bind (wpAny_typeOf p.typeIs (wpAny_pure ?_)))
 show wpAny _ _ (if (Value.type "tuple" == Value.type "tuple")=true then _ else _) _ _ s
 rw[if_pos (by decide)]
 exact wpAny_bind (wpAny_rule (wpAny_pure ⟨_,rfl,wpAny_pure q⟩))
end
end HT
namespace L2
open PySem PySem.Spec PyProof.Rows
section
variable {X:Cx}
@[simp] noncomputable def iz (g:M Vl):M Vl:=fun D=>(g D).bind fun p=>match p.1 with
 | .im (.int i)=>some (.im (.int (-i)),p.2)
 | _=>none
theorem vf {a:Expr}{g:M Vl}{pos:Pos} (h:VE X a g):VE X (.UnaryOp .USub a pos) (iz g):=by
 refine aZ (rB rK h) fun σ H Q ⟨D,F,r,D',st,nd,hg,q⟩=>?_
 obtain⟨⟨x,D1⟩,h1,h2⟩:=Option.bind_eq_some_iff.mp hg
 refine⟨D,F,x,D1,st,nd,h1,fun v H1 F1 R st1 ow s1=>?_⟩
 dsimp only at h2
 split at h2
 ·rename_i i
  cases h2
  exact⟨i,ow.1,q _ H1 F1 [] st1 ⟨rfl,rfl⟩ (by rw[List.append_nil];exact s1.both)⟩
 ·cases h2
noncomputable def tP (g:M (Option Int)):TO:=fun σ H Q=>∃ D F l D',ah H D σ F∧F.Nodup∧g D=some (l,D')∧∀ H' F',ah H' D' σ F'→Stp H F H' F'→Q l H'
noncomputable def VP (X:Cx) (e:Option Expr) (g:M (Option Int)):Prop:=PO X e (tP g)
theorem nk {e:Option Expr}{t t':TO} (h:PO X e t) (i:∀ σ H Q,t' σ H Q→t σ H Q):PO X e t':=fun pins s σ H Q I hw=>h pins s σ H Q I (i σ H Q hw)
noncomputable def pNone:M (Option Int):=fun D=>some (none,D)
@[simp] noncomputable def eJ (g:M Vl):M (Option Int):=fun D=>(g D).bind fun p=>match p.1 with
 | .im (.int i)=>some (some i,p.2)
 | _=>none
theorem jL:VP X none pNone:=by
 refine nk sH fun σ H Q ⟨D,F,r,D',st,nd,hg,q⟩=>?_
 cases hg
 exact q H F st (Stp.perm nd (List.Perm.refl _))
theorem jM {e:Expr}{g:M Vl} (h:VE X e g):VP X (some e) (eJ g):=by
 refine nk (sI h) fun σ H Q ⟨D,F,r,D',st,nd,hg,q⟩=>?_
 obtain⟨⟨x,D1⟩,h1,h2⟩:=Option.bind_eq_some_iff.mp hg
 refine⟨D,F,x,D1,st,nd,h1,fun v H1 F1 R st1 ow s1=>?_⟩
 dsimp only at h2
 split at h2
 ·rename_i i
  cases h2
  exact⟨i,ow.1,q H1 F1 st1 s1.both⟩
 ·cases h2
noncomputable def bP {α:Type} (xs:List α) (lo hi:Option Int):List α:=(xs.drop (HT.sIx xs.length 0 lo)).take (HT.sIx xs.length xs.length hi - HT.sIx xs.length 0 lo)
theorem aj.drop {H:Hp}:∀ {ds:List Im}{xs:List V} (n:Nat),aj H ds xs→aj H (ds.drop n) (xs.drop n)
 | ds,xs,0,h=>h
 | [],xs,n+1,h=>by cases (show xs=[] from h);exact rfl
 | d::ds,xs,n+1,h=>by
  obtain⟨v,r,rfl,h1,h2⟩:=h
  exact h2.drop n
theorem aj.take {H:Hp}:∀ {ds:List Im}{xs:List V} (n:Nat),aj H ds xs→aj H (ds.take n) (xs.take n)
 | ds,xs,0,h=>rfl
 | [],xs,n+1,h=>by cases (show xs=[] from h);exact rfl
 | d::ds,xs,n+1,h=>by
  obtain⟨v,r,rfl,h1,h2⟩:=h
  exact⟨v,_,rfl,h1,h2.take n⟩
theorem aj.cut {H:Hp}{ds:List Im}{xs:List V} (lo hi:Option Int) (h:aj H ds xs):aj H (bP ds lo hi) (dA xs lo hi):=by
 unfold bP dA
 rw[h.length]
 exact (h.drop _).take _
@[simp] noncomputable def vSl (d:Vl) (lo hi:Option Int):Option Vl:=match d with
 | .im (.tup ds)=>some (.im (.tup (bP ds lo hi)))
 | .lst ds=>some (.lst (bP ds lo hi))
 | .fz ds=>some (.lst (bP ds lo hi))
 | _=>none
noncomputable def vg (K:PySem.W.Frag):V→Option Int→Option Int→Hp→VK→Prop:=fun x lo hi H Q=>∃ a xs,x=.ref a∧SqT K H a xs∧HT.sIx xs.length 0 lo=0∧HT.sIx xs.length xs.length hi=xs.length∧Q (.ref a) H
theorem vh:SlR X (fun x lo hi H Q=>∃ d r,Rdb H d x∧vSl d lo hi=some r∧Out H r Q):=by
 have all:SlR X (vg X.K):=by
  intro pins s σ H x v vl vu lo hi sl Q I rx hs pl pu h
  obtain⟨a,xs,rfl,hx,h0,h1,q⟩:=h
  cases rx
  obtain⟨its,r,ht,hz⟩:=I.tuple hx
  have hlen:its.toArray.size=xs.length:=by rw[List.size_toArray];exact r.length.symm
  exact⟨"tuple",_,PyProof.Rows.slot_tuple_getitem.lookup,ht.typeIs,HT.ve ht hs pl pu (by rw[hlen];exact h0) (by rw[hlen];exact h1) ⟨.ref a,H,I,rfl,q⟩⟩
 intro pins s σ H x v vl vu lo hi sl Q I rx hs pl pu ⟨d,r,rd,e,q⟩
 unfold vSl at e
 split at e
 ·rename_i ds
  cases e
  obtain⟨p,xs,rfl,h1,h2⟩:=rd.i
  by_cases hw:HT.sIx xs.length 0 lo=0∧HT.sIx xs.length xs.length hi=xs.length
  ·refine all pins s σ H _ v vl vu lo hi sl Q I rx hs pl pu ⟨p,xs,rfl,SqT.of h1,hw.1,hw.2,Out.i q ⟨p,xs,rfl,h1,?_⟩⟩
   have:bP ds lo hi=ds:=by
    unfold bP
    rw[h2.length,hw.1,hw.2,List.drop_zero,Nat.sub_zero,← h2.length,List.take_length]
   rw[this]
   exact h2
  ·exact sL pins s σ H _ v vl vu lo hi sl Q I rx hs pl pu ⟨p,xs,rfl,SqT.of h1,hw,fun n hn=>Out.t q hn (h2.cut lo hi)⟩
 ·cases e
  obtain⟨_,p,xs,rfl,h1,h2,_⟩:=rd
  exact l5 pins s σ H _ v vl vu lo hi sl Q I rx hs pl pu ⟨p,xs,rfl,SqL.of h1,fun n hn=>Out.l q hn (h2.cut lo hi)⟩
 ·cases e
  obtain⟨_,p,xs,o,rfl,h1,h2,_⟩:=rd
  exact l5 pins s σ H _ v vl vu lo hi sl Q I rx hs pl pu ⟨p,xs,rfl,.inl (.inr ⟨o,h1⟩),fun n hn=>Out.l q hn (h2.cut lo hi)⟩
 ·cases e
@[simp] noncomputable def eSl (g:M Opd) (l h:M (Option Int)):M Vl:=fun D=>(g D).bind fun p=>(l p.2).bind fun q=>(h q.2).bind fun r=>(rsl r.2 p.1).bind fun d=>(vSl d q.1 r.1).map fun d'=>(d',r.2)
theorem jN {e:Expr}{lo hi:Option Expr}{g:M Opd}{gl gh:M (Option Int)}{p2 pos:Pos} (he:VO X e g) (hl:VP X lo gl) (hh:VP X hi gh):VE X (.Subscript e (.Slice lo hi none p2) pos) (eSl g gl gh):=by
 refine aZ (sJ vh he hl hh) fun σ H Q ⟨D,F,r,D',st,nd,hg,q⟩=>?_
 obtain⟨⟨x,D1⟩,h1,h2⟩:=Option.bind_eq_some_iff.mp hg
 obtain⟨⟨l,D2⟩,h3,h4⟩:=Option.bind_eq_some_iff.mp h2
 obtain⟨⟨u,D3⟩,h5,h6⟩:=Option.bind_eq_some_iff.mp h4
 obtain⟨d,h7,h8⟩:=Option.bind_eq_some_iff.mp h6
 obtain⟨d',h9,h10⟩:=Option.map_eq_some_iff.mp h8
 cases h10
 refine⟨D,F,x,D1,st,nd,h1,fun v H1 F1 R st1 o1 s1=>⟨D1,F1,l,D2,st1,(List.nodup_append.mp s1.nd).1,h3,fun H2 F2 st2 s2=>⟨D2,F2,u,D3,st2,s2.nd,h5,fun H3 F3 st3 s3=>?_⟩⟩⟩
 have s4:=s2.seq s3
 have o3:bZ H3 σ x v R:=o1.mono s4.tup fun a ha o e=>s4.keep a o e fun h=>(List.nodup_append.mp s1.nd).2.2 a h a ha rfl
 have s5:=s1.trans s4 o1.chg
 exact⟨d,_,o3.read st3 h7,h9,fun w H4 R4 s6 ow ndR fr=>q w H4 F3 R4 (st3.mono s6.tupS fun a _ o e=>s6 a o e) ow (s5.new s6 ndR fr st3.chg)⟩
noncomputable abbrev OpN:=List Vl→Option Vl
@[simp] noncomputable def vLen:OpN:=fun ds=>match ds with
 | [.im (.tup x)]=>some (.im (.int x.length))
 | [.lst x]=>some (.im (.int x.length))
 | [.fz x]=>some (.im (.int x.length))
 | [.lstM x]=>some (.im (.int x.length))
 | [.dK x]=>some (.im (.int x.length))
 | [.im (.str x)]=>if x.length≤100000 then some (.im (.int x.length)) else none
 | _=>none
theorem bD {H:Hp}{d:Vl}{vs:List V} (h:dH H [d] vs):∃ v,vs=[v]∧Rdb H d v:=by
 obtain⟨v,r,rfl,h1,h2⟩:=h
 cases (show r=[] from h2)
 exact⟨v,rfl,h1⟩
theorem np {H:Hp}{d e:Vl}{vs:List V} (h:dH H [d,e] vs):∃ v u,vs=[v,u]∧Rdb H d v∧Rdb H e u:=by
 obtain⟨v,r,rfl,h1,h2⟩:=h
 obtain⟨u,rfl,h3⟩:=bD h2
 exact⟨v,u,rfl,h1,h3⟩
theorem PKv.length {κ:Type}{H:Hp}{l:List (κ×Im)}{m:List (κ×V)} (h:PKv H l m):l.length=m.length:=Paired.length h
theorem dq:b7 X (.builtin "len") vLen:=by
 refine (sY.or (sZ.or tZ)).imp fun xs H Q ⟨ds,d,rd,e,q⟩=>?_
 unfold vLen at e
 split at e
 ·cases e
  obtain⟨v,rfl,h⟩:=bD rd
  obtain⟨p,xs,rfl,h1,h2⟩:=h.i
  exact .inl ⟨p,xs,rfl,.inr (SqT.of h1),by rw[← h2.length];exact Out.i q rfl⟩
 ·cases e
  obtain⟨v,rfl,_,p,xs,rfl,h1,h2,_⟩:=bD rd
  exact .inl ⟨p,xs,rfl,.inl (SqL.of h1),by rw[← h2.length];exact Out.i q rfl⟩
 ·cases e
  obtain⟨v,rfl,_,p,xs,o,rfl,h1,h2,_⟩:=bD rd
  exact .inl ⟨p,xs,rfl,.inl (.inl (.inr ⟨o,h1⟩)),by rw[← h2.length];exact Out.i q rfl⟩
 ·cases e
  obtain⟨v,rfl,_,p,xs,G,rfl,h1,h2,_⟩:=bD rd
  exact .inl ⟨p,xs,rfl,.inl (SqL.of h1),by rw[← h2.length];exact Out.i q rfl⟩
 ·cases e
  obtain⟨v,rfl,_,p,kws,rfl,h1,h2,_⟩:=bD rd
  exact .inr (.inr ⟨p,kws,rfl,h1,by rw[← h2.length];exact Out.i q rfl⟩)
 ·split at e
  ·rename_i hl
   cases e
   obtain⟨v,rfl,h⟩:=bD rd
   cases (show v=_ from h.i)
   exact .inr (.inl ⟨_,rfl,eB hl,Out.i q rfl⟩)
  ·cases e
 ·cases e
@[simp] noncomputable def vTuple:OpN:=fun ds=>match ds with
 | [d]=>(cz d).map fun x=>.im (.tup x)
 | _=>none
theorem gF:b7 X (.type "tuple") vTuple:=by
 refine s9.imp fun xs H Q ⟨ds,d,rd,e,q⟩=>?_
 unfold vTuple at e
 split at e
 ·obtain⟨x,e1,e2⟩:=Option.map_eq_some_iff.mp e
  cases e2
  obtain⟨v,rfl,h⟩:=bD rd
  unfold cz at e1
  split at e1
  ·cases e1
   obtain⟨p,xs,rfl,h1,h2⟩:=h.i
   exact⟨p,xs,rfl,.inr ⟨SqT.of h1,Out.i q ⟨p,xs,rfl,h1,h2⟩⟩⟩
  ·cases e1
   obtain⟨_,p,xs,rfl,h1,h2,_⟩:=h
   exact⟨p,xs,rfl,.inl ⟨SqL.of h1,fun l hl=>Out.t q hl h2⟩⟩
  ·cases e1
   obtain⟨_,p,xs,o,rfl,h1,h2,_⟩:=h
   exact⟨p,xs,rfl,.inl ⟨.inl (.inr ⟨o,h1⟩),fun l hl=>Out.t q hl h2⟩⟩
  ·cases e1
 ·cases e
@[simp] noncomputable def vInt:OpN:=fun ds=>match ds with
 | [.im (.int i)]=>some (.im (.int i))
 | [.im (.bl b)]=>some (.im (.int (if b then 1 else 0)))
 | _=>none
theorem nq:b7 X (.type "int") vInt:=by
 refine rY.imp fun xs H Q ⟨ds,d,rd,e,q⟩=>?_
 unfold vInt at e
 split at e
 ·cases e
  obtain⟨v,rfl,h⟩:=bD rd
  cases (show v=_ from h.i)
  exact .inl ⟨_,rfl,Out.i q rfl⟩
 ·cases e
  obtain⟨v,rfl,h⟩:=bD rd
  cases (show v=_ from h.i)
  exact .inr ⟨_,rfl,Out.i q rfl⟩
 ·cases e
@[simp] noncomputable def vMax2:OpN:=fun ds=>match ds with
 | [.im (.int i),.im (.int j)]=>some (.im (.int (if j > i then j else i)))
 | _=>none
@[simp] noncomputable def vMin2:OpN:=fun ds=>match ds with
 | [.im (.int i),.im (.int j)]=>some (.im (.int (if j<i then j else i)))
 | _=>none
theorem vi (hc:X.calm=true):b7 X (.builtin "max") vMax2:=by
 refine (rW hc).imp fun xs H Q ⟨ds,d,rd,e,q⟩=>?_
 unfold vMax2 at e
 split at e
 ·cases e
  obtain⟨v,u,rfl,h,k⟩:=np rd
  cases (show v=_ from h.i)
  cases (show u=_ from k.i)
  exact⟨_,_,rfl,Out.i q rfl⟩
 ·cases e
theorem vj (hc:X.calm=true):b7 X (.builtin "min") vMin2:=by
 refine (rX hc).imp fun xs H Q ⟨ds,d,rd,e,q⟩=>?_
 unfold vMin2 at e
 split at e
 ·cases e
  obtain⟨v,u,rfl,h,k⟩:=np rd
  cases (show v=_ from h.i)
  cases (show u=_ from k.i)
  exact⟨_,_,rfl,Out.i q rfl⟩
 ·cases e
end
end L2
namespace L2
open PySem PySem.Spec PyProof.Rows
section
variable {X:Cx}
@[simp] noncomputable def jO (T:String) (d:Vl):Option Bool:=
 if T = "int" then match d with
  | .im (.int _)=>some true
  | .im (.bl _)=>some true
  | .im (.str _)=>some false
  | .im (.tup _)=>some false
  | .im .non=>some false
  | .lst _=>some false
  | .im (.fl _)=>some false
  | .dT _=>some false
  | .dK _=>some false
  | _=>none
 else if T = "bool" then match d with
  | .im (.int _)=>some false
  | .im (.bl _)=>some true
  | .im (.str _)=>some false
  | .im (.tup _)=>some false
  | .im .non=>some false
  | .lst _=>some false
  | .im (.fl _)=>some false
  | .dT _=>some false
  | .dK _=>some false
  | _=>none
 else if T = "str" then match d with
  | .im (.int _)=>some false
  | .im (.bl _)=>some false
  | .im (.str _)=>some true
  | .im (.tup _)=>some false
  | .im .non=>some false
  | .lst _=>some false
  | .im (.fl _)=>some false
  | .dT _=>some false
  | .dK _=>some false
  | _=>none
 else if T = "tuple" then match d with
  | .im (.int _)=>some false
  | .im (.bl _)=>some false
  | .im (.str _)=>some false
  | .im (.tup _)=>some true
  | .im .non=>some false
  | .lst _=>some false
  | .im (.fl _)=>some false
  | .dT _=>some false
  | .dK _=>some false
  | _=>none
 else none
theorem dO {pins:List (Addr×Obj)}{σ:St}{H:Hp}{s:Shared} (I:Inv X pins σ H s) {a:Addr} (h:(∃ k,H a=some (.dT k))∨∃ k,H a=some (.dK k)):∃ o,s.heap.get? a=some o∧o.cls=.type "dict" := by
 rcases h with ⟨k,h⟩ | ⟨k,h⟩
 ·obtain⟨_,_,xs,_,o,es,ep,h1,h2,_⟩:=(show aX X.prog X.w H s.heap a (.dT k) from I.hok a _ h)
  exact⟨o,h1,h2.1⟩
 ·obtain⟨_,_,vs,_,o,es,ep,h1,h2,_⟩:=(show aX X.prog X.w H s.heap a (.dK k) from I.hok a _ h)
  exact⟨o,h1,h2.1⟩
theorem vk:aP X (.builtin "isinstance") (fun xs H Q=>∃ x T d b,xs=[x,.ty T]∧Rdb H d x∧jO T d=some b∧Q (.bl b) H):=by
 intro pins s σ H xs us Q I r h
 obtain⟨x,T,d,b,rfl,rd,hi,q⟩:=h
 have r0:=r
 cases r with
 | cons r rr=>
  cases rr with
  | cons r' rr=>
   cases rr
   cases r'
   have f1:∀ {b:Bool},Q (.bl b) H→EP X pins σ Q (.bool b) { s with toks:=s.toks+1 }:=fun {b} q=>⟨.bl b,H,I.tok _,rfl,q⟩
   have dI:∀ {a:Addr},(∃ o,s.heap.get? a=some o∧o.cls=.type "dict")→(T = "int" ∨ T = "bool" ∨ T = "str" ∨ T = "tuple")→b=false→wpAny (model X.prog X.w) X.A (call (.builtin "isinstance") [.ref a,.type T]) (EP X pins σ Q) X.xe s:=by
    rintro a ⟨o,ho,hc⟩ hT rfl
    rcases hT with rfl | rfl | rfl | rfl
    ·exact IsiPair.dict_int ho hc (f1 q)
    ·exact IsiPair.dict_bool ho hc (f1 q)
    ·exact IsiPair.dict_str ho hc (f1 q)
    ·exact IsiPair.dict_tuple ho hc (f1 q)
   have nI:(T = "int" ∨ T = "bool" ∨ T = "str" ∨ T = "tuple")→b=false→wpAny (model X.prog X.w) X.A (call (.builtin "isinstance") [.none,.type T]) (EP X pins σ Q) X.xe s:=by
    rintro hT rfl
    rcases hT with rfl | rfl | rfl | rfl
    ·exact IsiPair.NoneType_int (f1 q)
    ·exact IsiPair.NoneType_bool (f1 q)
    ·exact IsiPair.NoneType_str (f1 q)
    ·exact IsiPair.NoneType_tuple (f1 q)
   have cI:mP X.K H x T b→wpAny (model X.prog X.w) X.A (call (.builtin "isinstance") [_,.type T]) (EP X pins σ Q) X.xe s:=fun hh=>uL pins s σ H _ _ Q I r0 ⟨x,T,b,rfl,hh,q⟩
   unfold jO at hi
   split at hi
   ·rename_i hT
    subst hT
    split at hi
    ·cases hi;exact cI (.inl ⟨_,rd.i,.inl ⟨rfl,rfl⟩⟩)
    ·cases hi;exact cI (.inr (.inl ⟨_,rd.i,.inr (.inl ⟨rfl,rfl⟩)⟩))
    ·cases hi;exact cI (.inr (.inr (.inl ⟨_,rd.i,.inr (.inl ⟨rfl,rfl⟩)⟩)))
    ·cases hi;obtain⟨a,xs,e,h1,h2⟩:=rd.i;exact cI (.inr (.inr (.inr (.inl ⟨a,xs,e,SqT.of h1,.inr (.inl ⟨rfl,rfl⟩)⟩))))
    ·cases hi;cases (show x=.non from rd.i);cases r;exact nI (.inl rfl) rfl
    ·cases hi;obtain⟨_,a,xs,e,h1,h2,_⟩:=rd;exact cI (.inr (.inr (.inr (.inr ⟨a,xs,e,SqL.of h1,.inr (.inl ⟨rfl,rfl⟩)⟩))))
    ·cases hi;obtain⟨a,xs,o,e,h1,h2⟩:=rd.i;exact cI (.inr (.inr (.inr (.inr ⟨a,xs,e,.inl (.inr ⟨o,h1⟩),.inr (.inl ⟨rfl,rfl⟩)⟩))))
    ·cases hi;obtain⟨_,a,xs,rfl,h1,h2,_⟩:=rd;cases r;exact dI (dO I (.inl ⟨_,h1⟩)) (.inl rfl) rfl
    ·cases hi;obtain⟨_,a,xs,rfl,h1,h2,_⟩:=rd;cases r;exact dI (dO I (.inr ⟨_,h1⟩)) (.inl rfl) rfl
    ·cases hi
   ·split at hi
    ·rename_i hT
     subst hT
     split at hi
     ·cases hi;exact cI (.inl ⟨_,rd.i,.inr (.inr (.inr (.inl ⟨rfl,rfl⟩)))⟩)
     ·cases hi;exact cI (.inr (.inl ⟨_,rd.i,.inl ⟨rfl,rfl⟩⟩))
     ·cases hi;exact cI (.inr (.inr (.inl ⟨_,rd.i,.inr (.inr (.inr (.inl ⟨rfl,rfl⟩)))⟩)))
     ·cases hi;obtain⟨a,xs,e,h1,h2⟩:=rd.i;exact cI (.inr (.inr (.inr (.inl ⟨a,xs,e,SqT.of h1,.inr (.inr (.inr (.inl ⟨rfl,rfl⟩)))⟩))))
     ·cases hi;cases (show x=.non from rd.i);cases r;exact nI (.inr (.inl rfl)) rfl
     ·cases hi;obtain⟨_,a,xs,e,h1,h2,_⟩:=rd;exact cI (.inr (.inr (.inr (.inr ⟨a,xs,e,SqL.of h1,.inr (.inr (.inr (.inl ⟨rfl,rfl⟩)))⟩))))
     ·cases hi;obtain⟨a,xs,o,e,h1,h2⟩:=rd.i;exact cI (.inr (.inr (.inr (.inr ⟨a,xs,e,.inl (.inr ⟨o,h1⟩),.inr (.inr (.inr (.inl ⟨rfl,rfl⟩)))⟩))))
     ·cases hi;obtain⟨_,a,xs,rfl,h1,h2,_⟩:=rd;cases r;exact dI (dO I (.inl ⟨_,h1⟩)) (.inr (.inl rfl)) rfl
     ·cases hi;obtain⟨_,a,xs,rfl,h1,h2,_⟩:=rd;cases r;exact dI (dO I (.inr ⟨_,h1⟩)) (.inr (.inl rfl)) rfl
     ·cases hi
    ·split at hi
     ·rename_i hT
      subst hT
      split at hi
      ·cases hi;exact cI (.inl ⟨_,rd.i,.inr (.inr (.inl ⟨rfl,rfl⟩))⟩)
      ·cases hi;exact cI (.inr (.inl ⟨_,rd.i,.inr (.inr (.inr (.inl ⟨rfl,rfl⟩)))⟩))
      ·cases hi;exact cI (.inr (.inr (.inl ⟨_,rd.i,.inl ⟨rfl,rfl⟩⟩)))
      ·cases hi;obtain⟨a,xs,e,h1,h2⟩:=rd.i;exact cI (.inr (.inr (.inr (.inl ⟨a,xs,e,SqT.of h1,.inr (.inr (.inl ⟨rfl,rfl⟩))⟩))))
      ·cases hi;cases (show x=.non from rd.i);cases r;exact nI (.inr (.inr (.inl rfl))) rfl
      ·cases hi;obtain⟨_,a,xs,e,h1,h2,_⟩:=rd;exact cI (.inr (.inr (.inr (.inr ⟨a,xs,e,SqL.of h1,.inr (.inr (.inl ⟨rfl,rfl⟩))⟩))))
      ·cases hi;obtain⟨a,xs,o,e,h1,h2⟩:=rd.i;exact cI (.inr (.inr (.inr (.inr ⟨a,xs,e,.inl (.inr ⟨o,h1⟩),.inr (.inr (.inl ⟨rfl,rfl⟩))⟩))))
      ·cases hi;obtain⟨_,a,xs,rfl,h1,h2,_⟩:=rd;cases r;exact dI (dO I (.inl ⟨_,h1⟩)) (.inr (.inr (.inl rfl))) rfl
      ·cases hi;obtain⟨_,a,xs,rfl,h1,h2,_⟩:=rd;cases r;exact dI (dO I (.inr ⟨_,h1⟩)) (.inr (.inr (.inl rfl))) rfl
      ·cases hi
     ·split at hi
      ·rename_i hT
       subst hT
       split at hi
       ·cases hi;exact cI (.inl ⟨_,rd.i,.inr (.inl ⟨rfl,rfl⟩)⟩)
       ·cases hi;exact cI (.inr (.inl ⟨_,rd.i,.inr (.inr (.inl ⟨rfl,rfl⟩))⟩))
       ·cases hi;exact cI (.inr (.inr (.inl ⟨_,rd.i,.inr (.inr (.inl ⟨rfl,rfl⟩))⟩)))
       ·cases hi;obtain⟨a,xs,e,h1,h2⟩:=rd.i;exact cI (.inr (.inr (.inr (.inl ⟨a,xs,e,SqT.of h1,.inl ⟨rfl,rfl⟩⟩))))
       ·cases hi;cases (show x=.non from rd.i);cases r;exact nI (.inr (.inr (.inr rfl))) rfl
       ·cases hi;obtain⟨_,a,xs,e,h1,h2,_⟩:=rd;exact cI (.inr (.inr (.inr (.inr ⟨a,xs,e,SqL.of h1,.inr (.inr (.inr (.inr ⟨rfl,rfl⟩)))⟩))))
       ·cases hi;obtain⟨a,xs,o,e,h1,h2⟩:=rd.i;exact cI (.inr (.inr (.inr (.inr ⟨a,xs,e,.inl (.inr ⟨o,h1⟩),.inr (.inr (.inr (.inr ⟨rfl,rfl⟩)))⟩))))
       ·cases hi;obtain⟨_,a,xs,rfl,h1,h2,_⟩:=rd;cases r;exact dI (dO I (.inl ⟨_,h1⟩)) (.inr (.inr (.inr rfl))) rfl
       ·cases hi;obtain⟨_,a,xs,rfl,h1,h2,_⟩:=rd;cases r;exact dI (dO I (.inr ⟨_,h1⟩)) (.inr (.inr (.inr rfl))) rfl
       ·cases hi
      ·cases hi
@[simp] noncomputable def jP (T:String) (g:M Opd):M Vl:=fun D=>(g D).bind fun p=>(rsl p.2 p.1).bind fun d=>(jO T d).map fun b=>(.im (.bl b),p.2)
theorem vm {T:String}{x:Str}{e:Expr}{g:M Opd}{p p2 pos:Pos} (hg:Gl X "isinstance") (hm:X.mg "isinstance" = none) (hv:bootBuiltins "isinstance" = some (.builtin "isinstance")) (hgT:Gl X x) (hmT:X.mg x=none) (hvT:bootBuiltins x=some (.type T)) (h:VO X e g)
  (hn:x ≠ "__name__" := by decide) (hd:(x == ("__debug__" : Str))=false:=by decide) (he:starEach [e,.Name x p2] X.env=(false,eval e X.env)::starEach [.Name x p2] X.env:=by rfl) (hs2:starEach [.Name x p2] X.env=(false,eval (.Name x p2) X.env)::starEach [] X.env:=by rfl)
  (hpl:(backTo pos (starEach [.Name x p2] X.env)).any (·.1)=false:=by rfl):VE X (.Call (.Name "isinstance" p) [e,.Name x p2] [] pos) (jP T g):=by
 refine aZ (lR vk hg hm hv (jb h (jb (qD (v:=.ty T) hgT hmT hvT rfl hn hd) lK hs2) he) (by decide) (by decide) he hpl) fun σ H Q ⟨D,F,r,D',st,nd,hgg,q⟩=>?_
 obtain⟨⟨o,D1⟩,h1,h2⟩:=Option.bind_eq_some_iff.mp hgg
 obtain⟨d,h3,h4⟩:=Option.bind_eq_some_iff.mp h2
 obtain⟨b,h5,h6⟩:=Option.map_eq_some_iff.mp h4
 cases h6
 exact⟨D,F,o,D1,st,nd,h1,fun v H1 F1 R st1 o1 s1=>⟨v,T,d,b,rfl,o1.read st1 h3,h5,q _ H1 F1 [] st1 ⟨rfl,rfl⟩ (by rw[List.append_nil];exact s1.both)⟩⟩
@[simp] noncomputable def jQ:Vl→Option Bool
 | .im .non=>some false
 | .im (.bl b)=>some b
 | .im (.int i)=>some (i != 0)
 | .im (.str x)=>if x.length≤100000 then some ((x.length:Int) != 0) else none
 | .im (.tup ds)=>some (!ds.isEmpty)
 | .lst ds=>some (!ds.isEmpty)
 | .fz ds=>some (!ds.isEmpty)
 | .dK kvs=>some (!kvs.isEmpty)
 | _=>none
theorem aj.emp {H:Hp}{ds:List Im}{xs:List V} (h:aj H ds xs):(!xs.isEmpty)=!ds.isEmpty:=by
 cases ds with
 | nil=>cases (show xs=[] from h);rfl
 | cons d ds=>obtain⟨v,r,rfl,_⟩:=h;rfl
theorem vn {H:Hp}{d:Vl}{v:V}{b:Bool} (h:Rdb H d v) (e:jQ d=some b):ja X.K v H b:=by
 unfold jQ at e
 split at e
 ·cases e;cases (show v=_ from h.i);rfl
 ·cases e;cases (show v=_ from h.i);rfl
 ·cases e;cases (show v=_ from h.i);rfl
 ·split at e
  ·rename_i hl
   cases e;cases (show v=_ from h.i);exact⟨eB hl,rfl⟩
  ·cases e
 ·cases e
  obtain⟨p,xs,rfl,h1,h2⟩:=h.i
  exact .inr (.inl ⟨xs,SqT.of h1,h2.emp.symm⟩)
 ·cases e
  obtain⟨_,p,xs,rfl,h1,h2,_⟩:=h
  exact .inl ⟨xs,SqL.of h1,h2.emp.symm⟩
 ·cases e
  obtain⟨_,p,xs,o,rfl,h1,h2,_⟩:=h
  exact .inl ⟨xs,.inl (.inr ⟨o,h1⟩),h2.emp.symm⟩
 ·cases e
  obtain⟨_,p,kws,rfl,h1,h2,_⟩:=h
  refine .inr (.inr ⟨kws,h1,?_⟩)
  cases h2<;>rfl
 ·cases e
@[simp] noncomputable def jR (g:M Opd):M Bool:=fun D=>(g D).bind fun p=>(rsl p.2 p.1).bind fun d=>(jQ d).map fun b=>(b,p.2)
theorem vo {e:Expr}{g:M Opd} (h:VO X e g) (he:∀ whole,isTrue e X.env whole=(do let v ← whole;standAt e.pos;holding [v] (truthy v)):=by intro _;rfl):VT X e (jR g):=by
 refine ic (rT h he) fun σ H Q ⟨D,F,b,D',st,nd,hgg,q⟩=>?_
 obtain⟨⟨o,D1⟩,h1,h2⟩:=Option.bind_eq_some_iff.mp hgg
 obtain⟨d,h3,h4⟩:=Option.bind_eq_some_iff.mp h2
 obtain⟨b',h5,h6⟩:=Option.map_eq_some_iff.mp h4
 cases h6
 exact⟨D,F,o,D1,st,nd,h1,fun v H1 F1 R st1 o1 s1=>⟨_,vn (o1.read st1 h3) h5,q H1 F1 st1 s1.both⟩⟩
end
end L2
namespace L2
open PySem PySem.Spec PyProof.Rows
theorem Stp.chg {H:Hp}{F F1:List Addr}{a:Addr}{o':HO} (ha:a∈F) (c:Chg H a) (nd:F1.Nodup) (sb:∀ x∈F1,x∈F):Stp H F (upd H a o') F1:=by
 obtain⟨o,e,ht,hf⟩:=c
 refine⟨fun x u ex hx=>?_,fun x hx=>.inl (sb x hx),nd,StayS.of (fun x xs ex=>?_) (fun x p u ex=>?_),fun x u ex=>?_⟩
 ·rw[ar (fun z=>hx (by rw[z];exact ha))]
  exact ex
 ·rw[ar]
  ·exact ex
  ·rintro rfl
   rw[e] at ex
   exact ht xs (Option.some.inj ex)
 ·rw[ar]
  ·exact ex
  ·rintro rfl
   rw[e] at ex
   exact hf p u (Option.some.inj ex)
 ·by_cases hx:x=a
  ·subst hx
   exact⟨o',aO⟩
  ·exact⟨u,(ar hx).trans ex⟩
theorem IsI.updC {H:Hp}{a:Addr}{o':HO} (c:Chg H a):TupS H (upd H a o'):=(Stp.chg (F:=[a]) (F1:=[]) (.head _) c List.nodup_nil (fun x hx=>nomatch hx)).tup.tup
noncomputable def MtV (X:Cx) (id:String) (mt:Vl→List Vl→Option (Vl×Vl)):Prop:=
 MtR X id fun x vs H Q=>∃ c ds r c' R S,Own H c x R∧aA H ds vs S∧(R++S).Nodup∧mt c ds=some (r,c')∧∀ v H' R1 R2,Own H' r v R1→Own H' c' x R2→Stp H (R++S) H' (R1++R2)→Q v H'
@[simp] noncomputable def cN:Vl→Bool
 | .lst _=>true
 | .lstM _=>true
 | _=>false
@[simp] noncomputable def nr:Vl→Bool
 | .dK _=>true
 | .dT _=>true
 | .dTM _ _=>true
 | _=>false
@[simp] noncomputable def c6 (ty:Vl→Bool) (i:Nat) (mt:Vl→List Vl→Option (Vl×Vl)) (g:M (List Opd)):M Vl:=fun D=>match D[i]? with
 | some (some c0)=>if ty c0=true then (g D).bind fun p=>(b6 p.1 p.2).bind fun q=>match q.2[i]? with
   | some (some c)=>(mt c q.1).map fun r=>(r.1,q.2.set i (some r.2))
   | _=>none
  else none
 | _=>none
theorem nt {K:PySem.W.Frag}{T:String}{ty:Vl→Bool}{i:Nat}{mt:Vl→List Vl→Option (Vl×Vl)}{g:M (List Opd)}{σ:St}{H:Hp}{Q:VK} (hty:∀ H c x R,Own H c x R→ty c=true→tyV K T x H)
  (h:tV (c6 ty i mt g) σ H Q):∃ x,σ[i]?=some (some x)∧tyV K T x H∧tA g σ H fun vs H2=>∃ c ds r c' R S,Own H2 c x R∧aA H2 ds vs S∧(R++S).Nodup∧mt c ds=some (r,c')∧∀ v H' R1 R2,Own H' r v R1→Own H' c' x R2→Stp H2 (R++S) H' (R1++R2)→Q v H':=by
 obtain⟨D,F,r,D',st,nd,hg,q⟩:=h
 unfold c6 at hg
 split at hg
 ·rename_i c0 hc0
  split at hg
  ·rename_i ht
   obtain⟨x,A0,B0,hx,w0,_,_⟩:=st.out hc0
   refine⟨x,hx,hty H c0 x _ w0 ht,?_⟩
   obtain⟨⟨os,D1⟩,h1,h2⟩:=Option.bind_eq_some_iff.mp hg
   obtain⟨⟨ds,D2⟩,h3,h4⟩:=Option.bind_eq_some_iff.mp h2
   refine⟨D,F,os,D1,st,nd,h1,fun vs H1 F1 R1 st1 o1 s1=>?_⟩
   obtain⟨F2,S,st2,ow,pm⟩:=fC st1 o1 h3
   dsimp only at h4
   split at h4
   ·rename_i c hc
    obtain⟨⟨r',c'⟩,h5,h6⟩:=Option.map_eq_some_iff.mp h4
    cases h6
    obtain⟨x',R,F3,hx',w1,st3,pm3⟩:=st2.out hc
    rw[hx] at hx'
    cases hx'
    have s2:Stp H F H1 ((R++S)++F3):=s1.permR (pm.symm.trans ((List.Perm.append_right S pm3.symm).trans (by
     rw[List.append_assoc]
     exact List.perm_append_comm)))
    have nd2:=List.nodup_append.mp s2.nd
    refine⟨c,ds,_,c',R,S,w1,ow,nd2.1,h5,fun v H' A B wa wb s3=>?_⟩
    have st4:ah H' (D2.set i (some .jk)) σ F3:=st3.mono s3.tup fun a ha o e=>s3.keep a o e fun h=>nd2.2.2 a h a ha rfl
    obtain⟨F4,G,st5,pm5⟩:=st4.back wb hx
    rw[List.set_set] at st5
    refine q v H' F4 A st5 wa ((s2.trans s3 st3.chg).less (C:=G) ?_)
    rw[List.append_assoc]
    refine (List.Perm.append_left F4 List.perm_append_comm).trans ?_
    rw[← List.append_assoc]
    refine (List.Perm.append_right A pm5).trans ?_
    rw[List.append_assoc]
    refine List.perm_append_comm.trans ?_
    rw[List.append_assoc]
    refine List.perm_append_comm.trans ?_
    rw[List.append_assoc,List.append_assoc]
    refine (List.Perm.append_left A ?_)
    exact List.perm_append_comm
   ·cases h4
  ·cases hg
 ·cases hg
section
variable {X:Cx}
theorem gG {K:PySem.W.Frag}:∀ (H:Hp) (c:Vl) (x:V) (R:List Addr),Own H c x R→cN c=true→tyV K "list" x H:=by
 intro H c x R h e
 cases c with
 | lst ds=>obtain⟨a,xs,rfl,h1,_⟩:=h;exact .inl ⟨rfl,xs,SqL.of h1⟩
 | lstM ds=>obtain⟨a,xs,G,rfl,h1,_⟩:=h;exact .inl ⟨rfl,xs,SqL.of h1⟩
 | _=>cases e
theorem iA {T:String}{name:Str}{id:String}{ty:Vl→Bool}{i:Nat}{mt:Vl→List Vl→Option (Vl×Vl)}{o e:Expr}{es:List Expr}{g:M (List Opd)}{apos cpos:Pos} (hty:∀ H c x R,Own H c x R→ty c=true→tyV X.K T x H)
  (pa:PlainAttrs T) (slot:Slot T name id) (ht:typeOf (.builtin id)=pure (.type "method_descriptor")) (hm:MtV X id mt) (ho:PE X o (dz i)) (ha:VA X (e::es) g)
  (hbase:attributeBase o name X.env (eval o X.env)=eval o X.env:=by rfl)
  (hfew:((backTo cpos (starEach (e::es) X.env)).all (fun x=>!x.1) && (backToKw cpos (keywordEach [] X.env)).all (fun x=>x.1.isSome)
   && decide ((e::es).length+([]:List Keyword).length+(if ([]:List Keyword).isEmpty then 0 else 1)<30))=true:=by rfl)
  (hline:(apos.endLine == cpos.line)=true:=by rfl) (hs:starEach (e::es) X.env=(false,eval e X.env)::starEach es X.env:=by rfl) (hplain:(backTo cpos (starEach es X.env)).any (·.1)=false:=by rfl):
  VE X (.Call (.Attribute o name apos) (e::es) [] cpos) (c6 ty i mt g):=
 aZ (tm pa slot ht hm ho ha hbase hfew hline hs hplain) fun σ H Q h=>by
  obtain⟨x,hx,h1,h2⟩:=nt hty h
  exact⟨x,hx,h1,h2⟩
theorem vp {T:String}{name:Str}{id:String}{ty:Vl→Bool}{i:Nat}{mt:Vl→List Vl→Option (Vl×Vl)}{o:Expr}{apos cpos:Pos} (hty:∀ H c x R,Own H c x R→ty c=true→tyV X.K T x H)
  (pa:PlainAttrs T) (slot:Slot T name id) (ht:typeOf (.builtin id)=pure (.type "method_descriptor")) (hm:MtV X id mt) (ho:PE X o (dz i))
  (hbase:attributeBase o name X.env (eval o X.env)=eval o X.env:=by rfl) (hline:(apos.endLine == cpos.line)=true:=by rfl):
  VE X (.Call (.Attribute o name apos) [] [] cpos) (c6 ty i mt aNil):=
 aZ (tj pa slot ht hm ho hbase hline) fun σ H Q h=>by
  obtain⟨x,hx,h1,h2⟩:=nt hty h
  refine⟨x,hx,h1,?_⟩
  obtain⟨D,F,r,D',st,nd,hg,q⟩:=h2
  cases hg
  exact q [] H F [] st ⟨rfl,rfl⟩ (by rw[List.append_nil];exact Stp.perm nd (List.Perm.refl _))
@[simp] noncomputable def mAppend:Vl→List Vl→Option (Vl×Vl):=fun c ds=>match c,ds with
 | .lst xs,[.im d]=>if xs.length<100000 then some (.im .non,.lst (xs++[d])) else none
 | _,_=>none
theorem jS {n:Nat} (h:n<100000):n<sizeLine:=Nat.lt_of_lt_of_le h (by decide)
theorem jT:MtV X "list.append" mAppend:=by
 intro pins s σ H x vs v us Q I rx rv ⟨c,ds,r,c',R,S,wc,wd,nd,e,q⟩
 unfold mAppend at e
 split at e
 ·split at e
  ·rename_i hl
   cases e
   obtain⟨a,ys,rfl,h1,h2,rfl⟩:=wc
   obtain⟨y,t,S1,S2,rfl,⟨hy,rfl⟩,⟨rfl,rfl⟩,rfl⟩:=wd
   have c:Chg H a:=⟨_,h1,(fun _ e=>by cases e),(fun _ _ e=>by cases e)⟩
   refine tu pins s σ H _ _ v us Q I rx rv ⟨a,ys,y,rfl,rfl,h1,jS (by rw[← h2.length];exact hl),q .non _ [] [a] ⟨rfl,rfl⟩ ?_ (Stp.chg (.head _) c (List.pairwise_singleton _ _) fun x hx=>by simpa using hx)⟩
   exact⟨a,_,rfl,aO,(h2.snoc hy).mono (IsI.updC c),rfl⟩
  ·cases e
 ·cases e
@[simp] noncomputable def mPop:Vl→List Vl→Option (Vl×Vl):=fun c ds=>match c,ds with
 | .lst xs,[]=>(xs.getLast?).map fun d=>(.im d,.lst xs.dropLast)
 | _,_=>none
theorem aj.last {H:Hp}{ds:List Im}{xs:List V}{d:Im} (h:aj H ds xs) (e:ds.getLast?=some d):∃ v,xs[xs.length - 1]?=some v∧IsI H d v∧aj H ds.dropLast xs.dropLast:=by
 rw[List.getLast?_eq_getElem?] at e
 obtain⟨v,g1,g2⟩:=h.get e
 refine⟨v,by rw[← h.length];exact g1,g2,?_⟩
 rw[List.dropLast_eq_take,List.dropLast_eq_take,← h.length]
 exact h.take _
theorem vq:MtV X "list.pop" mPop:=by
 intro pins s σ H x vs v us Q I rx rv ⟨c,ds,r,c',R,S,wc,wd,nd,e,q⟩
 unfold mPop at e
 split at e
 ·obtain⟨d,e1,e2⟩:=Option.map_eq_some_iff.mp e
  cases e2
  obtain⟨a,ys,rfl,h1,h2,rfl⟩:=wc
  obtain⟨rfl,rfl⟩:=wd
  obtain⟨y,g1,g2,g3⟩:=h2.last e1
  have c:Chg H a:=⟨_,h1,(fun _ e=>by cases e),(fun _ _ e=>by cases e)⟩
  refine tw pins s σ H _ _ v us Q I rx rv ⟨a,ys,y,rfl,rfl,h1,g1,q y _ [] [a] ⟨g2.mono (IsI.updC c),rfl⟩ ?_ (Stp.chg (.head _) c (List.pairwise_singleton _ _) fun x hx=>by simpa using hx)⟩
  exact⟨a,_,rfl,aO,g3.mono (IsI.updC c),rfl⟩
 ·cases e
@[simp] noncomputable def mPopAt:Vl→List Vl→Option (Vl×Vl):=fun c ds=>match c,ds with
 | .lst xs,[.im (.int i)]=>if 0≤i∧i<xs.length then (xs[i.toNat]?).map fun d=>(.im d,.lst (xs.eraseIdx i.toNat)) else none
 | _,_=>none
theorem aj.erase {H:Hp}:∀ {ds:List Im}{xs:List V} (n:Nat),aj H ds xs→aj H (ds.eraseIdx n) (xs.eraseIdx n)
 | [],xs,n,h=>by cases (show xs=[] from h);exact rfl
 | d::ds,xs,0,h=>by obtain⟨v,r,rfl,h1,h2⟩:=h;exact h2
 | d::ds,xs,n+1,h=>by obtain⟨v,r,rfl,h1,h2⟩:=h;exact⟨v,_,rfl,h1,h2.erase n⟩
theorem vv:MtV X "list.pop" mPopAt:=by
 intro pins s σ H x vs v us Q I rx rv ⟨c,ds,r,c',R,S,wc,wd,nd,e,q⟩
 unfold mPopAt at e
 split at e
 ·rename_i i
  split at e
  ·rename_i hi
   obtain⟨d,e1,e2⟩:=Option.map_eq_some_iff.mp e
   cases e2
   obtain⟨a,ys,rfl,h1,h2,rfl⟩:=wc
   obtain⟨y,t,S1,S2,rfl,⟨hy,rfl⟩,⟨rfl,rfl⟩,rfl⟩:=wd
   cases (show y=.int i from hy)
   obtain⟨y,g1,g2⟩:=h2.get e1
   have c:Chg H a:=⟨_,h1,(fun _ e=>by cases e),(fun _ _ e=>by cases e)⟩
   have hz:ys.length≤sizeLine:=(I.hok a _ h1).1
   have hn:=d6
   refine tz pins s σ H _ _ v us Q I rx rv ⟨a,ys,i,i.toNat,y,rfl,rfl,h1,by omega,by have:=h2.length;omega,seqIndex_of hi.1 (by rw[← h2.length];exact hi.2),g1,q y _ [] [a] ⟨g2.mono (IsI.updC c),rfl⟩ ?_ (Stp.chg (.head _) c (List.pairwise_singleton _ _) fun x hx=>by simpa using hx)⟩
   exact⟨a,_,rfl,aO,(h2.erase _).mono (IsI.updC c),rfl⟩
  ·cases e
 ·cases e
noncomputable def iB (X:Cx) (pt:Vl→Vl→Vl→Option Vl):Prop:=
 i3 X fun o i v H Q=>∃ c k d c' R S,Own H c o R∧Own H k i []∧Own H d v S∧(R++S).Nodup∧pt c k d=some c'∧∀ H' R',Own H' c' o R'→Stp H (R++S) H' R'→Q H'
@[simp] noncomputable def putV (c k d:Vl):Option Vl:=match c,k,d with
 | .lst xs,.im (.int i),.im d=>(ixN xs.length i).map fun j=>.lst (xs.set j d)
 | _,_,_=>none
theorem aj.set {H:Hp}{d:Im}{v:V} (w:IsI H d v):∀ {ds:List Im}{xs:List V} (n:Nat),aj H ds xs→aj H (ds.set n d) (xs.set n v)
 | [],xs,n,h=>by cases (show xs=[] from h);exact rfl
 | e::ds,xs,0,h=>by obtain⟨u,r,rfl,h1,h2⟩:=h;exact⟨v,r,rfl,w,h2⟩
 | e::ds,xs,n+1,h=>by obtain⟨u,r,rfl,h1,h2⟩:=h;exact⟨u,_,rfl,h1,aj.set w n h2⟩
theorem nu:iB X putV:=by
 intro pins s σ H o i v ov iv u Q I ro ri rv ⟨c,k,d,c',R,S,wc,wk,wd,nd,e,q⟩
 unfold putV at e
 split at e
 ·obtain⟨j,e1,e2⟩:=Option.map_eq_some_iff.mp e
  cases e2
  obtain⟨a,ys,rfl,h1,h2,rfl⟩:=wc
  obtain⟨hd,rfl⟩:=wd
  have c:Chg H a:=⟨_,h1,(fun _ e=>by cases e),(fun _ _ e=>by cases e)⟩
  refine sU pins s σ H _ _ _ ov iv u Q I ro ri rv ⟨a,ys,_,j,rfl,wk.1,h1,by rw[← h2.length];exact e1,q _ [a] ?_ (Stp.chg (.head _) c (List.pairwise_singleton _ _) fun x hx=>by simpa using hx)⟩
  exact⟨a,_,rfl,aO,(aj.set hd j h2).mono (IsI.updC c),rfl⟩
 ·cases e
@[simp] noncomputable def gIx (i:Nat) (gk:M Vl) (pt:Vl→Vl→Vl→Option Vl):MG:=fun d D=>match D[i]? with
 | some (some _)=>(gk D).bind fun p=>if p.1.cp=true then match p.2[i]? with
   | some (some c)=>(pt c p.1 d).map fun c'=>p.2.set i (some c')
   | _=>none
  else none
 | _=>none
theorem fL {fix:List Nat}{i:Nat}{o k:Expr}{gk:M Vl}{pt:Vl→Vl→Vl→Option Vl}{pos:Pos} (ho:PE X o (dz i)) (hk:VE X k gk) (hp:iB X pt)
  (ha:∀ v,assign (.Subscript o k pos) X.env v=(do
   let ov ← holding [v] (eval o X.env)
   let iv ← holding [v,ov] (eval k X.env)
   standAt pos
   holding [v,ov,iv] (setItem ov iv v)
   release [v,ov,iv] []):=by intro _;rfl):VG X fix (.Subscript o k pos) (gIx i gk pt):=by
 refine il (ra ho hk hp ha) fun v σ H Q ⟨D,F,d,R,D',st,ow,nd,hg,q⟩=>?_
 unfold gIx at hg
 split at hg
 ·rename_i c0 hc0
  obtain⟨x,A0,B0,hx,w0,_,_⟩:=st.out hc0
  obtain⟨⟨kd,D1⟩,h1,h2⟩:=Option.bind_eq_some_iff.mp hg
  split at h2
  ·rename_i hcp
   refine⟨x,hx,D,F,kd,D1,st,(List.nodup_append.mp nd).1,h1,fun kv H1 F1 RK st1 wk s1=>?_⟩
   obtain rfl:=wk.cp hcp
   rw[List.append_nil] at s1
   have nd0:=List.nodup_append.mp nd
   dsimp only at h2
   split at h2
   ·rename_i c hc
    obtain⟨c',h5,h6⟩:=Option.map_eq_some_iff.mp h2
    cases h6
    obtain⟨x',RC,F3,hx',w1,st3,pm3⟩:=st1.out hc
    rw[hx] at hx'
    cases hx'
    have ow1:Own H1 d v R:=ow.mono s1.tup fun a ha o e=>s1.keep a o e fun h=>nd0.2.2 a h a ha rfl
    -- the whole: F and R
    have s2:Stp H (F++R) H1 ((RC++R)++F3):=by
     have e0:Stp H (F++R) H (F++R):=Stp.perm nd (List.Perm.refl _)
     have:=Stp.trans (F1:=F) (R:=R) e0 s1 ow.chg
     refine this.permR ((List.Perm.append_right R pm3.symm).trans ?_)
     rw[List.append_assoc]
     exact List.perm_append_comm
    have nd2:=List.nodup_append.mp s2.nd
    refine⟨c,kd,d,c',RC,R,w1,wk,ow1,nd2.1,h5,fun H' R' w' s3=>?_⟩
    have st4:ah H' (D1.set i (some .jk)) σ F3:=st3.mono s3.tup fun a ha o e=>s3.keep a o e fun h=>nd2.2.2 a h a ha rfl
    obtain⟨F4,G,st5,pm5⟩:=st4.back w' hx
    rw[List.set_set] at st5
    exact q σ H' F4 aB.refl st5 ((s2.trans s3 st3.chg).less (pm5.trans List.perm_append_comm))
   ·cases h2
  ·cases h2
 ·cases hg
end
end L2
namespace L2
open PySem PySem.Spec PyProof.Rows
section
variable {X:Cx}
noncomputable def bQ:List Im→List Im→List Im
 | x::xs,y::ys=>.tup [x,y]::bQ xs ys
 | _,_=>[]
theorem nv:∀ (xs ys:List Im),(bQ xs ys).length=min xs.length ys.length
 | [],ys=>by simp[bQ]
 | x::xs,[]=>by simp[bQ]
 | x::xs,y::ys=>by simp[bQ,nv xs ys]
theorem nw:∀ (xs ys:List Im) (i:Nat) (d:Im),(bQ xs ys)[i]?=some d→∃ x y,xs[i]?=some x∧ys[i]?=some y∧d=.tup [x,y]
 | [],ys,i,d,h=>by simp[bQ] at h
 | x::xs,[],i,d,h=>by simp[bQ] at h
 | x::xs,y::ys,0,d,h=>by simp[bQ] at h;exact⟨x,y,rfl,rfl,h.symm⟩
 | x::xs,y::ys,i+1,d,h=>by
  obtain⟨a,b,h1,h2,h3⟩:=nw xs ys i d (by simpa [bQ] using h)
  exact⟨a,b,by simpa using h1,by simpa using h2,h3⟩
@[simp] noncomputable def iZ (g:M (List Opd)):MI:=fun D=>(g D).bind fun p=>(dG p.2 p.1).bind fun ds=>match ds with
 | [.im (.tup x),.im (.tup y)]=>some ((bQ x y,none),p.2)
 | _=>none
theorem vw {K:PySem.W.Frag}{H:Hp}{a b:Addr}{xs ys:List V}{ds es:List Im} (h:H a=some (.tup xs)) (hd:aj H ds xs) (h':H b=some (.tup ys)) (hd':aj H es ys):ItOk (Itz K a b) H [] (bQ ds es) where
 go:=fun H' t k i d e=>by
  obtain⟨x,y,e1,e2,rfl⟩:=nw ds es i d e
  obtain⟨v,g1,g2⟩:=hd.get e1
  obtain⟨u,k1,k2⟩:=hd'.get e2
  have q1:=SqT.of (K:=K) (t.tup a _ h)
  have q2:=SqT.of (K:=K) (t.tup b _ h')
  refine⟨⟨xs,ys,v,u,q1,q2,g1,k1⟩,fun z H'' ⟨T,x',y',f,ez,eH,y1,y2⟩=>?_⟩
  subst ez eH
  have z1:=y1 xs q1
  have z2:=y2 ys q2
  rw[g1] at z1
  rw[k1] at z2
  cases z1
  cases z2
  have s:ap H' (upd H' T (.tup [v,u])):=(ap.refl H').upd f
  exact⟨s,T,[v,u],rfl,aO,⟨v,[u],rfl,(g2.mono t.tup).mono s.tupS.tup,u,[],rfl,(k2.mono t.tup).mono s.tupS.tup,rfl⟩⟩
 stop:=fun H' t k=>⟨xs,ys,SqT.of (t.tup a _ h),SqT.of (t.tup b _ h'),by rw[nv,← hd.length,← hd'.length];lia⟩
theorem ny {a b:Expr}{g:M (List Opd)}{p pos:Pos}{es:List Expr}{ek:Nat}{ps:Pos} (hg:Gl X "zip") (hm:X.mg "zip" = none) (ha:VA X [a,b] g) (hs:starEach [a,b] X.env=[(false,eval a X.env),(false,eval b X.env)]:=by rfl) (hs2:starEach [b] X.env=[(false,eval b X.env)]:=by rfl):
  VI X (.Tuple es ek ps) (.Call (.Name "zip" p) [a,b] [] pos) (iZ g):=by
 refine jC (uH hg hm ha hs hs2) fun σ H Rk ⟨D,F,r,D',st,nd,hgg,q⟩=>?_
 obtain⟨⟨os,D1⟩,h1,h2⟩:=Option.bind_eq_some_iff.mp hgg
 obtain⟨ds,h3,h4⟩:=Option.bind_eq_some_iff.mp h2
 refine⟨D,F,os,D1,st,nd,h1,fun vs H1 F1 R1 st1 o1 s1=>?_⟩
 have rd:=o1.read st1 h3
 split at h4
 ·cases h4
  obtain⟨v,u,rfl,e,e'⟩:=jE rd
  obtain⟨a,xs,rfl,k1,k2⟩:=e
  obtain⟨b,ys,rfl,k3,k4⟩:=e'
  exact⟨a,b,rfl,⟨xs,SqT.of k1⟩,⟨ys,SqT.of k3⟩,q _ H1 F1 [] st1 (vw k1 k2 k3 k4) trivial (fun a ha=>nomatch ha) (by rw[List.append_nil];exact s1.both)⟩
 ·cases h4
theorem nA {fx:List Nat}{g:M (List Opd)}:∀ D r D',iZ g D=some (r,D')→fE fx r.2:=by
 intro D r D' h
 obtain⟨⟨os,D1⟩,h1,h2⟩:=Option.bind_eq_some_iff.mp h
 obtain⟨ds,h3,h4⟩:=Option.bind_eq_some_iff.mp h2
 split at h4
 ·cases h4;trivial
 ·cases h4
@[simp] noncomputable def yu:OpN:=fun ds=>match ds with
 | [.im (.int i),.im (.int j),.im (.int k)]=>some (.im (.int (min (min i j) k)))
 | _=>none
noncomputable def dP (lt:Im→Im→Bool) (x:Im):List Im→List Im
 | []=>[x]
 | y::r=>if lt x y=true then x::y::r else y::dP lt x r
noncomputable def b9 (lt:Im→Im→Bool):List Im→List Im
 | []=>[]
 | x::r=>dP lt x (b9 lt r)
noncomputable def ltI:Im→Im→Bool
 | .int i,.int j=>decide (i<j)
 | _,_=>false
noncomputable def ints?:List Im→Option (List Int)
 | []=>some []
 | .int i::r=>(ints? r).map fun s=>i::s
 | _::_=>none
@[simp] noncomputable def vSorted:OpN:=fun ds=>match ds with
 | [.lst x]=>(ints? x).bind fun ns=>if ns.Nodup∧ns.length≤1000 then some (.lst (b9 ltI x)) else none
 | _=>none
theorem vx (ns:List Int):ints? (ns.map .int)=some ns:=by
 induction ns with
 | nil=>rfl
 | cons n r ih=>rw[List.map_cons,ints?,ih];rfl
noncomputable def dQ (x:Int):List Int→List Int
 | []=>[x]
 | y::r=>if x<y then x::y::r else y::dQ x r
noncomputable def fM:List Int→List Int
 | []=>[]
 | x::r=>dQ x (fM r)
theorem nE (x:Int):∀ l:List Int,dP ltI (.int x) (l.map .int)=(dQ x l).map .int
 | []=>rfl
 | y::r=>by
  rw[List.map_cons,dP,dQ,ltI]
  by_cases h:x<y
  ·rw[if_pos (by simpa using h),if_pos h];rfl
  ·rw[if_neg (by simpa using h),if_neg h,nE x r];rfl
theorem nG:∀ l:List Int,b9 ltI (l.map .int)=(fM l).map .int
 | []=>rfl
 | x::r=>by rw[List.map_cons,b9,nG r,nE];rfl
theorem jU (x:Int):∀ l:List Int,(dQ x l).Perm (x::l)
 | []=>List.Perm.refl _
 | y::r=>by
  rw[dQ]
  split
  ·exact List.Perm.refl _
  ·exact ((jU x r).cons y).trans (List.Perm.swap x y r)
theorem jV:∀ l:List Int,(fM l).Perm l
 | []=>List.Perm.refl _
 | x::r=>(jU x _).trans ((jV r).cons x)
theorem nH (x:Int):∀ l:List Int,l.Pairwise (·≤·)→(dQ x l).Pairwise (·≤·)
 | [],_=>List.pairwise_singleton _ _
 | y::r,h=>by
  obtain⟨h1,h2⟩:=List.pairwise_cons.mp h
  rw[dQ]
  split
  ·rename_i hxy
   refine List.pairwise_cons.mpr ⟨fun z hz=>?_,h⟩
   rcases List.mem_cons.mp hz with rfl | hz
   ·lia
   ·have:=h1 z hz;lia
  ·rename_i hxy
   refine List.pairwise_cons.mpr ⟨fun z hz=>?_,nH x r h2⟩
   rcases List.mem_cons.mp ((jU x r).mem_iff.mp hz) with rfl | hz
   ·lia
   ·exact h1 z hz
theorem nJ:∀ l:List Int,(fM l).Pairwise (·≤·)
 | []=>List.Pairwise.nil
 | x::r=>nH x _ (nJ r)
theorem vy {l:List Int} (h:l.Nodup):(fM l).Pairwise (· < ·):=by
 have h1:=nJ l
 have h2:(fM l).Nodup:=(jV l).nodup_iff.mpr h
 exact List.Pairwise.imp₂ (fun a b x y=>by lia) h1 h2
theorem nK:∀ {l m:List Int},l.Perm m→l.Pairwise (· < ·)→m.Pairwise (· < ·)→l=m
 | [],m,h,_,_=>h.nil_eq
 | a::l,[],h,_,_=>absurd h.length_eq (by simp)
 | a::l,b::m,h,hl,hm=>by
  have hl':=List.pairwise_cons.mp hl
  have hm':=List.pairwise_cons.mp hm
  have e:a=b:=by
   rcases List.mem_cons.mp (h.mem_iff.mp (.head _)) with z | z
   ·exact z
   ·rcases List.mem_cons.mp (h.mem_iff.mpr (.head _)) with y | y
    ·exact y.symm
    ·have h1:=hl'.1 b y
     have h2:=hm'.1 a z
     lia
  subst e
  rw[nK h.cons_inv hl'.2 hm'.2]
theorem jW:∀ {x:List Im}{ns:List Int},ints? x=some ns→x=ns.map .int
 | [],ns,h=>by cases h;rfl
 | .int i::r,ns,h=>by
  rw[ints?] at h
  obtain⟨s,h1,rfl⟩:=Option.map_eq_some_iff.mp h
  rw[jW h1];rfl
 | .non::_,_,h=>by cases h
 | .bl _::_,_,h=>by cases h
 | .str _::_,_,h=>by cases h
 | .tup _::_,_,h=>by cases h
 | .fn _::_,_,h=>by cases h
 | .fl _::_,_,h=>by cases h
theorem jX {H:Hp}:∀ {ns:List Int}{vs:List V},aj H (ns.map .int) vs→vs=ns.map V.int
 | [],vs,h=>h
 | n::r,vs,h=>by
  obtain⟨v,t,rfl,h1,h2⟩:=h
  cases (show v=.int n from h1)
  rw[jX h2]
  rfl
theorem nL {H:Hp}:∀ ns:List Int,aj H (ns.map .int) (ns.map V.int)
 | []=>rfl
 | n::r=>⟨.int n,_,rfl,rfl,nL r⟩
theorem vz (hc:X.calm=true) (hu:X.A.units+20<cLine):b7 X (.builtin "sorted") vSorted:=by
 refine (uK hc).imp fun xs H Q ⟨ds,d,rd,e,q⟩=>?_
 unfold vSorted at e
 split at e
 ·rename_i x
  obtain⟨ns,e1,e2⟩:=Option.bind_eq_some_iff.mp e
  split at e2
  ·rename_i hn
   cases e2
   obtain⟨v,rfl,_,p,xs,rfl,h1,h2,_⟩:=bD rd
   cases jW e1
   cases jX h2
   refine⟨p,ns,rfl,h1,hn.1,hn.2,fun l ns' fl pm up=>?_⟩
   rw[nG] at q
   rw[nK (pm.trans (jV ns).symm) up (vy hn.1)]
   exact Out.l q fl (nL _)
  ·cases e2
 ·cases e
theorem jY (hu:X.A.units+20<cLine):iB X putV:=nu
end
end L2
namespace L2
open PySem PySem.Spec PyProof.Rows
section
variable {X:Cx}
noncomputable def fN:Im→Option Key
 | .int i=>some (.inl i)
 | .str x=>some (.inr x)
 | _=>none
@[simp] theorem yw (i:Int):fN (.int i)=some (.inl i):=rfl
@[simp] theorem yx (x:Str):fN (.str x)=some (.inr x):=rfl
noncomputable def kI:Key→Im
 | .inl i=>.int i
 | .inr x=>.str x
@[simp] theorem yy (i:Int):kI (.inl i)=.int i:=rfl
@[simp] theorem yz (x:Str):kI (.inr x)=.str x:=rfl
theorem nM {H:Hp}{d:Im}{v:V}{k:Key} (h:IsI H d v) (e:fN d=some k):v=kV k:=by
 cases d with
 | int i=>cases e;exact h
 | str x=>cases e;exact h
 | _=>cases e
noncomputable def bR {κ:Type} [DecidableEq κ] (kvs:List (κ×Im)) (k:κ) (d:Im):List (κ×Im):=
 if (kvs.any fun kv=>decide (kv.1=k))=true then kvs.map (fun kv=>if kv.1=k then (kv.1,d) else kv) else kvs++[(k,d)]
theorem PKv.any {κ:Type} [DecidableEq κ] {H:Hp}{k:κ}{l:List (κ×Im)}{m:List (κ×V)} (h:PKv H l m):(l.any fun kv=>decide (kv.1=k))=(m.any fun kv=>decide (kv.1=k)):=by
 unfold PKv at h
 induction h with
 | nil=>rfl
 | cons r _ ih=>rw[List.any_cons,List.any_cons,ih,r.1]
theorem PKv.upd {κ:Type} [DecidableEq κ] {H:Hp}{k:κ}{d:Im}{v:V} (w:IsI H d v) {l:List (κ×Im)}{m:List (κ×V)} (h:PKv H l m):PKv H (l.map fun kv=>if kv.1=k then (kv.1,d) else kv) (m.map fun kv=>if kv.1=k then (kv.1,v) else kv):=by
 unfold PKv at h
 induction h with
 | nil=>exact .nil
 | @cons p q _ _ r _ ih=>
  rw[List.map_cons,List.map_cons]
  refine .cons ?_ ih
  by_cases e:p.1=k
  ·have e':q.1=k:=r.1.symm.trans e
   rw[if_pos e,if_pos e']
   exact⟨r.1,w⟩
  ·have e':¬ q.1=k:=fun z=>e (r.1.trans z)
   rw[if_neg e,if_neg e']
   exact r
theorem vA {α β:Type}{F:α→β→Prop}{l:List α}{m:List β}{a:α}{b:β} (h:Paired F l m) (x:F a b):Paired F (l++[a]) (m++[b]):=by
 induction h with
 | nil=>exact .cons x .nil
 | cons r _ ih=>exact .cons r ih
theorem PKv.put {κ:Type} [DecidableEq κ] {H:Hp}{k:κ}{d:Im}{v:V} (w:IsI H d v) {l:List (κ×Im)}{m:List (κ×V)} (h:PKv H l m):PKv H (bR l k d) (bG m k v):=by
 unfold bR bG
 rw[h.any]
 split
 ·exact h.upd w
 ·exact vA h ⟨rfl,w⟩
@[simp] noncomputable def eDict0T:M Vl:=fun D=>some (.dT [],D)
theorem nN {pos:Pos}:VE X (.Dict [] [] pos) eDict0T:=by
 refine aZ tK fun σ H Q ⟨D,F,r,D',st,nd,hgg,q⟩ p hp=>?_
 cases hgg
 have s:ap H (L2.upd H p (.dT [])):=(ap.refl H).upd hp
 have s1:Stp H F H (F++[]):=by rw[List.append_nil];exact Stp.perm nd (List.Perm.refl _)
 exact q _ _ F [p] (st.mono s.tupS fun a _ o e=>s a o e) ⟨p,[],rfl,aO,.nil,rfl⟩ (s1.new s (List.pairwise_singleton _ _) (fun a ha=>by rw[List.mem_singleton.mp ha];exact hp) st.chg)
@[simp] noncomputable def yA (gk gv:M Vl):M Vl:=fun D=>(gk D).bind fun p=>(gv p.2).bind fun q=>match p.1,q.1 with
 | .im k,.im d=>(fN k).map fun k'=>(.dK [(k',d)],q.2)
 | _,_=>none
@[simp] noncomputable def putA (c k d:Vl):Option Vl:=match c,k,d with
 | .lst xs,.im (.int i),.im d=>(ixN xs.length i).map fun j=>.lst (xs.set j d)
 | .dK kvs,.im k,.im d=>(fN k).bind fun k'=>if kvs.length<100000 then some (.dK (bR kvs k' d)) else none
 | .dT kvs,.im (.tup k),.im d=>if Im.keys 7 k=true∧kvs.length<100000 then some (.dT (bR kvs k d)) else none
 | _,_,_=>none
theorem jZ (hu:X.A.units+20<cLine):iB X putA:=by
 intro pins s σ H o i v ov iv u Q I ro ri rv ⟨c,k,d,c',R,S,wc,wk,wd,nd,e,q⟩
 unfold putA at e
 split at e
 ·exact nu pins s σ H o i v ov iv u Q I ro ri rv ⟨_,_,_,c',R,S,wc,wk,wd,nd,e,q⟩
 ·obtain⟨k',e1,e2⟩:=Option.bind_eq_some_iff.mp e
  split at e2
  ·rename_i hl
   cases e2
   obtain⟨a,ys,rfl,h1,h2,rfl⟩:=wc
   obtain⟨hd,rfl⟩:=wd
   have c:Chg H a:=⟨_,h1,(fun _ e=>by cases e),(fun _ _ e=>by cases e)⟩
   cases ro
   have hy:=nM wk.1 e1
   subst hy
   refine md hu I (d9.k h1 (by rw[← h2.length];exact jS hl)) ri rv fun s' I'=>⟨_,I',q _ [a] ?_ (Stp.chg (.head _) c (List.pairwise_singleton _ _) fun x hx=>by simpa using hx)⟩
   exact⟨a,_,rfl,aO,(PKv.put hd h2).mono (IsI.updC c),rfl⟩
  ·cases e2
 ·split at e
  ·rename_i hl
   cases e
   obtain⟨a,ys,rfl,h1,h2,rfl⟩:=wc
   obtain⟨hd,rfl⟩:=wd
   have c:Chg H a:=⟨_,h1,(fun _ e=>by cases e),(fun _ _ e=>by cases e)⟩
   cases ro
   obtain⟨b,xs,rfl,k1,k2⟩:=wk.1
   refine md hu I (d9.t h1 ⟨hl.1,b,xs,rfl,k1,k2⟩ (by rw[← h2.length];exact jS hl.2)) ri rv fun s' I'=>⟨_,I',q _ [a] ?_ (Stp.chg (.head _) c (List.pairwise_singleton _ _) fun x hx=>by simpa using hx)⟩
   exact⟨a,_,rfl,aO,(PKv.put hd h2).mono (IsI.updC c),rfl⟩
  ·cases e
 ·cases e
@[simp] noncomputable def gH (i:Nat) (gk gd:M Vl):M Vl:=fun D=>match D[i]? with
 | some (some c0)=>if nr c0=true then (gk D).bind fun p=>(gd p.2).bind fun q=>match q.2[i]?,p.1,q.1 with
   | some (some (.dK kvs)),.im k,.im d=>(fN k).map fun k'=>(.im ((aH kvs k').getD d),q.2)
   | some (some (.dT kvs)),.im (.tup k),.im d=>if Im.keys 7 k=true then some (.im ((aH kvs k).getD d),q.2) else none
   | _,_,_=>none
  else none
 | _=>none
theorem vB {H:Hp}{c:Vl}{x:V}{R:List Addr} (h:Own H c x R) (e:nr c=true):∃ a,x=.ref a∧IsD H a:=by
 cases c with
 | dK ds=>obtain⟨a,xs,rfl,h1,_⟩:=h;exact⟨a,rfl,.inl ⟨xs,.inl h1⟩⟩
 | dT ds=>obtain⟨a,xs,rfl,h1,_⟩:=h;exact⟨a,rfl,.inr ⟨xs,.inl h1⟩⟩
 | dTM ks ds=>obtain⟨a,xs,G,rfl,h1,_⟩:=h;exact⟨a,rfl,.inr ⟨xs,.inl h1⟩⟩
 | _=>cases e
theorem nO {κ:Type} [DecidableEq κ] {H:Hp}{k:κ}{kvs:List (κ×Im)}{kws:List (κ×V)}{d:Im}{v:V} (h:PKv H kvs kws) (w:IsI H d v):IsI H ((aH kvs k).getD d) ((bF kws k).getD v):=by
 obtain⟨h1,h2⟩:=eI (k:=k) h
 cases e:aH kvs k with
 | none=>rw[h2 e];exact w
 | some x=>obtain⟨u,e1,e2⟩:=h1 x e;rw[e1];exact e2
theorem nP {i:Nat}{o k x:Expr}{gk gd:M Vl}{apos cpos:Pos} (hu:X.A.units+20<cLine) (ho:PE X o (dz i)) (hk:VE X k gk) (hd:VE X x gd) (m:M2 X o "get" apos k x cpos:=by exact⟨rfl,rfl,rfl,rfl⟩):
  VE X (.Call (.Attribute o "get" apos) [k,x] [] cpos) (gH i gk gd):=by
 refine aZ (tQ hu ho hk hd m) fun σ H Q ⟨D,F,r,D',st,nd,hgg,q⟩=>?_
 unfold gH at hgg
 split at hgg
 ·rename_i c0 hc0
  split at hgg
  ·rename_i hty
   obtain⟨v0,A0,B0,hv0,w0,_,_⟩:=st.out hc0
   obtain⟨a,rfl,isd⟩:=vB w0 hty
   obtain⟨⟨d1,D1⟩,h1,h2⟩:=Option.bind_eq_some_iff.mp hgg
   obtain⟨⟨d2,D2⟩,h3,h4⟩:=Option.bind_eq_some_iff.mp h2
   refine⟨_,hv0,a,rfl,isd,D,F,d1,D1,st,nd,h1,fun y H1 F1 R1 st1 o1 s1=>?_⟩
   have nd1:=List.nodup_append.mp s1.nd
   refine⟨D1,F1,d2,D2,st1,nd1.1,h3,fun z H2 F2 R2 st2 o2 s2=>?_⟩
   dsimp only at h4
   split at h4
   ·rename_i kvs kk dd hc
    obtain⟨k',e1,e2⟩:=Option.map_eq_some_iff.mp h4
    cases e2
    obtain⟨w1,rfl⟩:=o1
    obtain⟨w2,rfl⟩:=o2
    rw[List.append_nil] at s1 s2
    obtain⟨v2,R,F3,hv2,w3,st3,pm3⟩:=st2.out hc
    rw[hv0] at hv2
    cases hv2
    obtain⟨a',kws,e3,g1,g2,_⟩:=w3
    cases e3
    refine⟨_,.inl ⟨kws,k',.inl g1,nM w1 e1,rfl⟩,q _ H2 F2 [] st2 ⟨nO g2 w2,rfl⟩ (by rw[List.append_nil];exact s1.seq s2)⟩
   ·rename_i kvs kk dd hc
    split at h4
    ·rename_i hkk
     cases h4
     obtain⟨w1,rfl⟩:=o1
     obtain⟨w2,rfl⟩:=o2
     rw[List.append_nil] at s1 s2
     obtain⟨v2,R,F3,hv2,w3,st3,pm3⟩:=st2.out hc
     rw[hv0] at hv2
     cases hv2
     obtain⟨a',kws,e3,g1,g2,_⟩:=w3
     cases e3
     obtain⟨b,xs,rfl,k1,k2⟩:=w1.mono s2.tup.tup
     exact⟨_,.inr ⟨kws,_,b,.inl g1,rfl,⟨hkk,b,xs,rfl,k1,k2⟩,rfl⟩,q _ H2 F2 [] st2 ⟨nO g2 w2,rfl⟩ (by rw[List.append_nil];exact s1.seq s2)⟩
    ·cases h4
   ·cases h4
  ·cases hgg
 ·cases hgg
end
end L2
namespace L2
open PySem PySem.Spec PyProof.Rows
section
variable {X:Cx}
noncomputable def nQ:Opd→Vl→Option (Nat×Vl)
 | .sl i,d=>some (i,d)
 | .vl _,_=>none
@[simp] theorem yB (i:Nat) (d:Vl):nQ (.sl i) d=some (i,d):=rfl
@[simp] theorem yC (c d:Vl):nQ (.vl c) d=none:=rfl
end
end L2
namespace L2
open PySem PySem.Spec PyProof.Rows
section
variable {prog:Program}{w:World}{A:Around}{E:Value→Shared→Prop}{s:Shared}
end
section
variable {X:Cx}
end
end L2
namespace L2
open PySem PySem.Spec PyProof.Rows
section
variable {X:Cx}
theorem vC {ns:List Int}{us:List Value} (r:ak (ns.map V.int) us) (i:Nat) (v:Value) (h:us[i]?=some v):∃ t,v=.int ((ns[i]?).getD 0) t:=by
 have hl:=r.length
 rw[List.length_map] at hl
 have hi:i<ns.length:=by rw[hl];exact (List.getElem?_eq_some_iff.mp h).1
 obtain⟨u,hu,t,e⟩:=r.get (i:=i) (x:=V.int ns[i]) (by simp[hi])
 rw[h] at hu
 cases hu
 exact⟨t,by rw[e];simp[hi]⟩
end
end L2
namespace L2
open PySem PySem.Spec PyProof.Rows
section
variable {prog:Program}{w:World}{A:Around}{E:Value→Shared→Prop}{s:Shared}
theorem vD {M:Model}{a:Addr}{Q:Option Obj→Shared→Prop} (h:Q (s.heap.get? a) s):wpAny M A (loadIfAlive a) Q E s:=fun Γ p hΓ=>by
 show Sem.wp M Γ (.loadIfAlive a .pure) _ _ p s
 rw[Sem.wp,Sem.wp]
 exact h
end
end L2
namespace L2
open PySem PySem.Spec PyProof.Rows
end L2
namespace L2
open PySem PySem.Spec PyProof.Rows
section
variable {prog:Program}{w:World}{A:Around}{E:Value→Shared→Prop}{s:Shared}
end
theorem bv.upd {X:Cx}{pins:List (Addr×Obj)}{H:Hp}{b T:Addr}{o:HO} (h:bv X pins H b) (n:b≠T):bv X pins (upd H T o) b:=⟨by rw[ar n];exact h.1,h.2⟩
noncomputable abbrev LiS (h:Heap) (S:Addr) (acc:Array Value) (c:Nat):Prop:=h.get? S=some { cls:=.type "list",dict:=none,data:=.seq acc c,slots:=#[] }
section
variable {X:Cx}
end
end L2
namespace L2
open PySem PySem.Spec PyProof.Rows
section
variable {X:Cx}
end
end L2
namespace L2
open PySem PySem.Spec PyProof.Rows
section
variable {X:Cx}
end
end L2
namespace L2
open PySem PySem.Spec PyProof.Rows
section
variable {X:Cx}
theorem vE {i0:Nat}{x0:Str}{pos' spos:Pos}{tg iter elt:Expr}{ifs:List Expr}{scope:Scope}{pos:Pos}{own:List Str}{caps:List Nat}{wi:TI}{g:Blk→TG}{tt:Blk→TT}{te:Blk→TE}
  (hN:X.N.Nodup) (hi0:X.N[i0]?=some x0) (hx0:Loc X.env.scope x0) (hc:X.calm=true) (S:CompScope X scope own caps) (hi:PI X tg iter wi)
  (hg:∀ Y,PG (X.blk (bz X own caps) scope Y) tg (g Y)) (ht:∀ Y,PTs (X.blk (bz X own caps) scope Y) ifs (tt Y)) (he:∀ Y,PE (X.blk (bz X own caps) scope Y) elt (te Y))
  (hs:∀ x,foldedSetIterable iter X.env x=pure x:=by intro _;rfl) (hsw:swapsWith (.ListComp elt [⟨tg,iter,ifs,0⟩] scope pos) (some (.Name x0 pos')) spos.line X.env=pure true:=by rfl)
  (hf0:X.fn x0=true∨X.env.scope.names.lookup x0=some .local:=by first | exact .inl rfl | exact .inr rfl | assumption):
  PS X (.Assign [.Name x0 pos'] (.ListComp elt [⟨tg,iter,ifs,0⟩] scope pos) spos) (i5 (jm own caps wi g tt te) (i4 i0)):=by
 intro pins s σ H Dn I h
 rw[exec_Assign_Name_used _ _ _ _ hsw]
 refine wpAny_bind (wpAny_standAt (wpAny_bind ?_))
 show wpAny _ X.A (do let _ ← comprehension (.ListComp elt [⟨tg,iter,ifs,0⟩] scope pos) scope X.env _ (newList []) false (eval iter X.env) (some (assign (.Name x0 pos') X.env))) _ _ s
 refine wpAny_bind (wpAny_mono (wpAny_comprehension_free (use:=some (assign (.Name x0 pos') X.env)) (Q:=fun _ s'=>SP X pins Dn .next s') rfl hs (mo (S.cells I.ok)) S.kind S.loc
  (thn (hi pins s σ H _ I h) fun v s1 h1=>thn h1 fun itv s2 h2=>?_)) (fun _ s' hq=>wpAny_pure (wpAny_pure hq)) fun _ _ e=>e)
 obtain⟨it,fp,tn,J,H2,e,I2,T,st2,f2,hW⟩:=h2
 subst e
 have hlt:∀ b∈fp,b<s2.heap.objs.size:=fun b hb=>by
  obtain⟨o,e,_⟩:=T.obj _ _ st2 b hb
  exact Heap.lt_size e
 refine wpAny_newObj_type (wpAny_newFunctionEnv S.cell (by intro y hy;simp at hy) (fun h₁ hns₁ hsb₁=>?_) S.kind)
 dsimp only at hns₁ hsb₁ ⊢
 generalize hHq:s2.heap.push { cls:=.type "list",dict:=none,data:=.seq ([]:List Value).toArray }=Hq at hns₁ hsb₁ ⊢
 have hC:Hq.objs.size=s2.heap.objs.size+1:=by rw[← hHq,Heap.size_push]
 have hDC:s2.heap.objs.size≠Hq.objs.size:=by rw[hC];exact Nat.ne_of_lt (Nat.lt_succ_self _)
 have hCle:s2.heap.objs.size≤Hq.objs.size:=by rw[hC];exact Nat.le_succ _
 have old:∀ b o,s2.heap.get? b=some o→h₁.get? b=some o:=fun b o e=>
  hsb₁.extBut b o (by rw[hC];exact Nat.ne_of_lt (Nat.lt_succ_of_lt (Heap.lt_size e))) (Heap.get?_push_of_some _ (hHq ▸ Heap.get?_push_of_some _ e))
 have hacc:h₁.get? s2.heap.objs.size=some { cls:=.type "list",data:=.seq ([]:List Value).toArray 0 }:=hsb₁.extBut _ _ hDC (Heap.get?_push_of_some _ (hHq ▸ Heap.get?_push_size _ rfl))
 generalize hCq:Hq.objs.size=C at hns₁ hsb₁ hC hDC hCle ⊢
 generalize hDq:s2.heap.objs.size=D at hacc hC hDC hCle ⊢
 have hCs:s2.heap.objs.size≤C:=by rw[hDq];exact hCle
 obtain⟨W,⟨m0,w0⟩,turn⟩:=hW ⟨C,s2,H2,fp⟩
 have hX':=fun (tk:Nat)=>mr (tk:=tk) S I2 hCs f2 hlt old hns₁
 have hgY:=hg ⟨C,s2,H2,fp⟩
 have htY:=ht ⟨C,s2,H2,fp⟩
 have heY:=he ⟨C,s2,H2,fp⟩
 have hok':=jl S I2 hCs f2 hlt
 generalize hX'q:X.blk (bz X own caps) scope ⟨C,s2,H2,fp⟩=X' at hX' hgY htY heY hok'
 have eP:X'.prog=X.prog:=by rw[← hX'q];rfl
 have ew:X'.w=X.w:=by rw[← hX'q];rfl
 have eK:X'.K=X.K:=by rw[← hX'q];rfl
 have eA:X'.A=X.A:=by rw[← hX'q];rfl
 have ec:X'.calm=true:=by rw[← hX'q];exact hc
 have eL:X'.env.locals=C:=by rw[← hX'q];rfl
 have eex:X'.ex=fp:=by rw[← hX'q];rfl
 have es0:X'.s₀=s2:=by rw[← hX'q];rfl
 have eH0:X'.H₀=H2:=by rw[← hX'q];rfl
 have efs:X'.fs=frs X.stack:=by rw[← hX'q];rfl
 have epn:X'.pn=[]:=by rw[← hX'q];rfl
 have exe:X'.xe=fun _ _=>False:=by rw[← hX'q];rfl
 have eenv:X'.env=compEnvC scope (cV X.env scope.names) C X.env:=by rw[← hX'q];rfl
 have ecell:∀ x c,X'.env.cells.lookup x=some c→X.env.cells.lookup x=some c:=fun x c h=>(S.sub I2.ok (by rw[eenv] at h;exact h)).1
 -- a cell is no new thing
 have nD:∀ x c,X'.env.cells.lookup x=some c→c≠D:=fun x c h z=>by
  obtain⟨v,o,ho,_⟩:=I2.cell x c (ecell x c h)
  have:=Heap.lt_size ho
  rw[z,← hDq] at this
  exact Nat.lt_irrefl _ this
 have fpD:∀ b∈fp,b≠D:=fun b hb z=>by
  have:=hlt b hb
  rw[z,← hDq] at this
  exact Nat.lt_irrefl _ this
 have fsD:D∉X'.fs:=fun z=>by
  obtain⟨_,o,ho,_⟩:=hok'.funs.mem z
  rw[es0] at ho
  have:=Heap.lt_size ho
  rw[hDq] at this
  exact Nat.lt_irrefl _ this
 have fpo:∀ (H':Hp) (o:Obj),(∀ b∈fp,H' b=none)→∀ b∈fp,bv X' [(D,o)] H' b:=fun H' o hn b hb=>by
  refine⟨hn b hb,?_,?_,.inl (by rw[eex];exact hb),fun x c h=>(f2 b hb).2.2.2.2.1 x c (ecell x c h),fun p hp=>?_⟩
  ·rw[eL]
   exact Nat.ne_of_lt (Nat.lt_of_lt_of_le (hlt b hb) hCs)
  ·exact hok'.exfs b (by rw[eex];exact hb)
  ·rw[epn] at hp
   have:p=(D,o):=by simpa using hp
   rw[this]
   exact Ne.symm (fpD b hb)
 have loop:∀ s₃:Shared,s₃={ s2 with heap:=h₁,toks:=s2.toks+([]:List (Str×Value)).length }→
   codeAny (model X.prog X.w) X.A (.compLoop (.ListComp elt [⟨tg,iter,ifs,0⟩] scope pos) 0 (.ref it) (.ref D) X'.env)
    (compPost (model X.prog X.w) X.A X.xe (some (assign (.Name x0 pos') X.env)) (fun _ s'=>SP X pins Dn .next s') (.ref D) C) s₃:=by
  rintro s₃ rfl
  refine mh (fun n s'=>∃ (i:Nat) (ys:List V) (H':Hp) (its:List Value) (k:Nat),Inv X' [(D,{ cls:=.type "list",data:=.seq its.toArray k })] (ci own caps σ) H' s'∧ak ys its∧ys.length≤sizeLine∧tn i s'.heap∧
   (∀ b∈fp,H' b=none)∧W i n ys H') ?_ m0 ?_
  ·rintro n s3 ⟨i,ys,H3,its,k,I3,rv,hz,st3,fr3,w3⟩
   rcases turn i n ys H3 w3 with ⟨stop,qn⟩ | ⟨go,N,hN,step⟩
   ·have:=T.done X' eP ew eK ec i _ s3 _ H3 (fun _ _=>False) I3 (fpo H3 _ fr3) st3 stop
    rw[eA] at this
    refine thn this fun r s4 ⟨hr,I4⟩=>?_
    subst hr
    obtain⟨m,hn,_⟩:=I4.loc
    have hnC:s4.heap.Ns C m:=by rw[← eL];exact hn
    have hp:=I4.pin (D,{ cls:=.type "list",data:=.seq its.toArray k }) (by rw[epn];simp)
    have hD0:H3 D=none:=hp.2.1
    have kp:∀ b,b≠C→s4.heap.get? b=s4.heap.get? b:=fun b hb=>rfl
    have nC:∀ b o,s2.heap.get? b=some o→b≠C:=fun b o e=>Nat.ne_of_lt (Nat.lt_of_lt_of_le (Heap.lt_size e) hCs)
    have nDs:∀ b o,s2.heap.get? b=some o→b≠D:=fun b o e=>by rw[← hDq];exact Nat.ne_of_lt (Heap.lt_size e)
    have ub:Un (frs X.stack) fp H2 H3 s2.heap s4.heap:=by
     have:=I4.base
     rw[efs,eex,eH0,es0] at this
     exact this
    have u:Un (frs X.stack) fp H2 (upd H3 D (.lst ys)) s2.heap s4.heap:=
     ⟨fun b o e n hb hx=>(kp b (nC b o e)).trans (ub.keep b o e n hb hx),
      fun b o e n hb hx=>by
      obtain⟨sl,q⟩:=ub.slot b o e n hb hx
      exact⟨sl,(kp b (nC b o e)).trans q⟩,
      fun b o e n hx=>by rw[ar (nDs b o e)];exact ub.free b o e n hx,
      fun b o e hx=>by
      obtain⟨o',q⟩:=ub.there b o e hx
      exact⟨o',(kp b (nC b o e)).trans q⟩,
      fun b xs e=>by rw[ar (bf (ub.tups b xs e) hD0)];exact ub.tups b xs e,
      fun b o xs e=>by rw[ar (bf (ub.frzs b o xs e) hD0)];exact ub.frzs b o xs e,
      fun b ps e=>by
      obtain⟨more,q⟩:=ub.tbls b ps e
      exact⟨more,by rw[ar (bf q hD0)];exact q⟩⟩
    have hokC:∀ b o,H3 b=some o→b≠C:=fun b o e z=>by
     have:=I4.free
     rw[eL,← z,e] at this
     cases this
    have hk:HOk X.prog X.w (upd H3 D (.lst ys)) s4.heap:=fun a o e=>by
     by_cases ha:a=D
     ·subst ha
      rw[aO] at e
      cases e
      exact⟨hz,its,k,rv,(kp _ hDC).trans hp.1⟩
     ·rw[ar ha] at e
      have:=I4.hok a o e
      rw[eP,ew] at this
      refine this.stay (fun b u hb q=>(kp b ?_).trans q) (fun b q=>by rw[ar (bf q hD0)];exact q) fun b xs q=>by rw[ar (bf q hD0)];exact q
      rcases hb with z | z
      ·rw[z];exact hokC a o e
      ·exact hokC b _ z
    have I4':Inv X pins σ (upd H3 D (.lst ys)) s4:=I2.call' (s':=s4) (ch:=fp) (by have:=I4.os;rw[es0] at this;exact this) u hk I4.bare fun b hb=>⟨(f2 b hb).2.2.2.1,(f2 b hb).2.1,(f2 b hb).2.2.2.2.1,(f2 b hb).2.2.2.2.2⟩
    have nLC:X.env.locals≠C:=by
     obtain⟨m2,hn2,_⟩:=I2.loc
     obtain⟨o,_,_,ho,_⟩:=hn2
     exact nC _ _ ho
    have nCC:∀ x c,X.env.cells.lookup x=some c→c≠C:=fun x c h=>by
     obtain⟨v,o,ho,_⟩:=I2.cell x c h
     exact nC _ _ ho
    show wpAny _ X.A (assign (.Name x0 pos') X.env (.ref D)) _ _ s4
    refine wpAny_assign_Name (lv I4' hN hi0 hx0 (v:=.ref D) rfl (fun s5 I5 h5=>?_) hf0)
    obtain⟨a,sb5,ha⟩:=h5
    have naC:C≠a:=by
     rcases ha with rfl | ha
     ·exact Ne.symm nLC
     ·exact Ne.symm (nCC _ _ ha)
    refine⟨m,hnC.sameBut sb5 naC,fun h' sb=>?_⟩
    refine⟨_,_,?_,qn D hD0⟩
    refine I5.turned (it:=C) (t':=s5.toks) (fun b o hb e=>(sb.2 b hb).trans e) ?_ (Ne.symm nLC) (.inr ?_) nCC (fun p hp=>?_)
    ·rw[ar (Ne.symm hDC)]
     have:=I4.free
     rwa [eL] at this
    ·exact Nat.le_trans I2.sz hCs
    ·exact nC _ _ (I2.pin p hp).1
   ·have:=T.item X' eP ew eK ec i _ s3 _ H3 (fun _ _=>False) I3 (fpo H3 _ fr3) st3 go
    rw[eA] at this
    refine thn this fun r s4 ⟨u,hr,h4⟩=>?_
    subst hr
    refine thn h4 fun _ s5 ⟨x,H5,I5,r5,y5,st5,fr5⟩=>?_
    have I5':=I5.pinned (fpo H5 _ fr5) (T.obj _ _ st5)
    have a6:=hgY _ s5 _ H5 x u _ I5' r5 (step x H5 y5)
    rw[eP,ew,eA,exe] at a6
    refine thn a6 fun _ s6 ⟨σ6,H6,I6,keepσ,q6⟩=>?_
    have a7:=htY _ s6 σ6 H6 _ I6 q6
    rw[eP,ew,eA,exe] at a7
    refine thn a7 fun b s7 ⟨H7,I7,q7⟩=>?_
    -- the next turn's state
    have keep2:∀ {σ':St}{H':Hp}{s':Shared},Inv X' ([(D,{ cls:=.type "list",data:=.seq its.toArray k })]++cv fp s5.heap) σ' H' s'→(∀ b∈fp,H' b=none)∧tn (i+1) s'.heap:=fun {σ' H' s'} I'=>by
     refine⟨fun b hb=>?_,T.keep _ _ _ st5 fun b hb o e=>(I'.pin (b,o) (List.mem_append_right _ (List.mem_append_right _ (fq hb e)))).1⟩
     obtain⟨o,e,_⟩:=T.obj _ _ st5 b hb
     exact (I'.pin (b,o) (List.mem_append_right _ (List.mem_append_right _ (fq hb e)))).2.1
    have wk:∀ {pins':List (Addr×Obj)}{H':Hp}{s':Shared},Inv X' pins' σ6 H' s'→Inv X' pins' (ci own caps σ) H' s':=fun {pins' H' s'} I'=>
     I'.weak (by rw[I'.len,I3.len]) keepσ
    cases b with
    | false=>
     rw[if_neg Bool.false_ne_true] at q7
     obtain⟨m',hm,w7⟩:=hN _ _ q7
     rw[if_neg Bool.false_ne_true]
     obtain⟨k1,k2⟩:=keep2 I7
     exact⟨m',hm,i+1,ys,H7,its,k,wk (I7.pins_of fun p hp=>I7.pin p (by
      rw[epn]
      simp at hp ⊢
      exact .inl hp)),rv,hz,k2,k1,w7⟩
    | true=>
     rw[if_pos rfl] at q7 ⊢
     have a8:=heY _ s7 σ6 H7 _ I7 q7
     rw[eP,ew,eA,exe] at a8
     refine thn a8 fun uv s8 ⟨v8,H8,I8,r8,hz8,n8⟩=>?_
     obtain⟨m',hm,w8⟩:=hN _ _ n8
     have hp:=I8.pin (D,{ cls:=.type "list",data:=.seq its.toArray k }) (List.mem_append_right _ (List.mem_append_left _ (by simp)))
     have eD:=hp.1
     refine call_meets F.slot_list_append ⟨_,eD,rfl⟩ F.entry_list_append (F.args_list_append_2 _ _) (PySem.list_append D its.toArray k uv (by rw[List.size_toArray,← rv.length];omega)) ⟨eD,?_⟩
     have q:=PySem.IsL.update eD (fun a=>a.push uv)
     obtain⟨k1,k2⟩:=keep2 I8
     have I8':Inv X' (cv fp s5.heap) σ6 H8 s8:=I8.pins_of fun p hp=>I8.pin p (List.mem_append_right _ (List.mem_append_right _ hp))
     have oth:∀ b o,b≠D→s8.heap.get? b=some o→(s8.heap.update D (Obj.mapSeq fun a=>a.push uv)).get? b=some o:=fun b o hb e=>(Heap.get?_update_other s8.heap _ (Ne.symm hb)).trans e
     have I9:Inv X' (cv fp s5.heap) σ6 H8 { s8 with heap:=s8.heap.update D (Obj.mapSeq fun a=>a.push uv),toks:=s8.toks }:=
      I8'.turned (it:=D) oth hp.2.1 (by rw[eL];exact hDC) (.inr (by rw[es0,hDq];exact Nat.le_refl _)) nD fun p hp'=>by
       rw[epn] at hp'
       obtain⟨hb,_⟩:=i7 (show p∈cv fp s5.heap by simpa using hp')
       exact fpD _ hb
     refine⟨m',hm,i+1,ys++[v8],H8,its++[uv],k+1,wk (I9.pins_of fun p hp'=>?_),rv.append (.cons r8 .nil),?_,?_,k1,w8⟩
     ·have e:p=(D,{ cls:=.type "list",data:=.seq (its++[uv]).toArray (k+1) }):=by simpa using hp'
      subst e
      refine⟨?_,hp.2.1,hp.2.2.1,hp.2.2.2.1,fun v z=>by cases z⟩
      have e2:its.toArray.push uv=(its++[uv]).toArray:=by simp
      rw[← e2]
      have q':IsL (s8.heap.update D (Obj.mapSeq fun a=>a.push uv)) D (its.toArray.push uv) (if (its.toArray.push uv).size == its.toArray.size then k else k+1):=q
      rw[if_neg (by simp)] at q'
      exact q'
     ·rw[List.length_append,List.length_singleton]
      omega
     ·refine T.keep _ _ _ k2 fun b hb o e=>oth b o (fpD b hb) e
  ·refine⟨0,[],H2,[],0,?_,.nil,Nat.zero_le _,T.keep _ _ _ st2 fun b _ o e=>old b o e,fun b hb=>(f2 b hb).1,w0⟩
   refine (hX' _).pins_of fun p hp=>?_
   have e:p=(D,{ cls:=.type "list",data:=.seq ([]:List Value).toArray 0 }):=by simpa using hp
   subst e
   exact⟨hacc,I2.hok.fresh (by rw[hDq];exact Nat.le_refl _),by rw[eL];exact hDC,fsD,fun v z=>by cases z⟩
 have eenv':compEnvC scope (cV X.env scope.names) C X.env=X'.env:=eenv.symm
 show codeAny (model X.prog X.w) X.A (.compStart _ 0 (.ref it) (.ref D) (compEnvC scope (cV X.env scope.names) C X.env)) _ _
 rw[eenv']
 exact codeAny_compStart_list (loop _ rfl) (T.self X.A 0 _ _ _ (T.keep _ _ _ st2 fun b _ o e=>old b o e) (loop _ rfl))
end
end L2
namespace L2
open PySem PySem.Spec PyProof.Rows
section
variable {X:Cx}
theorem j9 {fix:List Nat}{i:Nat}{x0:Str}{pos' spos:Pos}{tg iter elt:Expr}{ifs:List Expr}{scope:Scope}{pos:Pos}{own:List Str}{caps:List Nat}{gi:MI}{gt:MG}{gc:M Bool}{ge:M Vl}
  (hN:X.N.Nodup) (hi0:X.N[i]?=some x0) (hx0:Loc X.env.scope x0) (hc:X.calm=true) (S:CompScope X scope own caps) (nd:caps.Nodup) (hi:VI X tg iter gi)
  (hg:∀ Y,VG (X.blk (bz X own caps) scope Y) (gD own.length caps.length) tg gt) (ht:∀ Y,VTs (X.blk (bz X own caps) scope Y) ifs gc) (he:∀ Y,VE (X.blk (bz X own caps) scope Y) elt ge) (hf:i∉fix)
  (hs:∀ x,foldedSetIterable iter X.env x=pure x:=by intro _;rfl) (hsw:swapsWith (.ListComp elt [⟨tg,iter,ifs,0⟩] scope pos) (some (.Name x0 pos')) spos.line X.env=pure true:=by rfl)
  (hf0:X.fn x0=true∨X.env.scope.names.lookup x0=some .local:=by first | exact .inl rfl | exact .inr rfl | assumption):
  VS X fix (.Assign [.Name x0 pos'] (.ListComp elt [⟨tg,iter,ifs,0⟩] scope pos) spos) (aw i (aU own.length caps gi gt gc ge)):=by
 refine dL (vE hN hi0 hx0 hc S hi hg ht he hs hsw hf0) fun E σ H ⟨D,F,fl,D',st,nd',hgg,q⟩=>?_
 obtain⟨⟨r,D1⟩,h1,h2⟩:=Option.bind_eq_some_iff.mp hgg
 split at h2
 ·rename_i hl
  cases h2
  refine nh nd ⟨D,F,r,_,st,nd',h1,fun v H1 F1 R st1 ow s1=>?_⟩
  obtain⟨F2,R2,st2,pm⟩:=st1.put (i:=i) ow hl
  exact q _ H1 F2 (aB.set hf) st2 (s1.less pm)
 ·cases h2
end
end L2
namespace L2
open PySem PySem.Spec PyProof.Rows
section
variable {X:Cx}
noncomputable def nR:Vl→Vl
 | .lst x=>.im (.fl x)
 | d=>d
@[simp] theorem yD (x:List Im):nR (.lst x)=.im (.fl x):=rfl
@[simp] theorem yE (d:Im):nR (.im d)=.im d:=rfl
end
end L2
namespace HT
open PySem PySem.Spec PyProof.Rows
section
variable {prog:Program}{w:World}{A:Around}{E:Value→Shared→Prop}{s:Shared}
end
end HT
namespace L2
open PySem PySem.Spec PyProof.Rows
section
variable {X:Cx}
end
end L2
namespace L2
open PySem PySem.Spec PyProof.Rows
theorem nS {h:Heap}:∀ (n:Nat) {x y:Im}{v:Value},Im.pl n x=true→Im.pl n y=true→ImV h x v→ImV h y v→x=y
 | n,.non,y,v,_,ky,hx,hy=>by
  cases (show v=.none from hx)
  cases y with
  | non=>rfl
  | bl b=>cases hy
  | int j=>obtain⟨u,e⟩:=hy;cases e
  | str z=>obtain⟨u,e⟩:=hy;cases e
  | tup ds=>obtain⟨_,_,_,_,e,_⟩:=hy;cases e
  | fn a=>cases n<;>cases ky
  | fl a=>cases n<;>cases ky
 | n,.bl b,y,v,_,ky,hx,hy=>by
  cases (show v=.bool b from hx)
  cases y with
  | non=>cases hy
  | bl c=>cases hy;rfl
  | int j=>obtain⟨u,e⟩:=hy;cases e
  | str z=>obtain⟨u,e⟩:=hy;cases e
  | tup ds=>obtain⟨_,_,_,_,e,_⟩:=hy;cases e
  | fn a=>cases n<;>cases ky
  | fl a=>cases n<;>cases ky
 | n,.int i,y,v,_,ky,hx,hy=>by
  obtain⟨t,rfl⟩:=hx
  cases y with
  | non=>cases hy
  | bl c=>cases hy
  | int j=>obtain⟨u,e⟩:=hy;injection e with e;rw[e]
  | str z=>obtain⟨u,e⟩:=hy;cases e
  | tup ds=>obtain⟨_,_,_,_,e,_⟩:=hy;cases e
  | fn a=>cases n<;>cases ky
  | fl a=>cases n<;>cases ky
 | n,.str i,y,v,_,ky,hx,hy=>by
  obtain⟨t,rfl⟩:=hx
  cases y with
  | non=>cases hy
  | bl c=>cases hy
  | int j=>obtain⟨u,e⟩:=hy;cases e
  | str z=>obtain⟨u,e⟩:=hy;injection e with e;rw[e]
  | tup ds=>obtain⟨_,_,_,_,e,_⟩:=hy;cases e
  | fn a=>cases n<;>cases ky
  | fl a=>cases n<;>cases ky
 | n+1,.tup ds,y,v,kx,ky,hx,hy=>by
  obtain⟨a,o,items,m,rfl,h1,h2,h3,h4⟩:=hx
  cases y with
  | non=>cases hy
  | bl c=>cases hy
  | int j=>obtain⟨u,e⟩:=hy;cases e
  | str z=>obtain⟨u,e⟩:=hy;cases e
  | fn a=>cases ky
  | fl a=>cases ky
  | tup es=>
   obtain⟨a',o',items',m',e,g1,g2,g3,g4⟩:=hy
   cases e
   rw[h1] at g1
   cases g1
   rw[h3] at g3
   injection g3 with g3 _
   subst g3
   have all:∀ (ds es:List Im) (vs:List Value),Im.pls n ds=true→Im.pls n es=true→aD h ds vs→aD h es vs→ds=es:=by
    intro ds
    induction ds with
    | nil=>
     intro es vs _ _ a b
     cases es with
     | nil=>rfl
     | cons e es=>obtain⟨_,_,q,_⟩:=b;rw[show vs=[] from a] at q;cases q
    | cons d ds ih=>
     intro es vs k1 k2 a b
     obtain⟨v,r,rfl,a1,a2⟩:=a
     cases es with
     | nil=>cases (show v::r=[] from b)
     | cons e es=>
      obtain⟨v',r',q,b1,b2⟩:=b
      cases q
      rw[Im.pls,Bool.and_eq_true] at k1 k2
      rw[nS n k1.1 k2.1 a1 b1,ih es r k1.2 k2.2 a2 b2]
   rw[all ds es _ kx ky h4 g4]
 | 0,.tup _,_,_,k,_,_,_=>by cases k
 | n,.fn _,_,_,k,_,_,_=>by cases n<;>cases k
 | n,.fl _,_,_,k,_,_,_=>by cases n<;>cases k
open Classical in
noncomputable def eM (h:Heap) (d:Im) (v:Value):Bool:=if z:∃ x,Im.pl 8 x=true∧ImV h x v then aq z.choose d else false
theorem gI {h:Heap}{d x:Im}{v:Value} (k:Im.pl 8 x=true) (i:ImV h x v):eM h d v=aq x d:=by
 unfold eM
 have z:∃ x,Im.pl 8 x=true∧ImV h x v:=⟨x,k,i⟩
 rw[dif_pos z,nS 8 z.choose_spec.1 k z.choose_spec.2 i]
theorem gJ {h:Heap}{d:Im}:∀ {ds:List Im}{vs:List Value},Im.pls 8 ds=true→aD h ds vs→vs.any (eM h d)=ds.any fun x=>aq x d
 | [],vs,_,e=>by rw[show vs=[] from e];rfl
 | x::ds,vs,k,e=>by
  obtain⟨v,r,rfl,h1,h2⟩:=e
  rw[Im.pls,Bool.and_eq_true] at k
  rw[List.any_cons,List.any_cons,gI k.1 h1,gJ k.2 h2]
theorem gK {h:Heap}:∀ {ds:List Im}{vs:List Value}{v:Value},Im.pls 8 ds=true→aD h ds vs→v∈vs→∃ x,Im.pl 8 x=true∧ImV h x v
 | [],vs,v,_,e,m=>by rw[show vs=[] from e] at m;cases m
 | x::ds,vs,v,k,e,m=>by
  obtain⟨u,r,rfl,h1,h2⟩:=e
  rw[Im.pls,Bool.and_eq_true] at k
  rcases List.mem_cons.mp m with rfl | m
  ·exact⟨x,k.1,h1⟩
  ·exact gK k.2 h2 m
section
variable {X:Cx}
noncomputable def inB (d:Im):Vl→Option Bool
 | .im (.tup ds)=>if (Im.pl 8 d && Im.pls 8 ds)=true then some (ds.any fun x=>aq x d) else none
 | .lst ds=>if (Im.pl 8 d && Im.pls 8 ds)=true then some (ds.any fun x=>aq x d) else none
 | .dT kvs=>match d with
  | .tup k=>if Im.keys 7 k=true then some (aH kvs k).isSome else none
  | _=>none
 | .dK kvs=>match d with
  | .int i=>some (aH kvs (.inl i)).isSome
  | .str x=>some (aH kvs (.inr x)).isSome
  | _=>none
 | _=>none
@[simp] theorem vF (d:Im) (ds:List Im):inB d (.im (.tup ds))=if (Im.pl 8 d && Im.pls 8 ds)=true then some (ds.any fun x=>aq x d) else none:=rfl
@[simp] theorem vG (d:Im) (ds:List Im):inB d (.lst ds)=if (Im.pl 8 d && Im.pls 8 ds)=true then some (ds.any fun x=>aq x d) else none:=rfl
@[simp] theorem yF (k:List Im) (kvs:List (List Im×Im)):inB (.tup k) (.dT kvs)=if Im.keys 7 k=true then some (aH kvs k).isSome else none:=rfl
@[simp] noncomputable def vIn:Op2:=fun a b=>match a with
 | .im d=>(inB d b).map fun r=>.im (.bl r)
 | _=>none
@[simp] noncomputable def vNotIn:Op2:=fun a b=>match a with
 | .im d=>(inB d b).map fun r=>.im (.bl (!r))
 | _=>none
theorem fO {κ:Type} [DecidableEq κ] {H:Hp}{k:κ}{kvs:List (κ×Im)}{kws:List (κ×V)} (h:PKv H kvs kws):(bF kws k).isSome=(aH kvs k).isSome:=by
 cases e:aH kvs k with
 | none=>rw[(eI h).2 e];rfl
 | some d=>obtain⟨v,h1,_⟩:=(eI h).1 d e;rw[h1];rfl
theorem vH {pins:List (Addr×Obj)}{σ:St}{H:Hp}{s:Shared}{x y:V}{v u:Value}{d:Im}{d2:Vl}{b:Bool}{Q:Value→Shared→Prop} (hu:X.A.units+20<cLine) (I:Inv X pins σ H s) (rx:am x v) (ry:am y u) (i1:IsI H d x) (r2:Rdb H d2 y) (e:inB d d2=some b)
  (q:∀ s',Inv X pins σ H s'→Q (.bool b) s'):wpAny (model X.prog X.w) X.A (compareOp .In v u) Q X.xe s:=by
 unfold inB at e
 split at e
 ·rename_i ds
  split at e
  ·rename_i hp
   cases e
   rw[Bool.and_eq_true] at hp
   obtain⟨a,xs,rfl,h1,h2⟩:=r2.i
   cases ry
   obtain⟨its,rv,p,_⟩:=I.tuple (SqT.of h1)
   have iv:=h2.imv I.hok rv
   refine SeqAt.in_tupleAt (eM s.heap d) (show s.heap.IsTuple a its.toArray from p) (fun w hw=>?_) ?_
   ·obtain⟨z,z1,z2⟩:=gK hp.2 iv (by simpa using hw)
    rw[gI z1 z2]
    exact cf 8 z1 hp.1 (by show X.A.units+1+8+1<cLine;omega) z2 (i1.imv I.hok rx)
   ·rw[List.any_toArray,gJ hp.2 iv]
    exact q s I
  ·cases e
 ·rename_i ds
  split at e
  ·rename_i hp
   cases e
   rw[Bool.and_eq_true] at hp
   obtain⟨_,a,xs,rfl,h1,h2,_⟩:=r2
   cases ry
   obtain⟨its,p,iv,_⟩:=fH I h1 h2
   refine SeqAt.in_listAt (eM s.heap d) p (fun w hw=>?_) ?_
   ·obtain⟨z,z1,z2⟩:=gK hp.2 iv (by simpa using hw)
    rw[gI z1 z2]
    exact cf 8 z1 hp.1 (by show X.A.units+1+8+1<cLine;omega) z2 (i1.imv I.hok rx)
   ·rw[List.any_toArray,gJ hp.2 iv]
    exact q s I
  ·cases e
 ·rename_i kvs
  split at e
  ·rename_i k
   split at e
   ·rename_i hk
    cases e
    obtain⟨_,a,kws,rfl,h1,h2,_⟩:=r2
    cases ry
    obtain⟨b,ys,rfl,g1,g2⟩:=i1
    rw[← fO h2] at q
    exact je hu I (bi.t h1 ⟨hk,b,ys,rfl,g1,g2⟩) rx q
   ·cases e
  ·cases e
 ·rename_i kvs
  split at e
  ·rename_i i
   cases e
   obtain⟨_,a,kws,rfl,h1,h2,_⟩:=r2
   cases ry
   rw[← fO h2] at q
   cases (show x=kV (.inl i) from i1)
   exact je hu I (bi.k h1) rx q
  ·rename_i i
   cases e
   obtain⟨_,a,kws,rfl,h1,h2,_⟩:=r2
   cases ry
   rw[← fO h2] at q
   cases (show x=kV (.inr i) from i1)
   exact je hu I (bi.k h1) rx q
  ·cases e
 ·cases e
theorem nU (hu:X.A.units+20<cLine):OpV X (compareOp .In) vIn:=by
 intro pins s σ H x y v u Q I rx ry ⟨d1,d2,d,r1,r2,e,q⟩
 unfold vIn at e
 split at e
 ·obtain⟨b,e1,e2⟩:=Option.map_eq_some_iff.mp e
  cases e2
  exact vH hu I rx ry r1.i r2 e1 fun s' I'=>⟨.bl b,H,I',rfl,Out.i q rfl⟩
 ·cases e
theorem vI {pins:List (Addr×Obj)}{σ:St}{H:Hp}{s:Shared}{x y:V}{v u:Value}{d:Im}{d2:Vl}{b:Bool}{Q:Value→Shared→Prop} (hu:X.A.units+20<cLine) (I:Inv X pins σ H s) (rx:am x v) (ry:am y u) (i1:IsI H d x) (r2:Rdb H d2 y) (e:inB d d2=some b)
  (q:∀ s',Inv X pins σ H s'→Q (.bool (!b)) s'):wpAny (model X.prog X.w) X.A (compareOp .NotIn v u) Q X.xe s:=by
 unfold inB at e
 split at e
 ·rename_i ds
  split at e
  ·rename_i hp
   cases e
   rw[Bool.and_eq_true] at hp
   obtain⟨a,xs,rfl,h1,h2⟩:=r2.i
   cases ry
   obtain⟨its,rv,p,_⟩:=I.tuple (SqT.of h1)
   have iv:=h2.imv I.hok rv
   refine SeqAt.notIn_tupleAt (eM s.heap d) (show s.heap.IsTuple a its.toArray from p) (fun w hw=>?_) ?_
   ·obtain⟨z,z1,z2⟩:=gK hp.2 iv (by simpa using hw)
    rw[gI z1 z2]
    exact cf 8 z1 hp.1 (by show X.A.units+1+8+1<cLine;omega) z2 (i1.imv I.hok rx)
   ·rw[List.any_toArray,gJ hp.2 iv]
    exact q s I
  ·cases e
 ·rename_i ds
  split at e
  ·rename_i hp
   cases e
   rw[Bool.and_eq_true] at hp
   obtain⟨_,a,xs,rfl,h1,h2,_⟩:=r2
   cases ry
   obtain⟨its,p,iv,_⟩:=fH I h1 h2
   refine SeqAt.notIn_listAt (eM s.heap d) p (fun w hw=>?_) ?_
   ·obtain⟨z,z1,z2⟩:=gK hp.2 iv (by simpa using hw)
    rw[gI z1 z2]
    exact cf 8 z1 hp.1 (by show X.A.units+1+8+1<cLine;omega) z2 (i1.imv I.hok rx)
   ·rw[List.any_toArray,gJ hp.2 iv]
    exact q s I
  ·cases e
 ·rename_i kvs
  split at e
  ·rename_i k
   split at e
   ·rename_i hk
    cases e
    obtain⟨_,a,kws,rfl,h1,h2,_⟩:=r2
    cases ry
    obtain⟨b,ys,rfl,g1,g2⟩:=i1
    rw[← fO h2] at q
    exact jf hu I (bi.t h1 ⟨hk,b,ys,rfl,g1,g2⟩) rx q
   ·cases e
  ·cases e
 ·rename_i kvs
  split at e
  ·rename_i i
   cases e
   obtain⟨_,a,kws,rfl,h1,h2,_⟩:=r2
   cases ry
   rw[← fO h2] at q
   cases (show x=kV (.inl i) from i1)
   exact jf hu I (bi.k h1) rx q
  ·rename_i i
   cases e
   obtain⟨_,a,kws,rfl,h1,h2,_⟩:=r2
   cases ry
   rw[← fO h2] at q
   cases (show x=kV (.inr i) from i1)
   exact jf hu I (bi.k h1) rx q
  ·cases e
 ·cases e
theorem nV (hu:X.A.units+20<cLine):OpV X (compareOp .NotIn) vNotIn:=by
 intro pins s σ H x y v u Q I rx ry ⟨d1,d2,d,r1,r2,e,q⟩
 unfold vNotIn at e
 split at e
 ·obtain⟨b,e1,e2⟩:=Option.map_eq_some_iff.mp e
  cases e2
  exact vI hu I rx ry r1.i r2 e1 fun s' I'=>⟨.bl (!b),H,I',rfl,Out.i q rfl⟩
 ·cases e
@[simp] noncomputable def dR (f f':Op2) (ga gb gc:M Opd):M Vl:=fun D=>(ga D).bind fun p=>(gb p.2).bind fun q=>(rsl q.2 p.1).bind fun d1=>(rsl q.2 q.1).bind fun d2=>(f d1 d2).bind fun d=>(asB d).bind fun k=>
 if k=true then (gc q.2).bind fun r=>(rsl r.2 q.1).bind fun d2'=>(rsl r.2 r.1).bind fun d3=>(f' d2' d3).bind fun z=>(asB z).map fun b=>(.im (.bl b),r.2) else some (.im (.bl false),q.2)
theorem vJ {f f':Op2}{ga gb gc:M Opd}{σ:St}{H:Hp}{Q:VK} (h:tV (dR f f' ga gb gc) σ H Q):
  lH (fun x y H Q=>∃ d1 d2 d,Rdb H d1 x∧Rdb H d2 y∧f d1 d2=some d∧Out H d Q) (fun x y H Q=>∃ d1 d2 d,Rdb H d1 x∧Rdb H d2 y∧f' d1 d2=some d∧Out H d Q) (tO ga) (tO gb) (tO gc) σ H Q:=by
 obtain⟨D,F,r,D',st,nd,hg,q⟩:=h
 obtain⟨⟨o1,D1⟩,h1,hg⟩:=Option.bind_eq_some_iff.mp hg
 obtain⟨⟨o2,D2⟩,h2,hg⟩:=Option.bind_eq_some_iff.mp hg
 obtain⟨d1,h3,hg⟩:=Option.bind_eq_some_iff.mp hg
 obtain⟨d2,h4,hg⟩:=Option.bind_eq_some_iff.mp hg
 obtain⟨d,h5,hg⟩:=Option.bind_eq_some_iff.mp hg
 obtain⟨k,h6,hK⟩:=Option.bind_eq_some_iff.mp hg
 have hd:=ig h6
 subst hd
 refine⟨D,F,o1,D1,st,nd,h1,fun x H1 F1 R1 st1 w1 s1=>⟨D1,F1,o2,D2,st1,(List.nodup_append.mp s1.nd).1,h2,fun y H2 F2 R2 st2 w2 s2=>?_⟩⟩
 have w1':bZ H2 σ o1 x R1:=w1.mono s2.tup fun a ha o e=>s2.keep a o e fun h=>(List.nodup_append.mp s1.nd).2.2 a h a ha rfl
 refine⟨d1,d2,_,w1'.read st2 h3,w2.read st2 h4,h5,fun v H3 R3 sm ow ndR fr=>?_⟩
 obtain⟨rfl,rfl⟩:=(show v=.bl k∧R3=[] from ow)
 refine⟨k,rfl,?_⟩
 have s12:=s1.trans s2 w1.chg
 rw[List.append_assoc] at s12
 have sA:=s12.new sm List.nodup_nil (fun a ha=>nomatch ha) st2.chg
 have st3:ah H3 D2 σ F2:=st2.mono sm.tupS fun a _ o e=>sm a o e
 cases k with
 | false=>
  rw[if_neg Bool.false_ne_true] at hK ⊢
  cases hK
  exact q _ H3 F2 [] st3 ⟨rfl,rfl⟩ sA
 | true=>
  rw[if_pos rfl] at hK ⊢
  obtain⟨⟨o3,D3⟩,g1,k1⟩:=Option.bind_eq_some_iff.mp hK
  obtain⟨d2',g2,k2⟩:=Option.bind_eq_some_iff.mp k1
  obtain⟨d3,g3,k3⟩:=Option.bind_eq_some_iff.mp k2
  obtain⟨z,g4,k4⟩:=Option.bind_eq_some_iff.mp k3
  obtain⟨b,g5,k5⟩:=Option.map_eq_some_iff.mp k4
  cases k5
  have hz:=ig g5
  subst hz
  rw[List.append_nil] at sA
  refine⟨D2,F2,o3,D3,st3,sA.nd,g1,fun w H4 F3 R4 st4 w3 s4=>?_⟩
  have nd2:=List.nodup_append.mp s2.nd
  have w2':bZ H4 σ o2 y R2:=(w2.mono sm.tupS fun a _ o e=>sm a o e).mono s4.tup fun a ha o e=>s4.keep a o e fun h=>nd2.2.2 a h a ha rfl
  refine⟨d2',d3,_,w2'.read st4 g2,w3.read st4 g3,g4,fun v H5 R5 sm5 ow5 nd5 fr5=>?_⟩
  obtain⟨rfl,rfl⟩:=(show v=.bl b∧R5=[] from ow5)
  exact q _ H5 F3 [] (st4.mono sm5.tupS fun a _ o e=>sm5 a o e) ⟨rfl,rfl⟩ ((sA.seq s4).new sm5 List.nodup_nil (fun a ha=>nomatch ha) st4.chg)
theorem nW {op op':CmpOp}{f f':Op2}{a b c:Expr}{ga gb gc:M Opd}{pos:Pos} (ho:OpV X (compareOp op) f) (ho':OpV X (compareOp op') f') (ha:VO X a ga) (hb:VO X b gb) (hc:VO X c gc)
  (hm:lastMarks [op,op'] [b,c]=false:=by with_unfolding_all rfl):VT X (.Compare a [op,op'] [b,c] pos) (kB (dR f f' ga gb gc)):=by
 refine ic (rQ ho ho' ha hb hc hm) fun σ H Q ⟨D,F,k,D',st,nd,hg,q⟩=>?_
 refine vJ ⟨D,F,.im (.bl k),D',st,nd,?_,fun v H' F' R st' ow s=>⟨k,ow.1,q H' F' st' (by rw[ow.2,List.append_nil] at s;exact s)⟩⟩
 obtain⟨p,h1,h2⟩:=Option.bind_eq_some_iff.mp hg
 obtain⟨c',h3,h4⟩:=Option.map_eq_some_iff.mp h2
 cases h4
 rw[h1,← ig h3]
end
end L2
namespace L2
open PySem PySem.Spec PyProof.Rows
mutual
noncomputable def ltM:Im→Im→Bool
 | .int i,.int j=>decide (i<j)
 | .tup a,.tup b=>bn a b
 | _,_=>false
noncomputable def bn:List Im→List Im→Bool
 | [],[]=>false
 | [],_::_=>true
 | _::_,[]=>false
 | a::r,b::t=>if Im.beq a b=true then bn r t else ltM a b
end
mutual
noncomputable def aV:Nat→Im→Im→Bool
 | _,.int _,.int _=>true
 | n+1,.tup a,.tup b=>bd n a b
 | _,_,_=>false
noncomputable def bd:Nat→List Im→List Im→Bool
 | _,[],[]=>true
 | n,a::r,b::t=>aV n a b && bd n r t
 | _,_,_=>false
end
theorem iC:∀ {n:Nat}{a b:List Im},bd n a b=true→a.length=b.length
 | _,[],[],_=>rfl
 | n,a::r,b::t,h=>by
  rw[bd,Bool.and_eq_true] at h
  rw[List.length_cons,List.length_cons,iC h.2]
 | _,[],_::_,h=>by cases h
 | _,_::_,[],h=>by cases h
mutual
theorem fP:∀ {n:Nat}{a b:Im},aV n a b=true→Im.pl n a=true∧Im.pl n b=true∧aq a b=Im.beq a b
 | n,.int i,.int j,_=>by
  refine⟨by cases n<;>rfl,by cases n<;>rfl,?_⟩
  rw[aq,Im.beq]
  by_cases h:i=j<;>simp[h]
 | n+1,.tup a,.tup b,h=>by
  rw[aV] at h
  obtain⟨h1,h2,h3⟩:=nX h
  exact⟨h1,h2,by rw[aq,Im.beq];exact h3⟩
theorem nX:∀ {n:Nat}{a b:List Im},bd n a b=true→Im.pls n a=true∧Im.pls n b=true∧aW a b=Im.beqs a b
 | n,[],[],_=>⟨by cases n<;>rfl,by cases n<;>rfl,rfl⟩
 | n,a::r,b::t,h=>by
  rw[bd,Bool.and_eq_true] at h
  obtain⟨h1,h2,h3⟩:=fP h.1
  obtain⟨g1,g2,g3⟩:=nX h.2
  exact⟨by rw[Im.pls,h1,g1];rfl,by rw[Im.pls,h2,g2];rfl,by rw[aW,Im.beqs,h3,g3]⟩
end
theorem eO {a b:Im} (h:¬ a=b):Im.beq a b=false:=by
 cases e:Im.beq a b with
 | false=>rfl
 | true=>exact absurd ((Im.beq_iff a b).mp e) h
mutual
theorem nY:∀ a:Im,ltM a a=false
 | .int i=>by simp[ltM]
 | .tup a=>by rw[ltM];exact nZ a
 | .non=>rfl
 | .bl _=>rfl
 | .str _=>rfl
 | .fn _=>rfl
 | .fl _=>rfl
theorem nZ:∀ a:List Im,bn a a=false
 | []=>rfl
 | a::r=>by rw[bn,if_pos ((Im.beq_iff a a).mpr rfl)];exact nZ r
end
mutual
theorem fQ:∀ {n:Nat}{a b:Im},aV n a b=true→a≠b→ltM a b=!(ltM b a)
 | n,.int i,.int j,_,h=>by
  have:i≠j:=fun e=>h (by rw[e])
  rw[ltM,ltM]
  rcases Int.lt_or_gt_of_ne this with g | g
  ·simp[g];omega
  ·simp[g];omega
 | n+1,.tup a,.tup b,h,e=>by
  rw[aV] at h
  rw[ltM,ltM]
  exact n4 h fun z=>e (by rw[z])
theorem n4:∀ {n:Nat}{a b:List Im},bd n a b=true→a≠b→bn a b=!(bn b a)
 | n,[],[],_,h=>absurd rfl h
 | n,a::r,b::t,h,e=>by
  rw[bd,Bool.and_eq_true] at h
  rw[bn,bn]
  by_cases z:a=b
  ·subst z
   rw[if_pos ((Im.beq_iff a a).mpr rfl),if_pos ((Im.beq_iff a a).mpr rfl)]
   exact n4 h.2 fun w=>e (by rw[w])
  ·rw[eO z,eO (fun w=>z w.symm),if_neg Bool.false_ne_true,if_neg Bool.false_ne_true]
   exact fQ h.1 z
end
mutual
theorem ka:∀ {n:Nat}{a b c:Im},aV n a b=true→aV n b c=true→ltM a b=true→ltM b c=true→ltM a c=true
 | n,.int i,.int j,.int k,_,_,h1,h2=>by
  rw[ltM] at h1 h2 ⊢
  have:=of_decide_eq_true h1
  have:=of_decide_eq_true h2
  exact decide_eq_true (by omega)
 | n+1,.tup a,.tup b,.tup c,l1,l2,h1,h2=>by
  rw[aV] at l1 l2
  rw[ltM] at h1 h2 ⊢
  exact n5 l1 l2 h1 h2
theorem n5:∀ {n:Nat}{a b c:List Im},bd n a b=true→bd n b c=true→bn a b=true→bn b c=true→bn a c=true
 | n,[],[],[],_,_,h,_=>h
 | n,a::r,b::t,c::u,l1,l2,h1,h2=>by
  rw[bd,Bool.and_eq_true] at l1 l2
  rw[bn] at h1 h2 ⊢
  by_cases z1:a=b
  ·subst z1
   rw[if_pos ((Im.beq_iff a a).mpr rfl)] at h1
   by_cases z2:a=c
   ·subst z2
    rw[if_pos ((Im.beq_iff a a).mpr rfl)] at h2 ⊢
    exact n5 l1.2 l2.2 h1 h2
   ·rw[eO z2,if_neg Bool.false_ne_true] at h2 ⊢
    exact h2
  ·rw[eO z1,if_neg Bool.false_ne_true] at h1
   by_cases z2:b=c
   ·subst z2
    rw[eO z1,if_neg Bool.false_ne_true]
    exact h1
   ·rw[eO z2,if_neg Bool.false_ne_true] at h2
    have h3:=ka l1.1 l2.1 h1 h2
    have z3:¬ a=c:=fun w=>by
     subst w
     have:=fQ l2.1 z2
     rw[h1,h2] at this
     cases this
    rw[eO z3,if_neg Bool.false_ne_true]
    exact h3
end
end L2
namespace L2
open PySem PySem.Spec PyProof.Rows
noncomputable def kb (A:Around) (s:Shared) (y x:Value) (k:Bool):Prop:=∀ (prog:Program) (w:World) (E:Value→Shared→Prop) (Q:Value→Shared→Prop),Q (.bool k) s→wpAny (model prog w) A (richCompare .Lt y x) Q E s
noncomputable def bU (f:Bool):List (Bool×Bool)→Bool
 | []=>f
 | (e,k)::r=>if e=true then bU f r else k
section
open PySem.SeqAt
open PySem.AutoSeq1 (wpAny_loadPart')
open PySem.MeetsSeq PySem.MeetsSeq2 PySem.MeetsSeq3
theorem vK (l b:Addr) (items items2:Array Value) (n n2:Nat) (dd dd2:Option Addr) (sl sl2:Array (Option Value)) (ps:List (Bool×Bool)) (hps:ps.length=min items.size items2.size):
  Meets (Builtin.«tuple.__lt__» ⟨[.ref l,.ref b],[]⟩)
   (fun A R s=>s.heap.get? l=some { cls:=.type "tuple",dict:=dd,data:=.seq items n,slots:=sl }∧s.heap.get? b=some { cls:=.type "tuple",dict:=dd2,data:=.seq items2 n2,slots:=sl2 }∧
    (∀ j (h1:j<items.size) (h2:j<items2.size) (h3:j<ps.length),EqAt A.in1 s items[j] items2[j] (ps[j]).1∧((ps[j]).1=false→kb A.in1 s items[j] items2[j] (ps[j]).2))∧
    R (.ok (.ret (.bool (bU (decide (items.size<items2.size)) ps)))) s):=
 .of_wp fun prog w A R s h=>by
  obtain⟨hp,g,d,tk,os⟩:=s;obtain⟨hl,hb,he,h⟩:=h
  have f2:=AutoSeq1.sub_tuple_tuple
  have hZ:(items.toList.zip items2.toList).length=min items.size items2.size:=by simp
  wp_walk using wpAny_loadPart' hl,wpAny_loadPart' hb,wpAny_forIn_list _ (fun rest b s'=>b.1=none∧s'=⟨hp,g,d,tk,os⟩∧∃ i,rest=(items.toList.zip items2.toList).drop i∧
   R (.ok (.ret (.bool (bU (decide (items.size<items2.size)) (ps.drop i))))) ⟨hp,g,d,tk,os⟩) _
  case turn=>
   rintro⟨y,x⟩ rest b s' ⟨hb',rfl,i,hz,hR⟩
   have hlt:i<(items.toList.zip items2.toList).length:=by
    rcases Nat.lt_or_ge i (items.toList.zip items2.toList).length with h' | h'
    ·exact h'
    ·rw[List.drop_of_length_le h'] at hz;cases hz
   have hm:i<min items.size items2.size:=hZ ▸ hlt
   have h1:i<items.size:=by omega
   have h2:i<items2.size:=by omega
   have h3:i<ps.length:=by omega
   rw[List.drop_eq_getElem_cons hlt] at hz
   injection hz with hyx hrest
   have hy:y=items[i]:=by have:=congrArg Prod.fst hyx;simpa using this
   have hx:x=items2[i]:=by have:=congrArg Prod.snd hyx;simpa using this
   subst hy hx
   rw[List.drop_eq_getElem_cons h3] at hR
   obtain⟨he1,he2⟩:=he i h1 h2 h3
   generalize ps[i]=pr at hR he1 he2
   obtain⟨e,k⟩:=pr
   refine wpAny_bind (he1 prog w _ _ ?_)
   cases e with
   | true=>
    have hR':R (.ok (.ret (.bool (bU (decide (items.size<items2.size)) (ps.drop (i+1)))))) ⟨hp,g,d,tk,os⟩:=hR
    wp_walk
    exact⟨rfl,rfl,i+1,hrest,hR'⟩
   | false=>
    have hR':R (.ok (.ret (.bool k))) ⟨hp,g,d,tk,os⟩:=hR
    have hri:=he2 rfl prog w
    wp_walk using hri
    exact⟨_,rfl,by simpa using hR'⟩
  case fin=>
   rintro⟨b1,b2⟩ s' ⟨hb',rfl,i,hz,hR⟩
   simp only at hb'
   subst hb'
   have hge:min items.size items2.size≤i:=by
    rcases Nat.lt_or_ge i (items.toList.zip items2.toList).length with h' | h'
    ·rw[List.drop_eq_getElem_cons h'] at hz;cases hz
    ·exact hZ ▸ h'
   rw[List.drop_of_length_le (by omega)] at hR
   have hR':R (.ok (.ret (.bool (decide (items.size<items2.size))))) ⟨hp,g,d,tk,os⟩:=hR
   wp_walk
   exact⟨_,rfl,by simpa [Builtin.Tuple.tupleCompareSizes] using hR'⟩
  case h=>
   exact⟨rfl,rfl,0,rfl,by simpa using h⟩
end
noncomputable def zpM (ds es:List Im):List (Bool×Bool):=(ds.zip es).map fun p=>(aq p.1 p.2,ltM p.1 p.2)
theorem n6:∀ {n:Nat}{ds es:List Im},bd n ds es=true→bU false (zpM ds es)=bn ds es
 | _,[],[],_=>rfl
 | n,a::r,b::t,h=>by
  rw[bd,Bool.and_eq_true] at h
  show (if aq a b=true then bU false (zpM r t) else ltM a b)=bn (a::r) (b::t)
  rw[bn,(fP h.1).2.2,n6 h.2]
 | _,[],_::_,h=>by cases h
 | _,_::_,[],h=>by cases h
theorem kc {n:Nat}:∀ {ds es:List Im}{j:Nat}{a b:Im},bd n ds es=true→ds[j]?=some a→es[j]?=some b→aV n a b=true
 | [],es,j,a,b,_,h,_=>by simp at h
 | d::ds,[],j,a,b,h,_,_=>by cases h
 | d::ds,e::es,0,a,b,h,h1,h2=>by
  rw[bd,Bool.and_eq_true] at h
  cases h1
  cases h2
  exact h.1
 | d::ds,e::es,j+1,a,b,h,h1,h2=>by
  rw[bd,Bool.and_eq_true] at h
  exact kc (j:=j) h.2 (by simpa using h1) (by simpa using h2)
theorem n9 {s:Shared}{A:Around}{i j:Int}{u v:Value} (hx:ImV s.heap (.int i) u) (hy:ImV s.heap (.int j) v):kb A s u v (ltM (.int i) (.int j)):=by
 obtain⟨t,rfl⟩:=hx
 obtain⟨t',rfl⟩:=hy
 intro prog w E Q q
 rw[ltM] at q
 exact HT.sq A s i t j t' prog w E Q q
theorem gL:∀ {n:Nat}{x y:Im},aV n x y=true→(∃ i j,x=.int i∧y=.int j)∨∃ m a b,n=m+1∧x=.tup a∧y=.tup b∧bd m a b=true:=by
 intro n x y h
 cases x with
 | int i=>
  cases y with
  | int j=>exact .inl ⟨i,j,rfl,rfl⟩
  | _=>cases n<;>cases h
 | tup a=>
  cases y with
  | tup b=>
   cases n with
   | zero=>cases h
   | succ m=>exact .inr ⟨m,a,b,rfl,rfl,rfl,h⟩
  | _=>cases n<;>cases h
 | _=>cases n<;>cases y<;>cases h
theorem oa {s:Shared} (n:Nat):∀ {A:Around}{x y:Im}{u v:Value},aV n x y=true→A.units+n+2<cLine→ImV s.heap x u→ImV s.heap y v→kb A s u v (ltM x y):=by
 induction n with
 | zero=>
  intro A x y u v h hu hx hy
  rcases gL h with ⟨i,j,rfl,rfl⟩ | ⟨m,_,_,e,_⟩
  ·exact n9 hx hy
  ·cases e
 | succ n ih=>
  intro A x y u v h hu hx hy
  rcases gL h with ⟨i,j,rfl,rfl⟩ | ⟨m,ds,es,e,rfl,rfl,h⟩
  ·exact n9 hx hy
  cases e
  obtain⟨a,o,its,m,rfl,h1,h2,h3,h4⟩:=hx
  obtain⟨b,o',its',m',rfl,g1,g2,g3,g4⟩:=hy
  obtain⟨cls,dd,data,sl⟩:=o
  obtain⟨cls',dd',data',sl'⟩:=o'
  simp only at h2 h3 g2 g3
  subst h2 h3 g2 g3
  have l0:=iC h
  have l1:ds.length=its.size:=by rw[h4.length,Array.length_toList]
  have l2:es.length=its'.size:=by rw[g4.length,Array.length_toList]
  intro prog w E Q q
  rw[ltM,← n6 h] at q
  have lp:(zpM ds es).length=min its.size its'.size:=by rw[zpM,List.length_map,List.length_zip,l1,l2]
  have hd:decide (its.size<its'.size)=false:=decide_eq_false (by omega)
  refine richCompare_meets_room (op:=.Lt) ⟨_,h1,rfl⟩ ⟨_,g1,rfl⟩ PySem.F.slot_tuple_lt PySem.F.entry_tuple_lt (PySem.F.args_tuple_lt_2 _ _) (vK a b its its' m m' dd dd' sl sl' (zpM ds es) lp)
   ⟨h1,g1,fun j j1 j2 j3=>?_,show Value.bool (bU (decide (its.size<its'.size)) (zpM ds es))≠Value.notImplemented∧Q (.bool (bU (decide (its.size<its'.size)) (zpM ds es))) s from ⟨(fun x=>nomatch x),by rw[hd];exact q⟩⟩ (by omega)
  obtain⟨d1,e1,r1⟩:=h4.get (j:=j) (v:=its[j]) (by rw[Array.getElem?_toList];simp[j1])
  obtain⟨d2,e2,r2⟩:=g4.get (j:=j) (v:=its'[j]) (by rw[Array.getElem?_toList];simp[j2])
  have lk:=kc h e1 e2
  have hp:=fP lk
  have ez:(zpM ds es)[j]=(aq d1 d2,ltM d1 d2):=by
   have:(zpM ds es)[j]?=some (aq d1 d2,ltM d1 d2):=by
    rw[zpM,List.getElem?_map,(List.getElem?_zip_eq_some (z:=(d1,d2))).mpr ⟨e1,e2⟩]
    rfl
   rw[List.getElem?_eq_getElem j3] at this
   exact Option.some.inj this
  rw[ez]
  exact⟨cf n hp.1 hp.2.1 (by show A.units+1+n+1<cLine;omega) r1 r2,fun _=>ih lk (by show A.units+1+n+2<cLine;omega) r1 r2⟩
end L2
namespace L2
open PySem PySem.Spec PyProof.Rows PySem.W
theorem ke {α:Type}{p q:α→Bool}:∀ {l:List α},(∀ x∈l,p x=true→q x=true)→(∃ x∈l,q x=true∧p x=false)→l.countP p<l.countP q
 | [],_,h=>by obtain⟨x,hx,_⟩:=h;cases hx
 | a::l,h,⟨x,hx,h1,h2⟩=>by
  rw[List.countP_cons,List.countP_cons]
  have le:l.countP p≤l.countP q:=List.countP_mono_left fun y hy=>h y (.tail _ hy)
  rcases List.mem_cons.mp hx with rfl | hx
  ·rw[h1,h2];simp;lia
  ·have:=ke (fun y hy=>h y (.tail _ hy)) ⟨x,hx,h1,h2⟩
   have ha:=h a (.head _)
   cases e1:p a<;>cases e2:q a<;>rw[e1,e2] at ha<;>simp at ha ⊢<;>lia
structure OrdOk (ds:List Im):Prop where
 few:ds.length≤1000
 like:∀ a∈ds,∀ b∈ds,aV 6 a b=true
 nd:ds.Nodup
noncomputable def rkM (ds:List Im) (x:Im):Nat:=ds.countP fun d=>ltM d x
theorem iD {ds:List Im} (o:OrdOk ds) {x y:Im} (hx:x∈ds) (hy:y∈ds) (h:ltM x y=true):rkM ds x<rkM ds y:=
 ke (fun z hz e=>ka (o.like z hz x hx) (o.like x hx y hy) e h) ⟨x,hx,h,nY x⟩
theorem og {ds:List Im} (o:OrdOk ds) {x y:Im} (hx:x∈ds) (hy:y∈ds):decide ((rkM ds x:Int)<(rkM ds y:Int))=ltM x y:=by
 cases e:ltM x y with
 | true=>exact decide_eq_true (by have:=iD o hx hy e;lia)
 | false=>
  refine decide_eq_false fun z=>?_
  by_cases h:x=y
  ·subst h;lia
  ·have t:=fQ (o.like x hx y hy) h
   rw[e] at t
   have t':ltM y x=true:=by cases q:ltM y x<;>rw[q] at t<;>simp at t ⊢
   have:=iD o hy hx t'
   lia
theorem vL {ds:List Im} (o:OrdOk ds) {x y:Im} (hx:x∈ds) (hy:y∈ds) (h:rkM ds x=rkM ds y):x=y:=by
 by_cases e:x=y
 ·exact e
 ·have t:=fQ (o.like x hx y hy) e
  cases q:ltM x y with
  | true=>have:=iD o hx hy q;lia
  | false=>
   rw[q] at t
   have t':ltM y x=true:=by cases q:ltM y x<;>rw[q] at t<;>simp at t ⊢
   have:=iD o hy hx t'
   lia
noncomputable def c7 (ds:List Im) (i:Nat):Int:=rkM ds (ds.getD i .non)
theorem fR {ds:List Im}{i:Nat} (h:i<ds.length):ds.getD i .non∈ds:=by
 rw[List.getD_eq_getElem?_getD,List.getElem?_eq_getElem h]
 exact List.getElem_mem h
theorem iE {ds:List Im} (o:OrdOk ds):∀ i j,i<ds.length→j<ds.length→c7 ds i=c7 ds j→i=j:=fun i j hi hj e=>by
 have:=vL o (fR hi) (fR hj) (by unfold c7 at e;lia)
 rw[List.getD_eq_getElem?_getD,List.getElem?_eq_getElem hi,List.getD_eq_getElem?_getD,List.getElem?_eq_getElem hj] at this
 exact (List.getElem_inj o.nd).mp this
theorem upM {ds:List Im} (o:OrdOk ds) {p:Array Nat} (hp:Rg ds.length p) (up:Up (c7 ds) p ds.length):(p.toList.map fun i=>ds.getD i .non).Pairwise (fun a b=>ltM a b=true):=by
 rw[List.pairwise_iff_getElem]
 intro i j hi hj hij
 have hs:=hp.size
 have hi':i<ds.length:=by simpa [hs] using hi
 have hj':j<ds.length:=by simpa [hs] using hj
 have ne:=hp.ne (iE o) hij hj'
 have le:=up i j (by lia) hj'
 have g:∀ k (hk:k<(p.toList.map fun i=>ds.getD i .non).length),(p.toList.map fun i=>ds.getD i .non)[k]=ds.getD (p.getD k 0) .non:=fun k hk=>by
  have hk':k<p.size:=by simpa using hk
  rw[List.getElem_map,Array.getElem_toList]
  simp[Array.getD,hk']
 rw[g i hi,g j hj]
 rw[← og o (fR (hp.lt hi')) (fR (hp.lt hj'))]
 refine decide_eq_true ?_
 have e:∀ k,(rkM ds (ds.getD (p.getD k 0) .non):Int)=kyA (c7 ds) p k:=fun _=>rfl
 rw[e i,e j]
 lia
theorem oh:∀ {l m:List Im},l.Perm m→l.Pairwise (fun a b=>ltM a b=true)→m.Pairwise (fun a b=>ltM a b=true)→(∀ a∈l,∀ b∈l,ltM a b=true→ltM b a=false)→l=m
 | [],m,p,_,_,_=>(List.nil_perm.mp p).symm
 | a::l,m,p,h1,h2,as=>by
  cases m with
  | nil=>exact absurd p.length_eq (by simp)
  | cons b m=>
   have e:a=b:=by
    by_cases e:a=b
    ·exact e
    ·have ha:a∈m:=by
      rcases List.mem_cons.mp (p.mem_iff.mp (.head _)) with z | z
      ·exact absurd z e
      ·exact z
     have hb:b∈l:=by
      rcases List.mem_cons.mp (p.mem_iff.mpr (.head _)) with z | z
      ·exact absurd z.symm e
      ·exact z
     have q1:=(List.pairwise_cons.mp h1).1 b hb
     have q2:=(List.pairwise_cons.mp h2).1 a ha
     rw[as a (.head _) b (.tail _ hb) q1] at q2
     cases q2
   subst e
   rw[oh (List.Perm.cons_inv p) (List.pairwise_cons.mp h1).2 (List.pairwise_cons.mp h2).2 fun x hx y hy=>as x (.tail _ hx) y (.tail _ hy)]
theorem kf (x:Im):∀ l:List Im,(dP ltM x l).Perm (x::l)
 | []=>List.Perm.refl _
 | y::r=>by
  rw[dP]
  split
  ·exact List.Perm.refl _
  ·exact (List.Perm.cons y (kf x r)).trans (List.Perm.swap x y r)
theorem eQ:∀ l:List Im,(b9 ltM l).Perm l
 | []=>List.Perm.refl _
 | x::r=>(kf x _).trans (List.Perm.cons x (eQ r))
theorem oj {x:Im}:∀ {l:List Im},l.Pairwise (fun a b=>ltM a b=true)→(∀ y∈l,x≠y)→(∀ a∈x::l,∀ b∈x::l,aV 6 a b=true)→(dP ltM x l).Pairwise (fun a b=>ltM a b=true)
 | [],_,_,_=>List.pairwise_singleton _ _
 | y::r,h,n,lk=>by
  have h':=List.pairwise_cons.mp h
  rw[dP]
  split
  ·rename_i e
   refine List.pairwise_cons.mpr ⟨fun z hz=>?_,h⟩
   rcases List.mem_cons.mp hz with rfl | hz
   ·exact e
   ·exact ka (lk x (.head _) y (.tail _ (.head _))) (lk y (.tail _ (.head _)) z (.tail _ (.tail _ hz))) e (h'.1 z hz)
  ·rename_i e
   refine List.pairwise_cons.mpr ⟨fun z hz=>?_,oj h'.2 (fun z hz=>n z (.tail _ hz)) fun a ha b hb=>lk a ?_ b ?_⟩
   ·rcases List.mem_cons.mp ((kf x r).mem_iff.mp hz) with rfl | hz
    ·have t:=fQ (lk z (.head _) y (.tail _ (.head _))) (n y (.head _))
     cases q:ltM y z with
     | true=>rfl
     | false=>rw[q] at t;exact absurd t e
    ·exact h'.1 z hz
   ·rcases List.mem_cons.mp ha with rfl | ha
    ·exact .head _
    ·exact .tail _ (.tail _ ha)
   ·rcases List.mem_cons.mp hb with rfl | hb
    ·exact .head _
    ·exact .tail _ (.tail _ hb)
theorem om:∀ {l:List Im},l.Nodup→(∀ a∈l,∀ b∈l,aV 6 a b=true)→(b9 ltM l).Pairwise (fun a b=>ltM a b=true)
 | [],_,_=>.nil
 | x::r,nd,lk=>by
  have nd':=List.nodup_cons.mp nd
  refine oj (om nd'.2 fun a ha b hb=>lk a (.tail _ ha) b (.tail _ hb)) (fun y hy e=>nd'.1 (by rw[e];exact (eQ r).mem_iff.mp hy)) fun a ha b hb=>lk a ?_ b ?_
  ·rcases List.mem_cons.mp ha with rfl | ha
   ·exact .head _
   ·exact .tail _ ((eQ r).mem_iff.mp ha)
  ·rcases List.mem_cons.mp hb with rfl | hb
   ·exact .head _
   ·exact .tail _ ((eQ r).mem_iff.mp hb)
theorem kg {ds l:List Im} (o:OrdOk ds) (p:l.Perm ds) (h:l.Pairwise (fun a b=>ltM a b=true)):l=b9 ltM ds:=by
 refine oh (p.trans (eQ ds).symm) h (om o.nd o.like) fun a ha b hb e=>?_
 have t:=fQ (o.like a (p.mem_iff.mp ha) b (p.mem_iff.mp hb)) (fun z=>by subst z;rw[nY] at e;cases e)
 rw[e] at t
 cases q:ltM b a with
 | false=>rfl
 | true=>rw[q] at t;cases t
end L2
namespace L2
open PySem PySem.Spec PyProof.Rows PySem.W
noncomputable def ca:Im→Bool
 | .tup (.int _::_)=>true
 | _=>false
noncomputable def eR:Im→Bool
 | .tup (.tup _::_)=>true
 | _=>false
section
variable {prog:Program}{w:World}{A:Around}{E:Value→Shared→Prop}{s:Shared}
theorem oo {b:Bool} (n:Nat) (hu:A.units+n+2<cLine) {Q:Bool→Shared→Prop}:∀ {ds es:List Im}{vs ws:List Value}{i:Nat},bd n ds es=true→aD s.heap ds vs→aD s.heap es ws→(b=true→i=0→∃ k r,ds=.int k::r)→Q (bn ds es) s→KatLex prog w A b false Q (vs.zip ws) i s
 | [],[],vs,ws,i,_,h1,h2,_,q=>by
  rw[show vs=[] from h1]
  exact kat_nil q
 | d::ds,e::es,vs,ws,i,h,h1,h2,hb,q=>by
  rw[bd,Bool.and_eq_true] at h
  obtain⟨v,vs,rfl,a1,a2⟩:=h1
  obtain⟨u,ws,rfl,b1,b2⟩:=h2
  rw[List.zip_cons_cons]
  obtain⟨p1,p2,p3⟩:=fP h.1
  refine kat_cons (cf n p1 p2 (by omega) a1 b1 prog w _ _ ?_)
  rw[p3]
  rw[bn] at q
  cases hq:Im.beq d e with
  | true=>
   rw[hq,if_pos rfl] at q
   exact kat_yes (oo n hu h.2 a2 b2 (fun _ z=>by omega) q)
  | false=>
   rw[hq,if_neg Bool.false_ne_true] at q
   refine kat_no ?_
   by_cases hf:(b && i == 0)=true
   ·rw[hf]
    rw[Bool.and_eq_true] at hf
    obtain⟨k,r,z⟩:=hb hf.1 (by simpa using hf.2)
    cases z
    rcases gL h.1 with ⟨i',j,z1,z2⟩ | ⟨_,_,_,_,z1,_⟩
    ·cases z1
     cases z2
     obtain⟨t,rfl⟩:=a1
     obtain⟨t',rfl⟩:=b1
     rw[ltM] at q
     exact oneLt_int q
    ·cases z1
   ·rw[show (b && i == 0)=false by simpa using hf]
    exact kat_one _ _ (oa n h.1 hu a1 b1 prog w _ _ q)
 | [],_::_,_,_,_,h,_,_,_,_=>by cases h
 | _::_,[],_,_,_,h,_,_,_,_=>by cases h
theorem kh {ds:List Im}{its:List Value}{b:Bool} (o:OrdOk ds) (iv:aD s.heap ds its) (ht:∀ d∈ds,∃ r,d=.tup r) (hb:b=true→∀ d∈ds,ca d=true) (hu:A.units+9<cLine):
  aS its.length (c7 ds) (kas_cmp prog w A (tuples' b) (its.toArray.zip its.toArray)) s:=by
 intro i j C hi hj q
 have hl:=iv.length
 have mi:=fR (ds:=ds) (i:=i) (by omega)
 have mj:=fR (ds:=ds) (i:=j) (by omega)
 unfold c7 at q
 rw[og o mi mj] at q
 obtain⟨d1,e1,r1⟩:=iv.get (j:=i) (v:=its[i]) (by simp)
 obtain⟨d2,e2,r2⟩:=iv.get (j:=j) (v:=its[j]) (by simp)
 rw[List.getD_eq_getElem?_getD,e1,List.getD_eq_getElem?_getD,e2] at q
 rw[List.getD_eq_getElem?_getD,e1] at mi
 rw[List.getD_eq_getElem?_getD,e2] at mj
 obtain⟨a,ea⟩:=ht d1 mi
 obtain⟨b',eb⟩:=ht d2 mj
 subst ea eb
 have lk:bd 5 a b'=true:=o.like _ mi _ mj
 unfold kas_cmp
 rw[kat_item rfl,kat_item rfl,List.getD_eq_getElem?_getD,List.getD_eq_getElem?_getD,List.getElem?_eq_getElem hi,List.getElem?_eq_getElem hj]
 show wpAny _ _ (keyLt' (tuples' b) its[i] its[j]) _ _ _
 obtain⟨x,ox,xs,n1,z1,g1,g2,g3,g4⟩:=r1
 obtain⟨y,oy,ys,n2,z2,k1,k2,k3,k4⟩:=r2
 rw[z1,z2]
 refine kat_lt (b:=b) g1 g3 k1 k3 ?_
 have l1:a.length=xs.size:=by rw[g4.length,Array.length_toList]
 have l2:b'.length=ys.size:=by rw[k4.length,Array.length_toList]
 rw[show decide (xs.size<ys.size)=false from decide_eq_false (by have:=iC lk;omega)]
 refine oo 5 (by omega) lk g4 k4 (fun hbt _=>?_) (by have q':C (ltM (.tup a) (.tup b')) s:=q;rw[ltM] at q';exact q')
 have:=hb hbt _ mi
 unfold ca at this
 split at this
 ·rename_i h
  cases h
  exact⟨_,_,rfl⟩
 ·cases this
theorem oq:∀ {ds:List Im}{its:List Value},aD s.heap ds its→(∀ d∈ds,ca d=true)∨(∀ d∈ds,eR d=true)→∃ fs,KatTups s.heap its fs∧fs.length=its.length∧
  ((∀ d∈ds,ca d=true)→∀ v∈fs,∃ i t,v=Value.int i t)∧((∀ d∈ds,eR d=true)→∀ v∈fs,∃ a ob,v=Value.ref a∧s.heap.get? a=some ob∧ob.cls=.type "tuple")
 | [],its,h,_=>by
  rw[show its=[] from h]
  exact⟨[],trivial,rfl,(fun _ _ h=>nomatch h),(fun _ _ h=>nomatch h)⟩
 | d::ds,its,h,hf=>by
  obtain⟨v,r,rfl,h1,h2⟩:=h
  obtain⟨fs,t1,t2,t3,t4⟩:=oq h2 (hf.imp (fun z x hx=>z x (.tail _ hx)) fun z x hx=>z x (.tail _ hx))
  have sh:∃ f r',d=.tup (f::r'):=by
   rcases hf with z | z
   ·have:=z d (.head _)
    unfold ca at this
    split at this
    ·exact⟨_,_,rfl⟩
    ·cases this
   ·have:=z d (.head _)
    unfold eR at this
    split at this
    ·exact⟨_,_,rfl⟩
    ·cases this
  obtain⟨f,r',rfl⟩:=sh
  obtain⟨a,o,items,n,rfl,g1,g2,g3,g4⟩:=h1
  obtain⟨fv,rv,e,g5,g6⟩:=g4
  have hf0:items[0]?=some fv:=by
   rw[← Array.getElem?_toList,e];rfl
  refine⟨fv::fs,KatTups.cons g1 g2 g3 hf0 t1,by simp[t2],fun z u hu=>?_,fun z u hu=>?_⟩
  ·rcases List.mem_cons.mp hu with rfl | hu
   ·have:=z _ (.head _)
    unfold ca at this
    split at this
    ·rename_i q
     cases q
     exact⟨_,g5⟩
    ·cases this
   ·exact t3 (fun x hx=>z x (.tail _ hx)) u hu
  ·rcases List.mem_cons.mp hu with rfl | hu
   ·have:=z _ (.head _)
    unfold eR at this
    split at this
    ·rename_i q
     cases q
     obtain⟨a',o',_,_,e',k1,k2,_⟩:=g5
     exact⟨a',o',e',k1,k2⟩
    ·cases this
   ·exact t4 (fun x hx=>z x (.tail _ hx)) u hu
end
end L2
namespace L2
open PySem PySem.Spec PyProof.Rows PySem.W
section
variable {X:Cx}
theorem aj.pick {H:Hp}{ds:List Im}{ys:List V} (h:aj H ds ys):∀ {p:List Nat},(∀ k∈p,k<ds.length)→aj H (p.map fun i=>ds.getD i .non) (p.map fun i=>ys.getD i .non)
 | [],_=>rfl
 | k::p,hp=>by
  obtain⟨v,e1,e2⟩:=h.get (i:=k) (d:=ds.getD k .non) (by
   have:=hp k (.head _)
   rw[List.getD_eq_getElem?_getD,List.getElem?_eq_getElem this];rfl)
  refine⟨v,_,?_,e2,h.pick fun j hj=>hp j (.tail _ hj)⟩
  rw[List.map_cons,List.getD_eq_getElem?_getD,e1]
  rfl
structure SrtOk (ds:List Im):Prop where
 ord:OrdOk ds
 fst:(∀ d∈ds,ca d=true)∨(∀ d∈ds,eR d=true)
theorem SrtOk.tup {ds:List Im} (o:SrtOk ds):∀ d∈ds,∃ r,d=.tup r:=fun d hd=>by
 rcases o.fst with z | z
 ·have:=z d hd
  unfold ca at this
  split at this
  ·exact⟨_,rfl⟩
  ·cases this
 ·have:=z d hd
  unfold eR at this
  split at this
  ·exact⟨_,rfl⟩
  ·cases this
theorem aD.keepAll {h h':Heap} (k:∀ b o,h.get? b=some o→h'.get? b=some o) {ds:List Im}{vs:List Value} (x:aD h ds vs):aD h' ds vs:=x.keep fun a o _ _ e _ _=>k a o e
theorem ki {h:Heap}{ds:List Im}{its:List Value}{s:Shared} (o:SrtOk ds) (h2:2≤its.length) (iv:aD s.heap ds its) (A:Around) (E:Value→Shared→Prop) (Q:SortKind→Shared→Prop) (hq:Q (tuples' (decide (∀ d∈ds,ca d=true))) s):
  wpAny (model X.prog X.w) A (keyKind' its.toArray) Q E s:=by
 obtain⟨fs,t1,t2,t3,t4⟩:=oq iv o.fst
 have hl:=iv.length
 by_cases hf:∀ d∈ds,ca d=true
 ·rw[decide_eq_true hf] at hq
  refine kat_kind (T:=Value.type "int") t1 (by omega) (fun v hv=>?_) rfl ?_
  ·obtain⟨i,t,rfl⟩:=t3 hf v hv
   exact Looks.of_pure rfl
  ·rw[show (Value.type "int" != Value.type "tuple")=true by decide]
   exact hq
 ·rw[decide_eq_false hf] at hq
  have hf2:=o.fst.resolve_left hf
  refine kat_kind (T:=Value.type "tuple") t1 (by omega) (fun v hv=>?_) rfl ?_
  ·obtain⟨a,ob,rfl,g1,g2⟩:=t4 hf2 v hv
   have:Looks (model X.prog X.w) s.heap (typeOf (.ref a)) ob.cls:=(Looks.ld g1).andThen .now
   rw[g2] at this
   exact this
  ·rw[show (Value.type "tuple" != Value.type "tuple")=false by decide]
   exact hq
theorem ot (hc:X.calm=true) (hu:X.A.units+20<cLine):aP X (.builtin "sorted") (fun xs H Q=>∃ (a:Addr) (ds:List Im) (ys:List V),xs=[.ref a]∧(SqL X.K H a ys∨SqT X.K H a ys)∧aj H ds ys∧SrtOk ds∧
  ∀ l zs,H l=none→aj H (b9 ltM ds) zs→Q (.ref l) (upd H l (.lst zs))):=by
 intro pins s σ H xs us Q I r h
 obtain⟨a,ds,ys,rfl,hs,hi,o,q⟩:=h
 obtain⟨u,rfl,ru⟩:=cx r
 cases ru
 have hz:ys.length≤1000:=by rw[← hi.length];exact o.ord.few
 have go:∀ {T:String}{its:List Value}{n:Nat}{ob:Obj},(T = "list" ∨ T = "tuple")→ak ys its→s.heap.get? a=some ob→ob.cls=.type T→ob.data=.seq its.toArray n→wpAny (model X.prog X.w) X.A (call (.builtin "sorted") [.ref a]) (EP X pins σ Q) X.xe s:=by
  intro T its n ob hT rv e eC eD
  have iv:=hi.imv I.hok rv
  have li:its.length=ds.length:=iv.length.symm
  refine mN hc (c7 ds) (tuples' (decide (∀ d∈ds,ca d=true))) I rv hT e eC eD hz (fun h2 h6 tk k A E Q hq=>ki (h:=h6) o h2 (iv.keepAll k) A E Q hq) (fun h6 tk k=>?_) (by rw[li];exact iE o.ord) (.inl (by have:=o.ord.few;omega)) fun p l r1 r2 fl=>?_
  ·refine kh (s:={ s with heap:=h6,toks:=tk }) o.ord (iv.keepAll k) o.tup (fun hb=>?_) (by show X.A.units+1+1+9<cLine;omega)
   exact of_decide_eq_true hb
  ·rw[li] at r1 r2
   have e1:(p.toList.map fun i=>ds.getD i .non)=b9 ltM ds:=kg o.ord (hU r1) (upM o.ord r1 r2)
   refine q l _ fl ?_
   rw[← e1]
   exact hi.pick fun k hk=>List.mem_range.mp (r1.mem_iff.mp hk)
 rcases hs with hs | hs
 ·obtain⟨its,rv,p,_⟩:=I.list hs
  obtain⟨ob,e,eC,n,eD⟩:=p.isList
  exact go (.inl rfl) rv e eC eD
 ·obtain⟨its,rv,p,_⟩:=I.tuple hs
  obtain⟨ob,e,eC,n,eD⟩:=p
  exact go (.inr rfl) rv e eC eD
end
end L2
namespace L2
open PySem PySem.Spec PyProof.Rows PySem.W
section
variable {X:Cx}
theorem ou {H:Hp}:∀ {kvs:List (List Im×V)}{es:List (List Im×Addr×Value)},Paired (fun (p:List Im×V) (q:List Im×Addr×Value)=>p.1=q.1∧KAd H p.1 q.2.1∧am p.2 q.2.2) kvs es→
  aj H (kvs.map fun p=>.tup p.1) (es.map fun x=>V.ref x.2.1)∧ak (es.map fun x=>V.ref x.2.1) (es.map fun x=>Value.ref x.2.1)
 | _,_,.nil=>⟨rfl,.nil⟩
 | _,_,.cons r t=>by
  obtain⟨h1,h2⟩:=ou t
  exact⟨⟨_,_,rfl,r.2.1.2,h1⟩,.cons rfl h2⟩
theorem vM (hc:X.calm=true) (hu:X.A.units+20<cLine):aP X (.builtin "sorted") (fun xs H Q=>∃ (d:Addr) (kvs:List (List Im×V)),xs=[.ref d]∧H d=some (.dT kvs)∧SrtOk (kvs.map fun p=>.tup p.1)∧
  ∀ l zs,H l=none→aj H (b9 ltM (kvs.map fun p=>.tup p.1)) zs→Q (.ref l) (upd H l (.lst zs))):=by
 intro pins s σ H xs us Q I r h
 obtain⟨d,kvs,rfl,hd,so,q⟩:=h
 obtain⟨u,rfl,ru⟩:=cx r
 cases ru
 obtain⟨z,lo,es,rel,o,ens,ep,e1,e2,e3,e4,nd⟩:=I.hok d _ hd
 obtain⟨hi,rv⟩:=ou rel
 have kat:KAt s.heap d (es.map fun x=>Value.ref x.2.1) ep:=⟨o,ens,e1,e2,e3,by rw[e4,List.map_map];rfl⟩
 generalize (es.map fun x=>Value.ref x.2.1)=its at rv kat
 generalize (es.map fun x=>V.ref x.2.1)=ys at hi rv
 generalize hds:(kvs.map fun p=>Im.tup p.1)=ds at hi so q
 have iv:=hi.imv I.hok rv
 have li:its.length=ds.length:=iv.length.symm
 have few:=so.ord.few
 have hl:ys.length=its.length:=rv.length
 have hsl:its.length≤sizeLine:=Nat.le_trans (by lia) (show 1000≤sizeLine by decide)
 refine Calls.call_function_entry kind_sorted plain_sorted entry_sorted (args_sorted1 _) ?z
 case z=>
  unfold Builtin.«sorted»
  refine wpAny_bind (m:=checkCount "sorted" 1 1 _) (wpAny_pure (wpAny_bind (kdu_collect (A:=X.A.in1) (uh lo) (I.ok.hd hc) kat hsl fun h' tk acc hkp hacc=>?_)))
  have ea:acc.toList=its:=by
   apply List.ext_getElem
   ·rw[Array.length_toList]
    exact hacc.1
   ·intro i h1 h2
    have:=hacc.2 i acc.toList[i] (by rw[← Array.getElem?_toList];exact List.getElem?_eq_getElem h1)
    have this:its[i]?=some acc.toList[i]:=this
    rw[List.getElem?_eq_getElem h2] at this
    exact (Option.some.inj this).symm
  rw[ea]
  refine wpAny_bind (wpAny_newList ?_ hsl)
  have oB:(h'.push (seqObj "list" its.toArray 0)).get? h'.objs.size=some (seqObj "list" its.toArray 0):=Heap.get?_push_size _ rfl
  have kB:∀ b o,s.heap.get? b=some o→(h'.push (seqObj "list" its.toArray 0)).get? b=some o:=fun b o e=>Heap.get?_push_of_some _ (hkp b o e)
  have I1:Inv X pins σ H { s with heap:=h',toks:=tk }:=I.kept hkp
  have nB:∀ b o,s.heap.get? b=some o→b≠h'.objs.size:=fun b o e=>Nat.ne_of_lt (Heap.lt_size (hkp b o e))
  refine wpAny_bind (wpAny_holding (wpAny_call_entry slot_list_sort ⟨_,oB,rfl⟩ entry_list_sort ?y (args_list_sort _)))
  case y=>
   refine ju (s:={ s with heap:=h'.push (seqObj "list" its.toArray 0),toks:=tk }) (c7 ds) (tuples' (decide (∀ d∈ds,ca d=true))) oB
    (fun h2 h6 k6 Q hq=>ki (X:=X) (h:=h6) so h2 (iv.keepAll fun b o eb=>k6 b o (nB b o eb) (kB b o eb)) _ _ Q hq)
    (fun h6 k6=>kh (s:={ s with heap:=h6,toks:=tk }) so.ord (iv.keepAll fun b o eb=>k6 b o (nB b o eb) (kB b o eb)) so.tup (fun hb=>of_decide_eq_true hb) (by show X.A.units+1+1+9<cLine;lia))
    (by rw[li];exact iE so.ord) (.inl (by lia)) (by lia) fun p h2 r1 r2 k2 ⟨e9,oB2⟩=>⟨_,rfl,wpAny_pure ⟨_,rfl,?_⟩⟩
   have fB:H h'.objs.size=none:=I1.hok.fresh (Nat.le_refl _)
   have neB:∀ b o,h'.get? b=some o→b≠h'.objs.size:=fun b o e=>Nat.ne_of_lt (Heap.lt_size e)
   rw[li] at r1 r2
   refine⟨.ref h'.objs.size,upd H h'.objs.size (.lst (p.toList.map fun i=>ys.getD i .non)),?_,rfl,q _ _ fB ?_⟩
   ·refine I1.laid (t':=tk) (fun b u e=>k2 b u (neB b u e) (Heap.get?_push_of_some _ e)) (Nat.le_refl _) ⟨?_,_,e9,?_,oB2⟩
    ·rw[List.length_map,Array.length_toList,r1.size]
     lia
    ·refine hV (by simp) fun i v u h1 h2=>?_
     rw[List.getElem?_map] at h1 h2
     cases hpi:p.toList[i]? with
     | none=>rw[hpi] at h1;cases h1
     | some k=>
      rw[hpi] at h1 h2
      cases h1
      cases h2
      have hk:k<its.length:=by rw[li];exact List.mem_range.mp (r1.mem_iff.mp (List.mem_of_getElem? hpi))
      obtain⟨u,h3,h4⟩:=rv.get (i:=k) (x:=ys[k]'(by lia)) (by simp[show k<ys.length by lia])
      rw[List.getElem?_eq_getElem hk] at h3
      have h3:=Option.some.inj h3
      simp only[List.getD,List.getElem?_eq_getElem hk,List.getElem?_eq_getElem (show k<ys.length by lia),Option.getD_some]
      rw[h3]
      exact h4
   ·rw[← kg so.ord (hU r1) (upM so.ord r1 r2)]
    exact hi.pick fun k hk=>List.mem_range.mp (r1.mem_iff.mp hk)
noncomputable def kj (ds:List Im):Bool:=decide (ds.length≤1000) && ds.all (fun a=>ds.all fun b=>aV 6 a b) && decide ds.Nodup && (ds.all ca || ds.all eR)
theorem kl {ds:List Im}:kj ds=true↔SrtOk ds:=by
 unfold kj
 rw[Bool.and_eq_true,Bool.and_eq_true,Bool.and_eq_true,Bool.or_eq_true,decide_eq_true_iff,decide_eq_true_iff,List.all_eq_true,List.all_eq_true,List.all_eq_true]
 constructor
 ·rintro⟨⟨⟨h1,h2⟩,h3⟩,h4⟩
  exact⟨⟨h1,fun a ha b hb=>List.all_eq_true.mp (h2 a ha) b hb,h3⟩,h4⟩
 ·rintro⟨⟨h1,h2,h3⟩,h4⟩
  exact⟨⟨⟨h1,fun a ha=>List.all_eq_true.mpr fun b hb=>h2 a ha b hb⟩,h3⟩,h4⟩
noncomputable def cP (ds:List Im):Option Vl:=if kj ds=true then some (.lst (b9 ltM ds)) else none
noncomputable def vSortM:OpN:=fun ds=>match ds with
 | [.lst x]=>match ints? x with
  | some ns=>vSorted [.lst x]
  | none=>cP x
 | [.im (.tup x)]=>cP x
 | [.dT kvs]=>cP (kvs.map fun p=>.tup p.1)
 | _=>none
theorem iF {ds:List Im}{d:Vl} (h:cP ds=some d):SrtOk ds∧d=.lst (b9 ltM ds):=by
 unfold cP at h
 split at h
 ·rename_i e
  cases h
  exact⟨kl.mp e,rfl⟩
 ·cases h
theorem oz {H:Hp}:∀ {kvs:List (List Im×Im)}{kws:List (List Im×V)},PKv H kvs kws→(kvs.map fun p=>Im.tup p.1)=kws.map fun p=>Im.tup p.1
 | _,_,.nil=>rfl
 | _,_,.cons r t=>by rw[List.map_cons,List.map_cons,oz t,r.1]
theorem vN (hc:X.calm=true) (hu:X.A.units+20<cLine):b7 X (.builtin "sorted") vSortM:=by
 intro pins s σ H xs us Q I r ⟨ds,d,rd,e,q⟩
 unfold vSortM at e
 split at e
 ·rename_i x
  split at e
  ·exact vz hc hu pins s σ H xs us Q I r ⟨_,d,rd,e,q⟩
  ·obtain⟨so,rfl⟩:=iF e
   obtain⟨v,rfl,_,p,ys,rfl,h1,h2,_⟩:=bD rd
   exact ot hc hu pins s σ H _ us Q I r ⟨p,x,ys,rfl,.inl (SqL.of h1),h2,so,fun l zs fl hz=>Out.l q fl hz⟩
 ·rename_i x
  obtain⟨so,rfl⟩:=iF e
  obtain⟨v,rfl,hv⟩:=bD rd
  obtain⟨p,ys,rfl,h1,h2⟩:=hv.i
  exact ot hc hu pins s σ H _ us Q I r ⟨p,x,ys,rfl,.inr (SqT.of h1),h2,so,fun l zs fl hz=>Out.l q fl hz⟩
 ·rename_i kvs
  obtain⟨so,rfl⟩:=iF e
  obtain⟨v,rfl,_,p,kws,rfl,h1,h2,_⟩:=bD rd
  rw[oz h2] at so q
  exact vM hc hu pins s σ H _ us Q I r ⟨p,kws,rfl,h1,so,fun l zs fl hz=>Out.l q fl hz⟩
 ·cases e
end
end L2
namespace PySem
open Sem (wp)
theorem vO:typeLookup (.type "list") "keys" = pure none:=by rw[typeLookup_type,builtinLookup_eq_fast];kernel_rfl
theorem vP {prog:Program}{w:World}{A:Around}{E:Value→Shared→Prop}{s:Shared}{a:Addr}{xs:Array Value}{k:Nat}{Q:Option Value→Shared→Prop} (hx:s.heap.get? a=some { cls:=.type "list",data:=.seq xs k }) (hA:A.handled=none)
  (h:∀ h' tk,(∀ b o,s.heap.get? b=some o→h'.get? b=some o)→Q none { s with heap:=h',toks:=tk }):wpAny (model prog w) A (getAttr? (.ref a) "keys") Q E s:=by
 obtain⟨hp,g,d,tk,os⟩:=s
 have hT:∀ tk',(⟨hp,g,d,tk',os⟩:Shared).TypeIs (.ref a) "list" := fun _=>⟨_,hx,rfl⟩
 have f1:=sub_AttributeError
 have f3:=F.slot_list_getattribute.lookup
 have f4:=F.slot_list_getattribute.bind (.ref a)
 have f5:=am_list_getattr_none
 unfold getAttr? getAttrBy? getAttrBy
 repeat (any_goals (first | assumption | exact hT _ | ((with_reducible show wpAny _ _ (call (Value.builtin "list.__getattribute__") _ _) _ _ _);refine call_meets F.slot_list_getattribute (hT _) am_entry_list_getattribute (F.args_list_getattribute_2 _ _) (meets_getattribute_miss_list a xs k _ "keys" _ vO (by decide +kernel) (by decide)) ⟨hx,hA,fun h' tk' e hx'=>?_⟩) | wp_step))
 obtain⟨t',u',he⟩:=hx'.there
 show wpAny _ _ (getattributeRaised _ _ _ _ _ _ _) _ _ _
 unfold getattributeRaised
 have hE:∀ tk'',(⟨h',g,d,tk'',os⟩:Shared).TypeIs (.ref e) "AttributeError" := fun _=>⟨_,he,rfl⟩
 repeat (any_goals (first | assumption | exact hE _ | wp_step))
 exact h h' _ hx'.keeps
end PySem
namespace PySem
namespace F
theorem entry_dul:entryFor table "dict.update.loop" = some Builtin.«dict.update.loop»:=entryFor_of_tree (by kernel_rfl)
theorem plain_dul:plainId "dict.update.loop" = true:=by decide +kernel
end F
end PySem
namespace L2
open PySem PySem.Spec PyProof.Rows PySem.W
theorem iG {α β:Type}{F:α→β→Prop}:∀ {l₁:List α}{l₂:List β},Paired F l₁ l₂→∀ (i:Nat),i<l₁.length→∃ a b,l₁[i]?=some a∧l₂[i]?=some b∧F a b
 | _,_,.nil,i,h=>by simp at h
 | _,_,.cons r t,0,h=>⟨_,_,rfl,rfl,r⟩
 | _,_,.cons r t,i+1,h=>by
  obtain⟨a,b,x,y,z⟩:=iG t i (by simpa using h)
  exact⟨a,b,by simpa using x,by simpa using y,z⟩
noncomputable def prs?:List Im→Option (List (List Im×Im))
 | []=>some []
 | .tup [.tup k,d]::r=>(prs? r).map fun s=>(k,d)::s
 | _=>none
theorem vQ:∀ {x:List Im}{ps:List (List Im×Im)},prs? x=some ps→x=ps.map fun p=>.tup [.tup p.1,p.2]:=by
 intro x
 induction x with
 | nil=>intro ps h;cases h;rfl
 | cons a x ih=>
  intro ps h
  unfold prs? at h
  split at h
  ·cases h;rename_i e;cases e
  ·rename_i k d r e
   cases e
   obtain⟨s,e1,e2⟩:=Option.map_eq_some_iff.mp h
   cases e2
   rw[List.map_cons,← ih e1]
  ·cases h
noncomputable def bV (ps:List (List Im×Im)):List (List Im×Im):=ps.foldl (fun a p=>bR a p.1 p.2) []
noncomputable def km (H:Hp) (v:V) (p:List Im×Im):Prop:=∃ t a y,v=.ref t∧H t=some (.tup [.ref a,y])∧KAd H p.1 a∧IsI H p.2 y
theorem oA {H:Hp}:∀ {ps:List (List Im×Im)}{ys:List V},(∀ p∈ps,Im.keys 7 p.1=true)→aj H (ps.map fun p=>.tup [.tup p.1,p.2]) ys→Paired (km H) ys ps
 | [],ys,_,h=>by rw[show ys=[] from h];exact .nil
 | p::ps,ys,hk,h=>by
  obtain⟨v,r,rfl,⟨t,zs,rfl,h1,v1,r1,rfl,h2,v2,r2,rfl,h3,h4⟩,h5⟩:=h
  cases (show r2=[] from h4)
  obtain⟨a,ws,rfl,g1,g2⟩:=h2
  exact .cons ⟨t,a,v2,rfl,h1,⟨hk p (.head _),a,ws,rfl,g1,g2⟩,h3⟩ (oA (fun q hq=>hk q (.tail _ hq)) h5)
section
variable {X:Cx}{pins:List (Addr×Obj)}{σ:L2.St}{H:Hp}{s0:Shared}
theorem KT.is {kvs:List (List Im×V)}{xs:List (List Im×Addr×Value)} (r:KT H kvs xs):∀ x∈xs,KAd H x.1 x.2.1:=by
 intro x hx
 obtain⟨i,hi,rfl⟩:=List.mem_iff_getElem.mp hx
 obtain⟨p,q,h1,h2,h3,h4,_⟩:=iG r i (by rw[Paired.length r];exact hi)
 rw[List.getElem?_eq_getElem hi] at h2
 have h2:=Option.some.inj h2
 subst h2
 rw[← h3]
 exact h4
theorem kn (I0:Inv X pins σ H s0) {D:Addr}{h h':Heap}{kvs:List (List Im×V)}{xs:List (List Im×Addr×Value)} (dd:h.DictOfH (bu X.prog X.w) D xs) (kt:KT H kvs xs) (kp:∀ b o,s0.heap.get? b=some o→h'.get? b=some o)
  (kD:∀ o,h.get? D=some o→h'.get? D=some o):h'.DictOfH (bu X.prog X.w) D xs:=by
 obtain⟨o,es,ep,h1,h2,h3,h4,_,h5⟩:=dd
 have I1:Inv X pins σ H { s0 with heap:=h' }:=I0.kept (t':=s0.toks) kp
 exact⟨o,es,ep,kD o h1,h2,h3,h4,fun x hx=>dg (h:=h') I1.hok (kt.is x hx),h5⟩
theorem vR (I0:Inv X pins σ H s0) {A:Around} (hu:A.units+20<cLine) {D It l:Addr}{vs:List Value}{ys:List V}{ps:List (List Im×Im)}{St:Nat→Heap→Prop}{R:Result→Shared→Prop} (rv:ak ys vs) (hP:Paired (km H) ys ps) (hz:ps.length≤1000)
  (W:Walks X.prog X.w A.in1 It [It,l] [It] vs.length (fun i v=>vs[i]?=some v) St) (nD:s0.heap.get? D=none) (nI:s0.heap.get? It=none) (DI:D≠It) (Dl:D≠l)
  (fin:∀ (s:Shared) (xs:List (List Im×Addr×Value)) (kvs:List (List Im×V)),(∀ b o,s0.heap.get? b=some o→s.heap.get? b=some o)→s.heap.DictOfH (bu X.prog X.w) D xs→KT H kvs xs→PKv H (bV ps) kvs→kvs.length≤1000→
   s.gens=s0.gens→s.drawn=s0.drawn→s.os=s0.os→R (.ok (.ret .none)) s):
  ∀ (m i:Nat) (t:Tok) (s:Shared) (xs:List (List Im×Addr×Value)) (kvs:List (List Im×V)),vs.length - i=m→i≤vs.length→St i s.heap→(∀ b o,s0.heap.get? b=some o→s.heap.get? b=some o)→
   s.heap.DictOfH (bu X.prog X.w) D xs→KT H kvs xs→PKv H (bV (ps.take i)) kvs→kvs.length≤i→s.gens=s0.gens→s.drawn=s0.drawn→s.os=s0.os→
   codeAny (model X.prog X.w) A (.builtin "dict.update.loop" ⟨[.ref D,.ref It,.int i t,.none],[]⟩) R s:=by
 have ly:vs.length=ps.length:=by rw[← rv.length,Paired.length hP]
 intro m
 induction m with
 | zero=>
  intro i t s xs kvs hm hi st kp dd kt hk hl g1 g2 g3
  have ei:i=vs.length:=by lia
  refine codeAny_builtin F.entry_dul ?_
  rw[Around.under_plainId F.plain_dul _]
  refine wpAny_bind (m:=pyNext (.ref It)) (W.done s _ _ (ei ▸ st) fun h' tk keep=>?_)
  refine wpAny_bind (m:=Builtin.Dict.addKeywords D []) (wpAny_pure (wpAny_pure ?_))
  have kD:∀ b o,b≠It→s.heap.get? b=some o→h'.get? b=some o:=fun b o hb e=>keep b o (by simpa using hb) e
  refine fin _ xs kvs (fun b o e=>kD b o (fun z=>by rw[z,nI] at e;cases e) (kp b o e)) ?_ kt (by rw[List.take_of_length_le (by lia)] at hk;exact hk) (by lia) g1 g2 g3
  exact kn I0 dd kt (fun b o e=>kD b o (fun z=>by rw[z,nI] at e;cases e) (kp b o e)) fun o e=>kD D o DI e
 | succ m ih=>
  intro i t s xs kvs hm hi st kp dd kt hk hl g1 g2 g3
  have lt:i<vs.length:=by lia
  refine codeAny_builtin F.entry_dul ?_
  rw[Around.under_plainId F.plain_dul _]
  refine wpAny_bind (m:=pyNext (.ref It)) (W.item i s _ _ lt st fun v h' tk hv st2 keep=>?_)
  have kD:∀ b o,b≠It→s.heap.get? b=some o→h'.get? b=some o:=fun b o hb e=>keep b o (by simpa using hb) e
  obtain⟨y,c,e1,e2,p,a,yv,rfl,hp,ha,hy⟩:=iG hP i (by rw[rv.length];exact lt)
  obtain⟨u,e3,e4⟩:=rv.get e1
  rw[hv] at e3
  cases e3
  cases e4
  have kp2:∀ b o,s0.heap.get? b=some o→h'.get? b=some o:=fun b o e=>kD b o (fun z=>by rw[z,nI] at e;cases e) (kp b o e)
  have I2:Inv X pins σ H { s0 with heap:=h' }:=I0.kept (t':=s0.toks) kp2
  have dd2:=kn I0 dd kt kp2 fun o e=>kD D o DI e
  obtain⟨_,its,rvp,o,ho,hoc,n,hod⟩:=I2.hok _ _ hp
  obtain⟨w1,w2,rfl,r1,r2⟩:=gj rvp
  cases r1
  show wpAny (model X.prog X.w) A.in1 (holding [.ref p] _ >>= fun _=>again _) _ _ _
  refine wpAny_bind (wpAny_holding (wpAny_bind (wpAny_tryCatch ?_)))
  unfold Builtin.Dict.pairItems
  refine wpAny_bind (wpAny_typeOf (s:={ s with heap:=h',toks:=tk }) (⟨o,ho,hoc⟩:Shared.TypeIs { s with heap:=h',toks:=tk } (.ref p) "tuple") ?_)
  rw[if_pos (by decide)]
  refine wpAny_bind (wpAny_seqItems (s:={ s with heap:=h',toks:=tk }) ho hod (wpAny_pure ?_))
  show wpAny (model X.prog X.w) A.in1 (holding [.ref a,w2] (dictSet D (.ref a) w2)) _ _ _
  refine wpAny_holding (wpAny_dictSet_heap (s:={ s with heap:=h',toks:=tk }) (k:=c.1) (knd:=bu X.prog X.w) (ft hu) (dg (h:=h') I2.hok ha) dd2 (fun h3 dd3 sb=>?_) (by
   have:=Paired.length kt
   exact Nat.le_trans (show xs.length≤1000 by lia) (by decide)))
  have kb3:∀ b o,b≠D→h'.get? b=some o→h3.get? b=some o:=fun b o hb e=>(sb.2 b hb).trans e
  have kt3:=kt.put c.1 (b:=a) (y:=yv) (u:=w2) ha r2
  have hci:ps.take (i+1)=ps.take i++[c]:=by
   have hi':=(List.getElem?_eq_some_iff.mp e2)
   rw[List.take_succ_eq_append_getElem hi'.1,hi'.2]
  have hk3:PKv H (bV (ps.take (i+1))) (bG kvs c.1 yv):=by
   rw[hci]
   unfold bV
   rw[List.foldl_append]
   exact PKv.put hy hk
  refine wpAny_pure ⟨plainId_quiet F.plain_dul _,ih (i+1) 0 _ _ _ (by lia) lt (W.frame _ _ _ st2 fun b hb o e=>kb3 b o (fun z=>by
    subst z
    rcases List.mem_cons.mp hb with z | hb
    ·exact DI z
    ·exact Dl (List.mem_singleton.mp hb)) e) (fun b o e=>kb3 b o (fun z=>by rw[z,nD] at e;cases e) (kp2 b o e)) dd3 kt3 hk3 ?_ g1 g2 g3⟩
  unfold bG
  split
  ·rw[List.length_map];lia
  ·simp;lia
theorem vS (hc:X.calm=true) (hu:X.A.units+30<cLine):aP X (.type "dict") (fun xs H Q=>∃ (l:Addr) (ys:List V) (ps:List (List Im×Im)),xs=[.ref l]∧H l=some (.lst ys)∧Paired (km H) ys ps∧ps.length≤1000∧
  ∀ (d:Addr) (kvs:List (List Im×V)),H d=none→PKv H (bV ps) kvs→Q (.ref d) (upd H d (.dT kvs))):=by
 intro pins s σ H xs us Q I r h
 obtain⟨l,ys,ps,rfl,hl,hP,hz,q⟩:=h
 obtain⟨u,rfl,ru⟩:=cx r
 cases ru
 obtain⟨z,its,n,rv,e⟩:=I.hok l _ hl
 have ll:l<s.heap.objs.size:=Heap.lt_size e
 refine callType_codes (Q₁:=fun obj s₁=>obj=.ref s.heap.objs.size∧s₁={ s with heap:=s.heap.push { cls:=.type "dict",data:=.dict #[] } }) PySem.F.kt_called_dict (PySem.F.kt_typeCall_dict_1 _) PySem.F.entry_dict_init (kt_code_dict_new _ ⟨rfl,rfl⟩) ?_
 rintro obj s₁ ⟨rfl,rfl⟩
 have hnew:(s.heap.push { cls:=.type "dict",data:=.dict #[] }).DictOfH (bu X.prog X.w) s.heap.objs.size []:=Heap.DictOfH.new s.heap
 have hT:Shared.TypeIs { s with heap:=s.heap.push { cls:=.type "dict",data:=.dict #[] } } (.ref s.heap.objs.size) "dict" := ⟨_,Heap.get?_push_size _ rfl,rfl⟩
 have el:(s.heap.push { cls:=.type "dict",data:=.dict #[] }).get? l=some { cls:=.type "list",data:=.seq its.toArray n }:=Heap.get?_push_of_some _ e
 refine⟨hT,PySem.F.args_dict_init_2 _ _,?_⟩
 unfold Builtin.«dict.__init__»
 refine wpAny_bind ?_
 unfold Builtin.Dict.selfAndRest
 refine wpAny_bind (wpAny_notOrdered_dict hT ?_)
 show wpAny _ _ (pure (s.heap.objs.size,[Value.ref l])) _ _ _
 refine wpAny_pure ?_
 show wpAny _ _ (Builtin.Dict.updateFrom "dict.__init__" s.heap.objs.size (.ref l) [] .none) _ _ _
 unfold Builtin.Dict.updateFrom
 refine wpAny_bind (wpAny_typeOf (⟨_,el,rfl⟩:Shared.TypeIs { s with heap:=s.heap.push { cls:=.type "dict",data:=.dict #[] } } (.ref l) "list") ?_)
 rw[if_pos (by decide)]
 refine wpAny_bind (vP (s:={ s with heap:=s.heap.push { cls:=.type "dict",data:=.dict #[] } }) el (I.ok.hd hc) fun h1 tk k1=>?_)
 rw[if_pos (show (none:Option Value).isNone=true from rfl)]
 refine wpAny_bind (m:=rule _) (wpAny_rule ?_)
 have isl:h1.IsList l its.toArray:=⟨_,k1 _ _ el,rfl,n,rfl⟩
 refine wpAny_bind (wpAny_pyIter_list (s:={ s with heap:=h1,toks:=tk }) isl ?_)
 have sD:s.heap.objs.size<h1.objs.size:=Heap.lt_size (k1 _ _ (Heap.get?_push_size _ rfl))
 have kp:∀ b o,s.heap.get? b=some o→(h1.push { cls:=.type "list_iterator",data:=.fields #[.ref l,.int 0 0] }).get? b=some o:=fun b o eb=>Heap.get?_push_of_some _ (k1 b o (Heap.get?_push_of_some _ eb))
 refine wpAny_pure ⟨plainId_quiet PySem.F.plain_dul _,?_⟩
 have dd0:(h1.push { cls:=.type "list_iterator",data:=.fields #[.ref l,.int 0 0] }).DictOfH (bu X.prog X.w) s.heap.objs.size []:=kn I (kvs:=[]) hnew .nil kp fun o eo=>Heap.get?_push_of_some _ (k1 _ _ eo)
 have lI:l≠h1.objs.size:=Nat.ne_of_lt (Nat.lt_trans ll sD)
 refine vR I (A:=X.A.in1) (by show X.A.units+1+20<cLine;lia) (D:=s.heap.objs.size) (It:=h1.objs.size) (l:=l) (St:=fun i h=>h.IsListIter h1.objs.size l i∧h.IsList l its.toArray) rv hP hz ?_ (Heap.get?_none_of_le (Nat.le_refl _)) (Heap.get?_none_of_le (Nat.le_of_lt sD)) (Nat.ne_of_lt sD) (Nat.ne_of_gt ll)
  (fun s' xs kvs kp' dd' kt' hk hlen g1 g2 g3=>?_) its.length 0 0 _ [] [] rfl (Nat.zero_le _) ?_ kp dd0 .nil .nil (Nat.le_refl _) rfl rfl rfl
 ·have W:=Walks.list (prog:=X.prog) (w:=X.w) (A:=X.A.in1.in1) (I.ok.hd hc) h1.objs.size l lI its.toArray
  have e1:(fun (i:Nat) (v:Value)=>its.toArray[i]?=some v)=fun i v=>its[i]?=some v:=by
   funext i v
   rw[List.getElem?_toArray]
  rw[e1,List.size_toArray] at W
  exact W
 ·obtain⟨h',g',d',t',os'⟩:=s'
  have g1:g'=s.gens:=g1
  have g2:d'=s.drawn:=g2
  have g3:os'=s.os:=g3
  subst g1 g2 g3
  have fD:H s.heap.objs.size=none:=I.hok.fresh (Nat.le_refl _)
  obtain⟨o,es,ep,h1',h2',h3',h4',_,h5'⟩:=dd'
  refine⟨rfl,.ref s.heap.objs.size,_,I.laid (o:=.dT kvs) (h':=h') (t':=t') kp' (Nat.le_refl _) ⟨Nat.le_trans (show kvs.length≤1000 by lia) (by decide),beq_eq_false_iff_ne.mpr (Ne.symm (Nat.ne_of_lt I.big)),xs,kt'.keeps fun b ys eb=>mQ eb fD,o,es,ep,h1',h2',h3',h4',h5'⟩,rfl,q _ kvs fD hk⟩
 ·exact⟨⟨_,Heap.get?_push_size _ rfl,rfl,rfl⟩,isl.push _⟩
@[simp] noncomputable def vDict:OpN:=fun ds=>match ds with
 | [.lst x]=>(prs? x).bind fun ps=>if (ps.all fun p=>Im.keys 7 p.1)=true∧ps.length≤1000 then some (.dT (bV ps)) else none
 | _=>none
theorem vT (hc:X.calm=true) (hu:X.A.units+30<cLine):b7 X (.type "dict") vDict:=by
 refine (vS hc hu).imp fun xs H Q ⟨ds,d,rd,e,q⟩=>?_
 unfold vDict at e
 split at e
 ·rename_i x
  obtain⟨ps,e1,e2⟩:=Option.bind_eq_some_iff.mp e
  split at e2
  ·rename_i hp
   cases e2
   obtain⟨v,rfl,_,p,ys,rfl,h1,h2,_⟩:=bD rd
   rw[vQ e1] at h2
   refine⟨p,ys,ps,rfl,h1,oA (fun q hq=>List.all_eq_true.mp hp.1 q hq) h2,hp.2,fun d kvs hd hk=>?_⟩
   have s:ap H (upd H d (.dT kvs)):=(ap.refl H).upd hd
   exact q _ _ [d] s ⟨d,kvs,rfl,aO,hk.mono s.tupS.tup,rfl⟩ (List.pairwise_singleton _ _) fun a ha=>by rw[List.mem_singleton.mp ha];exact hd
  ·cases e2
 ·cases e
end
end L2
namespace L2
open PySem PySem.Spec PyProof.Rows PySem.W
section
variable {X:Cx}
noncomputable def vU (tk tv:TE):TE:=fun σ H Q=>∀ p,H p=none→tk σ (upd H p (.dT [])) fun x H1=>tv σ H1 fun y H2=>∃ b k,x=.ref b∧KAd H2 k b∧H2 p=some (.dT [])∧Q (.ref p) (upd H2 p (.dT [(k,y)]))
theorem vV {k v:Expr}{pos:Pos}{tk tv:TE} (hu:X.A.units+20<cLine) (hk:PE X k tk) (hv:PE X v tv):PE X (.Dict [some k] [v] pos) (vU tk tv):=by
 intro pins s σ H Q I q
 have hn:=I.hok.fresh (Nat.le_refl s.heap.objs.size)
 have I1:=I.laid (a:=s.heap.objs.size) (o:=.dT []) (h':=s.heap.push { cls:=.type "dict",data:=.dict #[] }) (t':=s.toks) (fun _ _ q=>Heap.get?_push_of_some _ q) (Nat.le_refl _) (me s.heap I.big)
 refine wpAny_Dict_any rfl rfl (by simp) (by simp) ?_
 refine pairTrees_cons_walk (thn (hk pins _ σ _ _ I1 (q _ hn)) fun u s1 ⟨x,H1,I2,rx,q1⟩=>thn (hv pins s1 σ H1 _ I2 q1) fun w2 s2 ⟨y,H2,I3,ry,b,c,ex,hb,hp,q2⟩=>pairTrees_nil_walk ?_)
 subst ex
 cases rx
 obtain⟨z,hsys,xs,kt,dd⟩:=jd I3.hok hp
 cases kt
 unfold storeAll
 rw[List.forIn_cons]
 refine wpAny_bind (wpAny_bind (wpAny_dictSet_heap (k:=c) (knd:=bu X.prog X.w) (show X.A.units+10<cLine by omega) (dg I3.hok hb) dd (fun h' dd' sb=>wpAny_pure ?_) (Nat.zero_le _)))
 refine wpAny_pure ⟨.ref s.heap.objs.size,_,?_,rfl,q2⟩
 obtain⟨q',es,ep,hq,h2,h3,h4,_,h5⟩:=dd'
 refine jg (s:=s2) I3 (by rw[hp];exact True.intro) sb ⟨q',hq⟩ ⟨(show 1≤sizeLine by decide),hsys,_,KT.keeps (KT.put (kvs:=[]) (xs:=[]) .nil c (b:=b) hb ry) fun cc ys ec=>?_,q',es,ep,hq,h2,h3,h4,h5⟩
 rw[ar (ls ec hp (fun z=>nomatch z))]
 exact ec
@[simp] noncomputable def ko (gk gv:M Vl):M Vl:=fun D=>(gk D).bind fun p=>(gv p.2).bind fun q=>match p.1,q.1 with
 | .im (.tup k),.im d=>if Im.keys 7 k=true then some (.dT [(k,d)],q.2) else none
 | _,_=>none
theorem vW {k v:Expr}{gk gv:M Vl}{pos:Pos} (hu:X.A.units+20<cLine) (hk:VE X k gk) (hv:VE X v gv):VE X (.Dict [some k] [v] pos) (ko gk gv):=by
 refine aZ (vV hu hk hv) fun σ H Q ⟨D,F,r,D',st,nd,hgg,q⟩ p hp=>?_
 obtain⟨⟨d1,D1⟩,h1,h2⟩:=Option.bind_eq_some_iff.mp hgg
 obtain⟨⟨d2,D2⟩,h3,h4⟩:=Option.bind_eq_some_iff.mp h2
 have s:ap H (L2.upd H p (.dT [])):=(ap.refl H).upd hp
 have hF:p∉F:=fun z=>by obtain⟨o,e,_⟩:=st.chg p z;rw[hp] at e;cases e
 refine⟨D,F,d1,D1,st.mono s.tupS fun a _ o e=>s a o e,nd,h1,fun x H1 F1 R1 st1 o1 s1=>?_⟩
 have nd1:=List.nodup_append.mp s1.nd
 refine⟨D1,F1,d2,D2,st1,nd1.1,h3,fun y H2 F2 R2 st2 o2 s2=>?_⟩
 dsimp only at h4
 split at h4
 ·rename_i kk dd
  split at h4
  ·rename_i hkk
   cases h4
   obtain⟨w1,rfl⟩:=o1
   obtain⟨w2,rfl⟩:=o2
   rw[List.append_nil] at s1 s2
   have s12:=s1.seq s2
   have hp1:H1 p=some (.dT []):=s1.keep p _ aO hF
   have hF1:p∉F1:=fun z=>by
    rcases s1.sub p z with h | h
    ·exact hF h
    ·rw[aO] at h;cases h
   have hp2:H2 p=some (.dT []):=s2.keep p _ hp1 hF1
   have hF2:p∉F2:=fun z=>by
    rcases s2.sub p z with h | h
    ·exact hF1 h
    ·rw[hp1] at h;cases h
   obtain⟨b,xs,rfl,k1,k2⟩:=(show IsI H2 (.tup kk) x from w1.mono s2.tup.tup)
   refine⟨b,kk,rfl,⟨hkk,b,xs,rfl,k1,k2⟩,hp2,?_⟩
   have stay:StayS H2 (L2.upd H2 p (.dT [(kk,y)])):=StayS.of (fun a xs e=>by
    have:a≠p:=fun z=>by subst z;rw[hp2] at e;cases e
    rw[ar this];exact e) fun a o u e=>by
    have:a≠p:=fun z=>by subst z;rw[hp2] at e;cases e
    rw[ar this];exact e
   refine q _ _ F2 [p] (st2.mono stay fun a ha o e=>by
    have ne:a≠p:=fun z=>by subst z;exact hF2 ha
    rw[ar ne];exact e) ⟨p,[(kk,y)],rfl,aO,.cons ⟨rfl,w2.mono stay.tup⟩ .nil,rfl⟩ ?_
   refine⟨fun a o e ha=>?_,fun a ha=>?_,?_,?_,fun a o e=>?_⟩
   ·have:a≠p:=fun z=>by subst z;rw[hp] at e;cases e
    rw[ar this]
    exact s12.keep a o (by rw[ar this];exact e) ha
   ·rcases List.mem_append.mp ha with h | h
    ·rcases s12.sub a h with h' | h'
     ·exact .inl h'
     ·by_cases e:a=p
      ·exact .inr (e ▸ hp)
      ·rw[ar e] at h';exact .inr h'
    ·exact .inr (by rw[List.mem_singleton.mp h];exact hp)
   ·exact List.nodup_append.mpr ⟨s2.nd,List.pairwise_singleton _ _,fun a ha b hb e=>hF2 (by rw[List.mem_singleton.mp hb] at e;rw[← e];exact ha)⟩
   ·exact (s.tupS.trans s12.tup).trans stay
   ·by_cases z:a=p
    ·exact⟨_,by rw[z];exact aO⟩
    ·obtain⟨o',e'⟩:=s12.grow a o (by rw[ar z];exact e)
     exact⟨o',by rw[ar z];exact e'⟩
  ·cases h4
 ·cases h4
end
end L2
namespace L2
open PySem PySem.Spec PyProof.Rows PySem.W
section
variable {prog:Program}{w:World}{A:Around}{E:Value→Shared→Prop}{s:Shared}
theorem vX {a b:Value}{k:Bool}{Q:Value→Shared→Prop} (hh:A.handled=none)
  (hcmp:∀ s':Shared,(∀ c o,s.heap.get? c=some o→s'.heap.get? c=some o)→∀ (Q:Value→Shared→Prop) (E:Value→Shared→Prop),Q (.bool k) s'→wpAny (model prog w) A.in1 (richCompare .Gt b a) Q E s')
  (h:∀ h' tk,(∀ c o,s.heap.get? c=some o→h'.get? c=some o)→Q (if k=true then b else a) { s with heap:=h',toks:=tk }):wpAny (model prog w) A (call (.builtin "max") [a,b]) Q E s:=by
 have hname:(toString "max" ++ toString ".loop" : String) = "max.loop" := by decide
 refine call_function_tree F.kind_max F.plain_max F.entry_max (F.args_max2 _ _) ?_
 show wpAny _ A.in1 (Builtin.Builtins.bindParams "max" ["key","default"] 0 ⟨[],[]⟩ >>= _) _ _ s
 refine wpAny_bind (wpAny_of_eq (show Builtin.Builtins.bindParams "max" ["key","default"] 0 ⟨[],[]⟩=pure [none,none] from rfl) ?_)
 show wpAny _ A.in1 (newTuple [a,b] >>= _) _ _ s
 refine wpAny_bind (wpAny_newObj_type ?_)
 have hT:(s.heap.push { cls:=.type "tuple",data:=.seq #[a,b] }).IsTuple s.heap.objs.size #[a,b]:=⟨_,Heap.get?_push_size _ rfl,rfl,0,rfl⟩
 refine wpAny_bind (wpAny_pyIter_tuple hT (wpAny_bind (wpAny_newObj_type ?_)))
 have z1:(s.heap.push { cls:=.type "tuple",data:=.seq #[a,b] }).objs.size=s.heap.objs.size+1:=Heap.size_push ..
 have W:=Walks.tuple (prog:=prog) (w:=w) (A:=A.in1) hh (s.heap.push { cls:=.type "tuple",data:=.seq #[a,b] }).objs.size s.heap.objs.size (by rw[z1];exact Nat.ne_of_lt (Nat.lt_succ_self _)) #[a,b]
 rw[hname]
 refine wpAny_pure ⟨plainId_quiet F.plain_max_loop _,?_⟩
 have hI:((s.heap.push { cls:=.type "tuple",data:=.seq #[a,b] }).push { cls:=.type "tuple_iterator",data:=.fields #[.ref s.heap.objs.size,.int 0 0] }).IsTupleIter (s.heap.push { cls:=.type "tuple",data:=.seq #[a,b] }).objs.size s.heap.objs.size 0:=⟨_,Heap.get?_push_size _ rfl,rfl,rfl⟩
 have hT2:=hT.push { cls:=.type "tuple_iterator",data:=.fields #[.ref s.heap.objs.size,.int 0 0] }
 have z2:((s.heap.push { cls:=.type "tuple",data:=.seq #[a,b] }).push { cls:=.type "tuple_iterator",data:=.fields #[.ref s.heap.objs.size,.int 0 0] }).objs.size=s.heap.objs.size+2:=by rw[Heap.size_push,z1]
 have kp:∀ c o,s.heap.get? c=some o→((s.heap.push { cls:=.type "tuple",data:=.seq #[a,b] }).push { cls:=.type "tuple_iterator",data:=.fields #[.ref s.heap.objs.size,.int 0 0] }).get? c=some o:=fun c o e=>Heap.get?_push_of_some _ (Heap.get?_push_of_some _ e)
 rw[z1] at W hI
 rw[z1,z2]
 generalize hg:((s.heap.push { cls:=.type "tuple",data:=.seq #[a,b] }).push { cls:=.type "tuple_iterator",data:=.fields #[.ref s.heap.objs.size,.int 0 0] })=g2 at hI hT2 z2 kp ⊢
 have hS0:(g2.push { cls:=.type "list",data:=.seq ([]:List Value).toArray }).get? (s.heap.objs.size+2)=some { cls:=.type "list",data:=.seq ([]:List Value).toArray }:=by rw[← z2];exact Heap.get?_push_size _ rfl
 have nI:s.heap.objs.size+2∉[s.heap.objs.size+1]:=by simp
 have nF:∀ c∈[s.heap.objs.size+1,s.heap.objs.size],s.heap.objs.size+2≠c:=fun c hc z=>by
  simp only[List.mem_cons,List.mem_nil_iff,or_false] at hc
  rcases hc with e | e
  ·rw[e] at z;exact absurd z (Nat.ne_of_gt (Nat.lt_succ_self _))
  ·rw[e] at z;exact absurd z (Nat.ne_of_gt (Nat.lt_add_of_pos_right (by decide)))
 have old:∀ c o,s.heap.get? c=some o→c∉[s.heap.objs.size+1]∧c≠s.heap.objs.size+2:=fun c o e=>by
  have lt:=Heap.lt_size e
  refine⟨fun z=>?_,Nat.ne_of_lt (Nat.lt_of_lt_of_le lt (Nat.le_add_right _ _))⟩
  rw[List.mem_singleton.mp z] at lt
  exact Nat.lt_irrefl _ (Nat.lt_of_succ_lt lt)
 -- the last turn
 have fin:∀ (h':Heap) (tk:Nat) (vb:Value) (cc:Nat),(∀ c o,s.heap.get? c=some o→h'.get? c=some o)→h'.get? (s.heap.objs.size+2)=some { cls:=.type "list",dict:=none,data:=.seq #[vb,vb] cc,slots:=#[] }→
   h'.IsTupleIter (s.heap.objs.size+1) s.heap.objs.size 2∧h'.IsTuple s.heap.objs.size #[a,b]→vb=(if k=true then b else a)→
   codeAny (model prog w) A (.builtin "max.loop" ⟨[.ref (s.heap.objs.size+1),.none,.ref (s.heap.objs.size+2)],[]⟩) (wants Q E) { s with heap:=h',toks:=tk }:=by
  intro h' tk vb cc k1 hS st ev
  refine codeAny_builtin F.entry_max_loop ?_
  rw[Around.under_plainId F.plain_max_loop _]
  show wpAny _ A.in1 (seqItems? (.ref (s.heap.objs.size+2)) >>= _) _ _ _
  refine wpAny_bind (wpAny_seqItems (s:={ s with heap:=h',toks:=tk }) hS rfl ?_)
  show wpAny _ A.in1 (tryCatch (pyNext (.ref (s.heap.objs.size+1))) _ >>= _) _ _ _
  refine wpAny_bind (wpAny_tryCatch (W.done { s with heap:=h',toks:=tk } _ _ st fun h2 tk2 kk=>?_))
  have hS':=kk _ _ nI hS
  show wpAny _ A.in1 (updateSeq (s.heap.objs.size+2) (fun _=>#[]) >>= _) _ _ _
  refine wpAny_bind (wpAny_updateSeq hS' rfl (wpAny_bind (wpAny_letGo (wpAny_pure ?_))))
  show Q vb _
  rw[ev]
  exact h _ tk2 fun c o e=>(Heap.get?_update_other _ _ (Ne.symm (old c o e).2)).trans (kk c o (old c o e).1 (k1 c o e))
 refine codeAny_builtin F.entry_max_loop ?_
 rw[Around.under_plainId F.plain_max_loop _]
 show wpAny _ A.in1 (seqItems? (.ref (s.heap.objs.size+2)) >>= _) _ _ _
 refine wpAny_bind (wpAny_seqItems (s:={ s with heap:=g2.push { cls:=.type "list",data:=.seq ([]:List Value).toArray } }) hS0 rfl ?_)
 show wpAny _ A.in1 (tryCatch (pyNext (.ref (s.heap.objs.size+1))) _ >>= _) _ _ _
 refine wpAny_bind (wpAny_tryCatch (W.item 0 { s with heap:=g2.push { cls:=.type "list",data:=.seq ([]:List Value).toArray } } _ _ (by simp) ⟨let ⟨o,e1,e2⟩:=hI;⟨o,Heap.get?_push_of_some _ e1,e2⟩,hT2.push _⟩ fun v h1 tk1 hv st1 k1=>?_))
 cases hv
 have hS1:=k1 _ _ nI hS0
 show wpAny _ A.in1 (updateSeq (s.heap.objs.size+2) (fun _=>#[a,a]) >>= _) _ _ _
 refine wpAny_bind (wpAny_updateSeq hS1 rfl ?_)
 rw[hname]
 refine wpAny_pure ⟨plainId_quiet F.plain_max_loop _,codeAny_builtin F.entry_max_loop ?_⟩
 have hS2:=Heap.get?_update_self (Obj.mapSeq (fun _=>(#[a,a]:Array Value))) hS1 rfl
 have st2:=W.frame _ _ (h1.update (s.heap.objs.size+2) (Obj.mapSeq (fun _=>(#[a,a]:Array Value)))) st1 fun c hc o e=>(Heap.get?_update_other _ _ (nF c hc)).trans e
 have kp2:∀ c o,s.heap.get? c=some o→(h1.update (s.heap.objs.size+2) (Obj.mapSeq (fun _=>(#[a,a]:Array Value)))).get? c=some o:=fun c o e=>(Heap.get?_update_other _ _ (Ne.symm (old c o e).2)).trans (k1 c o (old c o e).1 (Heap.get?_push_of_some _ (kp c o e)))
 rw[Around.under_plainId F.plain_max_loop _]
 show wpAny _ A.in1 (seqItems? (.ref (s.heap.objs.size+2)) >>= _) _ _ _
 refine wpAny_bind (wpAny_seqItems hS2 rfl ?_)
 show wpAny _ A.in1 (tryCatch (pyNext (.ref (s.heap.objs.size+1))) _ >>= _) _ _ _
 refine wpAny_bind (wpAny_tryCatch (W.item 1 _ _ _ (by simp) st2 fun v h3 tk3 hv st3 k3=>?_))
 cases hv
 have hS3:=k3 _ _ nI hS2
 have kp3:∀ c o,s.heap.get? c=some o→h3.get? c=some o:=fun c o e=>k3 c o (old c o e).1 (kp2 c o e)
 show wpAny _ A.in1 (tryCatch (holding [b,b] (richCompare .Gt b a >>= _)) _ >>= _) _ _ _
 refine wpAny_bind (wpAny_tryCatch (wpAny_holding (wpAny_bind (hcmp _ kp3 _ _ ?_))))
 refine wpAny_bind (wpAny_holding (wpAny_truthy_bool ?_))
 refine wpAny_bind (wpAny_letGo (wpAny_pure ?_))
 cases hk:k with
 | true=>
  simp only[if_true]
  refine wpAny_bind (wpAny_updateSeq hS3 rfl (wpAny_bind (wpAny_letGo ?_)))
  rw[hname]
  have hS4:=Heap.get?_update_self (Obj.mapSeq (fun _=>(#[b,b]:Array Value))) hS3 rfl
  refine wpAny_pure ⟨plainId_quiet F.plain_max_loop _,fin _ tk3 b _ (fun c o e=>(Heap.get?_update_other _ _ (Ne.symm (old c o e).2)).trans (kp3 c o e)) hS4 (W.frame _ _ _ st3 fun c hc o e=>(Heap.get?_update_other _ _ (nF c hc)).trans e) (by rw[hk];rfl)⟩
 | false=>
  simp only[Bool.false_eq_true,if_false]
  refine wpAny_bind (wpAny_letGo ?_)
  rw[hname]
  exact wpAny_pure ⟨plainId_quiet F.plain_max_loop _,fin _ tk3 a _ kp3 hS3 st3 (by rw[hk];rfl)⟩
end
section
variable {prog:Program}{w:World}{A:Around}{E:Value→Shared→Prop}{s:Shared}
theorem vY {a b:Value}{k:Bool}{Q:Value→Shared→Prop} (hh:A.handled=none)
  (hcmp:∀ s':Shared,(∀ c o,s.heap.get? c=some o→s'.heap.get? c=some o)→∀ (Q:Value→Shared→Prop) (E:Value→Shared→Prop),Q (.bool k) s'→wpAny (model prog w) A.in1 (richCompare .Lt b a) Q E s')
  (h:∀ h' tk,(∀ c o,s.heap.get? c=some o→h'.get? c=some o)→Q (if k=true then b else a) { s with heap:=h',toks:=tk }):wpAny (model prog w) A (call (.builtin "min") [a,b]) Q E s:=by
 have hname:(toString "min" ++ toString ".loop" : String) = "min.loop" := by decide
 refine call_function_tree F.kind_min F.plain_min F.entry_min (F.args_min2 _ _) ?_
 show wpAny _ A.in1 (Builtin.Builtins.bindParams "min" ["key","default"] 0 ⟨[],[]⟩ >>= _) _ _ s
 refine wpAny_bind (wpAny_of_eq (show Builtin.Builtins.bindParams "min" ["key","default"] 0 ⟨[],[]⟩=pure [none,none] from rfl) ?_)
 show wpAny _ A.in1 (newTuple [a,b] >>= _) _ _ s
 refine wpAny_bind (wpAny_newObj_type ?_)
 have hT:(s.heap.push { cls:=.type "tuple",data:=.seq #[a,b] }).IsTuple s.heap.objs.size #[a,b]:=⟨_,Heap.get?_push_size _ rfl,rfl,0,rfl⟩
 refine wpAny_bind (wpAny_pyIter_tuple hT (wpAny_bind (wpAny_newObj_type ?_)))
 have z1:(s.heap.push { cls:=.type "tuple",data:=.seq #[a,b] }).objs.size=s.heap.objs.size+1:=Heap.size_push ..
 have W:=Walks.tuple (prog:=prog) (w:=w) (A:=A.in1) hh (s.heap.push { cls:=.type "tuple",data:=.seq #[a,b] }).objs.size s.heap.objs.size (by rw[z1];exact Nat.ne_of_lt (Nat.lt_succ_self _)) #[a,b]
 rw[hname]
 refine wpAny_pure ⟨plainId_quiet F.plain_min_loop _,?_⟩
 have hI:((s.heap.push { cls:=.type "tuple",data:=.seq #[a,b] }).push { cls:=.type "tuple_iterator",data:=.fields #[.ref s.heap.objs.size,.int 0 0] }).IsTupleIter (s.heap.push { cls:=.type "tuple",data:=.seq #[a,b] }).objs.size s.heap.objs.size 0:=⟨_,Heap.get?_push_size _ rfl,rfl,rfl⟩
 have hT2:=hT.push { cls:=.type "tuple_iterator",data:=.fields #[.ref s.heap.objs.size,.int 0 0] }
 have z2:((s.heap.push { cls:=.type "tuple",data:=.seq #[a,b] }).push { cls:=.type "tuple_iterator",data:=.fields #[.ref s.heap.objs.size,.int 0 0] }).objs.size=s.heap.objs.size+2:=by rw[Heap.size_push,z1]
 have kp:∀ c o,s.heap.get? c=some o→((s.heap.push { cls:=.type "tuple",data:=.seq #[a,b] }).push { cls:=.type "tuple_iterator",data:=.fields #[.ref s.heap.objs.size,.int 0 0] }).get? c=some o:=fun c o e=>Heap.get?_push_of_some _ (Heap.get?_push_of_some _ e)
 rw[z1] at W hI
 rw[z1,z2]
 generalize hg:((s.heap.push { cls:=.type "tuple",data:=.seq #[a,b] }).push { cls:=.type "tuple_iterator",data:=.fields #[.ref s.heap.objs.size,.int 0 0] })=g2 at hI hT2 z2 kp ⊢
 have hS0:(g2.push { cls:=.type "list",data:=.seq ([]:List Value).toArray }).get? (s.heap.objs.size+2)=some { cls:=.type "list",data:=.seq ([]:List Value).toArray }:=by rw[← z2];exact Heap.get?_push_size _ rfl
 have nI:s.heap.objs.size+2∉[s.heap.objs.size+1]:=by simp
 have nF:∀ c∈[s.heap.objs.size+1,s.heap.objs.size],s.heap.objs.size+2≠c:=fun c hc z=>by
  simp only[List.mem_cons,List.mem_nil_iff,or_false] at hc
  rcases hc with e | e
  ·rw[e] at z;exact absurd z (Nat.ne_of_gt (Nat.lt_succ_self _))
  ·rw[e] at z;exact absurd z (Nat.ne_of_gt (Nat.lt_add_of_pos_right (by decide)))
 have old:∀ c o,s.heap.get? c=some o→c∉[s.heap.objs.size+1]∧c≠s.heap.objs.size+2:=fun c o e=>by
  have lt:=Heap.lt_size e
  refine⟨fun z=>?_,Nat.ne_of_lt (Nat.lt_of_lt_of_le lt (Nat.le_add_right _ _))⟩
  rw[List.mem_singleton.mp z] at lt
  exact Nat.lt_irrefl _ (Nat.lt_of_succ_lt lt)
 -- the last turn
 have fin:∀ (h':Heap) (tk:Nat) (vb:Value) (cc:Nat),(∀ c o,s.heap.get? c=some o→h'.get? c=some o)→h'.get? (s.heap.objs.size+2)=some { cls:=.type "list",dict:=none,data:=.seq #[vb,vb] cc,slots:=#[] }→
   h'.IsTupleIter (s.heap.objs.size+1) s.heap.objs.size 2∧h'.IsTuple s.heap.objs.size #[a,b]→vb=(if k=true then b else a)→
   codeAny (model prog w) A (.builtin "min.loop" ⟨[.ref (s.heap.objs.size+1),.none,.ref (s.heap.objs.size+2)],[]⟩) (wants Q E) { s with heap:=h',toks:=tk }:=by
  intro h' tk vb cc k1 hS st ev
  refine codeAny_builtin F.entry_min_loop ?_
  rw[Around.under_plainId F.plain_min_loop _]
  show wpAny _ A.in1 (seqItems? (.ref (s.heap.objs.size+2)) >>= _) _ _ _
  refine wpAny_bind (wpAny_seqItems (s:={ s with heap:=h',toks:=tk }) hS rfl ?_)
  show wpAny _ A.in1 (tryCatch (pyNext (.ref (s.heap.objs.size+1))) _ >>= _) _ _ _
  refine wpAny_bind (wpAny_tryCatch (W.done { s with heap:=h',toks:=tk } _ _ st fun h2 tk2 kk=>?_))
  have hS':=kk _ _ nI hS
  show wpAny _ A.in1 (updateSeq (s.heap.objs.size+2) (fun _=>#[]) >>= _) _ _ _
  refine wpAny_bind (wpAny_updateSeq hS' rfl (wpAny_bind (wpAny_letGo (wpAny_pure ?_))))
  show Q vb _
  rw[ev]
  exact h _ tk2 fun c o e=>(Heap.get?_update_other _ _ (Ne.symm (old c o e).2)).trans (kk c o (old c o e).1 (k1 c o e))
 refine codeAny_builtin F.entry_min_loop ?_
 rw[Around.under_plainId F.plain_min_loop _]
 show wpAny _ A.in1 (seqItems? (.ref (s.heap.objs.size+2)) >>= _) _ _ _
 refine wpAny_bind (wpAny_seqItems (s:={ s with heap:=g2.push { cls:=.type "list",data:=.seq ([]:List Value).toArray } }) hS0 rfl ?_)
 show wpAny _ A.in1 (tryCatch (pyNext (.ref (s.heap.objs.size+1))) _ >>= _) _ _ _
 refine wpAny_bind (wpAny_tryCatch (W.item 0 { s with heap:=g2.push { cls:=.type "list",data:=.seq ([]:List Value).toArray } } _ _ (by simp) ⟨let ⟨o,e1,e2⟩:=hI;⟨o,Heap.get?_push_of_some _ e1,e2⟩,hT2.push _⟩ fun v h1 tk1 hv st1 k1=>?_))
 cases hv
 have hS1:=k1 _ _ nI hS0
 show wpAny _ A.in1 (updateSeq (s.heap.objs.size+2) (fun _=>#[a,a]) >>= _) _ _ _
 refine wpAny_bind (wpAny_updateSeq hS1 rfl ?_)
 rw[hname]
 refine wpAny_pure ⟨plainId_quiet F.plain_min_loop _,codeAny_builtin F.entry_min_loop ?_⟩
 have hS2:=Heap.get?_update_self (Obj.mapSeq (fun _=>(#[a,a]:Array Value))) hS1 rfl
 have st2:=W.frame _ _ (h1.update (s.heap.objs.size+2) (Obj.mapSeq (fun _=>(#[a,a]:Array Value)))) st1 fun c hc o e=>(Heap.get?_update_other _ _ (nF c hc)).trans e
 have kp2:∀ c o,s.heap.get? c=some o→(h1.update (s.heap.objs.size+2) (Obj.mapSeq (fun _=>(#[a,a]:Array Value)))).get? c=some o:=fun c o e=>(Heap.get?_update_other _ _ (Ne.symm (old c o e).2)).trans (k1 c o (old c o e).1 (Heap.get?_push_of_some _ (kp c o e)))
 rw[Around.under_plainId F.plain_min_loop _]
 show wpAny _ A.in1 (seqItems? (.ref (s.heap.objs.size+2)) >>= _) _ _ _
 refine wpAny_bind (wpAny_seqItems hS2 rfl ?_)
 show wpAny _ A.in1 (tryCatch (pyNext (.ref (s.heap.objs.size+1))) _ >>= _) _ _ _
 refine wpAny_bind (wpAny_tryCatch (W.item 1 _ _ _ (by simp) st2 fun v h3 tk3 hv st3 k3=>?_))
 cases hv
 have hS3:=k3 _ _ nI hS2
 have kp3:∀ c o,s.heap.get? c=some o→h3.get? c=some o:=fun c o e=>k3 c o (old c o e).1 (kp2 c o e)
 show wpAny _ A.in1 (tryCatch (holding [b,b] (richCompare .Lt b a >>= _)) _ >>= _) _ _ _
 refine wpAny_bind (wpAny_tryCatch (wpAny_holding (wpAny_bind (hcmp _ kp3 _ _ ?_))))
 refine wpAny_bind (wpAny_holding (wpAny_truthy_bool ?_))
 refine wpAny_bind (wpAny_letGo (wpAny_pure ?_))
 cases hk:k with
 | true=>
  simp only[if_true]
  refine wpAny_bind (wpAny_updateSeq hS3 rfl (wpAny_bind (wpAny_letGo ?_)))
  rw[hname]
  have hS4:=Heap.get?_update_self (Obj.mapSeq (fun _=>(#[b,b]:Array Value))) hS3 rfl
  refine wpAny_pure ⟨plainId_quiet F.plain_min_loop _,fin _ tk3 b _ (fun c o e=>(Heap.get?_update_other _ _ (Ne.symm (old c o e).2)).trans (kp3 c o e)) hS4 (W.frame _ _ _ st3 fun c hc o e=>(Heap.get?_update_other _ _ (nF c hc)).trans e) (by rw[hk];rfl)⟩
 | false=>
  simp only[Bool.false_eq_true,if_false]
  refine wpAny_bind (wpAny_letGo ?_)
  rw[hname]
  exact wpAny_pure ⟨plainId_quiet F.plain_min_loop _,fin _ tk3 a _ kp3 hS3 st3 (by rw[hk];rfl)⟩
end
end L2
namespace L2
open PySem PySem.Spec PyProof.Rows PySem.W
noncomputable def kq (A:Around) (s:Shared) (y x:Value) (k:Bool):Prop:=∀ (prog:Program) (w:World) (E:Value→Shared→Prop) (Q:Value→Shared→Prop),Q (.bool k) s→wpAny (model prog w) A (richCompare .Gt y x) Q E s
section
open PySem.SeqAt
open PySem.AutoSeq1 (wpAny_loadPart')
open PySem.MeetsSeq PySem.MeetsSeq2 PySem.MeetsSeq3
theorem vZ (l b:Addr) (items items2:Array Value) (n n2:Nat) (dd dd2:Option Addr) (sl sl2:Array (Option Value)) (ps:List (Bool×Bool)) (hps:ps.length=min items.size items2.size):
  Meets (Builtin.«tuple.__gt__» ⟨[.ref l,.ref b],[]⟩)
   (fun A R s=>s.heap.get? l=some { cls:=.type "tuple",dict:=dd,data:=.seq items n,slots:=sl }∧s.heap.get? b=some { cls:=.type "tuple",dict:=dd2,data:=.seq items2 n2,slots:=sl2 }∧
    (∀ j (h1:j<items.size) (h2:j<items2.size) (h3:j<ps.length),EqAt A.in1 s items[j] items2[j] (ps[j]).1∧((ps[j]).1=false→kq A.in1 s items[j] items2[j] (ps[j]).2))∧
    R (.ok (.ret (.bool (bU (decide (items2.size<items.size)) ps)))) s):=
 .of_wp fun prog w A R s h=>by
  obtain⟨hp,g,d,tk,os⟩:=s;obtain⟨hl,hb,he,h⟩:=h
  have f2:=AutoSeq1.sub_tuple_tuple
  have hZ:(items.toList.zip items2.toList).length=min items.size items2.size:=by simp
  wp_walk using wpAny_loadPart' hl,wpAny_loadPart' hb,wpAny_forIn_list _ (fun rest b s'=>b.1=none∧s'=⟨hp,g,d,tk,os⟩∧∃ i,rest=(items.toList.zip items2.toList).drop i∧
   R (.ok (.ret (.bool (bU (decide (items2.size<items.size)) (ps.drop i))))) ⟨hp,g,d,tk,os⟩) _
  case turn=>
   rintro⟨y,x⟩ rest b s' ⟨hb',rfl,i,hz,hR⟩
   have hlt:i<(items.toList.zip items2.toList).length:=by
    rcases Nat.lt_or_ge i (items.toList.zip items2.toList).length with h' | h'
    ·exact h'
    ·rw[List.drop_of_length_le h'] at hz;cases hz
   have hm:i<min items.size items2.size:=hZ ▸ hlt
   have h1:i<items.size:=by omega
   have h2:i<items2.size:=by omega
   have h3:i<ps.length:=by omega
   rw[List.drop_eq_getElem_cons hlt] at hz
   injection hz with hyx hrest
   have hy:y=items[i]:=by have:=congrArg Prod.fst hyx;simpa using this
   have hx:x=items2[i]:=by have:=congrArg Prod.snd hyx;simpa using this
   subst hy hx
   rw[List.drop_eq_getElem_cons h3] at hR
   obtain⟨he1,he2⟩:=he i h1 h2 h3
   generalize ps[i]=pr at hR he1 he2
   obtain⟨e,k⟩:=pr
   refine wpAny_bind (he1 prog w _ _ ?_)
   cases e with
   | true=>
    have hR':R (.ok (.ret (.bool (bU (decide (items2.size<items.size)) (ps.drop (i+1)))))) ⟨hp,g,d,tk,os⟩:=hR
    wp_walk
    exact⟨rfl,rfl,i+1,hrest,hR'⟩
   | false=>
    have hR':R (.ok (.ret (.bool k))) ⟨hp,g,d,tk,os⟩:=hR
    have hri:=he2 rfl prog w
    wp_walk using hri
    exact⟨_,rfl,by simpa using hR'⟩
  case fin=>
   rintro⟨b1,b2⟩ s' ⟨hb',rfl,i,hz,hR⟩
   simp only at hb'
   subst hb'
   have hge:min items.size items2.size≤i:=by
    rcases Nat.lt_or_ge i (items.toList.zip items2.toList).length with h' | h'
    ·rw[List.drop_eq_getElem_cons h'] at hz;cases hz
    ·exact hZ ▸ h'
   rw[List.drop_of_length_le (by omega)] at hR
   have hR':R (.ok (.ret (.bool (decide (items2.size<items.size))))) ⟨hp,g,d,tk,os⟩:=hR
   wp_walk
   exact⟨_,rfl,by simpa [Builtin.Tuple.tupleCompareSizes] using hR'⟩
  case h=>
   exact⟨rfl,rfl,0,rfl,by simpa using h⟩
end
noncomputable def zpG (ds es:List Im):List (Bool×Bool):=(ds.zip es).map fun p=>(aq p.1 p.2,ltM p.2 p.1)
theorem v3 (a b:Im):Im.beq a b=Im.beq b a:=by
 rw[Bool.eq_iff_iff,Im.beq_iff,Im.beq_iff]
 exact⟨fun h=>h.symm,fun h=>h.symm⟩
theorem oC:∀ {n:Nat}{ds es:List Im},bd n ds es=true→bU false (zpG ds es)=bn es ds
 | _,[],[],_=>rfl
 | n,a::r,b::t,h=>by
  rw[bd,Bool.and_eq_true] at h
  show (if aq a b=true then bU false (zpG r t) else ltM b a)=bn (b::t) (a::r)
  rw[bn,(fP h.1).2.2,oC h.2,v3]
 | _,[],_::_,h=>by cases h
 | _,_::_,[],h=>by cases h
theorem oD {s:Shared}{A:Around}{i j:Int}{u v:Value} (hx:ImV s.heap (.int i) u) (hy:ImV s.heap (.int j) v):kq A s u v (ltM (.int j) (.int i)):=by
 obtain⟨t,rfl⟩:=hx
 obtain⟨t',rfl⟩:=hy
 intro prog w E Q q
 rw[ltM] at q
 exact (PyProof.Rows.gt_int q:wpAny (model prog w) A (compareOp .Gt (.int i t) (.int j t')) Q E s)
theorem v4 {s:Shared} (n:Nat):∀ {A:Around}{x y:Im}{u v:Value},aV n x y=true→A.units+n+2<cLine→ImV s.heap x u→ImV s.heap y v→kq A s u v (ltM y x):=by
 induction n with
 | zero=>
  intro A x y u v h hu hx hy
  rcases gL h with ⟨i,j,rfl,rfl⟩ | ⟨m,_,_,e,_⟩
  ·exact oD hx hy
  ·cases e
 | succ n ih=>
  intro A x y u v h hu hx hy
  rcases gL h with ⟨i,j,rfl,rfl⟩ | ⟨m,ds,es,e,rfl,rfl,h⟩
  ·exact oD hx hy
  cases e
  obtain⟨a,o,its,m,rfl,h1,h2,h3,h4⟩:=hx
  obtain⟨b,o',its',m',rfl,g1,g2,g3,g4⟩:=hy
  obtain⟨cls,dd,data,sl⟩:=o
  obtain⟨cls',dd',data',sl'⟩:=o'
  simp only at h2 h3 g2 g3
  subst h2 h3 g2 g3
  have l0:=iC h
  have l1:ds.length=its.size:=by rw[h4.length,Array.length_toList]
  have l2:es.length=its'.size:=by rw[g4.length,Array.length_toList]
  intro prog w E Q q
  rw[ltM,← oC h] at q
  have lp:(zpG ds es).length=min its.size its'.size:=by rw[zpG,List.length_map,List.length_zip,l1,l2]
  have hd:decide (its'.size<its.size)=false:=decide_eq_false (by omega)
  refine richCompare_meets_room (op:=.Gt) ⟨_,h1,rfl⟩ ⟨_,g1,rfl⟩ PySem.F.slot_tuple_gt PySem.F.entry_tuple_gt (PySem.F.args_tuple_gt_2 _ _) (vZ a b its its' m m' dd dd' sl sl' (zpG ds es) lp)
   ⟨h1,g1,fun j j1 j2 j3=>?_,show Value.bool (bU (decide (its'.size<its.size)) (zpG ds es))≠Value.notImplemented∧Q (.bool (bU (decide (its'.size<its.size)) (zpG ds es))) s from ⟨(fun x=>nomatch x),by rw[hd];exact q⟩⟩ (by omega)
  obtain⟨d1,e1,r1⟩:=h4.get (j:=j) (v:=its[j]) (by rw[Array.getElem?_toList];simp[j1])
  obtain⟨d2,e2,r2⟩:=g4.get (j:=j) (v:=its'[j]) (by rw[Array.getElem?_toList];simp[j2])
  have lk:=kc h e1 e2
  have hp:=fP lk
  have ez:(zpG ds es)[j]=(aq d1 d2,ltM d2 d1):=by
   have:(zpG ds es)[j]?=some (aq d1 d2,ltM d2 d1):=by
    rw[zpG,List.getElem?_map,(List.getElem?_zip_eq_some (z:=(d1,d2))).mpr ⟨e1,e2⟩]
    rfl
   rw[List.getElem?_eq_getElem j3] at this
   exact Option.some.inj this
  rw[ez]
  exact⟨cf n hp.1 hp.2.1 (by show A.units+1+n+1<cLine;omega) r1 r2,fun _=>ih lk (by show A.units+1+n+2<cLine;omega) r1 r2⟩
section
variable {X:Cx}
theorem v6 (hc:X.calm=true) (hu:X.A.units+20<cLine):aP X (.builtin "max") (fun xs H Q=>∃ (d e:Im) (v u:V),xs=[v,u]∧aV 6 e d=true∧IsI H d v∧IsI H e u∧Q (if ltM d e=true then u else v) H):=by
 intro pins s σ H xs us Q I r h
 obtain⟨d,e,v,u,rfl,lk,h1,h2,q⟩:=h
 obtain⟨v',u',rfl,r1,r2⟩:=gj r
 refine vX (k:=ltM d e) (I.ok.hd hc) (fun s' k Q E hq=>?_) fun h' tk k=>⟨if ltM d e=true then u else v,H,I.kept k,?_,q⟩
 ·exact v4 6 lk (by show X.A.units+1+6+2<cLine;omega) ((h2.imv I.hok r2).keep fun a o _ _ e _ _=>k a o e) ((h1.imv I.hok r1).keep fun a o _ _ e _ _=>k a o e) X.prog X.w E Q hq
 ·split
  ·exact r2
  ·exact r1
theorem v7 (hc:X.calm=true) (hu:X.A.units+20<cLine):aP X (.builtin "min") (fun xs H Q=>∃ (d e:Im) (v u:V),xs=[v,u]∧aV 6 e d=true∧IsI H d v∧IsI H e u∧Q (if ltM e d=true then u else v) H):=by
 intro pins s σ H xs us Q I r h
 obtain⟨d,e,v,u,rfl,lk,h1,h2,q⟩:=h
 obtain⟨v',u',rfl,r1,r2⟩:=gj r
 refine vY (k:=ltM e d) (I.ok.hd hc) (fun s' k Q E hq=>?_) fun h' tk k=>⟨if ltM e d=true then u else v,H,I.kept k,?_,q⟩
 ·exact oa 6 lk (by show X.A.units+1+6+2<cLine;omega) ((h2.imv I.hok r2).keep fun a o _ _ e _ _=>k a o e) ((h1.imv I.hok r1).keep fun a o _ _ e _ _=>k a o e) X.prog X.w E Q hq
 ·split
  ·exact r2
  ·exact r1
noncomputable def vMaxM:OpN:=fun ds=>match ds with
 | [.im (.int i),.im (.int j)]=>vMax2 [.im (.int i),.im (.int j)]
 | [.im (.tup a),.im (.tup b)]=>if aV 6 (.tup b) (.tup a)=true then some (.im (if ltM (.tup a) (.tup b)=true then .tup b else .tup a)) else none
 | _=>none
noncomputable def vMinM:OpN:=fun ds=>match ds with
 | [.im (.int i),.im (.int j)]=>vMin2 [.im (.int i),.im (.int j)]
 | [.im (.tup a),.im (.tup b)]=>if aV 6 (.tup b) (.tup a)=true then some (.im (if ltM (.tup b) (.tup a)=true then .tup b else .tup a)) else none
 | _=>none
theorem ku (hc:X.calm=true) (hu:X.A.units+20<cLine):b7 X (.builtin "max") vMaxM:=by
 intro pins s σ H xs us Q I r ⟨ds,d,rd,e,q⟩
 unfold vMaxM at e
 split at e
 ·exact vi hc pins s σ H xs us Q I r ⟨_,d,rd,e,q⟩
 ·split at e
  ·rename_i a b lk
   cases e
   obtain⟨v,u,rfl,h1,h2⟩:=jE rd
   refine v6 hc hu pins s σ H _ us Q I r ⟨_,_,v,u,rfl,lk,h1,h2,Out.i q ?_⟩
   split
   ·exact h2
   ·exact h1
  ·cases e
 ·cases e
theorem kw (hc:X.calm=true) (hu:X.A.units+20<cLine):b7 X (.builtin "min") vMinM:=by
 intro pins s σ H xs us Q I r ⟨ds,d,rd,e,q⟩
 unfold vMinM at e
 split at e
 ·exact vj hc pins s σ H xs us Q I r ⟨_,d,rd,e,q⟩
 ·split at e
  ·rename_i a b lk
   cases e
   obtain⟨v,u,rfl,h1,h2⟩:=jE rd
   refine v7 hc hu pins s σ H _ us Q I r ⟨_,_,v,u,rfl,lk,h1,h2,Out.i q ?_⟩
   split
   ·exact h2
   ·exact h1
  ·cases e
 ·cases e
end
end L2
namespace L2
open PySem PySem.Spec PyProof.Rows PySem.W
noncomputable abbrev dt (h:Heap) (it d:Addr) (i n ep:Nat) (f0 ok ov:Value) (c:Bool):Prop:=h.get? it=some { cls:=.type "dict_itemiterator",dict:=none,data:=.fields #[f0,.bool c,.ref d,.int i 0,.int n 0,.int ep 0,ok,ov],slots:=#[] }
noncomputable def ItS (h:Heap) (it d:Addr) (i n ep:Nat):Prop:=∃ f0 ok ov c,dt h it d i n ep f0 ok ov c∧(f0=.none∨∃ T:Addr,f0=rawInt T∧∃ o,h.get? T=some o)
theorem ItS.go {h h':Heap}{it d:Addr}{i n ep:Nat} (x:ItS h it d i n ep) (k:∀ o,h.get? it=some o→h'.get? it=some o) (l:∀ b o,h.get? b=some o→∃ o',h'.get? b=some o'):ItS h' it d i n ep:=by
 obtain⟨f0,ok,ov,c,h1,h2⟩:=x
 refine⟨f0,ok,ov,c,k _ h1,h2.imp id ?_⟩
 rintro⟨T,e,o,ho⟩
 exact⟨T,e,l T o ho⟩
section
variable {prog:Program}{w:World}{A:Around}{E:Value→Shared→Prop}{s:Shared}
theorem v9 {it d:Addr}{i ep:Nat}{es:Array DictEntry}{od:Obj}{Q:Option Value→Shared→Prop} (hit:ItS s.heap it d i es.size ep) (hod:s.heap.get? d=some od) (hdd:od.data=.dict es ep) (hlt':i<es.size)
  (hQ:∀ h',ItS h' it d (i+1) es.size ep→IsPair h' s.heap.objs.size es[i].key es[i].val→h'.objs.size=s.heap.objs.size+1→(∀ b o,b≠it→s.heap.get? b=some o→h'.get? b=some o)→Q (some (.ref s.heap.objs.size)) { s with heap:=h' }):
  wpAny (model prog w) A (pyNext (.ref it)) Q E s:=by
 obtain⟨f0,ok,ov,c,hit,hf⟩:=hit
 obtain⟨hp,g,dr,tk,os⟩:=s
 have hT:Shared.TypeIs ⟨hp,g,dr,tk,os⟩ (.ref it) "dict_itemiterator" := ⟨_,hit,rfl⟩
 unfold pyNext
 refine wpAny_bind (wpAny_attempt (wpAny_callSpecial?_slot (name:=Str.ofString "__next__") hT F.slot_dict_itemiterator_next (wpAny_call_entry F.slot_dict_itemiterator_next hT F.entry_dict_itemiterator_next ?_ (F.args_dict_itemiterator_next_1 _))))
 refine wpAny_bind (wpAny_pure (wpAny_bind (wpAny_bind ?_)))
 first | refine wpAny_bind (wpAny_typeNameOfWhole_itemiter hT (wpAny_pure ?_)) | refine wpAny_bind (wpAny_typeNameOf_itemiter hT (wpAny_pure ?_))
 refine wpAny_bind (wpAny_fieldsOf hit rfl ?_)
 have hown:Builtin.Dict_items.ownsTuple "dict_itemiterator" = true:=by decide
 simp only[hown,if_true]
 show wpAny _ _ (if (Value.ref d == Value.none)=true then _ else _) _ _ _
 rw[if_neg (show ¬ ((Value.ref d == Value.none)=true) from Bool.false_ne_true)]
 refine wpAny_bind (wpAny_pure (wpAny_bind (wpAny_dictEntries hod hdd ?_)))
 rw[if_neg (by simp)]
 refine wpAny_bind (wpAny_pure (wpAny_bind (wpAny_dictEpoch hod hdd ?_)))
 rw[if_neg (by simp)]
 refine wpAny_pure ?_
 simp only[show ¬ ((i:Int)<0) from by omega,if_false,Int.toNat_natCast,Array.getElem?_eq_getElem hlt']
 refine wpAny_bind ?_
 first | refine wpAny_bind (wpAny_typeNameOfWhole_itemiter hT (wpAny_pure ?_)) | refine wpAny_bind (wpAny_typeNameOf_itemiter hT (wpAny_pure ?_))
 refine wpAny_bind (wpAny_isOneOf_itemiter hT ?_)
 show wpAny _ _ (setField (.ref it) 3 (rawInt ((i:Int)+1)) >>= _) _ _ ⟨hp,g,dr,tk,os⟩
 refine wpAny_bind (wpAny_setField_rec hit (by simp) fun j1 e1 s1=>?_)
 replace s1:Heap.SameBut it hp j1:=s1
 replace e1:dt j1 it d (i+1) es.size ep f0 ok ov c:=by
  have e:((i+1:Nat):Int)=(i:Int)+1:=by omega
  unfold dt;rw[e];simpa [rawInt] using e1
 have hT₁:Shared.TypeIs ⟨j1,g,dr,tk,os⟩ (.ref it) "dict_itemiterator" := ⟨_,e1,rfl⟩
 refine wpAny_bind (wpAny_holding (wpAny_bind (wpAny_isOneOf_itemiter hT₁ (wpAny_bind (wpAny_isOneOf_itemiter hT₁ ?_)))))
 show wpAny _ _ (Builtin.Dict_items.pairFromOwner (.ref it) 6 es[i].key es[i].val) _ _ ⟨j1,g,dr,tk,os⟩
 unfold Builtin.Dict_items.pairFromOwner
 refine wpAny_bind (wpAny_newTuple ?_)
 have e2:dt (j1.push { cls:=.type "tuple",data:=.seq #[es[i].key,es[i].val] }) it d (i+1) es.size ep f0 ok ov c:=Heap.get?_push_of_some _ e1
 have hz₁:j1.objs.size=hp.objs.size:=s1.1
 have hil:it<hp.objs.size:=Heap.lt_size hit
 have ht₂:IsPair (j1.push { cls:=.type "tuple",data:=.seq #[es[i].key,es[i].val] }) hp.objs.size es[i].key es[i].val:=by rw[← hz₁];exact Heap.get?_push_size _ rfl
 have hz₂:(j1.push { cls:=.type "tuple",data:=.seq #[es[i].key,es[i].val] }).objs.size=hp.objs.size+1:=by rw[Heap.size_push,hz₁]
 have hk₂:∀ b o,b≠it→hp.get? b=some o→(j1.push { cls:=.type "tuple",data:=.seq #[es[i].key,es[i].val] }).get? b=some o:=fun b o hb e=>Heap.get?_push_of_some _ (s1.extBut b o hb e)
 show wpAny _ _ (Builtin.Dict_items.ownedTupleIsFree (.ref it) >>= _) _ _ ⟨j1.push { cls:=.type "tuple",data:=.seq #[es[i].key,es[i].val] },g,dr,tk,os⟩
 rw[hz₁]
 generalize (j1.push { cls:=.type "tuple",data:=.seq #[es[i].key,es[i].val] })=j2 at e2 ht₂ hz₂ hk₂ ⊢
 refine wpAny_bind ?_
 unfold Builtin.Dict_items.ownedTupleIsFree
 rcases hf with rfl | ⟨T,rfl,o,ho⟩
 ·refine wpAny_bind (wpAny_field e2 rfl (x:=.none) rfl (wpAny_pure ?_))
  simp only[if_true]
  refine wpAny_bind (wpAny_field e2 rfl (x:=ok) rfl (wpAny_bind (wpAny_field e2 rfl (x:=ov) rfl ?_)))
  refine wpAny_bind (wpAny_setField_rec e2 (by simp) fun j3 e3 s3=>?_)
  replace s3:Heap.SameBut it j2 j3:=s3
  replace e3:dt j3 it d (i+1) es.size ep .none es[i].key ov c:=e3
  refine wpAny_bind (wpAny_setField_rec e3 (by simp) fun j4 e4 s4=>?_)
  replace s4:Heap.SameBut it j3 j4:=s4
  replace e4:dt j4 it d (i+1) es.size ep .none es[i].key es[i].val c:=e4
  refine wpAny_bind (wpAny_setField_rec e4 (by simp) fun j5 e5 s5=>?_)
  replace s5:Heap.SameBut it j4 j5:=s5
  replace e5:dt j5 it d (i+1) es.size ep (rawInt hp.objs.size) es[i].key es[i].val c:=e5
  refine wpAny_bind (wpAny_setField_rec e5 (by simp) fun j6 e6 s6=>?_)
  replace s6:Heap.SameBut it j5 j6:=s6
  replace e6:dt j6 it d (i+1) es.size ep (rawInt hp.objs.size) es[i].key es[i].val false:=e6
  have t6:IsPair j6 hp.objs.size es[i].key es[i].val:=s6.extBut _ _ (Nat.ne_of_gt hil) (s5.extBut _ _ (Nat.ne_of_gt hil) (s4.extBut _ _ (Nat.ne_of_gt hil) (s3.extBut _ _ (Nat.ne_of_gt hil) ht₂)))
  refine wpAny_bind (wpAny_letGo (wpAny_pure (wpAny_pure ⟨_,rfl,wpAny_pure (hQ j6 ⟨_,_,_,_,e6,.inr ⟨_,rfl,_,t6⟩⟩ t6 ?_ ?_)⟩)))
  ·rw[s6.1,s5.1,s4.1,s3.1,hz₂]
  ·exact fun b o hb e=>s6.extBut b o hb (s5.extBut b o hb (s4.extBut b o hb (s3.extBut b o hb (hk₂ b o hb e))))
 ·have al:∃ o',j2.get? T=some o':=by
   by_cases z:T=it
   ·exact⟨_,(congrArg j2.get? z).trans e2⟩
   ·exact⟨o,hk₂ T o z ho⟩
  obtain⟨o',ho'⟩:=al
  refine wpAny_bind (wpAny_field e2 rfl (x:=rawInt T) rfl ?_)
  show wpAny _ _ (loadIfAlive ((T:Int).toNat) >>= _) _ _ _
  refine wpAny_bind (vD ?_)
  show wpAny _ _ (if (j2.get? ((T:Int).toNat)).isNone=true then _ else _) _ _ _
  rw[Int.toNat_natCast,ho']
  show wpAny _ _ (field (.ref it) 1 >>= _) _ _ _
  refine wpAny_bind (wpAny_field e2 rfl (x:=.bool c) rfl ?_)
  have fin:∀ j3,dt j3 it d (i+1) es.size ep (rawInt T) ok ov true→Heap.SameBut it j2 j3→Q (some (.ref hp.objs.size)) ⟨j3,g,dr,tk,os⟩:=fun j3 e3 s3=>by
   refine hQ j3 ⟨_,_,_,_,e3,.inr ⟨T,rfl,?_⟩⟩ (s3.extBut _ _ (Nat.ne_of_gt hil) ht₂) (by rw[s3.1,hz₂]) fun b o hb e=>s3.extBut b o hb (hk₂ b o hb e)
   by_cases z:T=it
   ·exact⟨_,(congrArg j3.get? z).trans e3⟩
   ·exact⟨o',s3.extBut _ _ z ho'⟩
  cases c with
  | true=>exact wpAny_pure (wpAny_pure (wpAny_pure ⟨_,rfl,wpAny_pure (fin j2 e2 ⟨rfl,fun _ _=>rfl⟩)⟩))
  | false=>
   show wpAny _ _ (setField (.ref it) 1 (.bool true) >>= _) _ _ _
   exact wpAny_bind (wpAny_setField_rec e2 (by simp) fun j3 e3 s3=>wpAny_pure (wpAny_pure (wpAny_pure ⟨_,rfl,wpAny_pure (fin j3 e3 s3)⟩)))
theorem we {it d:Addr}{i ep:Nat}{es:Array DictEntry}{od:Obj}{Q:Option Value→Shared→Prop} (hh:A.handled=none) (hit:ItS s.heap it d i es.size ep) (hod:s.heap.get? d=some od) (hdd:od.data=.dict es ep) (hge:es.size≤i)
  (hQ:∀ h',Heap.ExtBut it s.heap h'→Q none { s with heap:=h' }):wpAny (model prog w) A (pyNext (.ref it)) Q E s:=by
 obtain⟨f0,ok,ov,c,hit,hf⟩:=hit
 have hT:s.TypeIs (.ref it) "dict_itemiterator" := ⟨_,hit,rfl⟩
 unfold pyNext
 refine wpAny_bind (wpAny_attempt (wpAny_callSpecial?_slot (name:=Str.ofString "__next__") hT F.slot_dict_itemiterator_next (wpAny_call_entry F.slot_dict_itemiterator_next hT F.entry_dict_itemiterator_next ?_ (F.args_dict_itemiterator_next_1 _))))
 refine wpAny_bind (wpAny_pure (wpAny_bind (wpAny_bind ?_)))
 first | refine wpAny_bind (wpAny_typeNameOfWhole_itemiter hT (wpAny_pure ?_)) | refine wpAny_bind (wpAny_typeNameOf_itemiter hT (wpAny_pure ?_))
 refine wpAny_bind (wpAny_fieldsOf hit rfl ?_)
 have hown:Builtin.Dict_items.ownsTuple "dict_itemiterator" = true:=by decide
 simp only[hown,if_true]
 show wpAny _ _ (if (Value.ref d == Value.none)=true then _ else _) _ _ s
 rw[if_neg (show ¬ ((Value.ref d == Value.none)=true) from Bool.false_ne_true)]
 refine wpAny_bind (wpAny_pure (wpAny_bind (wpAny_dictEntries hod hdd ?_)))
 rw[if_neg (by simp)]
 refine wpAny_bind (wpAny_pure (wpAny_bind (wpAny_dictEpoch hod hdd ?_)))
 rw[if_neg (by simp)]
 refine wpAny_pure ?_
 simp only[show ¬ ((i:Int)<0) from by omega,if_false,Int.toNat_natCast,Array.getElem?_eq_none hge]
 refine wpAny_bind ?_
 first | refine wpAny_bind (wpAny_typeNameOfWhole_itemiter hT (wpAny_pure ?_)) | refine wpAny_bind (wpAny_typeNameOf_itemiter hT (wpAny_pure ?_))
 show wpAny _ _ (setField (.ref it) 2 .none >>= _) _ _ s
 refine wpAny_bind (wpAny_setField hit rfl (by simp) ?_)
 show wpAny _ _ (newExc (.type "StopIteration") [] >>= _) _ _ _
 refine wpAny_bind ?_
 simp only[newExc,newTuple]
 refine wpAny_bind (wpAny_newObj_type ?_ (by size_fits))
 refine wpAny_bind (m:=firstArgMember _ _) (wpAny_of_eq (a:=Value.none) (by first | rfl | (simp only[firstArgMember];rfl)) ?_)
 refine wpAny_newObj_type ?_ (by size_fits)
 simp only[raiseNew]
 refine wpAny_bind (wpAny_handled ?_)
 rw[show A.in1.handled=none from hh]
 refine wpAny_bind (wpAny_pure (wpAny_throw ?_))
 refine wpAny_bind (wpAny_isInstance (T := "StopIteration") (b:=true) ⟨_,Heap.get?_push_size _ rfl,rfl⟩ isSubtype_stop ?_)
 exact wpAny_pure (hQ _ (((Heap.SameBut.update ..).extBut.push _).push _))
end
end L2
namespace L2
open PySem PySem.Spec PyProof.Rows PySem.W
section
variable {prog:Program}{w:World}{A:Around}{E:Value→Shared→Prop}{s:Shared}
theorem wf {v d:Addr}{es:Array DictEntry}{ep:Nat}{od:Obj}{Q:Value→Shared→Prop} (hv:s.heap.IsItemsView v d) (ho:s.heap.get? d=some od) (hdat:od.data=.dict es ep)
  (hQ:Q (.ref s.heap.objs.size) { s with heap:=s.heap.push { cls:=.type "dict_itemiterator",data:=.fields #[.none,.bool false,.ref d,.int 0 0,.int es.size 0,.int ep 0,.none,.none] } }):
  wpAny (model prog w) A (pyIter (.ref v)) Q E s:=by
 obtain⟨ov,hov,hcv,hdv⟩:=id hv
 refine wpAny_pyIter_slot hv.typeIs F.slot_dict_items_iter (wpAny_call_entry F.slot_dict_items_iter hv.typeIs F.entry_dict_items_iter ?_ (F.args_dict_items_iter_1 _))
 unfold Builtin.«dict_items.__iter__»
 refine wpAny_bind (wpAny_pure (wpAny_bind ?_))
 unfold Builtin.Dict_items.dictOf
 refine wpAny_bind (wpAny_field hov hdv (x:=.ref d) rfl (wpAny_pure (wpAny_bind ?_)))
 unfold Builtin.Dict_items.newIterator
 refine wpAny_bind (wpAny_dictEntries ho hdat (wpAny_bind (wpAny_dictEpoch ho hdat ?_)))
 have hown:Builtin.Dict_items.ownsTuple "dict_itemiterator" = true:=by decide
 simp only[hown,if_true]
 refine wpAny_newObj_type (wpAny_pure ⟨_,rfl,"dict_itemiterator",_,⟨_,Heap.get?_push_size _ rfl,rfl⟩,F.slot_dict_itemiterator_next.lookup,?_⟩)
  (by simp only[sizeOk,Builtin.Dict_items.ownedTupleFields,List.size_toArray,List.length_append,List.length_cons,List.length_nil,sizeLine_eq];lia)
 simpa [rawInt,Builtin.Dict_items.ownedTupleFields] using hQ
theorem wg {v:Addr}{Q:Bool→Shared→Prop} (hT:s.TypeIs (.ref v) "dict_items") (h:Q false s):wpAny (model prog w) A (Builtin.List.listLengthHint (.ref v)) Q E s:=by
 unfold Builtin.List.listLengthHint
 refine wpAny_bind (wpAny_specialOf hT F.slot_dict_items_len.lookup ?_)
 generalize hid:("dict_items.__len__" : String)=id0
 wp_delta
 rw[show splitId id0=some ("dict_items","__len__") from by subst hid;decide +kernel]
 subst hid
 refine wpAny_bind (wpAny_isInstance (T := "dict_items") (b:=true) hT (by rw[isSubtype_type];kernel_rfl) ?_)
 refine wpAny_ite_split (fun hab=>absurd hab (by decide)) (fun _=>?_)
 refine wpAny_ite_split (fun _=>?_) (fun hab=>absurd (by decide +kernel) hab)
 exact wpAny_bind (wpAny_typeOf hT (wpAny_pure h))
theorem wj (d:Addr) (hd:(d == sysModules)=false):
  MeetsIn prog w (Builtin.«dict.items» ⟨[.ref d],[]⟩) (fun _ R s=>s.TypeIs (.ref d) "dict" ∧ R (.ok (.ret (.ref s.heap.objs.size))) { s with heap:=s.heap.push { cls:=.type "dict_items",data:=.fields #[.ref d] } }):=
 .of_wp fun A R s ⟨hT,h⟩=>by
  unfold Builtin.«dict.items»
  refine wpAny_bind ?_
  unfold Builtin.Dict.noArgs
  refine wpAny_bind (wpAny_notOrdered_dict hT ?_)
  show wpAny _ _ (pure d) _ _ s
  refine wpAny_pure ?_
  show wpAny _ _ (Builtin.Dict.showsAll d >>= _) _ _ s
  unfold Builtin.Dict.showsAll
  rw[if_neg (by rw[hd];exact Bool.false_ne_true)]
  exact wpAny_bind (wpAny_pure (wpAny_bind (wpAny_newObj_type (wpAny_pure ⟨_,rfl,h⟩))))
end
noncomputable def eT (H:Hp) (kvs:List (List Im×V)) (zs:List V):Prop:=∀ (i:Nat) (v:V),zs[i]?=some v→∃ T b p,v=.ref T∧H T=some (.tup [.ref b,p.2])∧kvs[i]?=some p∧KAd H p.1 b
theorem eT.push {H H':Hp}{kvs:List (List Im×V)}{zs:List V}{T b:Addr}{p:List Im×V} (h:eT H kvs zs) (sm:ap H H') (hT:H' T=some (.tup [.ref b,p.2])) (hp:kvs[zs.length]?=some p) (hk:KAd H' p.1 b):eT H' kvs (zs++[.ref T]):=by
 intro i v e
 by_cases hi:i<zs.length
 ·rw[List.getElem?_append_left hi] at e
  obtain⟨T',b',p',e1,e2,e3,e4⟩:=h i v e
  exact⟨T',b',p',e1,sm _ _ e2,e3,e4.mono fun a xs q=>sm a _ q⟩
 ·rw[List.getElem?_append_right (by lia)] at e
  have hi2:i - zs.length=0:=by
   cases q:i - zs.length with
   | zero=>rfl
   | succ n=>rw[q] at e;simp at e
  rw[hi2] at e
  cases e
  have:i=zs.length:=by lia
  subst this
  exact⟨T,b,p,rfl,hT,hp,hk⟩
section
variable {X:Cx}
theorem wm {pins:List (Addr×Obj)}{σ:L2.St}{it d S:Addr}{A:Around} (hh:A.handled=none) (nSi:S≠it) (nSd:S≠d) (ndi:d≠it) {kvs:List (List Im×V)}{xs:List (List Im×Addr×Value)}{es:Array DictEntry}{ep:Nat}{od:Obj}{H0:Hp}
  (kt:KT H0 kvs xs) (hes:es.toList=xs.map (entryOfKey (bu X.prog X.w))) (hdd:od.data=.dict es ep) (hlen:kvs.length≤1000) (res:Value) {R:Result→Shared→Prop}
  (hR:∀ s' H' zs' acc' c',ap H0 H'→Inv X pins σ H' s'→LiS s'.heap S acc' c'→ak zs' acc'.toList→zs'.length=kvs.length→eT H' kvs zs'→R (.ok (.ret res)) s'):
  ∀ (m i:Nat) (s:Shared) (H:Hp) (zs:List V) (acc:Array Value) (c:Nat),es.size - i=m→i≤es.size→ap H0 H→Inv X pins σ H s→(∀ c∈[S,it],bv X pins H c)→s.heap.get? d=some od→
   ItS s.heap it d i es.size ep→LiS s.heap S acc c→ak zs acc.toList→zs.length=i→eT H kvs zs→
   codeAny (model X.prog X.w) A (.builtin "list.extend.loop" ⟨[.ref S,.ref it,res],[]⟩) R s:=by
 have lx:kvs.length=xs.length:=Paired.length kt
 have le:es.size=xs.length:=by
  have:=congrArg List.length hes
  rw[Array.length_toList,List.length_map] at this
  exact this
 intro m
 induction m with
 | zero=>
  intro i s H zs acc c hm hi sm I hf hod st hS rv hz pr
  refine codeAny_builtin F.entry_extend_loop ?_;rw[Around.under_plainId F.plain_extend_loop _];show wpAny _ A.in1 (pyNext (.ref it) >>= _) _ _ s
  refine wpAny_bind (we (A:=A.in1) hh st hod hdd (by lia) fun h' kk=>wpAny_pure (hR { s with heap:=h' } H zs acc c sm (I.turnL (t':=s.toks) hf fun b o hb e=>?_) (kk _ _ nSi hS) rv (by lia) pr))
  simp only[List.mem_cons,List.mem_nil_iff,or_false,not_or] at hb
  exact kk b o hb.2 e
 | succ m ih=>
  intro i s H zs acc c hm hi sm I hf hod st hS rv hz pr
  have hlt:i<es.size:=by lia
  refine codeAny_builtin F.entry_extend_loop ?_;rw[Around.under_plainId F.plain_extend_loop _];show wpAny _ A.in1 (pyNext (.ref it) >>= _) _ _ s
  obtain⟨p,x,g1,g2,g3,g4,g5⟩:=iG kt i (by lia)
  have ee:es[i]=entryOfKey (bu X.prog X.w) x:=by
   have:es.toList[i]?=some (entryOfKey (bu X.prog X.w) x):=by rw[hes,List.getElem?_map,g2];rfl
   rw[Array.getElem?_toList,Array.getElem?_eq_getElem hlt] at this
   exact Option.some.inj this
  have itlt:it<s.heap.objs.size:=by obtain⟨_,_,_,_,q,_⟩:=st;exact Heap.lt_size q
  have Slt:S<s.heap.objs.size:=Heap.lt_size hS
  have neT:∀ c∈[S,it],c≠s.heap.objs.size:=fun c hc=>by
   simp only[List.mem_cons,List.mem_nil_iff,or_false] at hc
   rcases hc with rfl | rfl
   ·exact Nat.ne_of_lt Slt
   ·exact Nat.ne_of_lt itlt
  refine wpAny_bind (v9 (A:=A.in1) st hod hdd hlt fun h' st' gp hsz kk=>?_)
  rw[ee] at gp
  replace gp:IsPair h' s.heap.objs.size (.ref x.2.1) x.2.2:=gp
  have fT:H s.heap.objs.size=none:=I.hok.fresh (Nat.le_refl _)
  have s2:ap H (upd H s.heap.objs.size (.tup [.ref x.2.1,p.2])):=(ap.refl H).upd fT
  have asz:acc.size=i:=by rw[← hz,← Array.length_toList];exact (Paired.length rv).symm
  have hS':LiS h' S acc c:=kk _ _ nSi hS
  have hz1:(1000:Nat)≤sizeLine:=by decide
  show wpAny _ A.in1 (updateSeq S (·.push (.ref s.heap.objs.size)) >>= fun _=>again (.builtin "list.extend.loop" ⟨[.ref S,.ref it,res],[]⟩)) _ _ { s with heap:=h' }
  refine wpAny_bind (wpAny_updateSeq (s:={ s with heap:=h' }) hS' rfl (wpAny_pure ⟨plainId_quiet F.plain_extend_loop _,ih (i+1) _ (upd H s.heap.objs.size (.tup [.ref x.2.1,p.2])) (zs++[.ref s.heap.objs.size]) (acc.push (.ref s.heap.objs.size)) _ (by lia) (by lia) (sm.trans s2) ?_ (fun c hc=>(hf c hc).upd (neT c hc)) ?_ ?_ (Heap.get?_update_self _ hS' rfl) ?_ (by simp;lia) ?_⟩)
   (by rw[asz];lia) (by show (acc.push _).size≤sizeLine+1;rw[Array.size_push,asz];lia))
  ·refine I.turnT (t':=s.toks) hf (fun b o hb e=>?_) (Nat.le_refl _) ⟨by show 2≤sizeLine;decide,[.ref x.2.1,x.2.2],.cons rfl (.cons g5 .nil),?_⟩
   ·simp only[List.mem_cons,List.mem_nil_iff,or_false,not_or] at hb
    exact (Heap.get?_update_other _ _ (Ne.symm hb.1)).trans (kk b o hb.2 e)
   ·exact⟨_,(Heap.get?_update_other _ _ (neT S (.head _))).trans gp,rfl,0,rfl⟩
  ·exact (Heap.get?_update_other _ _ nSd).trans (kk d _ ndi hod)
  ·refine st'.go (fun o e=>(Heap.get?_update_other _ _ nSi).trans e) fun b o e=>?_
   by_cases z:b=S
   ·exact⟨_,(congrArg _ z).trans (Heap.get?_update_self _ hS' rfl)⟩
   ·exact⟨o,(Heap.get?_update_other _ _ (Ne.symm z)).trans e⟩
  ·rw[Array.toList_push]
   exact rv.append (.cons rfl .nil)
  ·refine pr.push s2 aO (by rw[hz];exact g1) ?_
   have:=(g4.mono fun a ys q=>sm a _ q:KAd H p.1 x.2.1)
   exact this.mono fun a ys q=>s2 a _ q
theorem wn {pins:List (Addr×Obj)}{σ:L2.St}{v d:Addr}{A:Around}{s:Shared}{H:Hp}{E:Value→Shared→Prop}{Q:List Value→Shared→Prop}{kvs:List (List Im×V)} (hh:A.handled=none) (hd:H d=some (.dT kvs)) (hl:kvs.length≤1000) (I:Inv X pins σ H s) (hv:s.heap.IsItemsView v d) 
  (hQ:∀ s' H' zs acc,ap H H'→Inv X pins σ H' s'→ak zs acc→zs.length=kvs.length→eT H' kvs zs→Q acc s'):wpAny (model X.prog X.w) A (collect (.ref v)) Q E s:=by
 obtain⟨z,lo,xs,rel,o,es,ep,e1,e2,e3,e4,nd⟩:=I.hok d _ hd
 have vlt:v<s.heap.objs.size:=by obtain⟨_,q,_⟩:=hv;exact Heap.lt_size q
 have dlt:d<s.heap.objs.size:=Heap.lt_size e1
 unfold collect
 refine wpAny_bind (wpAny_runValue (codeAny_builtin F.entry_proto_collect ?_));rw[Around.under_plainId F.plain_proto_collect _]
 show wpAny _ A.in1 (newList [] >>= fun l=>again (.builtin "list.__iadd__" ⟨[l,.ref v],[]⟩)) _ _ s
 refine wpAny_bind (wpAny_newObj_type (wpAny_pure ⟨plainId_quiet F.plain_list_iadd _,codeAny_builtin F.entry_list_iadd ?_⟩));rw[Around.under_plainId F.plain_list_iadd _]
 have hv2:(s.heap.push { cls:=.type "list",data:=.seq ([]:List Value).toArray }).IsItemsView v d:=by obtain⟨ov,q1,q2⟩:=hv;exact⟨ov,Heap.get?_push_of_some _ q1,q2⟩
 have fS:bv X pins H s.heap.objs.size:=I.fpOk (Nat.le_refl _) (I.hok.fresh (Nat.le_refl _))
 have fI:bv X pins H (s.heap.objs.size+1):=I.fpOk (Nat.le_succ _) (I.hok.fresh (Nat.le_succ _))
 have z1:(s.heap.push { cls:=.type "list",data:=.seq ([]:List Value).toArray }).objs.size=s.heap.objs.size+1:=Heap.size_push ..
 show wpAny _ A.in1 (Builtin.List.listExtendWith (.ref s.heap.objs.size) (.ref v) (.ref s.heap.objs.size)) _ _ _
 unfold Builtin.List.listExtendWith
 refine wpAny_bind (wpAny_typeOf (s:={ s with heap:=s.heap.push { cls:=.type "list",data:=.seq ([]:List Value).toArray } }) hv2.typeIs ?_)
 have c1:Builtin.List.listSameRef (.ref s.heap.objs.size) (.ref v)=false:=by simp[Builtin.List.listSameRef,Nat.ne_of_gt vlt]
 rw[if_neg (by rw[c1];decide)]
 refine wpAny_bind (wf (s:={ s with heap:=s.heap.push { cls:=.type "list",data:=.seq ([]:List Value).toArray } }) hv2 (Heap.get?_push_of_some _ e1) e3 (wpAny_bind (wpAny_holding ?_)))
 have hv3:((s.heap.push { cls:=.type "list",data:=.seq ([]:List Value).toArray }).push { cls:=.type "dict_itemiterator",data:=.fields #[.none,.bool false,.ref d,.int 0 0,.int es.size 0,.int ep 0,.none,.none] }).IsItemsView v d:=by obtain⟨ov,q1,q2⟩:=hv2;exact⟨ov,Heap.get?_push_of_some _ q1,q2⟩
 refine wg (s:={ s with heap:=(s.heap.push { cls:=.type "list",data:=.seq ([]:List Value).toArray }).push { cls:=.type "dict_itemiterator",data:=.fields #[.none,.bool false,.ref d,.int 0 0,.int es.size 0,.int ep 0,.none,.none] } }) hv3.typeIs ?_
 have hIt:ItS ((s.heap.push { cls:=.type "list",data:=.seq ([]:List Value).toArray }).push { cls:=.type "dict_itemiterator",data:=.fields #[.none,.bool false,.ref d,.int 0 0,.int es.size 0,.int ep 0,.none,.none] }) (s.heap.objs.size+1) d 0 es.size ep:=⟨.none,.none,.none,false,by rw[← z1];exact Heap.get?_push_size _ rfl,.inl rfl⟩
 have eS:((s.heap.push { cls:=.type "list",data:=.seq ([]:List Value).toArray }).push { cls:=.type "dict_itemiterator",data:=.fields #[.none,.bool false,.ref d,.int 0 0,.int es.size 0,.int ep 0,.none,.none] }).get? s.heap.objs.size=some { cls:=.type "list",data:=.seq ([]:List Value).toArray }:=Heap.get?_push_of_some _ (Heap.get?_push_size _ rfl)
 have kp:∀ c o,s.heap.get? c=some o→((s.heap.push { cls:=.type "list",data:=.seq ([]:List Value).toArray }).push { cls:=.type "dict_itemiterator",data:=.fields #[.none,.bool false,.ref d,.int 0 0,.int es.size 0,.int ep 0,.none,.none] }).get? c=some o:=fun c o e=>Heap.get?_push_of_some _ (Heap.get?_push_of_some _ e)
 rw[z1]
 generalize ((s.heap.push { cls:=.type "list",data:=.seq ([]:List Value).toArray }).push { cls:=.type "dict_itemiterator",data:=.fields #[.none,.bool false,.ref d,.int 0 0,.int es.size 0,.int ep 0,.none,.none] })=g2 at hIt eS kp ⊢
 refine wpAny_ite_split (fun _=>?_) (fun hab=>absurd (by decide +kernel) hab)
 refine wpAny_bind (wpAny_rule (wpAny_bind ?_))
 show wpAny _ A.in1 (updateSeq s.heap.objs.size (·.push .none) >>= fun _=>updateSeq s.heap.objs.size (·.pop)) _ _ _
 refine wpAny_bind (wpAny_updateSeq (s:={ s with heap:=g2 }) eS rfl ?_)
 have f2:=Heap.get?_update_self (Obj.mapSeq (·.push Value.none)) eS rfl
 refine wpAny_updateSeq f2 rfl ?_
 have f3:=Heap.get?_update_self (Obj.mapSeq (·.pop)) f2 rfl
 have oth:∀ c o,c≠s.heap.objs.size→g2.get? c=some o→((g2.update s.heap.objs.size (Obj.mapSeq (·.push Value.none))).update s.heap.objs.size (Obj.mapSeq (·.pop))).get? c=some o:=
  fun c o hc e=>(Heap.get?_update_other _ _ (Ne.symm hc)).trans ((Heap.get?_update_other _ _ (Ne.symm hc)).trans e)
 refine wpAny_pure ⟨plainId_quiet F.plain_extend_loop _,wm (X:=X) (pins:=pins) (σ:=σ) (A:=A) hh (S:=s.heap.objs.size) (it:=s.heap.objs.size+1) (d:=d) (Nat.ne_of_lt (Nat.lt_succ_self _)) (Nat.ne_of_gt dlt) (Nat.ne_of_lt (Nat.lt_succ_of_lt dlt)) rel e4 e3 hl _ (fun s' H' zs acc' c' sm I' hS' rv hz pr=>?_) _ 0 _ H [] #[] _ rfl (Nat.zero_le _) (ap.refl H) ?_ ?_ ?_ ?_ f3 .nil rfl (fun i v e=>by simp at e)⟩
 ·show wpAny _ A (load s.heap.objs.size >>= _) _ _ s'
  exact wpAny_bind (wpAny_load hS' (wpAny_pure (hQ s' H' zs _ sm I' rv hz pr)))
 ·exact I.kept (t':=s.toks) fun c o e=>oth c o (Nat.ne_of_lt (Heap.lt_size e)) (kp c o e)
 ·intro c hc
  simp only[List.mem_cons,List.mem_nil_iff,or_false] at hc
  rcases hc with rfl | rfl
  ·exact fS
  ·exact fI
 ·exact oth d _ (Nat.ne_of_lt dlt) (kp d _ e1)
 ·refine hIt.go (fun o e=>oth _ o (Nat.ne_of_gt (Nat.lt_succ_self _)) e) fun b o e=>?_
  by_cases z:b=s.heap.objs.size
  ·exact⟨_,(congrArg _ z).trans f3⟩
  ·exact⟨o,oth b o z e⟩
end
end L2
namespace L2
open PySem PySem.Spec PyProof.Rows PySem.W
theorem oE {H:Hp}:∀ {kvI:List (List Im×Im)}{kvs:List (List Im×V)}{zs:List V},PKv H kvI kvs→zs.length=kvs.length→eT H kvs zs→aj H (kvI.map fun p=>.tup [.tup p.1,p.2]) zs
 | _,_,zs,.nil,hl,_=>by
  cases zs with
  | nil=>rfl
  | cons a r=>simp at hl
 | _,_,zs,.cons (a:=p) (b:=q) r t,hl,h=>by
  cases zs with
  | nil=>simp at hl
  | cons v zs=>
   obtain⟨T,b,q',rfl,h1,h2,h3⟩:=h 0 v rfl
   cases h2
   refine⟨.ref T,zs,rfl,⟨T,_,rfl,h1,⟨_,_,rfl,?_,_,_,rfl,r.2,rfl⟩⟩,oE t (by simpa using hl) fun i v e=>?_⟩
   ·rw[r.1]
    exact h3.2
   ·obtain⟨T',b',p',e1,e2,e3,e4⟩:=h (i+1) v (by simpa using e)
    exact⟨T',b',p',e1,e2,by simpa using e3,e4⟩
section
variable {X:Cx}
theorem wo {pins:List (Addr×Obj)}{σ:L2.St}{s:Shared}{H:Hp}{v d:Addr}{kvs:List (List Im×V)}{kvI:List (List Im×Im)}{Q:VK} (hc:X.calm=true) (hu:X.A.units+20<cLine) (I:Inv X pins σ H s) (hd:H d=some (.dT kvs)) (hk:PKv H kvI kvs) (hv:s.heap.IsItemsView v d)
  (so:SrtOk (kvI.map fun p=>.tup [.tup p.1,p.2])) (q:∀ H' l zs,ap H H'→H' l=none→aj H' (b9 ltM (kvI.map fun p=>.tup [.tup p.1,p.2])) zs→Q (.ref l) (upd H' l (.lst zs))):
  wpAny (model X.prog X.w) X.A (call (.builtin "sorted") [.ref v]) (EP X pins σ Q) X.xe s:=by
 have lk:kvI.length=kvs.length:=Paired.length hk
 have few:=so.ord.few
 rw[List.length_map] at few
 refine Calls.call_function_entry kind_sorted plain_sorted entry_sorted (args_sorted1 _) ?z
 case z=>
  unfold Builtin.«sorted»
  refine wpAny_bind (m:=checkCount "sorted" 1 1 _) (wpAny_pure (wpAny_bind (wn (A:=X.A.in1) (I.ok.hd hc) hd (by omega) I hv fun s1 H1 ys its sm I1 rv hz pr=>?_)))
  have hi:=oE (Paired.mapP hk fun _ _ z=>⟨z.1,z.2.mono sm.tupS.tup⟩:PKv H1 kvI kvs) hz pr
  generalize hds:(kvI.map fun p=>Im.tup [.tup p.1,p.2])=ds at hi so q
  have iv:=hi.imv I1.hok rv
  have li:its.length=ds.length:=iv.length.symm
  have few:=so.ord.few
  have hl:ys.length=its.length:=rv.length
  have hsl:its.length≤sizeLine:=Nat.le_trans (by omega) (show 1000≤sizeLine by decide)
  refine wpAny_bind (wpAny_newList ?_ hsl)
  have oB:(s1.heap.push (seqObj "list" its.toArray 0)).get? s1.heap.objs.size=some (seqObj "list" its.toArray 0):=Heap.get?_push_size _ rfl
  have kB:∀ b o,s1.heap.get? b=some o→(s1.heap.push (seqObj "list" its.toArray 0)).get? b=some o:=fun b o e=>Heap.get?_push_of_some _ e
  have nB:∀ b o,s1.heap.get? b=some o→b≠s1.heap.objs.size:=fun b o e=>Nat.ne_of_lt (Heap.lt_size e)
  refine wpAny_bind (wpAny_holding (wpAny_call_entry slot_list_sort ⟨_,oB,rfl⟩ entry_list_sort ?y (args_list_sort _)))
  case y=>
   refine ju (s:={ s1 with heap:=s1.heap.push (seqObj "list" its.toArray 0) }) (c7 ds) (tuples' (decide (∀ d∈ds,ca d=true))) oB
    (fun h2 h6 k6 Q hq=>ki (X:=X) (h:=h6) so h2 (iv.keepAll fun b o eb=>k6 b o (nB b o eb) (kB b o eb)) _ _ Q hq)
    (fun h6 k6=>kh (s:={ s1 with heap:=h6 }) so.ord (iv.keepAll fun b o eb=>k6 b o (nB b o eb) (kB b o eb)) so.tup (fun hb=>of_decide_eq_true hb) (by show X.A.units+1+1+9<cLine;omega))
    (by rw[li];exact iE so.ord) (.inl (by omega)) (by omega) fun p h2 r1 r2 k2 ⟨e9,oB2⟩=>⟨_,rfl,wpAny_pure ⟨_,rfl,?_⟩⟩
   have fB:H1 s1.heap.objs.size=none:=I1.hok.fresh (Nat.le_refl _)
   rw[li] at r1 r2
   refine⟨.ref s1.heap.objs.size,upd H1 s1.heap.objs.size (.lst (p.toList.map fun i=>ys.getD i .non)),?_,rfl,q H1 _ _ sm fB ?_⟩
   ·refine I1.laid (t':=s1.toks) (fun b u e=>k2 b u (nB b u e) (Heap.get?_push_of_some _ e)) (Nat.le_refl _) ⟨?_,_,e9,?_,oB2⟩
    ·rw[List.length_map,Array.length_toList,r1.size]
     omega
    ·refine hV (by simp) fun i v u h1 h2=>?_
     rw[List.getElem?_map] at h1 h2
     cases hpi:p.toList[i]? with
     | none=>rw[hpi] at h1;cases h1
     | some k=>
      rw[hpi] at h1 h2
      cases h1
      cases h2
      have hk:k<its.length:=by rw[li];exact List.mem_range.mp (r1.mem_iff.mp (List.mem_of_getElem? hpi))
      obtain⟨u,h3,h4⟩:=rv.get (i:=k) (x:=ys[k]'(by omega)) (by simp[show k<ys.length by omega])
      rw[List.getElem?_eq_getElem hk] at h3
      have h3:=Option.some.inj h3
      simp only[List.getD,List.getElem?_eq_getElem hk,List.getElem?_eq_getElem (show k<ys.length by omega),Option.getD_some]
      rw[h3]
      exact h4
   ·rw[← kg so.ord (hU r1) (upM so.ord r1 r2)]
    exact hi.pick fun k hk=>List.mem_range.mp (r1.mem_iff.mp hk)
noncomputable def tSI (to:TE):TE:=fun σ H Q=>to σ H fun x H1=>∃ a kvs kvI,x=.ref a∧H1 a=some (.dT kvs)∧PKv H1 kvI kvs∧SrtOk (kvI.map fun p=>.tup [.tup p.1,p.2])∧
 ∀ H' l zs,ap H1 H'→H' l=none→aj H' (b9 ltM (kvI.map fun p=>.tup [.tup p.1,p.2])) zs→Q (.ref l) (upd H' l (.lst zs))
theorem wq {o:Expr}{to:TE}{p apos cpos pos2:Pos} (hc:X.calm=true) (hu:X.A.units+20<cLine) (hg:Gl X "sorted") (hm:X.mg "sorted" = none) (ho:PE X o to) (hb:attributeBase o "items" X.env (eval o X.env)=eval o X.env:=by rfl) (hline:(apos.endLine == cpos.line)=true:=by rfl):
  PE X (.Call (.Name "sorted" p) [.Call (.Attribute o "items" apos) [] [] cpos] [] pos2) (tSI to):=by
 intro pins s σ H Q I h
 refine wpAny_Call_Name_kw (fo I hg hm (show bootBuiltins "sorted" = some (.builtin "sorted") by decide +kernel) (PyProof.Rows.callWith_builtin1 ?_ rfl rfl) (by decide) (by decide))
 refine Calls.spliced_cons ?_
 refine wpAny_Call_method (T := "dict") (id := "dict.items") hb rfl hline F.plainAttrs_dict F.slot_dict_items F.type_dict_items (thn (ho pins s σ H _ I h) fun u s1 ⟨x,H1,I1,rx,a,kvs,kvI,ex,ha,hk,so,q⟩=>?_)
 subst ex
 obtain rfl:u=Value.ref a:=rx
 obtain⟨z,hd,vs,rel,dd⟩:=jd I1.hok ha
 obtain⟨ob,en,ep,f1,f2,f3,f4,f5,f6⟩:=id dd
 have hT:s1.TypeIs (.ref a) "dict" := ⟨ob,f1,f2.1⟩
 refine⟨hT,fun b e=>?_,?_⟩
 ·cases e
  exact⟨ob,f1,f2.2.1⟩
 ·refine method_meetsIn F.slot_dict_items F.entry_dict_items rfl (PySem.evalArgs_none ⟨rfl,hT,F.args_dict_items_1 _,_,wj a hd,hT,?_⟩)
  refine Calls.spliced_nil ?_
  have I3:Inv X pins σ H1 { s1 with heap:=s1.heap.push { cls:=.type "dict_items",data:=.fields #[.ref a] } }:=I1.kept (t':=s1.toks) fun b o e=>Heap.get?_push_of_some _ e
  exact wo hc hu I3 ha hk ⟨_,Heap.get?_push_size _ rfl,rfl,rfl⟩ so q
@[simp] noncomputable def fU (g:M Opd):M Vl:=fun D=>(g D).bind fun p=>(rsl p.2 p.1).bind fun d=>match d with
 | .dT kvs=>(cP (kvs.map fun p=>.tup [.tup p.1,p.2])).map fun r=>(r,p.2)
 | _=>none
theorem oF {o:Expr}{g:M Opd}{p apos cpos pos2:Pos} (hu:X.A.units+20<cLine) (hg:Gl X "sorted") (hm:X.mg "sorted" = none) (ho:VO X o g) (hc:X.calm=true:=by rfl) (hb:attributeBase o "items" X.env (eval o X.env)=eval o X.env:=by rfl) (hline:(apos.endLine == cpos.line)=true:=by rfl):
  VE X (.Call (.Name "sorted" p) [.Call (.Attribute o "items" apos) [] [] cpos] [] pos2) (fU g):=by
 refine aZ (wq hc hu hg hm ho hb hline) fun σ H Q ⟨D,F,r,D',st,nd,hgg,q⟩=>?_
 obtain⟨⟨x,D1⟩,h1,h2⟩:=Option.bind_eq_some_iff.mp hgg
 obtain⟨d,h3,h4⟩:=Option.bind_eq_some_iff.mp h2
 split at h4
 ·rename_i kvs
  obtain⟨r',e1,e2⟩:=Option.map_eq_some_iff.mp h4
  cases e2
  obtain⟨so,rfl⟩:=iF e1
  refine⟨D,F,x,D1,st,nd,h1,fun v H1 F1 R st1 o1 s1=>?_⟩
  obtain⟨R',a,kws,rfl,k1,k2,_⟩:=o1.read st1 h3
  refine⟨a,kws,kvs,rfl,k1,k2,so,fun H' l zs sm fl hz=>?_⟩
  have s2:ap H' (upd H' l (.lst zs)):=(ap.refl H').upd fl
  have s3:=sm.trans s2
  exact q _ _ F1 [l] (st1.mono s3.tupS fun a _ o e=>s3 a o e) ⟨l,zs,rfl,aO,hz.mono s2.tupS.tup,rfl⟩ (s1.new s3 (List.pairwise_singleton _ _) (fun a ha=>by rw[List.mem_singleton.mp ha];exact sm.free fl) st1.chg)
 ·cases h4
end
end L2
namespace L2
open PySem PySem.Spec PyProof.Rows PySem.W
mutual
noncomputable def pyD:Im→PyData
 | .int i=>.int i
 | .bl b=>.bool b
 | .str x=>.str x
 | .tup ds=>.tuple (bt ds)
 | _=>.none
noncomputable def bt:List Im→List PyData
 | []=>[]
 | d::r=>pyD d::bt r
end
mutual
theorem wt {h:Heap}:∀ {n:Nat}{d:Im}{u:Value},Im.pl n d=true→ImV h d u→Reads h u (pyD d) []
 | _,.non,u,_,e=>by cases (show u=.none from e);exact .none
 | _,.bl b,u,_,e=>by cases (show u=.bool b from e);exact .bool b
 | _,.int i,u,_,e=>by obtain⟨t,rfl⟩:=e;exact .int i t
 | _,.str x,u,_,e=>by obtain⟨t,rfl⟩:=e;exact .str x t
 | n+1,.tup ds,u,k,e=>by
  obtain⟨a,o,items,m,rfl,h1,h2,h3,h4⟩:=e
  exact .tuple h1 h2 h3 (kz (n:=n) k h4)
 | 0,.tup ds,u,k,e=>by cases k
 | n,.fn a,u,k,e=>by cases n<;>cases k
 | n,.fl a,u,k,e=>by cases n<;>cases k
theorem kz {h:Heap}:∀ {n:Nat}{ds:List Im}{us:List Value},Im.pls n ds=true→aD h ds us→ReadsAll h us (bt ds) []
 | _,[],us,_,e=>by rw[show us=[] from e];exact .nil
 | n,d::ds,us,k,e=>by
  obtain⟨v,r,rfl,h1,h2⟩:=e
  rw[Im.pls,Bool.and_eq_true] at k
  exact .cons (wt k.1 h1) (kz k.2 h2)
end
mutual
theorem wu:∀ d:Im,PyData.hasDict (pyD d)=false
 | .non=>rfl
 | .bl _=>rfl
 | .int _=>rfl
 | .str _=>rfl
 | .fn _=>rfl
 | .fl _=>rfl
 | .tup ds=>kA ds
theorem kA:∀ ds:List Im,PyData.hasDictAll (bt ds)=false
 | []=>rfl
 | d::r=>by
  show (PyData.hasDict (pyD d) || PyData.hasDictAll (bt r))=false
  rw[wu d,kA r]
  rfl
end
noncomputable def iH (ds:List Im):Bool:=Im.pls 7 ds && PyData.showableAll (bt ds) && decide (PyData.depthAll (bt ds)≤8) && decide ((tupleText (PyData.shownAll (bt ds))).length≤100000)
@[simp] noncomputable def vRepr:OpN:=fun ds=>match ds with
 | [.im (.tup x)]=>if iH x=true then some (.im (.str (pyD (.tup x)).shown)) else none
 | _=>none
section
variable {X:Cx}
theorem oG (hr:X.A.guards=some []) (hu:X.A.units+30<cLine):b7 X (.builtin "repr") vRepr:=by
 intro pins s σ H xs us Q I r ⟨ds,d,rd,e,q⟩
 unfold vRepr at e
 split at e
 ·rename_i x
  split at e
  ·rename_i hb
   cases e
   unfold iH at hb
   rw[Bool.and_eq_true,Bool.and_eq_true,Bool.and_eq_true,decide_eq_true_iff,decide_eq_true_iff] at hb
   obtain⟨⟨⟨b1,b2⟩,b3⟩,b4⟩:=hb
   obtain⟨v,rfl,hv⟩:=bD rd
   obtain⟨a,ys,rfl,h1,h2⟩:=hv.i
   obtain⟨u,rfl,ru⟩:=cx r
   cases ru
   obtain⟨_,its,rv,o,ho,hc,n,hd⟩:=I.hok _ _ h1
   have rdd:=kz b1 (h2.imv I.hok rv)
   have hz:(tupleText (PyData.shownAll (bt x))).length≤sizeLine:=Nat.le_trans b4 (by decide)
   obtain⟨bs,hb1,hb2⟩:=ReprAllK.of_readsAll (prog:=X.prog) (w:=X.w) rdd b2 (fun z=>by rw[kA] at z;cases z) (fun t ht=>Nat.le_trans (tupleText_mem_le ht) hz)
   have rt:Reads s.heap (.ref a) (pyD (.tup x)) []:=.tuple ho hc hd rdd
   have hna:a∉bs:=not_mem_of_deeper rt (by show PyData.depthAll (bt x)<PyData.depthAll (bt x)+1;omega) hb1
   refine call_repr_slot (by omega) (⟨o,ho,hc⟩:s.TypeIs (.ref a) "tuple") PySem.F.slot_tuple_repr (call_tuple_reprK (A:=X.A.in1) ho hc hd hna hb2 hr (fun b _=>Clear.nil b) (by show X.A.units+1+_<cLine;omega) (fun _ _ e=>e) (fun h' u tk hk=>?_) hz)
   exact⟨_,_,rfl,.str (pyD (.tup x)).shown,H,I.kept hk,⟨_,rfl⟩,Out.i q rfl⟩
  ·cases e
 ·cases e
noncomputable def oH (ns:List Int):Int:=preSum (fun i=>(ns[i]?).getD 0) ns.length
@[simp] noncomputable def vSum:OpN:=fun ds=>match ds with
 | [.lst x]=>(ints? x).map fun ns=>.im (.int (oH ns))
 | _=>none
theorem wv (hc:X.calm=true):b7 X (.builtin "sum") vSum:=by
 intro pins s σ H xs us Q I r ⟨ds,d,rd,e,q⟩
 unfold vSum at e
 split at e
 ·rename_i x
  obtain⟨ns,e1,e2⟩:=Option.map_eq_some_iff.mp e
  cases e2
  obtain⟨v,rfl,_,l,ys,rfl,h1,h2,_⟩:=bD rd
  cases jW e1
  cases jX h2
  obtain⟨u,rfl,ru⟩:=cx r
  cases ru
  obtain⟨z,its,n,rv,e⟩:=I.hok l _ h1
  have isl:s.heap.IsList l its.toArray:=⟨_,e,rfl,n,rfl⟩
  have hl:its.length=ns.length:=by rw[← rv.length,List.length_map]
  refine call_sum_walkAnyS (wpAny_pyIter_list isl ⟨s.heap.objs.size,[s.heap.objs.size,l],[s.heap.objs.size],_,its.toArray.size,_,_,fun i=>(ns[i]?).getD 0,rfl,(Walks.list (A:=X.A.in1) (I.ok.hd hc) _ l (Nat.ne_of_lt (Heap.lt_size e)) its.toArray).toS,
   ⟨⟨_,Heap.get?_push_size _ rfl,rfl,rfl⟩,isl.push _⟩,fun b hb=>?_,fun i v hv=>vC rv i v (by simpa using hv),fun s' t' hm=>?_⟩)
  ·show b<(s.heap.push _).objs.size
   rw[Heap.size_push]
   rcases List.mem_cons.mp hb with rfl | hb
   ·exact Nat.lt_succ_self _
   ·rw[List.mem_singleton.mp hb]
    exact Nat.lt_succ_of_lt (Heap.lt_size e)
  ·have hk:∀ b o,s.heap.get? b=some o→s'.heap.get? b=some o:=fun b o eb=>
    hm.heap b o (fun hI=>absurd (Heap.lt_size eb) (by rw[List.mem_singleton.mp hI];exact Nat.lt_irrefl _)) (Heap.get?_push_of_some _ eb)
   rw[Moved.eq_with hm,List.size_toArray,hl]
   exact⟨.int _,H,I.kept hk,⟨_,rfl⟩,Out.i q rfl⟩
 ·cases e
end
end L2
namespace L2
open PySem PySem.Spec PyProof.Rows PySem.W
section
variable {prog:Program}{w:World}{A:Around}{E:Value→Shared→Prop}{s:Shared}
theorem oI {it t:Addr}{items:Array Value} (hne:t≠it):∀ (n i:Nat) (s:Shared) (Q:List Value→Shared→Prop),s.heap.IsListIter it t i→s.heap.IsList t items→i+n≤items.size→
  (∀ h',h'.IsListIter it t (i+n)→Heap.SameBut it s.heap h'→Q ((items.toList.drop i).take n) { s with heap:=h' })→wpAny (model prog w) A (draw (.ref it) n) Q E s
 | 0,i,s,Q,hit,_,_,hQ=>by
  show wpAny _ _ (pure []) Q E s
  exact wpAny_pure (by simpa using hQ s.heap hit (Heap.SameBut.refl ..))
 | n+1,i,s,Q,hit,ht,hle,hQ=>by
  have hlt:i<items.size:=by omega
  show wpAny _ _ (pyNext (.ref it) >>= _) Q E s
  refine wpAny_bind (wpAny_pyNext_list_item hit ht (x:=items[i]) (by simp[hlt]) fun h₁ hit₁ hs₁=>?_)
  refine wpAny_bind (wpAny_holding (oI hne n (i+1) _ _ hit₁ (ht.extBut hs₁.extBut hne) (by omega) fun h₂ hit₂ hs₂=>wpAny_pure ?_))
  have hd:items.toList.drop i=items[i]::items.toList.drop (i+1):=by simp[List.drop_eq_getElem_cons,hlt]
  have:=hQ h₂ (by rw[show i+(n+1)=i+1+n by omega];exact hit₂) (hs₁.trans hs₂)
  rw[hd,List.take_succ_cons] at this
  exact this
theorem ww {t:Addr}{items:Array Value}{Q:List Value→Shared→Prop} (hh:A.handled=none) (ht:s.heap.IsList t items)
  (hQ:∀ h',Heap.ExtBut s.heap.objs.size s.heap h'→Q items.toList { s with heap:=h' }):wpAny (model prog w) A (unpackItems (.ref t) items.size none) Q E s:=by
 have hlt:t≠s.heap.objs.size:=by obtain⟨o,ho,_⟩:=ht;exact Nat.ne_of_lt (Heap.lt_size ho)
 unfold unpackItems
 refine wpAny_bind ?_
 ·unfold notIterableAtAll
  refine wpAny_bind (wpAny_specialOf ht.typeIs F.slot_list_iter.lookup ?_)
  refine wpAny_pure ?_
  simp only[Bool.false_eq_true,if_false]
  refine wpAny_bind (wpAny_holding (wpAny_pyIter_list ht ?_))
  refine wpAny_bind (wpAny_holding (oI hlt items.size 0 _ _ ⟨_,Heap.get?_push_size _ rfl,rfl,rfl⟩ (ht.push _) (by omega) fun h₁ hit₁ hs₁=>?_))
  have hall:List.take items.size (List.drop 0 items.toList)=items.toList:=by
   rw[List.drop_zero];exact List.take_of_length_le (by simp)
  rw[hall]
  rw[if_neg (by simp)]
  have ht₁:h₁.IsList t items:=(ht.push _).extBut hs₁.extBut hlt
  refine wpAny_bind (wpAny_holding (wpAny_pyNext_list_end hh hit₁ ht₁ (by simp) fun h₂ he₂=>?_))
  simp only[Option.isSome_none,Bool.false_eq_true,if_false]
  refine wpAny_pure (hQ h₂ fun b o hb e=>he₂ b o hb (hs₁.extBut b o hb (Heap.get?_push_of_some _ e)))
theorem wx {env:Env}{elts:List Expr}{x1}{pos:Pos}{t:Addr}{items:Array Value}{Q:Unit→Shared→Prop} (hh:A.handled=none) (ht:s.heap.IsList t items)
  (hn:(assignEach elts env).length=items.size) (hstar:(assignEach elts env).findIdx? (·.1)=none)
  (h:∀ h',Heap.ExtBut s.heap.objs.size s.heap h'→wpAny (model prog w) A (assignInOrder ((assignEach elts env).map (·.2)) items.toList) Q E { s with heap:=h' }):
  wpAny (model prog w) A (assign (.Tuple elts x1 pos) env (.ref t)) Q E s:=by
 rw[assign_Tuple]
 refine wpAny_bind (wpAny_standAt ?_)
 unfold unpack
 rw[hn,hstar]
 exact wpAny_bind (wpAny_holding (ww hh ht h))
end
section
variable {X:Cx}
noncomputable def wy (K:PySem.W.Frag) (n:Nat) (t:TGs):TG:=fun v σ H Q=>∃ a xs,v=.ref a∧SqL K H a xs∧xs.length=n∧t xs σ H Q
theorem wz {es:List Expr}{k:Nat}{pos:Pos}{t:TGs}{n:Nat} (hc:X.calm=true) (h:PGs X es t)
  (hn:(assignEach es X.env).length=n:=by rfl) (hst:(assignEach es X.env).findIdx? (·.1)=none:=by rfl):PG X (.Tuple es k pos) (wy X.K n t):=by
 intro pins s σ H v u Q I r hw
 obtain⟨a,xs,e1,hq,hl,hw⟩:=hw
 subst e1
 cases r
 obtain⟨its,rv,ht,hz⟩:=I.list hq
 refine wx (I.ok.hd hc) ht.isList (by simp[hn,← hl,rv.length]) hst fun h' hx=>?_
 have I1:Inv X pins σ H { s with heap:=h' }:=I.kept (t':=s.toks) fun b o e=>hx b o (Nat.ne_of_lt (Heap.lt_size e)) e
 exact h pins _ σ H xs _ Q I1 (by simpa using rv) hw
@[simp] noncomputable def gTL (n:Nat) (h:List Vl→SD→Option SD):MG:=fun d D=>match d with
 | .lst is=>if is.length=n then h (is.map .im) D else none
 | _=>none
theorem wA {fix:List Nat}{es:List Expr}{k n:Nat}{pos:Pos}{h:List Vl→SD→Option SD} (hc:X.calm=true) (hs:VGs X fix es h) (hn:(assignEach es X.env).length=n:=by rfl) (hst:(assignEach es X.env).findIdx? (·.1)=none:=by rfl):VG X fix (.Tuple es k pos) (gTL n h):=by
 refine il (wz hc hs hn hst) fun v σ H Q ⟨D,F,d,R,D',st,ow,nd,hg,q⟩=>?_
 unfold gTL at hg
 split at hg
 ·rename_i is
  split at hg
  ·rename_i hl
   obtain⟨a,xs,rfl,h1,h2,rfl⟩:=ow
   have nd':=List.nodup_append.mp nd
   refine⟨a,xs,rfl,SqL.of h1,by rw[← h2.length];exact hl,D,F,_,[],D',st,jA h2,by rw[List.append_nil];exact nd'.1,hg,fun σ' H' F' fx st' s=>q σ' H' F' fx st' ?_⟩
   rw[List.append_nil] at s
   exact⟨fun b o e hb=>s.keep b o e fun z=>hb (List.mem_append_left _ z),fun b hb=>(s.sub b hb).imp (fun z=>List.mem_append_left _ z) id,s.nd,s.tup,s.grow⟩
  ·cases hg
 ·cases hg
end
end L2
namespace L2
open PySem
@[simp] theorem wB (d:Im) (D:SD):eC d D=some (.im d,D):=rfl
@[simp] theorem c8 (D:SD):aNil D=some ([],D):=rfl
@[simp] theorem yG (D:SD):sNil D=some (.nx,D):=rfl
@[simp] theorem wC (D:SD):pNone D=some (none,D):=rfl
@[simp] theorem yH (D:SD):kYes D=some (true,D):=rfl
@[simp] theorem yI (d:Im):(Vl.im d).cp=true:=rfl
@[simp] theorem yJ (d:List Im):(Vl.fz d).cp=true:=rfl
@[simp] theorem yK (d:List Im):(Vl.lst d).cp=false:=rfl
@[simp] theorem yL (d:List (List Im×Im)):(Vl.dT d).cp=false:=rfl
@[simp] theorem yM (d:List (Key×Im)):(Vl.dK d).cp=false:=rfl
@[simp] theorem c9 (D:SD) (d:Vl):rsl D (.vl d)=some d:=rfl
@[simp] theorem dS (D:SD) (i:Nat):rsl D (.sl i)=(D[i]?).getD none:=rfl
@[simp] theorem dU (D:SD):dG D []=some []:=rfl
@[simp] theorem dW (D:SD) (o:Opd) (os:List Opd):dG D (o::os)=(rsl D o).bind fun d=>(dG D os).map fun ds=>d::ds:=rfl
@[simp] theorem oJ (D:SD):b6 [] D=some ([],D):=rfl
@[simp] theorem oK (d:Vl) (os:List Opd) (D:SD):b6 (.vl d::os) D=(b6 os D).map fun p=>(d::p.1,p.2):=rfl
@[simp] theorem yN (i:Nat) (os:List Opd) (D:SD):b6 (.sl i::os) D=(a9 i D).bind fun p=>(b6 os p.2).map fun q=>(p.1::q.1,q.2):=rfl
@[simp] theorem yO:ims []=some []:=rfl
@[simp] theorem yP (d:Im) (ds:List Vl):ims (.im d::ds)=(ims ds).map fun r=>d::r:=rfl
@[simp] theorem kC (b:Bool):asB (.im (.bl b))=some b:=rfl
theorem eU {i j:Int} (h1 : -(2 ^ 64)<j) (h2:j<2 ^ 64):bO i j=true:=by
 have:Builtin.Int.intBits j≤64:=intBits_le_64 h1 h2
 have h':¬ (Builtin.Int.intBits j > shortFactorBits):=Nat.not_lt.mpr this
 unfold bO
 rw[decide_eq_false h']
 simp
theorem wD {i j:Int} (h1 : -(2 ^ 64)<i) (h2:i<2 ^ 64):bO i j=true:=by
 have:Builtin.Int.intBits i≤64:=intBits_le_64 h1 h2
 have h':¬ (Builtin.Int.intBits i > shortFactorBits):=Nat.not_lt.mpr this
 unfold bO
 rw[decide_eq_false h']
 simp
end L2
namespace L2
open PySem
theorem wE {α:Type}{xs:List α}{n:Nat} (h:xs.length≤n):xs.take n=xs:=List.take_of_length_le h
theorem wF {α:Type} (xs:List α) (k:Nat):bP xs (some (k:Int)) none=xs.drop k:=by
 unfold bP
 rw[HT.sv,HT.su]
 by_cases h:k≤xs.length
 ·rw[Nat.min_eq_left h,wE (by rw[List.length_drop];lia)]
 ·rw[Nat.min_eq_right (by lia),Nat.sub_self,List.take_zero,List.drop_of_length_le (by lia)]
theorem oM {α:Type}{xs:List α}{i:Int}{d:α} (h0:0≤i) (h:xs[i.toNat]?=some d):atI xs i=some d:=by
 unfold atI ixN
 have hi:i.toNat<xs.length:=(List.getElem?_eq_some_iff.mp h).1
 rw[if_pos h0,if_pos (by lia)]
 exact h
theorem wG {α:Type}{xs:List α}{d:α} (h:xs.getLast?=some d):atI xs (-1)=some d:=by
 rw[List.getLast?_eq_getElem?] at h
 have hi:xs.length - 1<xs.length:=(List.getElem?_eq_some_iff.mp h).1
 unfold atI ixN
 rw[if_neg (by decide),if_pos (by lia)]
 show xs[(-1+(xs.length:Int)).toNat]?=some d
 rw[show (-1+(xs.length:Int)).toNat=xs.length - 1 by lia]
 exact h
theorem wH {tg:MG}{b:MS} (I:Nat→SD→Prop) (R:Vl→SD→Prop):∀ {xs:List Im}{D:SD},I 0 D→
  (∀ (i:Nat) (x:Im) (D:SD),xs[i]?=some x→I i D→∃ D1 fl D2,tg (.im x) D=some D1∧b D1=some (fl,D2)∧(((fl=.nx∨fl=.ct)∧I (i+1) D2)∨∃ d,fl=.rt d∧R d D2))→
  (∃ D',ba tg b xs D=some (.nx,D')∧I xs.length D')∨∃ d D',ba tg b xs D=some (.rt d,D')∧R d D':=by
 intro xs
 induction xs generalizing I with
 | nil=>intro D h0 _;exact .inl ⟨D,rfl,h0⟩
 | cons x r ih=>
  intro D h0 h
  obtain⟨D1,fl,D2,h1,h2,h3⟩:=h 0 x D rfl h0
  rcases h3 with ⟨hf,hI⟩ | ⟨d,rfl,hR⟩
  ·have:=ih (fun i=>I (i+1)) (D:=D2) hI fun i y D' hy hI'=>h (i+1) y D' (by simpa using hy) hI'
   have e:ba tg b (x::r) D=ba tg b r D2:=by
    rw[ba]
    dsimp only
    rw[h1]
    show (b D1).bind _=_
    rw[h2]
    rcases hf with rfl | rfl<;>rfl
   rw[e]
   exact this
  ·refine .inr ⟨d,D2,?_,hR⟩
   rw[ba]
   dsimp only
   rw[h1]
   show (b D1).bind _=_
   rw[h2]
   rfl
theorem iJ {tg:MG}{b:MS} (I:Nat→SD→Prop) {xs:List Im}{D:SD} (h0:I 0 D)
  (h:∀ (i:Nat) (x:Im) (D:SD),xs[i]?=some x→I i D→∃ D1 fl D2,tg (.im x) D=some D1∧b D1=some (fl,D2)∧(fl=.nx∨fl=.ct)∧I (i+1) D2):
  ∃ D',ba tg b xs D=some (.nx,D')∧I xs.length D':=by
 rcases wH I (fun _ _=>False) h0 (fun i x D hx hI=>by
  obtain⟨D1,fl,D2,h1,h2,h3,h4⟩:=h i x D hx hI
  exact⟨D1,fl,D2,h1,h2,.inl ⟨h3,h4⟩⟩) with h | ⟨_,_,_,h⟩
 ·exact h
 ·exact h.elim
theorem wI {c:M Bool}{b:MS} (I:Nat→SD→Prop) (Post:SD→Prop) (step:∀ m D,I m D→∃ t D1,c D=some (t,D1)∧(t=true→∃ fl D2,b D1=some (fl,D2)∧(fl=.nx∨fl=.ct)∧∃ m',m'<m∧I m' D2)∧(t=false→Post D1)):
  ∀ (n m:Nat) (D:SD),I m D→m<n→∃ D',dl c b n D=some (.nx,D')∧Post D':=by
 intro n
 induction n with
 | zero=>intro m D _ h;lia
 | succ n ih=>
  intro m D hI hm
  obtain⟨t,D1,h1,h2,h3⟩:=step m D hI
  rw[dl]
  dsimp only
  rw[h1]
  cases t with
  | false=>exact⟨D1,rfl,h3 rfl⟩
  | true=>
   obtain⟨fl,D2,h4,hf,m',hm',hI'⟩:=h2 rfl
   obtain⟨D',h5,h6⟩:=ih m' D2 hI' (by lia)
   refine⟨D',?_,h6⟩
   simp only[Option.bind_some,if_true,h4]
   rcases hf with rfl | rfl<;>exact h5
theorem wJ {α:Type} (xs:List α):xs.filter (fun _=>true)=xs:=List.filter_eq_self.mpr fun _ _=>rfl
end L2
namespace L2
open PySem
theorem aC {g h:MS}{D D1:SD} (e:g D=some (.nx,D1)):ax g h D=h D1:=by unfold ax;rw[e];rfl
theorem eV {g:MI}{tg:MG}{b:MS}{D D1 D2:SD}{xs:List Im}{o:Option (Nat×Vl)}{fl:Fl} (e:g D=some ((xs,o),D1)) (h:ba tg b xs D1=some (fl,D2)):bL g tg b D=some (fl,rst o D2):=by
 unfold bL;rw[e];show (ba tg b xs D1).map _=_;rw[h];rfl
theorem wK {n m:Nat}{fix:List Nat}{g:MS}{ds:List Vl}{D:SD}{r:Vl} (hl:ds.length=n) (e:g (ds.map some++List.replicate (m - n) none)=some (.rt r,D)):bN n m fix g ds=some (r,cK fix ds D 0):=by
 unfold bN;rw[if_pos hl,e]
theorem eZ {own:Nat}{caps:List Nat}{gi:MI}{tg:MG}{c:M Bool}{e:M Vl}{D D1 C':SD}{xs ds:List Im}{o:Option (Nat×Vl)} (h1:gi D=some ((xs,o),D1)) (h2:bM own tg c e xs [] (dm caps D1)=some (ds,C')):aU own caps gi tg c e D=some (.lst ds,rst o (cC caps C' D1)):=by
 unfold aU;rw[h1];show (bM own tg c e xs [] (dm caps D1)).map _=_;rw[h2];rfl
theorem iK {g:M Vl}{D D1:SD}{d:Vl} (e:g D=some (d,D1)):bC g D=some (.rt d,D1):=by unfold bC;rw[e];rfl
theorem gM {i:Nat}{g:M Vl}{D D1:SD}{d:Vl} (e:g D=some (d,D1)) (h:i<D1.length):aw i g D=some (.nx,D1.set i (some d)):=by unfold aw;rw[e];show (if i<D1.length then _ else _)=_;rw[if_pos h]
theorem oN {c:M Bool}{a b:MS}{D D1:SD} (e:c D=some (true,D1)):sIf c a b D=a D1:=by unfold sIf;rw[e];rfl
theorem iL {c:M Bool}{a b:MS}{D D1:SD} (e:c D=some (false,D1)):sIf c a b D=b D1:=by unfold sIf;rw[e];rfl
end L2
namespace L2
open PySem
theorem dX {n m:Nat}{fix:List Nat}{g:MS}{ds:List Vl} (D:SD) {r:Vl}{outs:List Vl} (hl:ds.length=n) (e:g (ds.map some++List.replicate (m - n) none)=some (.rt r,D)) (ho:cK fix ds D 0=outs):bN n m fix g ds=some (r,outs):=by
 rw[wK hl e,ho]
end L2
namespace L2
open PySem
theorem gO {α:Type}{own:Nat}{tg:MG}{c:M Bool}{e:M Vl}{C:SD} (φ:α→Im) (p:α→Bool) (f:α→Im):∀ (xs:List α) (acc:List Im),(∀ x∈xs,∃ D1 D2,tg (.im (φ x)) (List.replicate own none++C)=some D1∧c D1=some (p x,D2)∧(p x=false→D2.drop own=C)∧(p x=true→∃ D3,e D2=some (.im (f x),D3)∧D3.drop own=C))→
  acc.length+xs.length≤100000→bM own tg c e (xs.map φ) acc C=some (acc++(xs.filter p).map f,C)
 | [],acc,_,_=>by simp[bM]
 | x::r,acc,h,hl=>by
  obtain⟨D1,D2,h1,h2,h3,h4⟩:=h x (.head _)
  rw[List.length_cons] at hl
  rw[List.map_cons,bM,h1]
  show (c D1).bind _=_
  rw[h2]
  show (if p x=true then _ else _)=_
  cases hp:p x with
  | false=>
   rw[if_neg Bool.false_ne_true]
   show bM own tg c e (r.map φ) acc (D2.drop own)=_
   rw[h3 hp,gO φ p f r acc (fun y hy=>h y (.tail _ hy)) (by lia),List.filter_cons,hp]
   rfl
  | true=>
   obtain⟨D3,h5,h6⟩:=h4 hp
   rw[if_pos rfl]
   show (e D2).bind _=_
   rw[h5]
   show (if acc.length<100000 then bM own tg c e (r.map φ) (acc++[f x]) (D3.drop own) else none)=_
   rw[if_pos (by lia),h6,gO φ p f r (acc++[f x]) (fun y hy=>h y (.tail _ hy)) (by rw[List.length_append,List.length_singleton];lia),List.filter_cons,hp]
   simp
theorem iM {α:Type}{own:Nat}{tg:MG}{c:M Bool}{e:M Vl}{C:SD} (φ:α→Im) (f:α→Im) (xs:List α) (h:∀ x∈xs,∃ D1 D2 D3,tg (.im (φ x)) (List.replicate own none++C)=some D1∧c D1=some (true,D2)∧e D2=some (.im (f x),D3)∧D3.drop own=C)
  (hl:xs.length≤100000):bM own tg c e (xs.map φ) [] C=some (xs.map f,C):=by
 have:=gO (own:=own) (tg:=tg) (c:=c) (e:=e) (C:=C) φ (fun _=>true) f xs [] (fun x hx=>by
  obtain⟨D1,D2,D3,h1,h2,h3,h4⟩:=h x hx
  exact⟨D1,D2,h1,h2,(fun z=>by cases z),(fun _=>⟨D3,h3,h4⟩)⟩) (by rw[List.length_nil];lia)
 rw[wJ] at this
 exact this
theorem oO {α β:Type} (φ:α→Im) (ψ:β→Im):∀ (xs:List α) (ys:List β),bQ (xs.map φ) (ys.map ψ)=(xs.zip ys).map fun p=>.tup [φ p.1,ψ p.2]
 | [],ys=>by simp[bQ]
 | x::xs,[]=>by simp[bQ]
 | x::xs,y::ys=>by simp[bQ,oO φ ψ xs ys]
theorem oP {α β:Type} (f:α→β) (xs:List α) (lo hi:Option Int):bP (xs.map f) lo hi=(bP xs lo hi).map f:=by
 unfold bP
 rw[List.length_map,List.map_take,List.map_drop]
end L2
namespace G
open PySem L2
noncomputable def oQ:MS:=(bC (bK (ab (oV (au vMinM (ab (oSl 0) (ab (oSl 1) aNil)))) (ab (oV (au vMaxM (ab (oSl 0) (ab (oSl 1) aNil)))) aNil))))
noncomputable def gP:Fn:=bN 2 2 [0,1] oQ
noncomputable def b_gone_1:MS:=(ax (aw 4 (eCall 2 G.gP (ab (oSl 2) (ab (oSl 3) aNil)))) (cJ (ad vAdd (oV (gH 1 (a9 4) (eC (.int 0)))) (oV (eC (.int 1)))) (gIx 1 (a9 4) putA)))
noncomputable def oR:MS:=(ax (aw 1 eDict0T) (ax (bL (iZ (ab (oSl 0) (ab (oV (eSl (oSl 0) (eJ (eC (.int 1))) pNone)) aNil))) (gT 2 (bg (gN 2) (bg (gN 3) gNil'))) G.b_gone_1) (bC (au vTuple (ab (oV (fU (oSl 1))) aNil)))))
noncomputable def cq:Fn:=bN 1 5 [0] oR
noncomputable def fV:MS:=(aw 2 (ad vMod (oV (ad vAdd (oV (ad vAdd (oV (ad vMul (oSl 2) (oV (eC (.int 69621))))) (oV (ad vMod (oSl 3) (oV (eC (.int 2147483587))))))) (oV (eC (.int 13))))) (oV (eC (.int 2305843009213693951)))))
noncomputable def oS:MS:=(ax (aw 2 (ad vAdd (oV (eC (.int 7))) (oV (ad vMul (oV (eC (.int 7919))) (oSl 1))))) (ax (bL (bb (oV (eSl (oSl 0) pNone (eJ (eC (.int 63)))))) (gN 3) G.fV) (ax (aw 3 (eIf (kB (ad vGt (oV (au vLen (ab (oSl 0) aNil))) (oV (eC (.int 0))))) (ad vIx (oSl 0) (oV (ad vMod (oSl 1) (oV (au vLen (ab (oSl 0) aNil)))))) (eC (.int 0)))) (ax (aw 4 (ad vMul (oV (ad vMul (oV (ad vPow (oV (eC (.int 10))) (oV (eC (.int 60))))) (oV (ad vPow (oV (eC (.int 10))) (oV (eC (.int 60))))))) (oV (ad vPow (oV (eC (.int 10))) (oV (eC (.int 60))))))) (bC (ck (ab (oV (ad vMul (oV (ad vMod (oSl 3) (oSl 4))) (oV (au vInt (ab (oV (ad vGe (oSl 3) (oV (ad vPow (oV (eC (.int 10))) (oV (eC (.int 18))))))) aNil))))) (ab (oSl 2) (ab (oV (eC (.int 0))) aNil)))))))))
noncomputable def e8:Fn:=bN 2 5 [0,1] oS
noncomputable def kF:MS:=(ax (sIf (kB (ad vGt (oV (ad vIx (oSl 0) (oV (eC (.int 0))))) (oV (eC (.int 0))))) (ax (aw 2 (ad vMod (oV (ad vIx (oSl 0) (oV (eC (.int 0))))) (oSl 1))) (ax (cJ (ad vDiv (oV (ad vIx (oSl 0) (oV (eC (.int 0))))) (oSl 1)) (gIx 0 (eC (.int 0)) putV)) (bC (a9 2)))) sNil) (ax (cJ (ad vAdd (oV (ad vIx (oSl 0) (oV (eC (.int 2))))) (oV (eC (.int 1)))) (gIx 0 (eC (.int 2)) putV)) (ax (aw 3 (ad vMod (oV (ad vMul (oV (ad vAdd (oV (ad vIx (oSl 0) (oV (eC (.int 1))))) (oV (ad vMul (oV (ad vIx (oSl 0) (oV (eC (.int 2))))) (oV (eC (.int 104729))))))) (oV (eC (.int 48271))))) (oV (eC (.int 2305843009213693951))))) (ax (cJ (ad vMod (oV (ad vMul (oSl 3) (oV (ad vAdd (oV (ad vMod (oSl 3) (oV (eC (.int 1009))))) (oV (eC (.int 69621))))))) (oV (eC (.int 2305843009213693951)))) (gIx 0 (eC (.int 1)) putV)) (bC (ad vMod (oV (ad vDiv (oV (ad vIx (oSl 0) (oV (eC (.int 1))))) (oV (eC (.int 1000003))))) (oSl 1)))))))
noncomputable def aR:Fn:=bN 2 4 [0,1] kF
noncomputable def oT:MS:=(bC (ck (ab (oV (bK (ab (oV (ad vSub (oV (ad vIx (oSl 0) (oV (eC (.int 0))))) (oV (eC (.int 1))))) (ab (oV (ad vIx (oSl 0) (oV (eC (.int 1))))) aNil)))) (ab (oV (bK (ab (oV (ad vIx (oSl 0) (oV (eC (.int 0))))) (ab (oV (ad vSub (oV (ad vIx (oSl 0) (oV (eC (.int 1))))) (oV (eC (.int 1))))) aNil)))) (ab (oV (bK (ab (oV (ad vIx (oSl 0) (oV (eC (.int 0))))) (ab (oV (ad vAdd (oV (ad vIx (oSl 0) (oV (eC (.int 1))))) (oV (eC (.int 1))))) aNil)))) (ab (oV (bK (ab (oV (ad vAdd (oV (ad vIx (oSl 0) (oV (eC (.int 0))))) (oV (eC (.int 1))))) (ab (oV (ad vIx (oSl 0) (oV (eC (.int 1))))) aNil)))) aNil))))))
noncomputable def cQ:Fn:=bN 1 1 [0] oT
noncomputable def kG:M Vl:=(bK (ab (oSl 0) (ab (oV (eC (.bl true))) aNil)))
noncomputable def fb:MS:=(sIf (dF (kB (ad vIn (oSl 5) (oSl 2))) (kB (ad vNotIn (oSl 5) (oSl 3)))) (ax (cJ (eC (.bl true)) (gIx 3 (a9 5) putA)) (gy (c6 cN 4 mAppend (ab (oSl 5) aNil)))) sNil)
noncomputable def kH:M Bool:=(kB (ad vNe (oSl 4) (oV (ck aNil))))
noncomputable def kJ:MS:=(bL (bb (oV (eCall 1 G.cQ (ab (oV (c6 cN 4 mPop aNil)) aNil)))) (gN 5) G.fb)
noncomputable def oU:MS:=(ax (aw 2 (au vDict (ab (oV (aU 1 [] (bb (oSl 0)) (gN 0) kYes G.kG)) aNil))) (ax (aw 3 (ko (a9 1) (eC (.bl true)))) (ax (aw 4 (ck (ab (oSl 1) aNil))) (ax (dl G.kH G.kJ 1000000) (bC (au vTuple (ab (oV (au vSortM (ab (oSl 3) aNil))) aNil)))))))
noncomputable def gQ:Fn:=bN 2 6 [0,1] oU
noncomputable def iN:MS:=(ax (aw 4 (ad vIx (oV (eCall 1 G.cQ (ab (oV (ad vIx (oSl 2) (oV (eCall 2 G.aR (ab (oSl 0) (ab (oV (au vLen (ab (oSl 2) aNil))) aNil)))))) aNil))) (oV (eCall 2 G.aR (ab (oSl 0) (ab (oV (eC (.int 4))) aNil)))))) (sIf (dF (kB (ad vNotIn (oSl 4) (oSl 2))) (dF (kB (dR vLe vLe (oV (eC (.int 0))) (oV (ad vIx (oSl 4) (oV (eC (.int 0))))) (oV (eC (.int 24))))) (kB (dR vLe vLe (oV (eC (.int 0))) (oV (ad vIx (oSl 4) (oV (eC (.int 1))))) (oV (eC (.int 24))))))) (gy (c6 cN 2 mAppend (ab (oSl 4) aNil))) sNil))
noncomputable def oW:MS:=(ax (aw 2 (ck (ab (oV (bK (ab (oV (eC (.int 12))) (ab (oV (eC (.int 12))) aNil)))) aNil))) (ax (bL (iR1 (ab (oV (eCall 2 G.aR (ab (oSl 0) (ab (oSl 1) aNil)))) aNil)) (gN 3) G.iN) (bC (a9 2))))
noncomputable def fc:Fn:=bN 2 5 [0,1] oW
noncomputable def kK:M Vl:=(bK (ab (oV (ad vDiv (oSl 0) (oSl 1))) (ab (oV (ad vMod (oSl 0) (oSl 1))) aNil)))
noncomputable def fW:MS:=(gy (c6 cN 5 mPopAt (ab (oV (eCall 2 G.aR (ab (oSl 0) (ab (oV (au vLen (ab (oSl 5) aNil))) aNil)))) aNil)))
noncomputable def kL:M Vl:=(a9 0)
noncomputable def iO:M Bool:=(kB (ad vEq (oV (ad vMul (oV (ad vMod (oV (ad vIx (oSl 0) (oV (eC (.int 0))))) (oV (eC (.int 2))))) (oV (ad vMod (oV (ad vMod (oV (ad vIx (oSl 0) (oV (eC (.int 1))))) (oV (eC (.int 3))))) (oV (eC (.int 2))))))) (oV (eC (.int 0)))))
noncomputable def fe:M Vl:=(ad vIx (oV (ck (ab (oV (eC (.int 0))) (ab (oV (eC (.int 0))) (ab (oV (eC (.int 6))) (ab (oV (eC (.int 3))) aNil)))))) (oV (eCall 2 G.aR (ab (oSl 1) (ab (oV (eC (.int 4))) aNil)))))
noncomputable def iP:M Vl:=(bK (ab (oV (ad vAdd (oV (ad vIx (oSl 0) (oV (eC (.int 0))))) (oSl 1))) (ab (oV (ad vAdd (oV (ad vIx (oSl 0) (oV (eC (.int 1))))) (oSl 2))) aNil)))
noncomputable def oX:MS:=(ax (aw 2 (eCall 2 G.aR (ab (oSl 0) (ab (oV (eC (.int 6))) aNil)))) (ax (aw 3 (ad vAdd (oV (eC (.int 1))) (oV (eCall 2 G.aR (ab (oSl 0) (ab (oV (eC (.int 7))) aNil)))))) (ax (aw 4 (ad vAdd (oV (eC (.int 1))) (oV (eCall 2 G.aR (ab (oSl 0) (ab (oV (au vMaxM (ab (oV (eC (.int 1))) (ab (oV (au vMinM (ab (oV (eC (.int 7))) (ab (oV (ad vDiv (oSl 1) (oSl 3))) aNil)))) aNil)))) aNil)))))) (ax (aw 5 (aU 1 [3] (iR1 (ab (oV (ad vMul (oSl 4) (oSl 3))) aNil)) (gN 0) kYes G.kK)) (ax (sIf (kOr (kB (ad vEq (oSl 2) (oV (eC (.int 1))))) (kB (ad vEq (oSl 2) (oV (eC (.int 2)))))) (bL (iR1 (ab (oV (eCall 2 G.aR (ab (oSl 0) (ab (oV (ad vAdd (oV (eC (.int 1))) (oV (ad vDiv (oV (au vLen (ab (oSl 5) aNil))) (oV (eC (.int 2))))))) aNil)))) aNil)) (gN 6) G.fW) (sIf (kB (ad vEq (oSl 2) (oV (eC (.int 3))))) (aw 5 (aU 1 [] (bb (oSl 5)) (gN 0) G.iO G.kL)) (sIf (kB (ad vGt (oSl 2) (oV (eC (.int 3))))) (aw 5 (eCall 2 G.fc (ab (oSl 0) (ab (oSl 1) aNil)))) sNil))) (ax (aw 7 (eCall 2 G.gQ (ab (oSl 5) (ab (oV (ad vIx (oSl 5) (oV (eCall 2 G.aR (ab (oSl 0) (ab (oV (au vLen (ab (oSl 5) aNil))) aNil)))))) aNil)))) (ax (cJ (aU 1 [0] (iR1 (ab (oV (eC (.int 2))) aNil)) (gN 0) kYes G.fe) (gTL 2 (bg (gN 8) (bg (gN 9) gNil')))) (bC (au vTuple (ab (oV (aU 1 [8,9] (bb (oSl 7)) (gN 0) kYes G.iP)) aNil))))))))))
noncomputable def fX:Fn:=bN 2 10 [0,1] oX
noncomputable def b_l_gone_1:MS:=(ax (aw 4 (bK (ab (oV (au vMinM (ab (oSl 2) (ab (oSl 3) aNil)))) (ab (oV (au vMaxM (ab (oSl 2) (ab (oSl 3) aNil)))) aNil)))) (cJ (ad vAdd (oV (gH 1 (a9 4) (eC (.int 0)))) (oV (eC (.int 1)))) (gIx 1 (a9 4) putA)))
noncomputable def oY:MS:=(ax (aw 1 eDict0T) (ax (bL (iZ (ab (oSl 0) (ab (oV (eSl (oSl 0) (eJ (eC (.int 1))) pNone)) aNil))) (gT 2 (bg (gN 2) (bg (gN 3) gNil'))) G.b_l_gone_1) (bC (a9 1))))
noncomputable def ff:Fn:=bN 1 5 [0] oY
noncomputable def oZ:M Vl:=(a9 0)
noncomputable def pc:M Bool:=(kB (ad vIn (oSl 0) (oSl 1)))
noncomputable def iQ:MS:=(ax (aw 4 (aU 1 [1] (bb (oV (eCall 1 G.cQ (ab (oV (ad vIx (oSl 2) (oV (iz (eC (.int 1)))))) aNil)))) (gN 0) G.pc G.oZ)) (sIf (kB (ad vNe (oSl 4) (oV (ck aNil)))) (gy (c6 cN 2 mAppend (ab (oV (ad vIx (oSl 4) (oV (eCall 2 G.aR (ab (oSl 0) (ab (oV (au vLen (ab (oSl 4) aNil))) aNil)))))) aNil))) sNil))
noncomputable def pd:MS:=(ax (aw 2 (ck (ab (oV (ad vIx (oSl 1) (oV (eCall 2 G.aR (ab (oSl 0) (ab (oV (au vLen (ab (oSl 1) aNil))) aNil)))))) aNil))) (ax (bL (iR1 (ab (oV (eCall 2 G.aR (ab (oSl 0) (ab (oV (ad vIx (oV (ck (ab (oV (eC (.int 31))) (ab (oV (eC (.int 301))) aNil)))) (oV (au vInt (ab (oV (ad vEq (oV (eCall 2 G.aR (ab (oSl 0) (ab (oV (eC (.int 8))) aNil)))) (oV (eC (.int 0))))) aNil))))) aNil)))) aNil)) (gN 3) G.iQ) (bC (au vTuple (ab (oSl 2) aNil)))))
noncomputable def fY:Fn:=bN 2 5 [0,1] pd
noncomputable def iR:M Vl:=(a9 1)
noncomputable def iS:MS:=(ax (aw 2 (eCall 2 G.e8 (ab (oSl 0) (ab (oSl 1) aNil)))) (ax (aw 3 (eCall 2 G.fY (ab (oSl 2) (ab (oV (eCall 2 G.fX (ab (oSl 2) (ab (oV (eC (.int 40))) aNil)))) aNil)))) (ax (aw 4 (au vTuple (ab (oV (fU (oV (eCall 1 G.ff (ab (oSl 3) aNil))))) aNil))) (ax (aw 5 (eCall 1 G.cq (ab (oSl 3) aNil))) (ax (sIf (kOr (jw (jR (oV (jP "tuple" (oSl 5))))) (kOr (kB (ad vNe (oSl 5) (oSl 4))) (kB (ad vNe (oV (au vRepr (ab (oSl 5) aNil))) (oV (au vRepr (ab (oSl 4) aNil))))))) (bC (eC (.bl false))) sNil) (sIf (kOr (kB (ad vNe (oV (au vSum (ab (oV (aU 2 [] (bb (oSl 5)) (gT 2 (bg (gN 0) (bg (gN 1) gNil'))) kYes G.iR)) aNil))) (oV (ad vSub (oV (au vLen (ab (oSl 3) aNil))) (oV (eC (.int 1))))))) (kB (ad vNe (oV (eCall 1 G.cq (ab (oSl 3) aNil))) (oSl 4)))) (bC (eC (.bl false))) sNil))))))
noncomputable def pf:MS:=(ax (bL (iR1 (ab (oV (eC (.int 3))) aNil)) (gN 1) G.iS) (bC (ad vEq (oV (eCall 1 G.cq (ab (oV (bK (ab (oV (bK (ab (oV (eC (.int 3))) (ab (oV (eC (.int 4))) aNil)))) aNil))) aNil))) (oV (bK aNil)))))
noncomputable def fZ:Fn:=bN 1 6 [0] pf
end G
namespace K26
open PySem L2 PyProof.Rows
noncomputable def top (i:Nat):Stmt:=PySem.Challenge.pw_mowfloor_k26_gone.main.body.getD i (.Pass ⟨0,0,0,0⟩)
structure Txt (mg:Str→Option Value):Prop where
 b_dict:mg "dict" = none
 b_int:mg "int" = none
 b_isinstance:mg "isinstance" = none
 b_len:mg "len" = none
 b_max:mg "max" = none
 b_min:mg "min" = none
 b_range:mg "range" = none
 b_repr:mg "repr" = none
 b_sorted:mg "sorted" = none
 b_sum:mg "sum" = none
 b_tuple:mg "tuple" = none
 b_zip:mg "zip" = none
theorem wL:bootBuiltins "dict" = some (.type "dict"):=by decide +kernel
theorem pg:bootBuiltins "int" = some (.type "int"):=by decide +kernel
theorem wM:bootBuiltins "isinstance" = some (.builtin "isinstance"):=by decide +kernel
theorem du:bootBuiltins "len" = some (.builtin "len"):=by decide +kernel
theorem kN:bootBuiltins "max" = some (.builtin "max"):=by decide +kernel
theorem kO:bootBuiltins "min" = some (.builtin "min"):=by decide +kernel
theorem ph:bootBuiltins "repr" = some (.builtin "repr"):=by decide +kernel
theorem wN:bootBuiltins "sorted" = some (.builtin "sorted"):=by decide +kernel
theorem wO:bootBuiltins "sum" = some (.builtin "sum"):=by decide +kernel
theorem f7:bootBuiltins "tuple" = some (.type "tuple"):=by decide +kernel
theorem ao {A:Around}{k:Nat} (hr:Room k A):A.units+20<cLine:=by have:=hr.un;omega
theorem kP {A:Around}{k:Nat} (hr:Room k A):A.units+30<cLine:=by have:=hr.un;omega
noncomputable abbrev fg:Stmt:=top 1
noncomputable abbrev wP:List Str:=["one","other"]
noncomputable abbrev fh:Stmt:=top 3
noncomputable abbrev wQ:List Str:=["walk","often","ahead","behind","lane"]
noncomputable abbrev fi:Stmt:=top 5
noncomputable abbrev wR:List Str:=["_law_script","_law_turn","_law_seed","_law_cell","_law_bound"]
noncomputable abbrev dv:Stmt:=top 6
noncomputable abbrev wS:List Str:=["_law_left_here","_law_many","_law_digit","_law_mixed"]
noncomputable abbrev dw:Stmt:=top 7
noncomputable abbrev wT:List Str:=["_law_cell"]
noncomputable abbrev dY:Stmt:=top 8
noncomputable abbrev wU:List Str:=["_law_some","_law_begin","_law_there","_law_met","_law_waiting","_law_other"]
noncomputable abbrev fj:Stmt:=top 9
noncomputable abbrev wV:List Str:=["_law_left_here","_law_most","_law_cells","_law_k","_law_other"]
noncomputable abbrev cS:Stmt:=top 10
noncomputable abbrev wW:List Str:=["_law_left_here","_law_most","_law_way","_law_wide","_law_high","_law_cells","_law_k","_law_part_here","_law_row","_law_column"]
noncomputable abbrev fk:Stmt:=top 11
noncomputable abbrev wX:List Str:=["_law_walk_here","_law_many","_law_one","_law_other","_law_lane"]
noncomputable abbrev dZ:Stmt:=top 12
noncomputable abbrev wY:List Str:=["_law_left_here","_law_field_here","_law_walk_here","_law_k","_law_some"]
noncomputable abbrev da:Stmt:=top 13
noncomputable abbrev wZ:List Str:=["_law_script","_law_turn","_law_left_here","_law_walk_here","_law_due","_law_found"]
section
variable {P:Program}{w:World}{K:PySem.W.Frag}{mg:Str→Option Value}{base:Heap}
theorem pi:FnScope wP ["one","other"] (ay fg):=⟨rfl,rfl,rfl,by decide +kernel,rfl,by decide +kernel,by decide +kernel⟩
set_option maxHeartbeats 4000000 in
theorem w9 {f:Addr}{fd:FuncData} (F:Fun K "lesser_first" "lesser_first" fg f fd) (T:Txt mg):
  FnOk P w K mg base CX0 1 f fd ["one","other"] (spV 2 G.gP):=by
 have nd:=pi.nd
 refine fnV F pi rfl (by decide) (fun cdv A outer s H E hr=>?_)
 exact (aG (b8 (cl (ae (aa (br (kw rfl (ao hr)) (by rfl) T.b_min kO (ae (af (pv 0)) (ae (af (pv 1)) ai)))) (ae (aa (br (ku rfl (ao hr)) (by rfl) T.b_max kN (ae (af (pv 0)) (ae (af (pv 1)) ai)))) ai)))))
theorem pj:FnScope wQ ["walk"] (ay fh):=⟨rfl,rfl,rfl,by decide +kernel,rfl,by decide +kernel,by decide +kernel⟩
set_option maxHeartbeats 4000000 in
theorem xa {f:Addr}{fd:FuncData} (F:Fun K "gone" "gone" fh f fd) (T:Txt mg)
  {f_lesser_first:Addr}{fd_lesser_first:FuncData} (U_lesser_first:Fun K "lesser_first" "lesser_first" fg f_lesser_first fd_lesser_first) (G_lesser_first:FnOk P w K mg base CX0 1 f_lesser_first fd_lesser_first ["one","other"] (spV 2 G.gP)) (b_lesser_first:bh K fd_lesser_first ["one","other"] []) (m_lesser_first:mg "lesser_first" = some (.ref f_lesser_first)):
  FnOk P w K mg base CX0 2 f fd ["walk"] (spV 1 G.cq):=by
 have nd:=pj.nd
 refine fnV F pj rfl (by decide) (fun cdv A outer s H E hr=>?_)
 exact (az (aQ (i:=1) nd rfl (by first | exact Or.inl rfl | exact Or.inr rfl) nN (by decide)) (az (dN (fx:=[0]) PassesOwn.never rfl (ny rfl T.b_zip (ae (af (pv 0)) (ae (aa (jN (af (pv 0)) (jM ag) jL)) ai))) (jB rfl (dM (bm (i:=2) nd rfl (by first | exact Or.inl rfl | exact Or.inr rfl) (by decide)) (dM (bm (i:=3) nd rfl (by first | exact Or.inl rfl | exact Or.inr rfl) (by decide)) io))) (az (aQ (i:=4) nd rfl (by first | exact Or.inl rfl | exact Or.inr rfl) (aN G_lesser_first (hr.mono (by omega)) rfl m_lesser_first U_lesser_first.kp b_lesser_first (ae (af (pv 2)) (ae (af (pv 3)) ai))) (by decide)) (aG (eF (av bT (aa (nP (ao hr) (pv 1) (cy (pv 4)) ag)) (aa ag)) (fL (pv 1) (cy (pv 4)) (jZ (ao hr)))))) (by decide) nA) (aG (b8 (dJ gF rfl T.b_tuple f7 (ae (aa (oF (ao hr) rfl T.b_sorted (af (pv 1)))) ai))))))
theorem pk:FnScope wR ["_law_script","_law_turn"] (ay fi):=⟨rfl,rfl,rfl,by decide +kernel,rfl,by decide +kernel,by decide +kernel⟩
set_option maxHeartbeats 4000000 in
theorem xb {f:Addr}{fd:FuncData} (F:Fun K "_law_left" "_law_left" fi f fd) (T:Txt mg):
  FnOk P w K mg base CX0 1 f fd ["_law_script","_law_turn"] (spV 2 G.e8):=by
 have nd:=pk.nd
 refine fnV F pk rfl (by decide) (fun cdv A outer s H E hr=>?_)
 exact (az (aQ (i:=2) nd rfl (by first | exact Or.inl rfl | exact Or.inr rfl) (av bT (aa ag) (aa (av cZ (aa ag) (af (pv 1))))) (by decide)) (az (dN (fx:=[0,1]) PassesOwn.never rfl (eG (aa (jN (af (pv 0)) jL (jM ag)))) (bm (i:=3) nd rfl (by first | exact Or.inl rfl | exact Or.inr rfl) (by decide)) (aG (aQ (i:=2) nd rfl (by first | exact Or.inl rfl | exact Or.inr rfl) (av cn (aa (av bT (aa (av bT (aa (av cZ (af (pv 2)) (aa ag))) (aa (av cn (af (pv 3)) (aa ag))))) (aa ag))) (aa ag)) (by decide))) (by decide) m5) (az (aQ (i:=3) nd rfl (by first | exact Or.inl rfl | exact Or.inr rfl) (uS (bB jI (aa (br dq (by rfl) T.b_len du (ae (af (pv 0)) ai))) (aa ag) (bE _)) (aK (aM (ao hr)) (af (pv 0)) (aa (av cn (af (pv 1)) (aa (br dq (by rfl) T.b_len du (ae (af (pv 0)) ai))))) (fun _ _=>rfl)) ag) (by decide)) (az (aQ (i:=4) nd rfl (by first | exact Or.inl rfl | exact Or.inr rfl) (av cZ (aa (av cZ (aa (av ix (aa ag) (aa ag))) (aa (av ix (aa ag) (aa ag))))) (aa (av ix (aa ag) (aa ag)))) (by decide)) (aG (b8 (dj (ae (aa (av cZ (aa (av cn (af (pv 3)) (af (pv 4)))) (aa (dJ nq rfl T.b_int pg (ae (aa (jv u8 (af (pv 3)) (aa (av ix (aa ag) (aa ag))) (bE _))) ai))))) (ae (af (pv 2)) (ae (aa ag) ai))))))))))
theorem pp:FnScope wS ["_law_left_here","_law_many"] (ay dv):=⟨rfl,rfl,rfl,by decide +kernel,rfl,by decide +kernel,by decide +kernel⟩
set_option maxHeartbeats 4000000 in
theorem xc {f:Addr}{fd:FuncData} (F:Fun K "_law_pick" "_law_pick" dv f fd) (T:Txt mg):
  FnOk P w K mg base CX0 1 f fd ["_law_left_here","_law_many"] (spV 2 G.aR):=by
 have nd:=pp.nd
 refine fnV F pp rfl (by decide) (fun cdv A outer s H E hr=>?_)
 exact (az (dk (bB jI (aa (aK (aM (ao hr)) (af (pv 0)) (aa ag) (fun _ _=>rfl))) (aa ag) (bE _)) (az (aQ (i:=2) nd rfl (by first | exact Or.inl rfl | exact Or.inr rfl) (av cn (aa (aK (aM (ao hr)) (af (pv 0)) (aa ag) (fun _ _=>rfl))) (af (pv 1))) (by decide)) (az (eF (av gE (aa (aK (aM (ao hr)) (af (pv 0)) (aa ag) (fun _ _=>rfl))) (af (pv 1))) (fL (pv 0) ag (jY (ao hr)))) (aG (b8 (cy (pv 2)))))) eE) (az (eF (av bT (aa (aK (aM (ao hr)) (af (pv 0)) (aa ag) (fun _ _=>rfl))) (aa ag)) (fL (pv 0) ag (jY (ao hr)))) (az (aQ (i:=3) nd rfl (by first | exact Or.inl rfl | exact Or.inr rfl) (av cn (aa (av cZ (aa (av bT (aa (aK (aM (ao hr)) (af (pv 0)) (aa ag) (fun _ _=>rfl))) (aa (av cZ (aa (aK (aM (ao hr)) (af (pv 0)) (aa ag) (fun _ _=>rfl))) (aa ag))))) (aa ag))) (aa ag)) (by decide)) (az (eF (av cn (aa (av cZ (af (pv 3)) (aa (av bT (aa (av cn (af (pv 3)) (aa ag))) (aa ag))))) (aa ag)) (fL (pv 0) ag (jY (ao hr)))) (aG (b8 (av cn (aa (av gE (aa (aK (aM (ao hr)) (af (pv 0)) (aa ag) (fun _ _=>rfl))) (aa ag))) (af (pv 1)))))))))
theorem pq:FnScope wT ["_law_cell"] (ay dw):=⟨rfl,rfl,rfl,by decide +kernel,rfl,by decide +kernel,by decide +kernel⟩
set_option maxHeartbeats 4000000 in
theorem xf {f:Addr}{fd:FuncData} (F:Fun K "_law_beside" "_law_beside" dw f fd) (T:Txt mg):
  FnOk P w K mg base CX0 1 f fd ["_law_cell"] (spV 1 G.cQ):=by
 have nd:=pq.nd
 refine fnV F pq rfl (by decide) (fun cdv A outer s H E hr=>?_)
 exact (aG (b8 (dj (ae (aa (cl (ae (aa (av jH (aa (aK (aM (ao hr)) (af (pv 0)) (aa ag) (fun _ _=>rfl))) (aa ag))) (ae (aa (aK (aM (ao hr)) (af (pv 0)) (aa ag) (fun _ _=>rfl))) ai)))) (ae (aa (cl (ae (aa (aK (aM (ao hr)) (af (pv 0)) (aa ag) (fun _ _=>rfl))) (ae (aa (av jH (aa (aK (aM (ao hr)) (af (pv 0)) (aa ag) (fun _ _=>rfl))) (aa ag))) ai)))) (ae (aa (cl (ae (aa (aK (aM (ao hr)) (af (pv 0)) (aa ag) (fun _ _=>rfl))) (ae (aa (av bT (aa (aK (aM (ao hr)) (af (pv 0)) (aa ag) (fun _ _=>rfl))) (aa ag))) ai)))) (ae (aa (cl (ae (aa (av bT (aa (aK (aM (ao hr)) (af (pv 0)) (aa ag) (fun _ _=>rfl))) (aa ag))) (ae (aa (aK (aM (ao hr)) (af (pv 0)) (aa ag) (fun _ _=>rfl))) ai)))) ai)))))))
theorem px:FnScope wU ["_law_some","_law_begin"] (ay dY):=⟨rfl,rfl,rfl,by decide +kernel,rfl,by decide +kernel,by decide +kernel⟩
set_option maxHeartbeats 4000000 in
theorem xg {f:Addr}{fd:FuncData} (F:Fun K "_law_part" "_law_part" dY f fd) (T:Txt mg)
  {f_l_beside:Addr}{fd_l_beside:FuncData} (U_l_beside:Fun K "_law_beside" "_law_beside" dw f_l_beside fd_l_beside) (G_l_beside:FnOk P w K mg base CX0 1 f_l_beside fd_l_beside ["_law_cell"] (spV 1 G.cQ)) (b_l_beside:bh K fd_l_beside ["_law_cell"] []) (m_l_beside:mg "_law_beside" = some (.ref f_l_beside)):
  FnOk P w K mg base CX0 2 f fd ["_law_some","_law_begin"] (spV 2 G.gQ):=by
 have nd:=px.nd
 refine fnV F px rfl (by decide) (fun cdv A outer s H E hr=>?_)
 exact (az (aQ (i:=2) nd rfl (by first | exact Or.inl rfl | exact Or.inr rfl) (dJ (vT rfl (kP hr)) rfl T.b_dict wL (ae (aa (iq (own:=["_law_cell"]) (caps:=[]) rfl (ed (ay dY) ["_law_some","_law_begin","_law_there","_law_met","_law_waiting","_law_other"] (by decide +kernel)) (by decide) (eG (af (pv 0))) (fun Y=>(bm (i:=0) (show (["_law_cell"]:List Str).Nodup by decide +kernel) rfl (by first | exact Or.inl rfl | exact Or.inr rfl) (by decide))) (fun Y=>gC) (fun Y=>(cl (ae (af (pv 0)) (ae (aa gx) ai)))))) ai)) (by decide)) (az (aQ (i:=3) nd rfl (by first | exact Or.inl rfl | exact Or.inr rfl) (vW (ao hr) (cy (pv 1)) gx) (by decide)) (az (aQ (i:=4) nd rfl (by first | exact Or.inl rfl | exact Or.inr rfl) (dj (ae (af (pv 1)) ai)) (by decide)) (az (uX 1000000 PassesOwn.never (bB (fK (ao hr)) (af (pv 4)) (aa (dj ai)) (bE _)) (aG (dN (fx:=[0,1]) PassesOwn.never rfl (eG (aa (aN G_l_beside (hr.mono (by omega)) rfl m_l_beside U_l_beside.kp b_l_beside (ae (aa (vp gG PySem.F.plainAttrs_list PySem.F.slot_list_pop PySem.F.type_list_pop vq (pv 4))) ai)))) (bm (i:=5) nd rfl (by first | exact Or.inl rfl | exact Or.inr rfl) (by decide)) (aG (dk (VW.vt (jy (bB (nU (ao hr)) (af (pv 5)) (af (pv 2)) rfl) (mT (bB (nV (ao hr)) (af (pv 5)) (af (pv 3)) rfl)))) (az (eF gx (fL (pv 3) (cy (pv 5)) (jZ (ao hr)))) (aG (ik (iA gG PySem.F.plainAttrs_list PySem.F.slot_list_append PySem.F.type_list_append jT (pv 4) (ae (af (pv 5)) ai))))) eE)) (by decide) m5))) (aG (b8 (dJ gF rfl T.b_tuple f7 (ae (aa (br (vN rfl (ao hr)) (by rfl) T.b_sorted wN (ae (af (pv 3)) ai))) ai))))))))
theorem py:FnScope wV ["_law_left_here","_law_most"] (ay fj):=⟨rfl,rfl,rfl,by decide +kernel,rfl,by decide +kernel,by decide +kernel⟩
set_option maxHeartbeats 4000000 in
theorem xh {f:Addr}{fd:FuncData} (F:Fun K "_law_grown" "_law_grown" fj f fd) (T:Txt mg)
  {f_l_pick:Addr}{fd_l_pick:FuncData} (U_l_pick:Fun K "_law_pick" "_law_pick" dv f_l_pick fd_l_pick) (G_l_pick:FnOk P w K mg base CX0 1 f_l_pick fd_l_pick ["_law_left_here","_law_many"] (spV 2 G.aR)) (b_l_pick:bh K fd_l_pick ["_law_left_here","_law_many"] []) (m_l_pick:mg "_law_pick" = some (.ref f_l_pick))
  {f_l_beside:Addr}{fd_l_beside:FuncData} (U_l_beside:Fun K "_law_beside" "_law_beside" dw f_l_beside fd_l_beside) (G_l_beside:FnOk P w K mg base CX0 1 f_l_beside fd_l_beside ["_law_cell"] (spV 1 G.cQ)) (b_l_beside:bh K fd_l_beside ["_law_cell"] []) (m_l_beside:mg "_law_beside" = some (.ref f_l_beside)):
  FnOk P w K mg base CX0 2 f fd ["_law_left_here","_law_most"] (spV 2 G.fc):=by
 have nd:=py.nd
 refine fnV F py rfl (by decide) (fun cdv A outer s H E hr=>?_)
 exact (az (aQ (i:=2) nd rfl (by first | exact Or.inl rfl | exact Or.inr rfl) (dj (ae (aa (cl (ae (aa ag) (ae (aa ag) ai)))) ai)) (by decide)) (az (dN (fx:=[0,1]) PassesOwn.never rfl (fG rfl T.b_range (ae (aa (aN G_l_pick (hr.mono (by omega)) rfl m_l_pick U_l_pick.kp b_l_pick (ae (af (pv 0)) (ae (af (pv 1)) ai)))) ai)) (bm (i:=3) nd rfl (by first | exact Or.inl rfl | exact Or.inr rfl) (by decide)) (az (aQ (i:=4) nd rfl (by first | exact Or.inl rfl | exact Or.inr rfl) (aK (aM (ao hr)) (aa (aN G_l_beside (hr.mono (by omega)) rfl m_l_beside U_l_beside.kp b_l_beside (ae (aa (aK (aM (ao hr)) (af (pv 2)) (aa (aN G_l_pick (hr.mono (by omega)) rfl m_l_pick U_l_pick.kp b_l_pick (ae (af (pv 0)) (ae (aa (br dq (by rfl) T.b_len du (ae (af (pv 2)) ai))) ai)))) (fun _ _=>rfl))) ai))) (aa (aN G_l_pick (hr.mono (by omega)) rfl m_l_pick U_l_pick.kp b_l_pick (ae (af (pv 0)) (ae (aa ag) ai)))) (fun _ _=>rfl)) (by decide)) (aG (dk (VW.vt (jy (bB (nV (ao hr)) (af (pv 4)) (af (pv 2)) rfl) (jy (nW iy iy (aa ag) (aa (aK (aM (ao hr)) (af (pv 4)) (aa ag) (fun _ _=>rfl))) (aa ag)) (mT (nW iy iy (aa ag) (aa (aK (aM (ao hr)) (af (pv 4)) (aa ag) (fun _ _=>rfl))) (aa ag)))))) (aG (ik (iA gG PySem.F.plainAttrs_list PySem.F.slot_list_append PySem.F.type_list_append jT (pv 2) (ae (af (pv 4)) ai)))) eE))) (by decide) ip) (aG (b8 (cy (pv 2))))))
theorem pz:FnScope wW ["_law_left_here","_law_most"] (ay cS):=⟨rfl,rfl,rfl,by decide +kernel,rfl,by decide +kernel,by decide +kernel⟩
set_option maxHeartbeats 4000000 in
theorem xi {f:Addr}{fd:FuncData} (F:Fun K "_law_field" "_law_field" cS f fd) (T:Txt mg)
  {f_l_pick:Addr}{fd_l_pick:FuncData} (U_l_pick:Fun K "_law_pick" "_law_pick" dv f_l_pick fd_l_pick) (G_l_pick:FnOk P w K mg base CX0 1 f_l_pick fd_l_pick ["_law_left_here","_law_many"] (spV 2 G.aR)) (b_l_pick:bh K fd_l_pick ["_law_left_here","_law_many"] []) (m_l_pick:mg "_law_pick" = some (.ref f_l_pick))
  {f_l_grown:Addr}{fd_l_grown:FuncData} (U_l_grown:Fun K "_law_grown" "_law_grown" fj f_l_grown fd_l_grown) (G_l_grown:FnOk P w K mg base CX0 2 f_l_grown fd_l_grown ["_law_left_here","_law_most"] (spV 2 G.fc)) (b_l_grown:bh K fd_l_grown ["_law_left_here","_law_most"] []) (m_l_grown:mg "_law_grown" = some (.ref f_l_grown))
  {f_l_part:Addr}{fd_l_part:FuncData} (U_l_part:Fun K "_law_part" "_law_part" dY f_l_part fd_l_part) (G_l_part:FnOk P w K mg base CX0 2 f_l_part fd_l_part ["_law_some","_law_begin"] (spV 2 G.gQ)) (b_l_part:bh K fd_l_part ["_law_some","_law_begin"] []) (m_l_part:mg "_law_part" = some (.ref f_l_part)):
  FnOk P w K mg base CX0 3 f fd ["_law_left_here","_law_most"] (spV 2 G.fX):=by
 have nd:=pz.nd
 refine fnV F pz rfl (by decide) (fun cdv A outer s H E hr=>?_)
 exact (az (aQ (i:=2) nd rfl (by first | exact Or.inl rfl | exact Or.inr rfl) (aN G_l_pick (hr.mono (by omega)) rfl m_l_pick U_l_pick.kp b_l_pick (ae (af (pv 0)) (ae (aa ag) ai))) (by decide)) (az (aQ (i:=3) nd rfl (by first | exact Or.inl rfl | exact Or.inr rfl) (av bT (aa ag) (aa (aN G_l_pick (hr.mono (by omega)) rfl m_l_pick U_l_pick.kp b_l_pick (ae (af (pv 0)) (ae (aa ag) ai))))) (by decide)) (az (aQ (i:=4) nd rfl (by first | exact Or.inl rfl | exact Or.inr rfl) (av bT (aa ag) (aa (aN G_l_pick (hr.mono (by omega)) rfl m_l_pick U_l_pick.kp b_l_pick (ae (af (pv 0)) (ae (aa (br (ku rfl (ao hr)) (by rfl) T.b_max kN (ae (aa ag) (ae (aa (br (kw rfl (ao hr)) (by rfl) T.b_min kO (ae (aa ag) (ae (aa (av gE (af (pv 1)) (af (pv 3)))) ai)))) ai)))) ai))))) (by decide)) (az (j9 (i:=5) (own:=["_law_k"]) (caps:=[3]) nd rfl (by first | exact Or.inl rfl | exact Or.inr rfl) rfl (ed (ay cS) ["_law_left_here","_law_most","_law_way","_law_wide","_law_high","_law_cells","_law_k","_law_part_here","_law_row","_law_column"] (by decide +kernel)) (by decide) (fG rfl T.b_range (ae (aa (av cZ (af (pv 4)) (af (pv 3)))) ai)) (fun Y=>(bm (i:=0) (show (["_law_k","_law_wide"]:List Str).Nodup by decide +kernel) rfl (by first | exact Or.inl rfl | exact Or.inr rfl) (by decide))) (fun Y=>gC) (fun Y=>(cl (ae (aa (av gE (af (pv 0)) (af (pv 1)))) (ae (aa (av cn (af (pv 0)) (af (pv 1)))) ai)))) (by decide)) (az (dk (VW.vt (ii (bB (fJ (ao hr)) (af (pv 2)) (aa ag) (bE _)) (jx (bB (fJ (ao hr)) (af (pv 2)) (aa ag) (bE _))))) (aG (dN (fx:=[0,1]) PassesOwn.never rfl (fG rfl T.b_range (ae (aa (aN G_l_pick (hr.mono (by omega)) rfl m_l_pick U_l_pick.kp b_l_pick (ae (af (pv 0)) (ae (aa (av bT (aa ag) (aa (av gE (aa (br dq (by rfl) T.b_len du (ae (af (pv 5)) ai))) (aa ag))))) ai)))) ai)) (bm (i:=6) nd rfl (by first | exact Or.inl rfl | exact Or.inr rfl) (by decide)) (aG (ik (iA gG PySem.F.plainAttrs_list PySem.F.slot_list_pop PySem.F.type_list_pop vv (pv 5) (ae (aa (aN G_l_pick (hr.mono (by omega)) rfl m_l_pick U_l_pick.kp b_l_pick (ae (af (pv 0)) (ae (aa (br dq (by rfl) T.b_len du (ae (af (pv 5)) ai))) ai)))) ai)))) (by decide) ip)) (aG (dk (bB (fJ (ao hr)) (af (pv 2)) (aa ag) (bE _)) (aG (j9 (i:=5) (own:=["_law_cell"]) (caps:=[]) nd rfl (by first | exact Or.inl rfl | exact Or.inr rfl) rfl (ed (ay cS) ["_law_left_here","_law_most","_law_way","_law_wide","_law_high","_law_cells","_law_k","_law_part_here","_law_row","_law_column"] (by decide +kernel)) (by decide) (eG (af (pv 5))) (fun Y=>(bm (i:=0) (show (["_law_cell"]:List Str).Nodup by decide +kernel) rfl (by first | exact Or.inl rfl | exact Or.inr rfl) (by decide))) (fun Y=>(m7 (bB (fJ (ao hr)) (aa (av cZ (aa (av cn (aa (aK (aM (ao hr)) (af (pv 0)) (aa ag) (fun _ _=>rfl))) (aa ag))) (aa (av cn (aa (av cn (aa (aK (aM (ao hr)) (af (pv 0)) (aa ag) (fun _ _=>rfl))) (aa ag))) (aa ag))))) (aa ag) (bE _)))) (fun Y=>(cy (pv 0))) (by decide))) (aG (dk (bB jI (af (pv 2)) (aa ag) (bE _)) (aG (aQ (i:=5) nd rfl (by first | exact Or.inl rfl | exact Or.inr rfl) (aN G_l_grown (hr.mono (by omega)) rfl m_l_grown U_l_grown.kp b_l_grown (ae (af (pv 0)) (ae (af (pv 1)) ai))) (by decide))) eE))))) (az (aQ (i:=7) nd rfl (by first | exact Or.inl rfl | exact Or.inr rfl) (aN G_l_part (hr.mono (by omega)) rfl m_l_part U_l_part.kp b_l_part (ae (af (pv 5)) (ae (aa (aK (aM (ao hr)) (af (pv 5)) (aa (aN G_l_pick (hr.mono (by omega)) rfl m_l_pick U_l_pick.kp b_l_pick (ae (af (pv 0)) (ae (aa (br dq (by rfl) T.b_len du (ae (af (pv 5)) ai))) ai)))) (fun _ _=>rfl))) ai))) (by decide)) (az (eF (iq (own:=["_law_k"]) (caps:=[0]) rfl (ed (ay cS) ["_law_left_here","_law_most","_law_way","_law_wide","_law_high","_law_cells","_law_k","_law_part_here","_law_row","_law_column"] (by decide +kernel)) (by decide) (fG rfl T.b_range (ae (aa ag) ai)) (fun Y=>(bm (i:=0) (show (["_law_k","_law_left_here"]:List Str).Nodup by decide +kernel) rfl (by first | exact Or.inl rfl | exact Or.inr rfl) (by decide))) (fun Y=>gC) (fun Y=>(aK (aM (ao hr)) (aa (dj (ae (aa ag) (ae (aa ag) (ae (aa ag) (ae (aa ag) ai)))))) (aa (aN G_l_pick (hr.mono (by omega)) rfl m_l_pick U_l_pick.kp b_l_pick (ae (af (pv 1)) (ae (aa ag) ai)))) (fun _ _=>rfl)))) (wA rfl (dM (bm (i:=8) nd rfl (by first | exact Or.inl rfl | exact Or.inr rfl) (by decide)) (dM (bm (i:=9) nd rfl (by first | exact Or.inl rfl | exact Or.inr rfl) (by decide)) io)))) (aG (b8 (dJ gF rfl T.b_tuple f7 (ae (aa (iq (own:=["_law_cell"]) (caps:=[8,9]) rfl (ed (ay cS) ["_law_left_here","_law_most","_law_way","_law_wide","_law_high","_law_cells","_law_k","_law_part_here","_law_row","_law_column"] (by decide +kernel)) (by decide) (eG (af (pv 7))) (fun Y=>(bm (i:=0) (show (["_law_cell","_law_row","_law_column"]:List Str).Nodup by decide +kernel) rfl (by first | exact Or.inl rfl | exact Or.inr rfl) (by decide))) (fun Y=>gC) (fun Y=>(cl (ae (aa (av bT (aa (aK (aM (ao hr)) (af (pv 0)) (aa ag) (fun _ _=>rfl))) (af (pv 1)))) (ae (aa (av bT (aa (aK (aM (ao hr)) (af (pv 0)) (aa ag) (fun _ _=>rfl))) (af (pv 2)))) ai)))))) ai)))))))))))
theorem pA:FnScope wX ["_law_walk_here"] (ay fk):=⟨rfl,rfl,rfl,by decide +kernel,rfl,by decide +kernel,by decide +kernel⟩
set_option maxHeartbeats 4000000 in
theorem xj {f:Addr}{fd:FuncData} (F:Fun K "_law_gone" "_law_gone" fk f fd) (T:Txt mg):
  FnOk P w K mg base CX0 1 f fd ["_law_walk_here"] (spV 1 G.ff):=by
 have nd:=pA.nd
 refine fnV F pA rfl (by decide) (fun cdv A outer s H E hr=>?_)
 exact (az (aQ (i:=1) nd rfl (by first | exact Or.inl rfl | exact Or.inr rfl) nN (by decide)) (az (dN (fx:=[0]) PassesOwn.never rfl (ny rfl T.b_zip (ae (af (pv 0)) (ae (aa (jN (af (pv 0)) (jM ag) jL)) ai))) (jB rfl (dM (bm (i:=2) nd rfl (by first | exact Or.inl rfl | exact Or.inr rfl) (by decide)) (dM (bm (i:=3) nd rfl (by first | exact Or.inl rfl | exact Or.inr rfl) (by decide)) io))) (az (aQ (i:=4) nd rfl (by first | exact Or.inl rfl | exact Or.inr rfl) (cl (ae (aa (br (kw rfl (ao hr)) (by rfl) T.b_min kO (ae (af (pv 2)) (ae (af (pv 3)) ai)))) (ae (aa (br (ku rfl (ao hr)) (by rfl) T.b_max kN (ae (af (pv 2)) (ae (af (pv 3)) ai)))) ai))) (by decide)) (aG (eF (av bT (aa (nP (ao hr) (pv 1) (cy (pv 4)) ag)) (aa ag)) (fL (pv 1) (cy (pv 4)) (jZ (ao hr)))))) (by decide) nA) (aG (b8 (cy (pv 1))))))
theorem pB:FnScope wY ["_law_left_here","_law_field_here"] (ay dZ):=⟨rfl,rfl,rfl,by decide +kernel,rfl,by decide +kernel,by decide +kernel⟩
set_option maxHeartbeats 4000000 in
theorem xk {f:Addr}{fd:FuncData} (F:Fun K "_law_walk" "_law_walk" dZ f fd) (T:Txt mg)
  {f_l_pick:Addr}{fd_l_pick:FuncData} (U_l_pick:Fun K "_law_pick" "_law_pick" dv f_l_pick fd_l_pick) (G_l_pick:FnOk P w K mg base CX0 1 f_l_pick fd_l_pick ["_law_left_here","_law_many"] (spV 2 G.aR)) (b_l_pick:bh K fd_l_pick ["_law_left_here","_law_many"] []) (m_l_pick:mg "_law_pick" = some (.ref f_l_pick))
  {f_l_beside:Addr}{fd_l_beside:FuncData} (U_l_beside:Fun K "_law_beside" "_law_beside" dw f_l_beside fd_l_beside) (G_l_beside:FnOk P w K mg base CX0 1 f_l_beside fd_l_beside ["_law_cell"] (spV 1 G.cQ)) (b_l_beside:bh K fd_l_beside ["_law_cell"] []) (m_l_beside:mg "_law_beside" = some (.ref f_l_beside)):
  FnOk P w K mg base CX0 2 f fd ["_law_left_here","_law_field_here"] (spV 2 G.fY):=by
 have nd:=pB.nd
 refine fnV F pB rfl (by decide) (fun cdv A outer s H E hr=>?_)
 exact (az (aQ (i:=2) nd rfl (by first | exact Or.inl rfl | exact Or.inr rfl) (dj (ae (aa (aK (aM (ao hr)) (af (pv 1)) (aa (aN G_l_pick (hr.mono (by omega)) rfl m_l_pick U_l_pick.kp b_l_pick (ae (af (pv 0)) (ae (aa (br dq (by rfl) T.b_len du (ae (af (pv 1)) ai))) ai)))) (fun _ _=>rfl))) ai)) (by decide)) (az (dN (fx:=[0,1]) PassesOwn.never rfl (fG rfl T.b_range (ae (aa (aN G_l_pick (hr.mono (by omega)) rfl m_l_pick U_l_pick.kp b_l_pick (ae (af (pv 0)) (ae (aa (aK (aM (ao hr)) (aa (dj (ae (aa ag) (ae (aa ag) ai)))) (aa (dJ nq rfl T.b_int pg (ae (aa (jv (fJ (ao hr)) (aa (aN G_l_pick (hr.mono (by omega)) rfl m_l_pick U_l_pick.kp b_l_pick (ae (af (pv 0)) (ae (aa ag) ai)))) (aa ag) (bE _))) ai))) (fun _ _=>rfl))) ai)))) ai)) (bm (i:=3) nd rfl (by first | exact Or.inl rfl | exact Or.inr rfl) (by decide)) (az (j9 (i:=4) (own:=["_law_cell"]) (caps:=[1]) nd rfl (by first | exact Or.inl rfl | exact Or.inr rfl) rfl (ed (ay dZ) ["_law_left_here","_law_field_here","_law_walk_here","_law_k","_law_some"] (by decide +kernel)) (by decide) (eG (aa (aN G_l_beside (hr.mono (by omega)) rfl m_l_beside U_l_beside.kp b_l_beside (ae (aa (aK (aM (ao hr)) (af (pv 2)) (aa (vf ag)) (fun _ _=>rfl))) ai)))) (fun Y=>(bm (i:=0) (show (["_law_cell","_law_field_here"]:List Str).Nodup by decide +kernel) rfl (by first | exact Or.inl rfl | exact Or.inr rfl) (by decide))) (fun Y=>(m7 (bB (nU (ao hr)) (af (pv 0)) (af (pv 1)) rfl))) (fun Y=>(cy (pv 0))) (by decide)) (aG (dk (bB (fK (ao hr)) (af (pv 4)) (aa (dj ai)) (bE _)) (aG (ik (iA gG PySem.F.plainAttrs_list PySem.F.slot_list_append PySem.F.type_list_append jT (pv 2) (ae (aa (aK (aM (ao hr)) (af (pv 4)) (aa (aN G_l_pick (hr.mono (by omega)) rfl m_l_pick U_l_pick.kp b_l_pick (ae (af (pv 0)) (ae (aa (br dq (by rfl) T.b_len du (ae (af (pv 4)) ai))) ai)))) (fun _ _=>rfl))) ai)))) eE))) (by decide) ip) (aG (b8 (dJ gF rfl T.b_tuple f7 (ae (af (pv 2)) ai))))))
theorem pC:FnScope wZ ["_law_script"] (ay da):=⟨rfl,rfl,rfl,by decide +kernel,rfl,by decide +kernel,by decide +kernel⟩
set_option maxHeartbeats 4000000 in
theorem xl {f:Addr}{fd:FuncData} (F:Fun K "law" "law" da f fd) (T:Txt mg)
  {f_l_left:Addr}{fd_l_left:FuncData} (U_l_left:Fun K "_law_left" "_law_left" fi f_l_left fd_l_left) (G_l_left:FnOk P w K mg base CX0 1 f_l_left fd_l_left ["_law_script","_law_turn"] (spV 2 G.e8)) (b_l_left:bh K fd_l_left ["_law_script","_law_turn"] []) (m_l_left:mg "_law_left" = some (.ref f_l_left))
  {f_l_walk:Addr}{fd_l_walk:FuncData} (U_l_walk:Fun K "_law_walk" "_law_walk" dZ f_l_walk fd_l_walk) (G_l_walk:FnOk P w K mg base CX0 2 f_l_walk fd_l_walk ["_law_left_here","_law_field_here"] (spV 2 G.fY)) (b_l_walk:bh K fd_l_walk ["_law_left_here","_law_field_here"] []) (m_l_walk:mg "_law_walk" = some (.ref f_l_walk))
  {f_l_field:Addr}{fd_l_field:FuncData} (U_l_field:Fun K "_law_field" "_law_field" cS f_l_field fd_l_field) (G_l_field:FnOk P w K mg base CX0 3 f_l_field fd_l_field ["_law_left_here","_law_most"] (spV 2 G.fX)) (b_l_field:bh K fd_l_field ["_law_left_here","_law_most"] []) (m_l_field:mg "_law_field" = some (.ref f_l_field))
  {f_l_gone:Addr}{fd_l_gone:FuncData} (U_l_gone:Fun K "_law_gone" "_law_gone" fk f_l_gone fd_l_gone) (G_l_gone:FnOk P w K mg base CX0 1 f_l_gone fd_l_gone ["_law_walk_here"] (spV 1 G.ff)) (b_l_gone:bh K fd_l_gone ["_law_walk_here"] []) (m_l_gone:mg "_law_gone" = some (.ref f_l_gone))
  {f_gone:Addr}{fd_gone:FuncData} (U_gone:Fun K "gone" "gone" fh f_gone fd_gone) (G_gone:FnOk P w K mg base CX0 2 f_gone fd_gone ["walk"] (spV 1 G.cq)) (b_gone:bh K fd_gone ["walk"] []) (m_gone:mg "gone" = some (.ref f_gone)):
  FnOk P w K mg base CX0 4 f fd ["_law_script"] (spV 1 G.fZ):=by
 have nd:=pC.nd
 refine fnV F pC rfl (by decide) (fun cdv A outer s H E hr=>?_)
 exact (az (dN (fx:=[0]) PassesOwn.never rfl (fG rfl T.b_range (ae (aa ag) ai)) (bm (i:=1) nd rfl (by first | exact Or.inl rfl | exact Or.inr rfl) (by decide)) (az (aQ (i:=2) nd rfl (by first | exact Or.inl rfl | exact Or.inr rfl) (aN G_l_left (hr.mono (by omega)) rfl m_l_left U_l_left.kp b_l_left (ae (af (pv 0)) (ae (af (pv 1)) ai))) (by decide)) (az (aQ (i:=3) nd rfl (by first | exact Or.inl rfl | exact Or.inr rfl) (aN G_l_walk (hr.mono (by omega)) rfl m_l_walk U_l_walk.kp b_l_walk (ae (af (pv 2)) (ae (aa (aN G_l_field (hr.mono (by omega)) rfl m_l_field U_l_field.kp b_l_field (ae (af (pv 2)) (ae (aa ag) ai)))) ai))) (by decide)) (az (aQ (i:=4) nd rfl (by first | exact Or.inl rfl | exact Or.inr rfl) (dJ gF rfl T.b_tuple f7 (ae (aa (oF (ao hr) rfl T.b_sorted (aa (aN G_l_gone (hr.mono (by omega)) rfl m_l_gone U_l_gone.kp b_l_gone (ae (af (pv 3)) ai))))) ai)) (by decide)) (az (aQ (i:=5) nd rfl (by first | exact Or.inl rfl | exact Or.inr rfl) (aN G_gone (hr.mono (by omega)) rfl m_gone U_gone.kp b_gone (ae (af (pv 3)) ai)) (by decide)) (az (dk (VW.vt (ii (uP (vo (aa (vm rfl T.b_isinstance wM rfl T.b_tuple f7 (af (pv 5)))))) (ii (bB (fK (ao hr)) (af (pv 5)) (af (pv 4)) (bE _)) (jx (bB (fK (ao hr)) (aa (br (oG hr.gd (kP hr)) (by rfl) T.b_repr ph (ae (af (pv 5)) ai))) (aa (br (oG hr.gd (kP hr)) (by rfl) T.b_repr ph (ae (af (pv 4)) ai))) (bE _)))))) (aG (b8 gx)) eE) (aG (dk (VW.vt (ii (bB (fK (ao hr)) (aa (br (wv rfl) (by rfl) T.b_sum wO (ae (aa (iq (own:=["_law_lane","_law_many"]) (caps:=[]) rfl (ed (ay da) ["_law_script","_law_turn","_law_left_here","_law_walk_here","_law_due","_law_found"] (by decide +kernel)) (by decide) (eG (af (pv 5))) (fun Y=>(jB rfl (dM (bm (i:=0) (show (["_law_lane","_law_many"]:List Str).Nodup by decide +kernel) rfl (by first | exact Or.inl rfl | exact Or.inr rfl) (by decide)) (dM (bm (i:=1) (show (["_law_lane","_law_many"]:List Str).Nodup by decide +kernel) rfl (by first | exact Or.inl rfl | exact Or.inr rfl) (by decide)) io)))) (fun Y=>gC) (fun Y=>(cy (pv 1))))) ai))) (aa (av jH (aa (br dq (by rfl) T.b_len du (ae (af (pv 3)) ai))) (aa ag))) (bE _)) (jx (bB (fK (ao hr)) (aa (aN G_gone (hr.mono (by omega)) rfl m_gone U_gone.kp b_gone (ae (af (pv 3)) ai))) (af (pv 4)) (bE _))))) (aG (b8 gx)) eE))))))) (by decide) ip) (aG (b8 (jv (fJ (ao hr)) (aa (aN G_gone (hr.mono (by omega)) rfl m_gone U_gone.kp b_gone (ae (aa (cl (ae (aa (cl (ae (aa ag) (ae (aa ag) ai)))) ai))) ai))) (aa (cl ai)) (bE _)))))
end
end K26
namespace G
open PySem L2
noncomputable abbrev iI (i:Int):Vl:=.im (.int i)
noncomputable def cM (p:Int×Int):Im:=.tup [.int p.1,.int p.2]
noncomputable abbrev cT (ps:List (Int×Int)):Vl:=.im (.tup (ps.map cM))
noncomputable abbrev cL (ps:List (Int×Int)):Vl:=.lst (ps.map cM)
noncomputable abbrev lf (d s t:Int):Vl:=.lst [.int d,.int s,.int t]
noncomputable def LOk (n:Nat) (h:Vl):Prop:=∃ d s t,h=lf d s t∧0≤d∧0≤s∧s<2 ^ 62∧0≤t∧t+n<2 ^ 40
theorem LOk.mono {n m:Nat}{h:Vl} (x:LOk n h) (e:m≤n):LOk m h:=by
 obtain⟨d,s,t,rfl,h1,h2,h3,h4,h5⟩:=x
 exact⟨d,s,t,rfl,h1,h2,h3,h4,by lia⟩
theorem LOk.lst {n:Nat}{h:Vl} (x:LOk n h):∃ q,h=.lst q:=by
 obtain⟨d,s,t,rfl,_⟩:=x
 exact⟨_,rfl⟩
theorem cb {n:Nat}{h:Vl}{m:Int} (x:LOk (n+1) h) (hm0:0<m) (hm1:m<1073741824):∃ v h',aR [h,iI m]=some (iI v,[h',iI m])∧0≤v∧v<m∧LOk n h':=by
 obtain⟨d,s,t,rfl,h1,h2,h3,h4,h5⟩:=x
 have a0:∀ d:Int,atI [Im.int d,.int s,.int t] 0=some (.int d):=fun d=>rfl
 have nz:¬ m=0:=by lia
 by_cases hd:0<d
 ·refine⟨d % m,lf (d / m) s t,?_,Int.emod_nonneg _ (by lia),Int.emod_lt_of_pos _ hm0,d / m,s,t,rfl,Int.ediv_nonneg h1 (by lia),h2,h3,h4,by lia⟩
  have a1:atI [Im.int d,.int s,.int t] 0=some (.int d):=rfl
  simp -implicitDefEqProofs [aR,kF,hd,hm0,hm1,a1,ixN]
 ·obtain⟨mx,hmx⟩:∃ mx:Int,mx=(s+(t+1) * 104729) * 48271 % 2305843009213693951:=⟨_,rfl⟩
  obtain⟨s',hs'⟩:∃ s':Int,s'=mx * (mx % 1009+69621) % 2305843009213693951:=⟨_,rfl⟩
  have q0:0≤s':=by rw[hs'];exact Int.emod_nonneg _ (by decide)
  have q1:s'<2 ^ 62:=by
   rw[hs']
   have:=Int.emod_lt_of_pos (mx * (mx % 1009+69621)) (show (0:Int)<2305843009213693951 by decide)
   lia
  have m1:bO (t+1) 104729=true:=eU (by decide) (by decide)
  have m2:bO (s+(t+1) * 104729) 48271=true:=eU (by decide) (by decide)
  have m3:bO mx (mx % 1009+69621)=true:=by
   have e1:=Int.emod_nonneg mx (show (1009:Int)≠0 by decide)
   have e2:=Int.emod_lt_of_pos mx (show (0:Int)<1009 by decide)
   exact eU (by lia) (by lia)
  refine⟨s' / 1000003 % m,lf d s' (t+1),?_,Int.emod_nonneg _ (by lia),Int.emod_lt_of_pos _ hm0,d,s',t+1,rfl,h1,q0,q1,by lia,by lia⟩
  have a1:atI [Im.int d,.int s,.int t] 0=some (.int d):=rfl
  have a2:atI [Im.int d,.int s,.int t] 2=some (.int t):=rfl
  have a3:atI [Im.int d,.int s,.int (t+1)] 1=some (.int s):=rfl
  have a4:atI [Im.int d,.int s,.int (t+1)] 2=some (.int (t+1)):=rfl
  have a5:atI [Im.int d,.int s',.int (t+1)] 1=some (.int s'):=rfl
  simp -implicitDefEqProofs [aR,kF,hd,hm0,hm1,a1,a2,a3,a4,a5,ixN,m1,m2,m3,← hmx,← hs']
theorem pE:∀ (xs:List Int) (o0 o1 o3 o4:Option Vl) (s:Int),0≤s→s<2 ^ 62→∃ o3' s',0≤s'∧s'<2 ^ 62∧ba (gN 3) fV (xs.map .int) [o0,o1,some (iI s),o3,o4]=some (.nx,[o0,o1,some (iI s'),o3',o4])
 | [],o0,o1,o3,o4,s,h0,h1=>⟨o3,s,h0,h1,rfl⟩
 | x::xs,o0,o1,o3,o4,s,h0,h1=>by
  obtain⟨s2,hs2⟩:∃ s2:Int,s2=(s * 69621+x % 2147483587+13) % 2305843009213693951:=⟨_,rfl⟩
  have q0:0≤s2:=by rw[hs2];exact Int.emod_nonneg _ (by decide)
  have q1:s2<2 ^ 62:=by
   rw[hs2]
   have:=Int.emod_lt_of_pos (s * 69621+x % 2147483587+13) (show (0:Int)<2305843009213693951 by decide)
   lia
  obtain⟨o3',s',g0,g1,ih⟩:=pE xs o0 o1 (some (iI x)) o4 s2 q0 q1
  refine⟨o3',s',g0,g1,?_⟩
  have m1:bO s 69621=true:=eU (by decide) (by decide)
  rw[List.map_cons,ba]
  dsimp only
  rw[show gN 3 (.im (.int x)) [o0,o1,some (iI s),o3,o4]=some [o0,o1,some (iI s),some (iI x),o4] from rfl]
  show (fV _).bind _=_
  rw[show fV [o0,o1,some (iI s),some (iI x),o4]=some (.nx,[o0,o1,some (iI s2),some (iI x),o4]) by simp -implicitDefEqProofs [fV,m1,← hs2]]
  exact ih
theorem xm {ns:List Int}{k:Int} (hk:0≤k) (hk2:k<1000):∃ h,e8 [.fz (ns.map .int),iI k]=some (h,[.fz (ns.map .int),iI k])∧LOk 1000000 h:=by
 obtain⟨xs,hxs⟩:∃ xs,bP (ns.map Im.int) none (some 63)=xs.map .int:=⟨bP ns none (some 63),oP _ _ _ _⟩
 obtain⟨o3,s,s0,s1,lp⟩:=pE xs (some (.fz (ns.map .int))) (some (iI k)) none none (7+7919 * k) (by lia) (by lia)
 have m0:bO 7919 k=true:=wD (by decide) (by decide)
 have p1:bO (10 ^ 60) (10 ^ 60)=true:=by decide +kernel
 have p2:bO (10 ^ 60 * 10 ^ 60) (10 ^ 60)=true:=by decide +kernel
 have p3:∀ x c:Int,bO x (if 10 ^ 18≤c then 1 else 0)=true:=fun x c=>eU (by split<;>decide) (by split<;>decide)
 have q0:(10:Nat)<2 ^ 64:=by decide
 have q1:(0:Int)<10 ^ 60 * 10 ^ 60 * 10 ^ 60:=by decide
 have key:∀ c:Int,LOk 1000000 (lf (c % (10 ^ 60 * 10 ^ 60 * 10 ^ 60) * (if 10 ^ 18≤c then 1 else 0)) s 0):=fun c=>by
  have h1:=Int.emod_nonneg c (show (10 ^ 60 * 10 ^ 60 * 10 ^ 60:Int)≠0 by decide)
  refine⟨_,_,_,rfl,?_,s0,s1,Int.le_refl 0,by decide⟩
  split
  ·rw[Int.mul_one];exact h1
  ·rw[Int.mul_zero];exact Int.le_refl 0
 have st1:aw 2 (ad vAdd (oV (eC (.int 7))) (oV (ad vMul (oV (eC (.int 7919))) (oSl 1)))) [some (.fz (ns.map .int)),some (iI k),none,none,none]=some (.nx,[some (.fz (ns.map .int)),some (iI k),some (iI (7+7919 * k)),none,none]):=by
  simp -implicitDefEqProofs [m0]
 have st2:bL (bb (oV (eSl (oSl 0) pNone (eJ (eC (.int 63)))))) (gN 3) G.fV [some (.fz (ns.map .int)),some (iI k),some (iI (7+7919 * k)),none,none]=some (.nx,[some (.fz (ns.map .int)),some (iI k),some (iI s),o3,none]):=
  (eV (o:=none) (xs:=xs.map .int) (D1:=[some (.fz (ns.map .int)),some (iI k),some (iI (7+7919 * k)),none,none]) (by simp -implicitDefEqProofs [hxs]) lp).trans rfl
 have rest:∀ c:Int,aw 3 (eIf (kB (ad vGt (oV (au vLen (ab (oSl 0) aNil))) (oV (eC (.int 0))))) (ad vIx (oSl 0) (oV (ad vMod (oSl 1) (oV (au vLen (ab (oSl 0) aNil)))))) (eC (.int 0))) [some (.fz (ns.map .int)),some (iI k),some (iI s),o3,none]=some (.nx,[some (.fz (ns.map .int)),some (iI k),some (iI s),some (iI c),none])→
   ∃ h,e8 [.fz (ns.map .int),iI k]=some (h,[.fz (ns.map .int),iI k])∧LOk 1000000 h:=fun c hc=>by
  refine⟨_,?_,key c⟩
  unfold e8 oS
  refine dX [some (.fz (ns.map .int)),some (iI k),some (iI s),some (iI c),some (iI (10 ^ 60 * 10 ^ 60 * 10 ^ 60))] rfl ((aC st1).trans ((aC st2).trans ((aC hc).trans ((aC (D1:=[some (.fz (ns.map .int)),some (iI k),some (iI s),some (iI c),some (iI (10 ^ 60 * 10 ^ 60 * 10 ^ 60))]) ?_).trans ?_)))) rfl
  ·simp -implicitDefEqProofs [p1,p2,q0,-Int.reducePow,-Nat.reducePow]
  ·simp -implicitDefEqProofs [p3,q0,q1,-Int.reducePow,-Nat.reducePow]
 by_cases hl:0<(ns.length:Int)
 ·obtain⟨j,hj⟩:∃ j:Int,j=k % (ns.length:Int):=⟨_,rfl⟩
  have j0:0≤j:=by rw[hj];exact Int.emod_nonneg _ (by lia)
  have j1:j<ns.length:=by rw[hj];exact Int.emod_lt_of_pos _ hl
  obtain⟨c,hc⟩:∃ c,ns[j.toNat]?=some c:=⟨ns[j.toNat]'(by lia),by simp⟩
  have hat:atI (ns.map Im.int) j=some (.int c):=oM j0 (by rw[List.getElem?_map,hc];rfl)
  refine rest c ?_
  have hl':0<ns.length:=by lia
  simp -implicitDefEqProofs [hl',← hj,hat]
 ·refine rest 0 ?_
  have e:ns=[]:=List.length_eq_zero_iff.mp (by lia)
  subst e
  simp -implicitDefEqProofs
end G
namespace G
open PySem L2
noncomputable def bes (p:Int×Int):List (Int×Int):=[(p.1 - 1,p.2),(p.1,p.2 - 1),(p.1,p.2+1),(p.1+1,p.2)]
theorem kQ (p:Int×Int):cQ [.im (cM p)]=some (cL (bes p),[.im (cM p)]):=by
 have a0:atI [Im.int p.1,.int p.2] 0=some (.int p.1):=rfl
 have a1:atI [Im.int p.1,.int p.2] 1=some (.int p.2):=rfl
 simp -implicitDefEqProofs [cQ,oT,cM,bes,a0,a1]
noncomputable def kM (p:Int×Int):List Im:=[.int p.1,.int p.2]
theorem f8 (p:Int×Int):cM p=.tup (kM p):=rfl
theorem pF {a b:Int×Int} (h:kM a=kM b):a=b:=by
 unfold kM at h
 simp at h
 exact Prod.ext h.1 h.2
theorem kR {a b:Int×Int} (h:cM a=cM b):a=b:=by
 rw[f8,f8] at h
 exact pF (by injection h)
theorem xn (p:Int×Int):Im.keys 7 (kM p)=true:=rfl
noncomputable def uC:Im→Int×Int
 | .tup [.int a,.int b]=>(a,b)
 | _=>(0,0)
theorem pG (p:Int×Int):uC (cM p)=p:=rfl
theorem kS (p:Int×Int):Im.pl 8 (cM p)=true:=rfl
theorem gR:∀ ps:List (Int×Int),Im.pls 8 (ps.map cM)=true
 | []=>rfl
 | p::r=>by rw[List.map_cons,Im.pls,kS,gR r];rfl
theorem pH (a b:Int×Int):aq (cM a) (cM b)=decide (a=b):=by
 show ((a.1 == b.1) && ((a.2 == b.2) && true))=_
 obtain⟨a1,a2⟩:=a
 obtain⟨b1,b2⟩:=b
 by_cases h1:a1=b1<;>by_cases h2:a2=b2<;>simp[h1,h2]
theorem pI (ps:List (Int×Int)) (c:Int×Int):((ps.map cM).any fun x=>aq x (cM c))=decide (c∈ps):=by
 rw[List.any_map,Bool.eq_iff_iff,List.any_eq_true,decide_eq_true_iff]
 constructor
 ·rintro⟨x,hx,e⟩
  have:decide (x=c)=true:=by rw[← pH];exact e
  rw[← of_decide_eq_true this]
  exact hx
 ·intro h
  refine⟨c,h,?_⟩
  show aq (cM c) (cM c)=true
  rw[pH]
  exact decide_eq_true rfl
theorem pJ:∀ (l:List Im) (ks:List (Int×Int)),(∀ x∈l,x∈ks.map cM)→l=(l.map uC).map cM
 | [],_,_=>rfl
 | x::l,ks,h=>by
  obtain⟨p,_,e⟩:=List.mem_map.mp (h x (.head _))
  rw[List.map_cons,List.map_cons,← pJ l ks fun y hy=>h y (.tail _ hy),← e,pG]
theorem xo {l:List Im}{ks:List (Int×Int)} (h:l.Perm (ks.map cM)):∃ ms:List (Int×Int),ms.Perm ks∧l=ms.map cM:=by
 refine⟨l.map uC,?_,pJ l ks fun x hx=>h.mem_iff.mp hx⟩
 have:=List.Perm.map uC h
 rw[List.map_map] at this
 have e:(uC ∘ cM:Int×Int→Int×Int)=id:=funext pG
 rw[e,List.map_id] at this
 exact this
theorem xp {ks:List (Int×Int)} (nd:ks.Nodup) (hl:ks.length≤1000):SrtOk (ks.map cM):=by
 refine⟨⟨by rw[List.length_map];exact hl,fun a ha b hb=>?_,?_⟩,.inl fun d hd=>?_⟩
 ·obtain⟨x,_,rfl⟩:=List.mem_map.mp ha
  obtain⟨y,_,rfl⟩:=List.mem_map.mp hb
  rfl
 ·exact List.Pairwise.map cM (fun a b n e=>n (kR e)) nd
 ·obtain⟨x,_,rfl⟩:=List.mem_map.mp hd
  rfl
theorem pK {kvs:List (List Im×Im)}{k:List Im}:(aH kvs k).isSome=kvs.any fun p=>decide (p.1=k):=by
 unfold aH
 rw[Option.isSome_map,List.isSome_find?]
theorem xq {kvs:List (List Im×Im)}{k k':List Im}{d:Im}:((bR kvs k d).any fun p=>decide (p.1=k'))=((kvs.any fun p=>decide (p.1=k')) || decide (k=k')):=by
 unfold bR
 split
 ·rename_i h
  have e:((kvs.map fun kv=>if kv.1=k then (kv.1,d) else kv).any fun p=>decide (p.1=k'))=kvs.any fun p=>decide (p.1=k'):=by
   rw[List.any_map]
   congr 1
   funext p
   show decide ((if p.1=k then (p.1,d) else p).1=k')=_
   split<;>rfl
  rw[e]
  by_cases z:k=k'
  ·subst z
   rw[h]
   rfl
  ·rw[decide_eq_false z,Bool.or_false]
 ·rw[List.any_append]
  simp
theorem pL:∀ (ps acc:List (List Im×Im)) (k:List Im),((ps.foldl (fun a p=>bR a p.1 p.2) acc).any fun p=>decide (p.1=k))=((acc.any fun p=>decide (p.1=k)) || ps.any fun p=>decide (p.1=k))
 | [],acc,k=>by simp
 | p::ps,acc,k=>by
  rw[List.foldl_cons,pL ps _ k,xq,List.any_cons,Bool.or_assoc]
noncomputable def mt (ks:List (Int×Int)):List (List Im×Im):=ks.map fun c=>(kM c,.bl true)
theorem kT (ks:List (Int×Int)) (c:Int×Int):((mt ks).any fun p=>decide (p.1=kM c))=decide (c∈ks):=by
 unfold mt
 rw[List.any_map,Bool.eq_iff_iff,List.any_eq_true,decide_eq_true_iff]
 constructor
 ·rintro⟨x,hx,e⟩
  have:kM x=kM c:=of_decide_eq_true e
  rw[← pF this]
  exact hx
 ·intro h
  exact⟨c,h,decide_eq_true rfl⟩
theorem xr (cs:List (Int×Int)) (c:Int×Int):(aH (bV (mt cs)) (kM c)).isSome=decide (c∈cs):=by
 rw[pK]
 unfold bV
 rw[pL,kT]
 rfl
theorem xt (ks:List (Int×Int)) (c:Int×Int):(aH (mt ks) (kM c)).isSome=decide (c∈ks):=by rw[pK,kT]
theorem xu {ks:List (Int×Int)}{c:Int×Int} (h:c∉ks):bR (mt ks) (kM c) (.bl true)=mt (ks++[c]):=by
 unfold bR
 rw[if_neg (by rw[kT];simpa using h)]
 unfold mt
 rw[List.map_append]
 rfl
theorem xv (cs:List (Int×Int)):prs? (cs.map fun c=>.tup [cM c,.bl true])=some (mt cs):=by
 induction cs with
 | nil=>rfl
 | cons c r ih=>
  rw[List.map_cons,f8,prs?,ih]
  rfl
theorem xw (ks:List (Int×Int)):((mt ks).map fun p=>Im.tup p.1)=ks.map cM:=by
 unfold mt
 rw[List.map_map]
 rfl
theorem xx (ks:List (Int×Int)):((mt ks).all fun p=>Im.keys 7 p.1)=true:=by
 unfold mt
 rw[List.all_map,List.all_eq_true]
 intro c _
 rfl
end G
namespace G
open PySem L2
noncomputable def unm (cs ks:List (Int×Int)):Nat:=cs.countP fun c=>decide (c∉ks)
theorem xy {cs ks:List (Int×Int)}{c:Int×Int} (h1:c∈cs) (h2:c∉ks):unm cs (ks++[c])<unm cs ks:=by
 unfold unm
 refine ke (fun x hx e=>?_) ⟨c,h1,decide_eq_true h2,decide_eq_false fun z=>z (List.mem_append_right _ (.head _))⟩
 exact decide_eq_true fun z=>of_decide_eq_true e (List.mem_append_left _ z)
structure PIn (cs:List (Int×Int)) (b:Int×Int) (ks ws:List (Int×Int)):Prop where
 nd:ks.Nodup
 beg:b∈ks
 inn:∀ c∈ks,c=b∨c∈cs
 few:ks.length+unm cs ks≤cs.length+1
 wl:ws.length≤ks.length
noncomputable abbrev pD (cs:List (Int×Int)) (b:Int×Int) (ks ws:List (Int×Int)) (o5:Option Vl):SD:=[some (cL cs),some (.im (cM b)),some (.dT (bV (mt cs))),some (.dT (mt ks)),some (cL ws),o5]
theorem xz {cs:List (Int×Int)}{b c:Int×Int}{ks ws:List (Int×Int)} (hl:cs.length≤500) (P:PIn cs b ks ws):
  ∃ ks' ws',fb (pD cs b ks ws (some (.im (cM c))))=some (.nx,pD cs b ks' ws' (some (.im (cM c))))∧PIn cs b ks' ws'∧2 * unm cs ks'+ws'.length≤2 * unm cs ks+ws.length:=by
 have e1:(aH (bV (mt cs)) (kM c)).isSome=decide (c∈cs):=xr cs c
 have e2:(aH (mt ks) (kM c)).isSome=decide (c∈ks):=xt ks c
 have hk:=xn c
 have hkl:=P.few
 have hwl:=P.wl
 by_cases h1:c∈cs
 ·by_cases h2:c∈ks
  ·refine⟨ks,ws,?_,P,Nat.le_refl _⟩
   rw[decide_eq_true h1] at e1
   rw[decide_eq_true h2] at e2
   simp -implicitDefEqProofs [fb,f8,hk,e1,e2]
  ·rw[decide_eq_true h1] at e1
   rw[decide_eq_false h2] at e2
   have u:=xy h1 h2
   refine⟨ks++[c],ws++[c],?_,⟨?_,List.mem_append_left _ P.beg,fun x hx=>?_,?_,by simp;exact P.wl⟩,by simp;lia⟩
   ·have e3:=xu h2
    have l1:(mt ks).length<100000:=by unfold mt;rw[List.length_map];lia
    have l2:ws.length<100000:=by lia
    simp -implicitDefEqProofs [fb,f8,hk,e1,e2,e3,l1,l2,cN]
   ·exact List.nodup_append.mpr ⟨P.nd,List.pairwise_singleton _ _,fun x hx y hy e=>h2 (by rw[List.mem_singleton.mp hy] at e;rw[← e];exact hx)⟩
   ·rcases List.mem_append.mp hx with hx | hx
    ·exact P.inn x hx
    ·rw[List.mem_singleton.mp hx];exact .inr h1
   ·rw[List.length_append,List.length_singleton];lia
 ·refine⟨ks,ws,?_,P,Nat.le_refl _⟩
  rw[decide_eq_false h1] at e1
  simp -implicitDefEqProofs [fb,f8,hk,e1]
theorem pM {cs:List (Int×Int)}{b:Int×Int} (hl:cs.length≤500):∀ (ns:List (Int×Int)) {ks ws:List (Int×Int)} (o5:Option Vl),PIn cs b ks ws→
  ∃ ks' ws' o5',ba (gN 5) fb (ns.map cM) (pD cs b ks ws o5)=some (.nx,pD cs b ks' ws' o5')∧PIn cs b ks' ws'∧2 * unm cs ks'+ws'.length≤2 * unm cs ks+ws.length
 | [],ks,ws,o5,P=>⟨ks,ws,o5,rfl,P,Nat.le_refl _⟩
 | c::ns,ks,ws,o5,P=>by
  obtain⟨k1,w1,e1,P1,m1⟩:=xz (c:=c) hl P
  obtain⟨k2,w2,o2,e2,P2,m2⟩:=pM hl ns (some (.im (cM c))) P1
  refine⟨k2,w2,o2,?_,P2,Nat.le_trans m2 m1⟩
  rw[List.map_cons,ba]
  dsimp only
  rw[show gN 5 (.im (cM c)) (pD cs b ks ws o5)=some (pD cs b ks ws (some (.im (cM c)))) from rfl]
  show (fb _).bind _=_
  rw[e1]
  exact e2
theorem pN {α:Type}{ws:List α} (h:ws≠[]):∃ w' w,ws=w'++[w]:=⟨ws.dropLast,ws.getLast h,(List.dropLast_concat_getLast h).symm⟩
theorem xA {cs:List (Int×Int)}{b:Int×Int} (hl:cs.length≤500):∃ ms:List (Int×Int),gQ [cL cs,.im (cM b)]=some (cT ms,[cL cs,.im (cM b)])∧ms≠[]∧(∀ m∈ms,m=b∨m∈cs)∧ms.length≤cs.length+1:=by
 have c1:aU 1 [] (bb (oSl 0)) (gN 0) kYes G.kG [some (cL cs),some (.im (cM b)),none,none,none,none]=some (.lst (cs.map fun c=>.tup [cM c,.bl true]),[some (cL cs),some (.im (cM b)),none,none,none,none]):=by
  refine (eZ (xs:=cs.map cM) (o:=some (0,cL cs)) (D1:=[some .jk,some (.im (cM b)),none,none,none,none]) rfl (iM _ (fun c=>.tup [cM c,.bl true]) _ (fun c hc=>?_) (by lia))).trans rfl
  exact⟨[some (.im (cM c))],_,[some (.im (cM c))],rfl,rfl,rfl,rfl⟩
 have hm:((mt cs).all fun p=>Im.keys 7 p.1)=true∧(mt cs).length≤1000:=⟨xx cs,by unfold mt;rw[List.length_map];lia⟩
 have s1:aw 2 (au vDict (ab (oV (aU 1 [] (bb (oSl 0)) (gN 0) kYes G.kG)) aNil)) [some (cL cs),some (.im (cM b)),none,none,none,none]=some (.nx,[some (cL cs),some (.im (cM b)),some (.dT (bV (mt cs))),none,none,none]):=by
  refine (gM (d:=.dT (bV (mt cs))) (D1:=[some (cL cs),some (.im (cM b)),none,none,none,none]) ?_ (show 2<6 by decide)).trans rfl
  simp -implicitDefEqProofs only[oV,au,ab,c1,c8,Option.bind_some,Option.map_some,dW,c9,dU,vDict,xv,hm.1,hm.2,and_self,if_true]
 have s2:aw 3 (ko (a9 1) (eC (.bl true))) [some (cL cs),some (.im (cM b)),some (.dT (bV (mt cs))),none,none,none]=some (.nx,[some (cL cs),some (.im (cM b)),some (.dT (bV (mt cs))),some (.dT (mt [b])),none,none]):=rfl
 have s3:aw 4 (ck (ab (oSl 1) aNil)) [some (cL cs),some (.im (cM b)),some (.dT (bV (mt cs))),some (.dT (mt [b])),none,none]=some (.nx,pD cs b [b] [b] none):=rfl
 have P0:PIn cs b [b] [b]:=⟨List.pairwise_singleton _ _,.head _,fun c hc=>.inl (List.mem_singleton.mp hc),by
  have:=List.countP_le_length (p:=fun c=>decide (c∉[b])) (l:=cs)
  show 1+unm cs [b]≤cs.length+1
  unfold unm
  lia,Nat.le_refl _⟩
 obtain⟨D',lp,ks,o5,rfl,P⟩:=wI (c:=kH) (b:=kJ) (fun m D=>∃ ks ws o5,D=pD cs b ks ws o5∧PIn cs b ks ws∧2 * unm cs ks+ws.length≤m) (fun D=>∃ ks o5,D=pD cs b ks [] o5∧PIn cs b ks [])
  (fun m D hI=>by
   obtain⟨ks,ws,o5,rfl,P,hm⟩:=hI
   by_cases hw:ws=[]
   ·subst hw
    exact⟨false,pD cs b ks [] o5,rfl,(fun z=>by cases z),fun _=>⟨ks,o5,rfl,P⟩⟩
   ·obtain⟨w',w,rfl⟩:=pN hw
    have hb:kH (pD cs b ks (w'++[w]) o5)=some (true,pD cs b ks (w'++[w]) o5):=by
     have hp:=gR (w'++[w])
     have hn:aW ((w'++[w]).map cM) []=false:=by
      cases w' with
      | nil=>rfl
      | cons a r=>rfl
     have hv:vNe (cL (w'++[w])) (.lst [])=some (.im (.bl true)):=by
      simp only[vNe,hp,hn]
      rfl
     show (((vNe (cL (w'++[w])) (.lst [])).map fun d=>(d,pD cs b ks (w'++[w]) o5)).bind fun p=>(asB p.1).map fun b=>(b,p.2))=_
     rw[hv]
     rfl
    refine⟨true,_,hb,fun _=>?_,(fun z=>by cases z)⟩
    have P1:PIn cs b ks w':=⟨P.nd,P.beg,P.inn,P.few,by have:=P.wl;simp at this;lia⟩
    obtain⟨k2,w2,o2,e2,P2,m2⟩:=pM hl (bes w) o5 P1
    refine⟨.nx,pD cs b k2 w2 o2,?_,.inl rfl,2 * unm cs k2+w2.length,?_,k2,w2,o2,rfl,P2,Nat.le_refl _⟩
    ·unfold kJ
     refine (eV (o:=none) (xs:=(bes w).map cM) (D1:=pD cs b ks w' o5) ?_ e2).trans rfl
     have hg:((w'++[w]).map cM).getLast?=some (cM w):=by simp
     have hd:((w'++[w]).map cM).dropLast=w'.map cM:=by simp
     have e:=kQ w
     simp -implicitDefEqProofs only[bb,oV,eCall,ab,c6,List.getElem?_cons_zero,List.getElem?_cons_succ,cN,if_true,c8,Option.bind_some,oJ,mPop,hg,hd,Option.map_some,oK,List.length_cons,List.length_nil,e]
     simp -implicitDefEqProofs [e,cz]
    ·simp at hm
     lia) 1000000 _ (pD cs b [b] [b] none) ⟨[b],[b],none,rfl,P0,Nat.le_refl _⟩ (by
    have:=P0.few
    simp
    simp at this
    lia)
 have so:=xp P.nd (by have:=P.few;lia)
 obtain⟨ms,pm,em⟩:=xo (eQ (ks.map cM))
 refine⟨ms,?_,fun z=>?_,fun m hm=>P.inn m (pm.mem_iff.mp hm),by rw[pm.length_eq];have:=P.few;lia⟩
 ·unfold gQ oU
  refine dX (pD cs b ks [] o5) rfl ((aC s1).trans ((aC s2).trans ((aC s3).trans ((aC lp).trans (iK ?_))))) rfl
  have hv:vSortM [.dT (mt ks)]=some (cL ms):=by
   show cP ((mt ks).map fun p=>.tup p.1)=_
   rw[xw]
   unfold cP
   rw[if_pos (kl.mpr so),em]
  simp -implicitDefEqProofs only[au,ab,oV,oSl,List.getElem?_cons_zero,List.getElem?_cons_succ,Option.bind_some,Option.map_some,c8,dW,dU,dS,c9,Option.getD_some,hv,vTuple,cz]
 ·subst z
  have:=pm.length_eq
  have h1:=List.length_pos_of_mem P.beg
  simp at this
  rw[← this] at h1
  simp at h1
end G
namespace G
open PySem L2
theorem at0 (p:Int×Int):atI [Im.int p.1,.int p.2] 0=some (.int p.1):=rfl
theorem at1 (p:Int×Int):atI [Im.int p.1,.int p.2] 1=some (.int p.2):=rfl
theorem atC {cs:List (Int×Int)}{i:Int}{c:Int×Int} (h0:0≤i) (h:cs[i.toNat]?=some c):atI (cs.map cM) i=some (cM c):=oM h0 (by rw[List.getElem?_map,h];rfl)
theorem xB (ps:List (Int×Int)) (c:Int×Int):inB (cM c) (cL ps)=some (decide (c∈ps)):=by
 rw[vG,kS,gR,pI]
 rfl
theorem xC (ps:List (Int×Int)) (c:Int×Int):inB (cM c) (cT ps)=some (decide (c∈ps)):=by
 rw[vF,kS,gR,pI]
 rfl
noncomputable def Sm (c:Int×Int):Prop:=0≤c.1∧c.1<50∧0≤c.2∧c.2<50
theorem xD {n:Nat}{h:Vl}{cs:List (Int×Int)}{m:Int}{o4:Option Vl}{k:Option Vl} (H:LOk (n+2) h) (hne:cs≠[]) (hl:cs.length≤500) (hs:∀ c∈cs,Sm c):
  ∃ h' cs' o4',iN [some h,some (iI m),some (cL cs),k,o4]=some (.nx,[some h',some (iI m),some (cL cs'),k,o4'])∧LOk n h'∧cs'≠[]∧cs'.length≤cs.length+1∧∀ c∈cs',Sm c:=by
 have hp:=List.length_pos_iff.mpr hne
 obtain⟨v1,h1,e1,a1,a2,H1⟩:=cb (n:=n+1) (m:=(cs.length:Int)) H (by lia) (by lia)
 obtain⟨c,hc⟩:∃ c,cs[v1.toNat]?=some c:=⟨cs[v1.toNat]'(by lia),by simp⟩
 obtain⟨v2,h2,e2,b1,b2,H2⟩:=cb (n:=n) (m:=4) H1 (by lia) (by lia)
 obtain⟨o,ho⟩:∃ o,(bes c)[v2.toNat]?=some o:=⟨(bes c)[v2.toNat]'(by show v2.toNat<4;lia),by simp⟩
 have t1:=atC a1 hc
 have t2:=atC b1 ho
 have eb:=kQ c
 obtain⟨q0,rfl⟩:=H.lst
 obtain⟨q1,rfl⟩:=H1.lst
 obtain⟨q2,rfl⟩:=H2.lst
 have s1:aw 4 (ad vIx (oV (eCall 1 G.cQ (ab (oV (ad vIx (oSl 2) (oV (eCall 2 G.aR (ab (oSl 0) (ab (oV (au vLen (ab (oSl 2) aNil))) aNil)))))) aNil))) (oV (eCall 2 G.aR (ab (oSl 0) (ab (oV (eC (.int 4))) aNil))))) [some (.lst q0),some (iI m),some (cL cs),k,o4]=some (.nx,[some (.lst q2),some (iI m),some (cL cs),k,some (.im (cM o))]):=by
  simp -implicitDefEqProofs [e1,t1,eb,e2,t2]
 have hin:=xB cs o
 have g0:=at0 o
 have g1:=at1 o
 obtain⟨D,hD⟩:∃ D:SD,D=[some (.lst q2),some (iI m),some (cL cs),k,some (.im (cM o))]:=⟨_,rfl⟩
 rw[← hD] at s1
 have n1:kB (ad vNotIn (oSl 4) (oSl 2)) D=some (!decide (o∈cs),D):=by
  rw[hD]
  show (((inB (cM o) (cL cs)).map fun r=>Vl.im (.bl (!r))).map fun d=>(d,[some (.lst q2),some (iI m),some (cL cs),k,some (.im (cM o))])).bind (fun p=>(asB p.1).map fun b=>(b,p.2))=_
  rw[hin]
  rfl
 have n2:kB (dR vLe vLe (oV (eC (.int 0))) (oV (ad vIx (oSl 4) (oV (eC (.int 0))))) (oV (eC (.int 24)))) D=some (decide (0≤o.1) && decide (o.1≤24),D):=by
  rw[hD]
  by_cases z:0≤o.1<;>simp -implicitDefEqProofs [cM,g0,z]
 have n3:kB (dR vLe vLe (oV (eC (.int 0))) (oV (ad vIx (oSl 4) (oV (eC (.int 1))))) (oV (eC (.int 24)))) D=some (decide (0≤o.2) && decide (o.2≤24),D):=by
  rw[hD]
  by_cases z:0≤o.2<;>simp -implicitDefEqProofs [cM,g1,z]
 have fin:∀ b:Bool,b=(!decide (o∈cs) && ((decide (0≤o.1) && decide (o.1≤24)) && (decide (0≤o.2) && decide (o.2≤24))))→
   dF (kB (ad vNotIn (oSl 4) (oSl 2))) (dF (kB (dR vLe vLe (oV (eC (.int 0))) (oV (ad vIx (oSl 4) (oV (eC (.int 0))))) (oV (eC (.int 24))))) (kB (dR vLe vLe (oV (eC (.int 0))) (oV (ad vIx (oSl 4) (oV (eC (.int 1))))) (oV (eC (.int 24)))))) D=some (b,D):=by
  intro b hb
  rw[hb]
  simp -implicitDefEqProofs only[dF,n1,n2,n3,Option.bind_some]
  generalize (decide (0≤o.1) && decide (o.1≤24))=y
  generalize (decide (0≤o.2) && decide (o.2≤24))=z
  cases decide (o∈cs)<;>cases y<;>rfl
 unfold iN
 by_cases hcond:o∉cs∧0≤o.1∧o.1≤24∧0≤o.2∧o.2≤24
 ·have ht:=fin true (by simp[hcond])
  refine⟨.lst q2,cs++[o],some (.im (cM o)),(aC s1).trans ((oN ht).trans ?_),H2,by simp,by simp,fun c hc=>?_⟩
  ·have l2:cs.length<100000:=by lia
   rw[hD]
   simp -implicitDefEqProofs [cN,l2]
  ·rcases List.mem_append.mp hc with hc | hc
   ·exact hs c hc
   ·rw[List.mem_singleton.mp hc]
    exact⟨hcond.2.1,by lia,hcond.2.2.2.1,by lia⟩
 ·have hf:=fin false (by
   cases z:(!decide (o∈cs) && ((decide (0≤o.1) && decide (o.1≤24)) && (decide (0≤o.2) && decide (o.2≤24)))) with
   | false=>rfl
   | true=>
    simp at z
    exact absurd ⟨z.1,z.2.1.1,z.2.1.2,z.2.2.1,z.2.2.2⟩ hcond)
  exact⟨.lst q2,cs,some (.im (cM o)),(aC s1).trans ((iL hf).trans (by rw[hD];rfl)),H2,hne,by lia,hs⟩
theorem xE {n:Nat}{h:Vl} (H:LOk (n+200) h):∃ h' cs,fc [h,iI 40]=some (cL cs,[h',iI 40])∧LOk n h'∧cs≠[]∧cs.length≤60∧∀ c∈cs,Sm c:=by
 obtain⟨v,h1,e1,a1,a2,H1⟩:=cb (n:=n+199) (m:=40) H (by lia) (by lia)
 have sm:fF v:=⟨by lia,by lia⟩
 obtain⟨D',lp,h2,cs,o3,o4,rfl,H2,c1,c2,c3⟩:=iJ (tg:=gN 3) (b:=iN) (xs:=aT 0 v.toNat) (fun i D=>∃ h cs o3 o4,D=[some h,some (iI 40),some (cL cs),o3,o4]∧LOk (n+198 - 2 * i) h∧cs≠[]∧cs.length≤i+1∧∀ c∈cs,Sm c) (D:=[some h1,some (iI 40),some (cL [(12,12)]),none,none]) ⟨h1,[(12,12)],none,none,rfl,H1.mono (by lia),by simp,by simp,fun c hc=>by rw[List.mem_singleton.mp hc];exact⟨by decide,by decide,by decide,by decide⟩⟩
  (fun i x D hx hI=>by
   obtain⟨h,cs,o3,o4,rfl,HH,d1,d2,d3⟩:=hI
   have hi:i<v.toNat:=by
    have:=(List.getElem?_eq_some_iff.mp hx).1
    rwa [aT,List.length_map,List.length_range] at this
   obtain⟨h',cs',o4',e,H',f1,f2,f3⟩:=xD (n:=n+198 - 2 * (i+1)) (m:=40) (k:=some (.im x)) (o4:=o4) (HH.mono (by lia)) d1 (by lia) d3
   exact⟨[some h,some (iI 40),some (cL cs),some (.im x),o4],.nx,_,rfl,e,.inl rfl,h',cs',_,_,rfl,H',f1,by lia,f3⟩)
 have lr:(aT 0 v.toNat).length=v.toNat:=by rw[aT,List.length_map,List.length_range]
 rw[lr] at H2 c2
 refine⟨h2,cs,?_,H2.mono (by lia),c1,by lia,c3⟩
 obtain⟨q0,rfl⟩:=H.lst
 obtain⟨q1,rfl⟩:=H1.lst
 obtain⟨q2,rfl⟩:=H2.lst
 unfold fc oW
 refine dX [some (.lst q2),some (iI 40),some .jk,o3,o4] rfl ((aC (D1:=[some (.lst q0),some (iI 40),some (cL [(12,12)]),none,none]) rfl).trans ((aC (eV (o:=none) (xs:=aT 0 v.toNat) (D1:=[some (.lst q1),some (iI 40),some (cL [(12,12)]),none,none]) ?_ lp)).trans rfl)) rfl
 simp -implicitDefEqProofs [e1,sm]
end G
namespace G
open PySem L2
theorem xF (i j:Int):vMaxM [.im (.int i),.im (.int j)]=some (.im (.int (if j > i then j else i))):=rfl
theorem xG (i j:Int):vMinM [.im (.int i),.im (.int j)]=some (.im (.int (if j<i then j else i))):=rfl
theorem pO {α β:Type} (f:α→β):∀ (l:List α) (k:Nat),(l.map f).eraseIdx k=(l.eraseIdx k).map f
 | [],_=>rfl
 | _::_,0=>rfl
 | a::l,k+1=>by simp[pO f l k]
noncomputable def dy (w:Int) (n:Nat):List (Int×Int):=(List.range n).map fun (k:Nat)=>((0+(k:Int)) / w,(0+(k:Int)) % w)
theorem xH (w:Int) (n:Nat):(dy w n).length=n:=by rw[dy,List.length_map,List.length_range]
theorem xI {w:Int}{n:Nat} (hw:0<w) (hw7:w≤7) (hn:n≤49):∀ c∈dy w n,Sm c:=by
 intro c hc
 obtain⟨k,hk,rfl⟩:=List.mem_map.mp hc
 have:=List.mem_range.mp hk
 have d0:0≤(0+(k:Int)) / w:=Int.ediv_nonneg (by lia) (by lia)
 have d1:(0+(k:Int)) / w≤0+(k:Int):=Int.ediv_le_self _ (by lia)
 have m0:=Int.emod_nonneg (0+(k:Int)) (show w≠0 by lia)
 have m1:=Int.emod_lt_of_pos (0+(k:Int)) hw
 exact⟨d0,by show (0+(k:Int)) / w<50;lia,m0,by show (0+(k:Int)) % w<50;lia⟩
theorem xJ {o0 o1 o2 o5 o6 o7 o8 o9:Option Vl}{w hg:Int} (hw:0<w) (hw7:w≤7) (hh:0<hg) (hh7:hg≤7):
  aw 5 (aU 1 [3] (iR1 (ab (oV (ad vMul (oSl 4) (oSl 3))) aNil)) (gN 0) kYes G.kK) [o0,o1,o2,some (iI w),some (iI hg),o5,o6,o7,o8,o9]=some (.nx,[o0,o1,o2,some (iI w),some (iI hg),some (cL (dy w (hg * w).toNat)),o6,o7,o8,o9]):=by
 obtain⟨n,hn⟩:∃ n:Int,n=hg * w:=⟨_,rfl⟩
 have n0:0<n:=by rw[hn];exact Int.mul_pos hh hw
 have n1:n≤49:=by
  rw[hn]
  have:=Int.mul_le_mul hh7 hw7 (by lia) (by lia)
  lia
 have sm:fF n:=⟨by lia,by lia⟩
 have mk:bO hg w=true:=eU (by lia) (by lia)
 rw[← hn]
 refine (gM (d:=cL (dy w n.toNat)) (D1:=[o0,o1,o2,some (iI w),some (iI hg),o5,o6,o7,o8,o9]) ?_ (show 5<10 by decide)).trans rfl
 refine (eZ (xs:=aT 0 n.toNat) (o:=none) (D1:=[o0,o1,o2,some (iI w),some (iI hg),o5,o6,o7,o8,o9]) ?_ (iM _ (fun (k:Nat)=>cM ((0+(k:Int)) / w,(0+(k:Int)) % w)) _ (fun k hk=>?_) (by rw[List.length_range];lia))).trans ?_
 ·simp -implicitDefEqProofs [mk,← hn,sm]
 ·have hw2:w<1073741824:=by lia
  exact⟨[some (iI (0+(k:Int))),some (iI w)],_,[some (iI (0+(k:Int))),some (iI w)],rfl,rfl,by simp -implicitDefEqProofs [kK,hw,hw2,cM],rfl⟩
 ·show some (Vl.lst _,_)=some (Vl.lst ((dy w n.toNat).map cM),_)
  unfold dy
  rw[List.map_map]
  rfl
theorem xK {n:Nat}{o1 o2 o3 o4 o7 o8 o9:Option Vl} (v:Nat) {h:Vl}{cs:List (Int×Int)}{o6:Option Vl} (H:LOk (n+200) h) (hv:v<cs.length) (hl:cs.length≤100) (hs:∀ c∈cs,Sm c):
  ∃ h' cs' o6',ba (gN 6) fW (aT 0 v) [some h,o1,o2,o3,o4,some (cL cs),o6,o7,o8,o9]=some (.nx,[some h',o1,o2,o3,o4,some (cL cs'),o6',o7,o8,o9])∧LOk n h'∧cs'≠[]∧cs'.length≤cs.length∧∀ c∈cs',Sm c:=by
 obtain⟨D',lp,h2,cs2,o62,rfl,H2,c1,c3⟩:=iJ (tg:=gN 6) (b:=fW) (xs:=aT 0 v) (fun i D=>∃ h cs2 o6,D=[some h,o1,o2,o3,o4,some (cL cs2),o6,o7,o8,o9]∧LOk (n+200 - i) h∧cs2.length+i=cs.length∧∀ c∈cs2,Sm c) (D:=[some h,o1,o2,o3,o4,some (cL cs),o6,o7,o8,o9]) ⟨h,cs,o6,rfl,H,rfl,hs⟩
  (fun i x D hx hI=>by
   obtain⟨h,cs2,o6,rfl,HH,d1,d3⟩:=hI
   have hi:i<v:=by
    have:=(List.getElem?_eq_some_iff.mp hx).1
    rwa [aT,List.length_map,List.length_range] at this
   obtain⟨w,h1,e1,a1,a2,H1⟩:=cb (n:=n+200 - (i+1)) (m:=(cs2.length:Int)) (HH.mono (by lia)) (by lia) (by lia)
   obtain⟨c,hc⟩:∃ c,cs2[w.toNat]?=some c:=⟨cs2[w.toNat]'(by lia),by simp⟩
   obtain⟨q0,rfl⟩:=HH.lst
   obtain⟨q1,rfl⟩:=H1.lst
   refine⟨[some (.lst q0),o1,o2,o3,o4,some (cL cs2),some (.im x),o7,o8,o9],.nx,[some (.lst q1),o1,o2,o3,o4,some (cL (cs2.eraseIdx w.toNat)),some (.im x),o7,o8,o9],rfl,?_,.inl rfl,.lst q1,cs2.eraseIdx w.toNat,_,rfl,H1,?_,fun c hc=>d3 c (List.mem_of_mem_eraseIdx hc)⟩
   ·have hg:(cs2.map cM)[w.toNat]?=some (cM c):=by rw[List.getElem?_map,hc];rfl
    have hr:(0≤w∧w<((cs2.map cM).length:Int)):=⟨a1,by rw[List.length_map];exact a2⟩
    have he:=pO cM cs2 w.toNat
    have hm:mPopAt (cL cs2) [iI w]=some (.im (cM c),cL (cs2.eraseIdx w.toNat)):=by
     show (if 0≤w∧w<((cs2.map cM).length:Int) then _ else none)=_
     rw[if_pos hr,hg,he]
     rfl
    simp -implicitDefEqProofs [fW,cN,e1,hm,-mPopAt]
   ·rw[List.length_eraseIdx,if_pos (by lia)]
    lia)
 have lr:(aT 0 v).length=v:=by rw[aT,List.length_map,List.length_range]
 rw[lr] at H2 c1
 exact⟨h2,cs2,o62,lp,H2.mono (by lia),fun z=>by rw[z] at c1;simp at c1;lia,by lia,c3⟩
end G
namespace G
open PySem L2
noncomputable def odd (c:Int×Int):Bool:=decide (c.1 % 2 * (c.2 % 3 % 2)=0)
theorem xL {cs:List (Int×Int)}{o0 o1 o2 o3 o4 o6 o7 o8 o9:Option Vl} (hl:cs.length≤1000):
  aw 5 (aU 1 [] (bb (oSl 5)) (gN 0) G.iO G.kL) [o0,o1,o2,o3,o4,some (cL cs),o6,o7,o8,o9]=some (.nx,[o0,o1,o2,o3,o4,some (cL (cs.filter odd)),o6,o7,o8,o9]):=by
 refine (gM (d:=cL (cs.filter odd)) (D1:=[o0,o1,o2,o3,o4,some (cL cs),o6,o7,o8,o9]) ?_ (show 5<10 by decide)).trans rfl
 refine (eZ (xs:=cs.map cM) (o:=some (5,cL cs)) (D1:=[o0,o1,o2,o3,o4,some .jk,o6,o7,o8,o9]) rfl (gO _ odd cM _ _ (fun c hc=>?_) (by rw[List.length_nil];lia))).trans rfl
 have a0:=at0 c
 have a1:=at1 c
 have mk:bO (c.1 % 2) (c.2 % 3 % 2)=true:=by
  have:=Int.emod_nonneg (c.2 % 3) (show (2:Int)≠0 by decide)
  have:=Int.emod_lt_of_pos (c.2 % 3) (show (0:Int)<2 by decide)
  exact eU (by lia) (by lia)
 refine⟨[some (.im (cM c))],[some (.im (cM c))],rfl,?_,fun _=>rfl,fun _=>⟨[some (.im (cM c))],rfl,rfl⟩⟩
 simp -implicitDefEqProofs [iO,cM,a0,a1,mk,odd]
 rfl
theorem xM {w:Int}{n:Nat} (h:0<n):(0,0)∈dy w n:=by
 refine List.mem_map.mpr ⟨0,List.mem_range.mpr h,?_⟩
 show ((0:Int) / w,(0:Int) % w)=_
 rw[Int.zero_ediv,Int.zero_emod]
noncomputable def mid:MS:=(sIf (kOr (kB (ad vEq (oSl 2) (oV (eC (.int 1))))) (kB (ad vEq (oSl 2) (oV (eC (.int 2)))))) (bL (iR1 (ab (oV (eCall 2 G.aR (ab (oSl 0) (ab (oV (ad vAdd (oV (eC (.int 1))) (oV (ad vDiv (oV (au vLen (ab (oSl 5) aNil))) (oV (eC (.int 2))))))) aNil)))) aNil)) (gN 6) G.fW) (sIf (kB (ad vEq (oSl 2) (oV (eC (.int 3))))) (aw 5 (aU 1 [] (bb (oSl 5)) (gN 0) G.iO G.kL)) (sIf (kB (ad vGt (oSl 2) (oV (eC (.int 3))))) (aw 5 (eCall 2 G.fc (ab (oSl 0) (ab (oSl 1) aNil)))) sNil)))
theorem xN {n:Nat}{h:Vl}{way w hg:Int}{cs:List (Int×Int)} (H:LOk (n+202) h) (w0:0≤way) (w1:way<6) (hne:(0,0)∈cs) (hl:cs.length≤60) (hs:∀ c∈cs,Sm c):
  ∃ h' cs' o6,mid [some h,some (iI 40),some (iI way),some (iI w),some (iI hg),some (cL cs),none,none,none,none]=some (.nx,[some h',some (iI 40),some (iI way),some (iI w),some (iI hg),some (cL cs'),o6,none,none,none])∧LOk n h'∧cs'≠[]∧cs'.length≤60∧∀ c∈cs',Sm c:=by
 have hp:=List.length_pos_of_mem hne
 have pops:∀ way:Int,∃ h' cs' o6,bL (iR1 (ab (oV (eCall 2 G.aR (ab (oSl 0) (ab (oV (ad vAdd (oV (eC (.int 1))) (oV (ad vDiv (oV (au vLen (ab (oSl 5) aNil))) (oV (eC (.int 2))))))) aNil)))) aNil)) (gN 6) G.fW [some h,some (iI 40),some (iI way),some (iI w),some (iI hg),some (cL cs),none,none,none,none]=some (.nx,[some h',some (iI 40),some (iI way),some (iI w),some (iI hg),some (cL cs'),o6,none,none,none])∧LOk n h'∧cs'≠[]∧cs'.length≤60∧∀ c∈cs',Sm c:=fun way=>by
  obtain⟨v,h1,e1,a1,a2,H1⟩:=cb (n:=n+200) (m:=1+(cs.length:Int) / 2) (H.mono (by lia)) (by lia) (by lia)
  have sm:fF v:=⟨by lia,by lia⟩
  obtain⟨h2,cs2,o6,lp,H2,c1,c2,c3⟩:=xK (o1:=some (iI 40)) (o2:=some (iI way)) (o3:=some (iI w)) (o4:=some (iI hg)) (o7:=none) (o8:=none) (o9:=none) (o6:=none) v.toNat H1 (cs:=cs) (by lia) (by lia) hs
  refine⟨h2,cs2,o6,?_,H2,c1,by lia,c3⟩
  obtain⟨q0,rfl⟩:=H.lst
  obtain⟨q1,rfl⟩:=H1.lst
  refine (eV (o:=none) (xs:=aT 0 v.toNat) (D1:=[some (.lst q1),some (iI 40),some (iI way),some (iI w),some (iI hg),some (cL cs),none,none,none,none]) ?_ lp).trans rfl
  simp -implicitDefEqProofs [e1,sm]
 have grow:∀ way:Int,∃ h' cs' o6,aw 5 (eCall 2 G.fc (ab (oSl 0) (ab (oSl 1) aNil))) [some h,some (iI 40),some (iI way),some (iI w),some (iI hg),some (cL cs),none,none,none,none]=some (.nx,[some h',some (iI 40),some (iI way),some (iI w),some (iI hg),some (cL cs'),o6,none,none,none])∧LOk n h'∧cs'≠[]∧cs'.length≤60∧∀ c∈cs',Sm c:=fun way=>by
  obtain⟨h2,cs2,e,H2,c1,c2,c3⟩:=xE (n:=n) (H.mono (by lia))
  refine⟨h2,cs2,none,?_,H2,c1,c2,c3⟩
  obtain⟨q0,rfl⟩:=H.lst
  obtain⟨q2,rfl⟩:=H2.lst
  simp -implicitDefEqProofs [e]
 have hw:way=0∨way=1∨way=2∨way=3∨way=4∨way=5:=by lia
 unfold mid
 rcases hw with rfl | rfl | rfl | rfl | rfl | rfl
 ·exact⟨h,cs,none,rfl,H.mono (by lia),List.ne_nil_of_mem hne,hl,hs⟩
 ·obtain⟨h',cs',o6,e,r⟩:=pops 1
  exact⟨h',cs',o6,e,r⟩
 ·obtain⟨h',cs',o6,e,r⟩:=pops 2
  exact⟨h',cs',o6,e,r⟩
 ·exact⟨h,cs.filter odd,none,xL (by lia),H.mono (by lia),List.ne_nil_of_mem (List.mem_filter.mpr ⟨hne,by decide⟩),Nat.le_trans (List.length_filter_le _ _) hl,fun c hc=>hs c (List.mem_filter.mp hc).1⟩
 ·obtain⟨h',cs',o6,e,r⟩:=grow 4
  exact⟨h',cs',o6,e,r⟩
 ·obtain⟨h',cs',o6,e,r⟩:=grow 5
  exact⟨h',cs',o6,e,r⟩
theorem pP {n:Nat}{h:Vl}{o0:Option Vl} (H:LOk (n+1) h):∃ (s:Int) (h':Vl),fe [o0,some h]=some (iI s,[o0,some h'])∧0≤s∧s<7∧LOk n h':=by
 obtain⟨v,h1,e1,a1,a2,H1⟩:=cb (n:=n) (m:=4) H (by lia) (by lia)
 obtain⟨q0,rfl⟩:=H.lst
 obtain⟨q1,rfl⟩:=H1.lst
 have hv:v=0∨v=1∨v=2∨v=3:=by lia
 obtain⟨s,hs,s0,s1⟩:∃ s:Int,atI [Im.int 0,.int 0,.int 6,.int 3] v=some (.int s)∧0≤s∧s<7:=by
  rcases hv with rfl | rfl | rfl | rfl
  ·exact⟨0,rfl,by decide,by decide⟩
  ·exact⟨0,rfl,by decide,by decide⟩
  ·exact⟨6,rfl,by decide,by decide⟩
  ·exact⟨3,rfl,by decide,by decide⟩
 exact⟨s,.lst q1,by simp -implicitDefEqProofs [fe,e1,hs],s0,s1,H1⟩
theorem xO {n:Nat}{h:Vl}{o1 o2 o3 o4 o5 o6 o7 o8 o9:Option Vl} (H:LOk (n+2) h):∃ (s t:Int) (h':Vl),cJ (aU 1 [0] (iR1 (ab (oV (eC (.int 2))) aNil)) (gN 0) kYes G.fe) (gTL 2 (bg (gN 8) (bg (gN 9) gNil'))) [some h,o1,o2,o3,o4,o5,o6,o7,o8,o9]=some (.nx,[some h',o1,o2,o3,o4,o5,o6,o7,some (iI s),some (iI t)])∧(0≤s∧s<7∧0≤t∧t<7)∧LOk n h':=by
 obtain⟨s,h1,e1,s0,s1,H1⟩:=pP (n:=n+1) (o0:=some (iI 0)) H
 obtain⟨t,h2,e2,t0,t1,H2⟩:=pP (n:=n) (o0:=some (iI 1)) H1
 refine⟨s,t,h2,?_,⟨s0,s1,t0,t1⟩,H2⟩
 have cp:bM 1 (gN 0) kYes fe [.int 0,.int 1] [] [some h]=some ([.int s,.int t],[some h2]):=by
  show (fe [some (iI 0),some h]).bind _=_
  rw[e1]
  show (fe [some (iI 1),some h1]).bind _=_
  rw[e2]
  rfl
 have ce:=eZ (caps:=[0]) (gi:=iR1 (ab (oV (eC (.int 2))) aNil)) (D:=[some h,o1,o2,o3,o4,o5,o6,o7,o8,o9]) (D1:=[some h,o1,o2,o3,o4,o5,o6,o7,o8,o9]) (o:=none) (xs:=[.int 0,.int 1]) rfl cp
 unfold cJ
 rw[ce]
 rfl
theorem xP {ms:List (Int×Int)}{s t:Int}{o0 o1 o2 o3 o4 o5 o6:Option Vl} (hl:ms.length≤1000):
  au vTuple (ab (oV (aU 1 [8,9] (bb (oSl 7)) (gN 0) kYes G.iP)) aNil) [o0,o1,o2,o3,o4,o5,o6,some (cT ms),some (iI s),some (iI t)]=some (cT (ms.map fun c=>(c.1+s,c.2+t)),[o0,o1,o2,o3,o4,o5,o6,some (cT ms),some (iI s),some (iI t)]):=by
 have ce:aU 1 [8,9] (bb (oSl 7)) (gN 0) kYes G.iP [o0,o1,o2,o3,o4,o5,o6,some (cT ms),some (iI s),some (iI t)]=some (cL (ms.map fun c=>(c.1+s,c.2+t)),[o0,o1,o2,o3,o4,o5,o6,some (cT ms),some (iI s),some (iI t)]):=by
  refine (eZ (xs:=ms.map cM) (o:=none) (D1:=[o0,o1,o2,o3,o4,o5,o6,some (cT ms),some (iI s),some (iI t)]) rfl (iM _ (fun c=>cM (c.1+s,c.2+t)) _ (fun c hc=>?_) (by lia))).trans ?_
  ·have a0:=at0 c
   have a1:=at1 c
   exact⟨[some (.im (cM c)),some (iI s),some (iI t)],_,[some (.im (cM c)),some (iI s),some (iI t)],rfl,rfl,by simp -implicitDefEqProofs [iP,cM,a0,a1],rfl⟩
  ·show some (Vl.lst _,_)=some (Vl.lst ((ms.map fun c=>(c.1+s,c.2+t)).map cM),_)
   rw[List.map_map]
   rfl
 simp -implicitDefEqProofs only[au,ab,oV,ce,Option.bind_some,Option.map_some,c8,dW,dU,c9,vTuple,cz]
noncomputable def Sn (c:Int×Int):Prop:=0≤c.1∧c.1<60∧0≤c.2∧c.2<60
theorem xQ {n:Nat}{h:Vl} (H:LOk (n+300) h):∃ h' ms,fX [h,iI 40]=some (cT ms,[h',iI 40])∧LOk n h'∧ms≠[]∧ms.length≤100∧∀ c∈ms,Sn c:=by
 obtain⟨way,h1,e1,a1,a2,H1⟩:=cb (n:=n+299) (m:=6) H (by lia) (by lia)
 obtain⟨w,h2,e2,b1,b2,H2⟩:=cb (n:=n+298) (m:=7) H1 (by lia) (by lia)
 obtain⟨lim,hlim⟩:∃ lim:Int,lim=40 / (1+w):=⟨_,rfl⟩
 obtain⟨mn,hmn⟩:∃ mn:Int,mn=(if lim<7 then lim else 7):=⟨_,rfl⟩
 obtain⟨mx,hmx⟩:∃ mx:Int,mx=(if mn > 1 then mn else 1):=⟨_,rfl⟩
 have mn7:mn≤7:=by rw[hmn];split<;>lia
 have mx7:mx≤7∧0<mx:=by rw[hmx];split<;>lia
 obtain⟨hg,h3,e3,c1,c2,H3⟩:=cb (n:=n+297) (m:=mx) H2 (by lia) (by lia)
 have w0:0<1+w:=by lia
 have w7:1+w≤7:=by lia
 have g0:0<1+hg:=by lia
 have g7:1+hg≤7:=by lia
 have nn:0<(1+hg) * (1+w):=Int.mul_pos g0 w0
 have nl:(1+hg) * (1+w)≤49:=Int.mul_le_mul g7 w7 (by lia) (by lia)
 obtain⟨h4,cs,o6,e4,H4,d1,d2,d3⟩:=xN (n:=n+3) (way:=way) (w:=1+w) (hg:=1+hg) (cs:=dy (1+w) ((1+hg) * (1+w)).toNat) (H3.mono (by lia)) a1 a2 (xM (by lia)) (by rw[xH];lia) (xI w0 w7 (by lia))
 have hp:=List.length_pos_iff.mpr d1
 obtain⟨v5,h5,e5,f1,f2,H5⟩:=cb (n:=n+2) (m:=(cs.length:Int)) H4 (by lia) (by lia)
 obtain⟨b,hb⟩:∃ b,cs[v5.toNat]?=some b:=⟨cs[v5.toNat]'(by lia),by simp⟩
 obtain⟨ms,e6,m1,m2,m3⟩:=xA (cs:=cs) (b:=b) (by lia)
 obtain⟨s,t,h7,e7,⟨s0,s1,t0,t1⟩,H7⟩:=xO (n:=n) (o1:=some (iI 40)) (o2:=some (iI way)) (o3:=some (iI (1+w))) (o4:=some (iI (1+hg))) (o5:=some (cL cs)) (o6:=o6) (o7:=some (cT ms)) (o8:=none) (o9:=none) H5
 refine⟨h7,ms.map fun c=>(c.1+s,c.2+t),?_,H7,by simpa using m1,by rw[List.length_map];lia,fun c hc=>?_⟩
 ·obtain⟨q0,rfl⟩:=H.lst
  obtain⟨q1,rfl⟩:=H1.lst
  obtain⟨q2,rfl⟩:=H2.lst
  obtain⟨q3,rfl⟩:=H3.lst
  obtain⟨q4,rfl⟩:=H4.lst
  obtain⟨q5,rfl⟩:=H5.lst
  obtain⟨q7,rfl⟩:=H7.lst
  have t1:=atC f1 hb
  unfold fX oX
  refine dX [some (.lst q7),some (iI 40),some (iI way),some (iI (1+w)),some (iI (1+hg)),some (cL cs),o6,some (cT ms),some (iI s),some (iI t)] rfl
   ((aC (D1:=[some (.lst q1),some (iI 40),some (iI way),none,none,none,none,none,none,none]) ?_).trans
   ((aC (D1:=[some (.lst q2),some (iI 40),some (iI way),some (iI (1+w)),none,none,none,none,none,none]) ?_).trans
   ((aC (D1:=[some (.lst q3),some (iI 40),some (iI way),some (iI (1+w)),some (iI (1+hg)),none,none,none,none,none]) ?_).trans
   ((aC (xJ w0 w7 g0 g7)).trans
   ((aC e4).trans
   ((aC (D1:=[some (.lst q5),some (iI 40),some (iI way),some (iI (1+w)),some (iI (1+hg)),some (cL cs),o6,some (cT ms),none,none]) ?_).trans
   ((aC e7).trans (iK (xP (by lia)))))))))) rfl
  ·simp -implicitDefEqProofs [e1]
  ·simp -implicitDefEqProofs [e2]
  ·have wl:1+w<1073741824:=by lia
   have z1:vMinM [iI 7,iI lim]=some (iI mn):=by rw[xG,← hmn]
   have z2:vMaxM [iI 1,iI mn]=some (iI mx):=by rw[xF,← hmx]
   simp -implicitDefEqProofs [e3,w0,wl,← hlim,z1,z2]
  ·simp -implicitDefEqProofs [e5,t1,e6]
 ·obtain⟨m,hm,rfl⟩:=List.mem_map.mp hc
  have sm:Sm m:=by
   rcases m2 m hm with rfl | hm
   ·exact d3 m (List.mem_of_getElem? hb)
   ·exact d3 m hm
  obtain⟨x1,x2,x3,x4⟩:=sm
  exact⟨by show 0≤m.1+s;lia,by show m.1+s<60;lia,by show 0≤m.2+t;lia,by show m.2+t<60;lia⟩
end G
namespace G
open PySem L2
theorem xR {D:SD}{i:Nat}{bs:List (Int×Int)} (hD:D[i]?=some (some (cL bs))):kB (ad vNe (oSl i) (oV (ck aNil))) D=some (decide (bs≠[]),D):=by
 have hp:=gR bs
 have hn:aW (bs.map cM) []=decide (bs=[]):=by
  cases bs with
  | nil=>rfl
  | cons a r=>rfl
 have hv:vNe (cL bs) (.lst [])=some (.im (.bl (decide (bs≠[])))):=by
  simp only[vNe,hp,hn]
  cases bs with
  | nil=>rfl
  | cons a r=>rfl
 have el:ck aNil D=some (.lst [],D):=rfl
 simp -implicitDefEqProofs only[kB,ad,oSl,oV,el,hD,Option.bind_some,Option.map_some,dS,c9,Option.getD_some,hv,kC]
theorem xS {n:Nat}{h:Vl}{ms wk:List (Int×Int)}{k o4:Option Vl} (H:LOk (n+1) h) (hne:wk≠[]) (hl:wk.length≤500) (hm:∀ c∈ms,Sn c) (hw:∀ c∈wk,Sn c):
  ∃ h' wk' o4',iQ [some h,some (cT ms),some (cL wk),k,o4]=some (.nx,[some h',some (cT ms),some (cL wk'),k,o4'])∧LOk n h'∧wk'≠[]∧wk'.length≤wk.length+1∧∀ c∈wk',Sn c:=by
 obtain⟨w',w,rfl⟩:=pN hne
 have hg:((w'++[w]).map cM).getLast?=some (cM w):=by simp
 have t1:=wG hg
 have eb:=kQ w
 obtain⟨q0,rfl⟩:=H.lst
 obtain⟨bs,hbs⟩:∃ bs,bs=(bes w).filter fun c=>decide (c∈ms):=⟨_,rfl⟩
 have s1:aw 4 (aU 1 [1] (bb (oV (eCall 1 G.cQ (ab (oV (ad vIx (oSl 2) (oV (iz (eC (.int 1)))))) aNil)))) (gN 0) G.pc G.oZ) [some (.lst q0),some (cT ms),some (cL (w'++[w])),k,o4]=some (.nx,[some (.lst q0),some (cT ms),some (cL (w'++[w])),k,some (cL bs)]):=by
  rw[hbs]
  refine (gM (d:=cL ((bes w).filter fun c=>decide (c∈ms))) (D1:=[some (.lst q0),some (cT ms),some (cL (w'++[w])),k,o4]) ?_ (show 4<5 by decide)).trans rfl
  refine (eZ (xs:=(bes w).map cM) (o:=none) (D1:=[some (.lst q0),some (cT ms),some (cL (w'++[w])),k,o4]) ?_ (gO _ (fun c=>decide (c∈ms)) cM _ _ (fun c hc=>?_) (show 0+4≤100000 by decide))).trans rfl
  ·have e1:ad vIx (oSl 2) (oV (iz (eC (.int 1)))) [some (.lst q0),some (cT ms),some (cL (w'++[w])),k,o4]=some (.im (cM w),[some (.lst q0),some (cT ms),some (cL (w'++[w])),k,o4]):=by
    show ((atI ((w'++[w]).map cM) (-1)).map Vl.im).map (fun d=>(d,[some (.lst q0),some (cT ms),some (cL (w'++[w])),k,o4]))=_
    rw[t1]
    rfl
   simp -implicitDefEqProofs only[bb,oV,eCall,ab,e1,c8,Option.bind_some,Option.map_some,oK,oJ,List.length_cons,List.length_nil,eb]
   simp -implicitDefEqProofs [eb,cz]
  ·refine⟨[some (.im (cM c)),some (cT ms)],[some (.im (cM c)),some (cT ms)],rfl,?_,fun _=>rfl,fun _=>⟨[some (.im (cM c)),some (cT ms)],rfl,rfl⟩⟩
   have hin:=xC ms c
   show (((inB (cM c) (cT ms)).map fun r=>Vl.im (.bl r)).map fun d=>(d,[some (.im (cM c)),some (cT ms)])).bind (fun p=>(asB p.1).map fun b=>(b,p.2))=_
   rw[hin]
   rfl
 have c1:=xR (D:=[some (.lst q0),some (cT ms),some (cL (w'++[w])),k,some (cL bs)]) (i:=4) (bs:=bs) rfl
 unfold iQ
 by_cases hb:bs=[]
 ·rw[show decide (bs≠[])=false by simp[hb]] at c1
  exact⟨.lst q0,w'++[w],some (cL bs),(aC s1).trans ((iL c1).trans rfl),H.mono (by lia),hne,by lia,hw⟩
 ·rw[show decide (bs≠[])=true by simp[hb]] at c1
  have hp:=List.length_pos_iff.mpr hb
  have bl:bs.length≤4:=by rw[hbs];exact List.length_filter_le _ _
  obtain⟨v,h1,e1,a1,a2,H1⟩:=cb (n:=n) (m:=(bs.length:Int)) H (by lia) (by lia)
  obtain⟨b,hb2⟩:∃ b,bs[v.toNat]?=some b:=⟨bs[v.toNat]'(by lia),by simp⟩
  obtain⟨q1,rfl⟩:=H1.lst
  have t2:=atC a1 hb2
  refine⟨.lst q1,w'++[w]++[b],some (cL bs),(aC s1).trans ((oN c1).trans ?_),H1,by simp,by simp,fun c hc=>?_⟩
  ·obtain⟨W,hW⟩:∃ W,W=w'++[w]:=⟨_,rfl⟩
   rw[← hW] at hl ⊢
   have l2:W.length<100000:=by lia
   simp -implicitDefEqProofs [cN,e1,t2,l2]
  ·rcases List.mem_append.mp hc with hc | hc
   ·exact hw c hc
   ·rw[List.mem_singleton.mp hc]
    have:=List.mem_of_getElem? hb2
    rw[hbs] at this
    exact hm b (of_decide_eq_true (List.mem_filter.mp this).2)
theorem xT {n:Nat}{h:Vl}{ms:List (Int×Int)} (H:LOk (n+400) h) (hne:ms≠[]) (hl:ms.length≤500) (hm:∀ c∈ms,Sn c):
  ∃ h' wk,fY [h,cT ms]=some (cT wk,[h',cT ms])∧LOk n h'∧wk≠[]∧wk.length≤301∧∀ c∈wk,Sn c:=by
 have hp:=List.length_pos_iff.mpr hne
 obtain⟨v0,h0,e0,a1,a2,H0⟩:=cb (n:=n+399) (m:=(ms.length:Int)) H (by lia) (by lia)
 obtain⟨b,hb⟩:∃ b,ms[v0.toNat]?=some b:=⟨ms[v0.toNat]'(by lia),by simp⟩
 have t0:=atC a1 hb
 obtain⟨v1,h1,e1,b1,b2,H1⟩:=cb (n:=n+398) (m:=8) H0 (by lia) (by lia)
 obtain⟨m,hm1,m0,m1⟩:∃ m:Int,atI [Im.int 31,.int 301] (if v1=0 then 1 else 0)=some (.int m)∧0<m∧m≤301:=by
  by_cases z:v1=0
  ·rw[if_pos z];exact⟨301,rfl,by decide,by decide⟩
  ·rw[if_neg z];exact⟨31,rfl,by decide,by decide⟩
 obtain⟨v,h2,e2,c1,c2,H2⟩:=cb (n:=n+397) (m:=m) H1 m0 (by lia)
 have sm:fF v:=⟨by lia,by lia⟩
 obtain⟨D',lp,h3,wk,o3,o4,rfl,H3,d1,d2,d3⟩:=iJ (tg:=gN 3) (b:=iQ) (xs:=aT 0 v.toNat) (fun i D=>∃ h wk o3 o4,D=[some h,some (cT ms),some (cL wk),o3,o4]∧LOk (n+397 - i) h∧wk≠[]∧wk.length≤i+1∧∀ c∈wk,Sn c) (D:=[some h2,some (cT ms),some (cL [b]),none,none]) ⟨h2,[b],none,none,rfl,H2.mono (by lia),by simp,by simp,fun c hc=>by rw[List.mem_singleton.mp hc];exact hm b (List.mem_of_getElem? hb)⟩
  (fun i x D hx hI=>by
   obtain⟨h,cs,o3,o4,rfl,HH,d1,d2,d3⟩:=hI
   have hi:i<v.toNat:=by
    have:=(List.getElem?_eq_some_iff.mp hx).1
    rwa [aT,List.length_map,List.length_range] at this
   obtain⟨h',cs',o4',e,H',f1,f2,f3⟩:=xS (n:=n+397 - (i+1)) (k:=some (.im x)) (o4:=o4) (HH.mono (by lia)) d1 (by lia) hm d3
   exact⟨[some h,some (cT ms),some (cL cs),some (.im x),o4],.nx,_,rfl,e,.inl rfl,h',cs',_,_,rfl,H',f1,by lia,f3⟩)
 have lr:(aT 0 v.toNat).length=v.toNat:=by rw[aT,List.length_map,List.length_range]
 rw[lr] at H3 d2
 refine⟨h3,wk,?_,H3.mono (by lia),d1,by lia,d3⟩
 obtain⟨q,rfl⟩:=H.lst
 obtain⟨q0,rfl⟩:=H0.lst
 obtain⟨q1,rfl⟩:=H1.lst
 obtain⟨q2,rfl⟩:=H2.lst
 obtain⟨q3,rfl⟩:=H3.lst
 unfold fY pd
 refine dX [some (.lst q3),some (cT ms),some (cL wk),o3,o4] rfl ((aC (D1:=[some (.lst q0),some (cT ms),some (cL [b]),none,none]) ?_).trans ((aC (eV (o:=none) (xs:=aT 0 v.toNat) (D1:=[some (.lst q2),some (cT ms),some (cL [b]),none,none]) ?_ lp)).trans rfl)) rfl
 ·simp -implicitDefEqProofs [e0,t0]
 ·have pe:∀ x y:Int,aq (.int x) (.int y)=decide (x=y):=fun x y=>rfl
  have pl:∀ x:Int,Im.pl 8 (.int x)=true:=fun x=>rfl
  simp -implicitDefEqProofs [e1,hm1,e2,sm,pe,pl]
end G
namespace G
open PySem L2
noncomputable abbrev Ed:=(Int×Int)×(Int×Int)
noncomputable def kE (e:Ed):List Im:=[cM e.1,cM e.2]
theorem pQ {a b:Ed} (h:kE a=kE b):a=b:=by
 unfold kE at h
 injection h with h1 h2
 injection h2 with h2 _
 exact Prod.ext (kR h1) (kR h2)
theorem xU (e:Ed):Im.keys 7 (kE e)=true:=rfl
noncomputable def eg (a b:Int×Int):Ed:=(if ltM (cM b) (cM a)=true then b else a,if ltM (cM a) (cM b)=true then b else a)
theorem pR (a b:Int×Int):vMinM [.im (cM a),.im (cM b)]=some (.im (cM (eg a b).1)):=by
 show (if aV 6 (cM b) (cM a)=true then some (Vl.im (if ltM (cM b) (cM a)=true then cM b else cM a)) else none)=some (.im (cM (if ltM (cM b) (cM a)=true then b else a)))
 rw[if_pos (show aV 6 (cM b) (cM a)=true from rfl)]
 split<;>rfl
theorem pS (a b:Int×Int):vMaxM [.im (cM a),.im (cM b)]=some (.im (cM (eg a b).2)):=by
 show (if aV 6 (cM b) (cM a)=true then some (Vl.im (if ltM (cM a) (cM b)=true then cM b else cM a)) else none)=some (.im (cM (if ltM (cM a) (cM b)=true then b else a)))
 rw[if_pos (show aV 6 (cM b) (cM a)=true from rfl)]
 split<;>rfl
theorem xV {P:Int×Int→Prop}{a b:Int×Int} (ha:P a) (hb:P b):P (eg a b).1∧P (eg a b).2:=by
 unfold eg
 constructor
 ·show P (if _ then _ else _);split<;>assumption
 ·show P (if _ then _ else _);split<;>assumption
noncomputable def bump:List (Ed×Int)→Ed→List (Ed×Int)
 | [],e=>[(e,1)]
 | (f,n)::r,e=>if f=e then (f,n+1)::r else (f,n)::bump r e
noncomputable def mE (L:List (Ed×Int)):List (List Im×Im):=L.map fun p=>(kE p.1,.int p.2)
theorem xW {k k':List Im}{v d:Im}{r:List (List Im×Im)} (h:k'≠k):bR ((k',v)::r) k d=(k',v)::bR r k d:=by
 unfold bR
 rw[List.any_cons,show decide (((k',v):List Im×Im).1=k)=false from decide_eq_false h,Bool.false_or]
 split
 ·rw[List.map_cons,if_neg h]
 ·rfl
theorem pT:∀ (L:List (Ed×Int)) (e:Ed),(L.map (·.1)).Nodup→∃ n:Int,(aH (mE L) (kE e)).getD (.int 0)=.int n∧bR (mE L) (kE e) (.int (n+1))=mE (bump L e)
 | [],e,_=>⟨0,rfl,rfl⟩
 | (f,n)::r,e,nd=>by
  rw[List.map_cons,List.nodup_cons] at nd
  by_cases h:f=e
  ·subst h
   refine⟨n,?_,?_⟩
   ·unfold aH mE
    rw[List.map_cons,List.find?_cons,show decide (((kE (f,n).1,Im.int (f,n).2):List Im×Im).1=kE f)=true from decide_eq_true rfl]
    rfl
   ·unfold bR bump
    rw[if_pos (by unfold mE;rw[List.map_cons,List.any_cons,show decide (((kE (f,n).1,Im.int (f,n).2):List Im×Im).1=kE f)=true from decide_eq_true rfl];rfl),if_pos rfl]
    unfold mE
    rw[List.map_cons,List.map_cons,List.map_cons,if_pos rfl,List.map_map]
    congr 1
    refine List.map_congr_left fun p hp=>?_
    show (if kE p.1=kE f then _ else _)=_
    rw[if_neg fun z=>nd.1 (by rw[← pQ z];exact List.mem_map.mpr ⟨p,hp,rfl⟩)]
  ·obtain⟨m,h1,h2⟩:=pT r e nd.2
   have hk:kE f≠kE e:=fun z=>h (pQ z)
   refine⟨m,?_,?_⟩
   ·rw[← h1]
    unfold aH mE
    rw[List.map_cons,List.find?_cons,show decide (((kE (f,n).1,Im.int (f,n).2):List Im×Im).1=kE e)=false from decide_eq_false hk]
   ·show bR ((kE f,.int n)::mE r) (kE e) _=_
    rw[xW hk,h2,bump,if_neg h]
    rfl
theorem kU:∀ {L:List (Ed×Int)}{e:Ed}{p:Ed×Int},p∈bump L e→p.1=e∨p.1∈L.map (·.1)
 | [],e,p,h=>by rw[List.mem_singleton.mp h];exact .inl rfl
 | (f,n)::r,e,p,h=>by
  unfold bump at h
  split at h
  ·rename_i z
   rcases List.mem_cons.mp h with rfl | h
   ·exact .inl z
   ·exact .inr (.tail _ (List.mem_map.mpr ⟨p,h,rfl⟩))
  ·rcases List.mem_cons.mp h with rfl | h
   ·exact .inr (.head _)
   ·rcases kU h with h | h
    ·exact .inl h
    ·exact .inr (.tail _ h)
theorem kW:∀ {L:List (Ed×Int)}{e:Ed},(L.map (·.1)).Nodup→((bump L e).map (·.1)).Nodup
 | [],e,_=>List.pairwise_singleton _ _
 | (f,n)::r,e,nd=>by
  unfold bump
  split
  ·exact nd
  ·rename_i z
   rw[List.map_cons,List.nodup_cons] at nd ⊢
   refine⟨fun h=>?_,kW nd.2⟩
   obtain⟨p,hp,e1⟩:=List.mem_map.mp h
   rcases kU hp with h | h
   ·exact z (by rw[← h];exact e1.symm)
   ·exact nd.1 (by rw[show ((f,n):Ed×Int).1=p.1 from e1.symm];exact h)
theorem kX:∀ {L:List (Ed×Int)}{e:Ed},(bump L e).length≤L.length+1
 | [],e=>Nat.le_refl _
 | (f,n)::r,e=>by
  unfold bump
  split
  ·simp
  ·have:=kX (L:=r) (e:=e)
   simp
   lia
theorem pU:∀ {L:List (Ed×Int)}{e:Ed},((bump L e).map (·.2)).sum=(L.map (·.2)).sum+1
 | [],e=>rfl
 | (f,n)::r,e=>by
  unfold bump
  split
  ·simp;lia
  ·have:=pU (L:=r) (e:=e)
   simp[this]
   lia
theorem pV:∀ {L:List (Ed×Int)}{e:Ed}{K:Int} ,0≤K→(∀ p∈L,0≤p.2∧p.2≤K)→∀ p∈bump L e,0≤p.2∧p.2≤K+1
 | [],e,K,k0,_,p,h=>by rw[List.mem_singleton.mp h];exact⟨by show (0:Int)≤1;decide,by show 1≤K+1;lia⟩
 | (f,n)::r,e,K,k0,hL,p,h=>by
  have h0:=hL (f,n) (.head _)
  have h0':0≤n∧n≤K:=h0
  unfold bump at h
  split at h
  ·rcases List.mem_cons.mp h with rfl | h
   ·exact⟨by show 0≤n+1;lia,by show n+1≤K+1;lia⟩
   ·have:=hL p (.tail _ h);exact⟨this.1,by lia⟩
  ·rcases List.mem_cons.mp h with rfl | h
   ·exact⟨h0'.1,by show n≤K+1;lia⟩
   ·exact pV k0 (fun q hq=>hL q (.tail _ hq)) p h
structure GOk (k:Nat) (L:List (Ed×Int)):Prop where
 nd:(L.map (·.1)).Nodup
 len:L.length≤k
 sum:(L.map (·.2)).sum=k
 val:∀ p∈L,0≤p.2∧p.2≤k
 key:∀ p∈L,Sn p.1.1∧Sn p.1.2
theorem GOk.bump {k:Nat}{L:List (Ed×Int)} (g:GOk k L) {a b:Int×Int} (ha:Sn a) (hb:Sn b):GOk (k+1) (bump L (eg a b)) where
 nd:=kW g.nd
 len:=Nat.le_trans kX (Nat.add_le_add_right g.len 1)
 sum:=by rw[pU,g.sum];lia
 val:=fun p hp=>by
  have:=pV (K:=k) (by lia) g.val p hp
  exact⟨this.1,by lia⟩
 key:=fun p hp=>by
  rcases kU hp with h | h
  ·rw[h];exact xV ha hb
  ·obtain⟨q,hq,e⟩:=List.mem_map.mp h
   rw[← e]
   exact g.key q hq
noncomputable def cnt (L:List (Ed×Int)) (ps:List Ed):List (Ed×Int):=ps.foldl (fun L p=>bump L (eg p.1 p.2)) L
theorem pW:∀ {ps:List Ed}{L:List (Ed×Int)}{k:Nat},GOk k L→(∀ p∈ps,Sn p.1∧Sn p.2)→GOk (k+ps.length) (cnt L ps)
 | [],L,k,g,_=>g
 | p::ps,L,k,g,h=>by
  have hp:=h p (.head _)
  have:=pW (g.bump hp.1 hp.2) fun q hq=>h q (.tail _ hq)
  rw[List.length_cons,Nat.add_comm ps.length 1,← Nat.add_assoc]
  exact this
noncomputable def iT (B:MS):Prop:=∀ (L:List (Ed×Int)) (a b:Int×Int) (o0 o4:Option Vl),(L.map (·.1)).Nodup→L.length<100000→∃ o4',B [o0,some (.dT (mE L)),some (.im (cM a)),some (.im (cM b)),o4]=some (.nx,[o0,some (.dT (mE (bump L (eg a b)))),some (.im (cM a)),some (.im (cM b)),o4'])
theorem pX {B:MS} (hB:iT B) {o0:Option Vl}:∀ (ps:List Ed) (L:List (Ed×Int)) (o2 o3 o4:Option Vl),(L.map (·.1)).Nodup→L.length+ps.length<100000→
  ∃ o2' o3' o4',ba (gT 2 (bg (gN 2) (bg (gN 3) gNil'))) B (ps.map fun p=>.tup [cM p.1,cM p.2]) [o0,some (.dT (mE L)),o2,o3,o4]=some (.nx,[o0,some (.dT (mE (cnt L ps))),o2',o3',o4'])
 | [],L,o2,o3,o4,_,_=>⟨o2,o3,o4,rfl⟩
 | p::ps,L,o2,o3,o4,nd,hl=>by
  rw[List.length_cons] at hl
  obtain⟨o4',e⟩:=hB L p.1 p.2 o0 o4 nd (by lia)
  have:=kX (L:=L) (e:=eg p.1 p.2)
  obtain⟨o2',o3',o4'',ih⟩:=pX hB ps (bump L (eg p.1 p.2)) (some (.im (cM p.1))) (some (.im (cM p.2))) o4' (kW nd) (by lia)
  refine⟨o2',o3',o4'',?_⟩
  rw[List.map_cons,ba]
  show (B [o0,some (.dT (mE L)),some (.im (cM p.1)),some (.im (cM p.2)),o4]).bind _=_
  rw[e]
  exact ih
theorem xX (a b:Int×Int):gP [.im (cM a),.im (cM b)]=some (.im (.tup (kE (eg a b))),[.im (cM a),.im (cM b)]):=by
 have h1:=pR a b
 have h2:=pS a b
 simp -implicitDefEqProofs [gP,oQ,h1,h2,kE]
theorem pY {D:SD}{L:List (Ed×Int)}{e:Ed} (h1:D[1]?=some (some (.dT (mE L)))) (h4:D[4]?=some (some (.im (.tup (kE e))))) (nd:(L.map (·.1)).Nodup) (hl:L.length<100000):
  cJ (ad vAdd (oV (gH 1 (a9 4) (eC (.int 0)))) (oV (eC (.int 1)))) (gIx 1 (a9 4) putA) D=some (.nx,D.set 1 (some (.dT (mE (bump L e))))):=by
 obtain⟨n,g1,g2⟩:=pT L e nd
 have hk:=xU e
 have l2:(mE L).length<100000:=by unfold mE;rw[List.length_map];exact hl
 simp -implicitDefEqProofs [h1,h4,g1,g2,hk,l2]
theorem xY:iT b_gone_1:=fun L a b o0 o4 nd hl=>by
 have e:=xX a b
 refine⟨some (.im (.tup (kE (eg a b)))),?_⟩
 unfold b_gone_1
 refine (aC (D1:=[o0,some (.dT (mE L)),some (.im (cM a)),some (.im (cM b)),some (.im (.tup (kE (eg a b))))]) ?_).trans ((pY rfl rfl nd hl).trans rfl)
 simp -implicitDefEqProofs [e]
theorem xZ:iT b_l_gone_1:=fun L a b o0 o4 nd hl=>by
 have h1:=pR a b
 have h2:=pS a b
 refine⟨some (.im (.tup (kE (eg a b)))),?_⟩
 unfold b_l_gone_1
 refine (aC (D1:=[o0,some (.dT (mE L)),some (.im (cM a)),some (.im (cM b)),some (.im (.tup (kE (eg a b))))]) ?_).trans ((pY rfl rfl nd hl).trans rfl)
 simp -implicitDefEqProofs [h1,h2,kE]
end G
namespace G
open PySem L2
noncomputable def itM (p:Ed×Int):Im:=.tup [.tup (kE p.1),.int p.2]
noncomputable def uI:Im→Ed×Int
 | .tup [.tup [a,b],.int n]=>((uC a,uC b),n)
 | _=>(((0,0),(0,0)),0)
theorem iU (p:Ed×Int):uI (itM p)=p:=rfl
theorem x5 {a b:Ed×Int} (h:itM a=itM b):a=b:=by rw[← iU a,h,iU]
theorem pZ:∀ (l:List Im) (ks:List (Ed×Int)),(∀ x∈l,x∈ks.map itM)→l=(l.map uI).map itM
 | [],_,_=>rfl
 | x::l,ks,h=>by
  obtain⟨p,_,e⟩:=List.mem_map.mp (h x (.head _))
  rw[List.map_cons,List.map_cons,← pZ l ks fun y hy=>h y (.tail _ hy),← e,iU]
theorem unI {l:List Im}{ks:List (Ed×Int)} (h:l.Perm (ks.map itM)):∃ ms:List (Ed×Int),ms.Perm ks∧l=ms.map itM:=by
 refine⟨l.map uI,?_,pZ l ks fun x hx=>h.mem_iff.mp hx⟩
 have:=List.Perm.map uI h
 rw[List.map_map] at this
 have e:(uI ∘ itM:Ed×Int→Ed×Int)=id:=funext iU
 rw[e,List.map_id] at this
 exact this
theorem x6 {L:List (Ed×Int)} (nd:(L.map (·.1)).Nodup) (hl:L.length≤1000):SrtOk (L.map itM):=by
 refine⟨⟨by rw[List.length_map];exact hl,fun a ha b hb=>?_,?_⟩,.inr fun d hd=>?_⟩
 ·obtain⟨x,_,rfl⟩:=List.mem_map.mp ha
  obtain⟨y,_,rfl⟩:=List.mem_map.mp hb
  rfl
 ·have nd':L.Nodup:=(List.pairwise_map.mp nd).imp fun h e=>h (by rw[e])
  exact List.Pairwise.map itM (fun a b n e=>n (x5 e)) nd'
 ·obtain⟨x,_,rfl⟩:=List.mem_map.mp hd
  rfl
theorem x8 {L:List (Ed×Int)} (nd:(L.map (·.1)).Nodup) (hl:L.length≤1000):∃ T:List (Ed×Int),T.Perm L∧cP ((mE L).map fun p=>.tup [.tup p.1,p.2])=some (.lst (T.map itM)):=by
 obtain⟨T,pm,e⟩:=unI (eQ (L.map itM))
 refine⟨T,pm,?_⟩
 have:((mE L).map fun p=>Im.tup [.tup p.1,p.2])=L.map itM:=by unfold mE;rw[List.map_map];rfl
 rw[this]
 unfold cP
 rw[if_pos (kl.mpr (x6 nd hl)),e]
noncomputable def prs (wk:List (Int×Int)):List Ed:=wk.zip (wk.drop 1)
theorem p0 (wk:List (Int×Int)):(prs wk).length=wk.length - 1:=by
 unfold prs
 rw[List.length_zip,List.length_drop]
 lia
theorem x9 {P:Int×Int→Prop}{wk:List (Int×Int)} (h:∀ c∈wk,P c):∀ p∈prs wk,P p.1∧P p.2:=by
 intro p hp
 have:=List.of_mem_zip hp
 exact⟨h _ this.1,h _ (List.mem_of_mem_drop this.2)⟩
theorem ya:GOk 0 []:=⟨List.nodup_nil,Nat.le_refl _,rfl,(fun _ h=>by cases h),(fun _ h=>by cases h)⟩
theorem p6 {B:MS} (hB:iT B) {wk:List (Int×Int)} (hl:wk.length≤500):∃ o2 o3 o4,bL (iZ (ab (oSl 0) (ab (oV (eSl (oSl 0) (eJ (eC (.int 1))) pNone)) aNil))) (gT 2 (bg (gN 2) (bg (gN 3) gNil'))) B [some (cT wk),some (.dT []),none,none,none]=some (.nx,[some (cT wk),some (.dT (mE (cnt [] (prs wk)))),o2,o3,o4]):=by
 have:=p0 wk
 obtain⟨o2,o3,o4,e⟩:=pX hB (o0:=some (cT wk)) (prs wk) [] none none none List.nodup_nil (by rw[List.length_nil];lia)
 refine⟨o2,o3,o4,(eV (o:=none) (xs:=(prs wk).map fun p=>.tup [cM p.1,cM p.2]) (D1:=[some (cT wk),some (.dT []),none,none,none]) ?_ e).trans rfl⟩
 have c1:bP (wk.map cM) (some 1) none=(wk.drop 1).map cM:=(oP _ _ _ _).trans (by rw[show (1:Int)=((1:Nat):Int) from rfl,wF])
 have z:=oO cM cM wk (wk.drop 1)
 have c2:vSl (cT wk) (some 1) none=some (cT (wk.drop 1)):=by
  show some (Vl.im (.tup (bP (wk.map cM) (some 1) none)))=_
  rw[c1]
 simp -implicitDefEqProofs only[iZ,ab,oSl,oV,eSl,eJ,wB,wC,c8,List.getElem?_cons_zero,Option.bind_some,Option.map_some,dW,dU,dS,c9,Option.getD_some,c2,z,prs]
theorem yb {wk:List (Int×Int)} (hl:wk.length≤500):ff [cT wk]=some (.dT (mE (cnt [] (prs wk))),[cT wk]):=by
 obtain⟨o2,o3,o4,e⟩:=p6 xZ hl
 unfold ff oY
 exact dX [some (cT wk),some .jk,o2,o3,o4] rfl ((aC (D1:=[some (cT wk),some (.dT []),none,none,none]) rfl).trans ((aC e).trans rfl)) rfl
theorem p7 {wk:List (Int×Int)}{T:List (Ed×Int)} (hl:wk.length≤500) (hT:cP ((mE (cnt [] (prs wk))).map fun p=>.tup [.tup p.1,p.2])=some (.lst (T.map itM))):cq [cT wk]=some (.im (.tup (T.map itM)),[cT wk]):=by
 obtain⟨o2,o3,o4,e⟩:=p6 xY hl
 unfold cq oR
 refine dX [some (cT wk),some (.dT (mE (cnt [] (prs wk)))),o2,o3,o4] rfl ((aC (D1:=[some (cT wk),some (.dT []),none,none,none]) rfl).trans ((aC e).trans (iK ?_))) rfl
 simp -implicitDefEqProofs only[au,ab,oV,fU,oSl,List.getElem?_cons_zero,List.getElem?_cons_succ,Option.bind_some,Option.map_some,c8,dW,dU,dS,c9,Option.getD_some,hT,vTuple,cz]
theorem yc (p:Ed×Int):Im.pl 7 (itM p)=true:=rfl
theorem kY:∀ T:List (Ed×Int),Im.pls 7 (T.map itM)=true
 | []=>rfl
 | p::r=>by rw[List.map_cons,Im.pls,yc,kY r];rfl
theorem yd (p:Ed×Int):aq (itM p) (itM p)=true:=by
 show ((((p.1.1.1 == p.1.1.1) && ((p.1.1.2 == p.1.1.2) && true)) && (((p.1.2.1 == p.1.2.1) && ((p.1.2.2 == p.1.2.2) && true)) && true)) && ((p.2 == p.2) && true))=true
 simp
theorem p8:∀ T:List (Ed×Int),aW (T.map itM) (T.map itM)=true
 | []=>rfl
 | p::r=>by rw[List.map_cons,aW,yd,p8 r];rfl
theorem ye (T:List (Ed×Int)):vNe (.im (.tup (T.map itM))) (.im (.tup (T.map itM)))=some (.im (.bl false)):=by
 have h1:Im.pl 8 (.tup (T.map itM))=true:=kY T
 have h2:aq (.tup (T.map itM)) (.tup (T.map itM))=true:=p8 T
 simp only[vNe,h1,h2]
 rfl
theorem yf:∀ k<400,((toString ((k:Nat):Int):String):Str).length≤3:=by decide +kernel
theorem kZ {i:Int} (h0:0≤i) (h1:i<400):((toString i:String):Str).length≤3:=by
 have:=yf i.toNat (by lia)
 rwa [show ((i.toNat:Nat):Int)=i by lia] at this
theorem iV (ts:List Str):(tupleText ts).length≤piled ts+3:=by
 unfold tupleText
 rw[strLen_append,strLen_append]
 have e1:((("(" : String):Str)).length=1:=rfl
 have e3:(((if ts.length == 1 then ",)" else ")" : String):Str)).length≤2:=by split<;>decide
 have e2:(Str.join ", " ts).length≤piled ts:=by
  cases ts with
  | nil=>exact Nat.zero_le _
  | cons a r=>have:=join_length_add (a::r) (by simp);lia
 lia
theorem p9 {c:Int×Int} (h:Sn c):(pyD (cM c)).shown.length≤13:=by
 have h1:=kZ h.1 (by have:=h.2.1;lia)
 have h2:=kZ h.2.2.1 (by have:=h.2.2.2;lia)
 have:=iV [((toString c.1:String):Str),((toString c.2:String):Str)]
 rw[piled_cons,piled_cons,piled_nil] at this
 show (tupleText [((toString c.1:String):Str),((toString c.2:String):Str)]).length≤13
 lia
theorem yg {p:Ed×Int} (h1:Sn p.1.1) (h2:Sn p.1.2) (h3:0≤p.2) (h4:p.2<400):(pyD (itM p)).shown.length≤43:=by
 have a:=p9 h1
 have b:=p9 h2
 have n:=kZ h3 h4
 have t1:=iV [(pyD (cM p.1.1)).shown,(pyD (cM p.1.2)).shown]
 have t2:=iV [tupleText [(pyD (cM p.1.1)).shown,(pyD (cM p.1.2)).shown],((toString p.2:String):Str)]
 rw[piled_cons,piled_cons,piled_nil] at t1 t2
 show (tupleText [tupleText [(pyD (cM p.1.1)).shown,(pyD (cM p.1.2)).shown],((toString p.2:String):Str)]).length≤43
 lia
theorem qc:∀ {T:List (Ed×Int)},(∀ p∈T,Sn p.1.1∧Sn p.1.2∧0≤p.2∧p.2<400)→piled (PyData.shownAll (bt (T.map itM)))≤45 * T.length
 | [],_=>Nat.le_refl _
 | p::r,h=>by
  have h1:=h p (.head _)
  have a:=yg h1.1 h1.2.1 h1.2.2.1 h1.2.2.2
  have b:=qc (T:=r) fun q hq=>h q (.tail _ hq)
  show piled ((pyD (itM p)).shown::PyData.shownAll (bt (r.map itM)))≤_
  rw[piled_cons,List.length_cons]
  lia
theorem gS {i:Int} (h0:0≤i) (h1:i<400):decide (i.natAbs.log2<1920)=true:=by
 refine decide_eq_true ?_
 by_cases z:i.natAbs=0
 ·rw[z];decide
 ·exact (Nat.log2_lt z).mpr (Nat.lt_of_lt_of_le (show i.natAbs<2 ^ 9 by lia) (Nat.pow_le_pow_right (n:=2) (show 0<2 by decide) (show 9≤1920 by decide)))
theorem qd:∀ {T:List (Ed×Int)},(∀ p∈T,Sn p.1.1∧Sn p.1.2∧0≤p.2∧p.2<400)→PyData.showableAll (bt (T.map itM))=true
 | [],_=>rfl
 | p::r,h=>by
  obtain⟨⟨a1,a2,a3,a4⟩,⟨b1,b2,b3,b4⟩,n1,n2⟩:=h p (.head _)
  have c1:=gS a1 (by lia)
  have c2:=gS a3 (by lia)
  have c3:=gS b1 (by lia)
  have c4:=gS b3 (by lia)
  have c5:=gS n1 n2
  show ((((decide (p.1.1.1.natAbs.log2<1920) && (decide (p.1.1.2.natAbs.log2<1920) && true)) && ((decide (p.1.2.1.natAbs.log2<1920) && (decide (p.1.2.2.natAbs.log2<1920) && true)) && true)) && (decide (p.2.natAbs.log2<1920) && true)) && PyData.showableAll (bt (r.map itM)))=true
  rw[c1,c2,c3,c4,c5,qd fun q hq=>h q (.tail _ hq)]
  rfl
theorem qe:∀ T:List (Ed×Int),PyData.depthAll (bt (T.map itM))≤8
 | []=>by decide
 | p::r=>by
  have:=qe r
  have e:PyData.depth (pyD (itM p))=3:=rfl
  show max (PyData.depth (pyD (itM p))) (PyData.depthAll (bt (r.map itM)))≤8
  rw[e]
  lia
theorem yh {T:List (Ed×Int)} (hl:T.length≤1000) (h:∀ p∈T,Sn p.1.1∧Sn p.1.2∧0≤p.2∧p.2<400):iH (T.map itM)=true:=by
 unfold iH
 have t:=iV (PyData.shownAll (bt (T.map itM)))
 have u:=qc h
 rw[kY,qd h,decide_eq_true (qe T),decide_eq_true (show (tupleText (PyData.shownAll (bt (T.map itM)))).length≤100000 by lia)]
 rfl
theorem qf (ns:List Int):∀ j:Nat,preSum (fun i=>(ns[i]?).getD 0) j=(ns.take j).sum
 | 0=>rfl
 | j+1=>by
  rw[preSum,qf ns j,List.take_add_one,List.sum_append]
  cases ns[j]? with
  | none=>rfl
  | some x=>show _+x=_+(x+0);lia
theorem yi (ns:List Int):oH ns=ns.sum:=by
 have:=qf ns ns.length
 rw[List.take_length] at this
 exact this
theorem yj {a b:List Int} (h:a.Perm b):a.sum=b.sum:=by
 induction h with
 | nil=>rfl
 | cons x _ ih=>rw[List.sum_cons,List.sum_cons,ih]
 | swap x y l=>simp only[List.sum_cons];lia
 | trans _ _ h1 h2=>exact h1.trans h2
end G
namespace G
open PySem L2
theorem qg {op:Vl→Vl→Option Vl}{a b:M Vl}{d1 d2 d:Vl}{D:SD} (ha:a D=some (d1,D)) (hb:b D=some (d2,D)) (h:op d1 d2=some d):ad op (oV a) (oV b) D=some (d,D):=by
 simp -implicitDefEqProofs only[ad,oV,ha,hb,Option.bind_some,Option.map_some,c9,h]
theorem qh {op:Vl→Vl→Option Vl}{a b:M Vl}{d1 d2:Vl}{t:Bool}{D:SD} (ha:a D=some (d1,D)) (hb:b D=some (d2,D)) (h:op d1 d2=some (.im (.bl t))):kB (ad op (oV a) (oV b)) D=some (t,D):=by
 unfold kB
 rw[qg ha hb h]
 rfl
theorem yk {ns:List Int}{k:Int}{o2 o3 o4 o5:Option Vl} (hk0:0≤k) (hk1:k<3):
  ∃ p2 p3 p4 p5,iS [some (.fz (ns.map .int)),some (iI k),o2,o3,o4,o5]=some (.nx,[some (.fz (ns.map .int)),some (iI k),p2,p3,p4,p5]):=by
 obtain⟨h1,e1,H1⟩:=xm (ns:=ns) (k:=k) hk0 (by lia)
 obtain⟨h2,ms,e2,H2,m1,m2,m3⟩:=xQ (n:=2000) (H1.mono (by lia))
 obtain⟨h3,wk,e3,H3,w1,w2,w3⟩:=xT (n:=0) (H2.mono (by lia)) m1 (by lia) m3
 have g:=pW (ps:=prs wk) ya (x9 w3)
 have pl:=p0 wk
 have wp:=List.length_pos_iff.mpr w1
 obtain⟨T,pm,hT⟩:=x8 g.nd (by have:=g.len;lia)
 have lT:T.length≤1000:=by rw[pm.length_eq];have:=g.len;lia
 have e4:=yb (wk:=wk) (by lia)
 have e5:=p7 (wk:=wk) (by lia) hT
 have all:∀ p∈T,Sn p.1.1∧Sn p.1.2∧0≤p.2∧p.2<400:=fun p hp=>by
  have hp':=pm.mem_iff.mp hp
  have a:=g.key p hp'
  have b:=g.val p hp'
  exact⟨a.1,a.2,b.1,by lia⟩
 have rp:=yh lT all
 have sm:(T.map (·.2)).sum=(wk.length:Int) - 1:=by
  rw[yj (pm.map (·.2)),g.sum]
  lia
 have ne:=ye T
 obtain⟨q1,rfl⟩:=H1.lst
 obtain⟨q2,rfl⟩:=H2.lst
 obtain⟨q3,rfl⟩:=H3.lst
 have s1:aw 2 (eCall 2 G.e8 (ab (oSl 0) (ab (oSl 1) aNil))) [some (.fz (ns.map .int)),some (iI k),o2,o3,o4,o5]=some (.nx,[some (.fz (ns.map .int)),some (iI k),some (.lst q1),o3,o4,o5]):=by
  simp -implicitDefEqProofs [e1]
 have s2:aw 3 (eCall 2 G.fY (ab (oSl 2) (ab (oV (eCall 2 G.fX (ab (oSl 2) (ab (oV (eC (.int 40))) aNil)))) aNil))) [some (.fz (ns.map .int)),some (iI k),some (.lst q1),o3,o4,o5]=some (.nx,[some (.fz (ns.map .int)),some (iI k),some (.lst q3),some (cT wk),o4,o5]):=by
  simp -implicitDefEqProofs [e2,e3]
 have s3:aw 4 (au vTuple (ab (oV (fU (oV (eCall 1 G.ff (ab (oSl 3) aNil))))) aNil)) [some (.fz (ns.map .int)),some (iI k),some (.lst q3),some (cT wk),o4,o5]=some (.nx,[some (.fz (ns.map .int)),some (iI k),some (.lst q3),some (cT wk),some (.im (.tup (T.map itM))),o5]):=by
  refine (gM (d:=.im (.tup (T.map itM))) (D1:=[some (.fz (ns.map .int)),some (iI k),some (.lst q3),some (cT wk),o4,o5]) ?_ (show 4<6 by decide)).trans rfl
  have c1:eCall 1 G.ff (ab (oSl 3) aNil) [some (.fz (ns.map .int)),some (iI k),some (.lst q3),some (cT wk),o4,o5]=some (.dT (mE (cnt [] (prs wk))),[some (.fz (ns.map .int)),some (iI k),some (.lst q3),some (cT wk),o4,o5]):=by
   simp -implicitDefEqProofs [e4]
  simp -implicitDefEqProofs only[au,ab,oV,fU,c1,Option.bind_some,Option.map_some,c8,dW,dU,dS,c9,Option.getD_some,hT,vTuple,cz]
 obtain⟨D,hD⟩:∃ D:SD,D=[some (.fz (ns.map .int)),some (iI k),some (.lst q3),some (cT wk),some (.im (.tup (T.map itM))),some (.im (.tup (T.map itM)))]:=⟨_,rfl⟩
 have d3:D[3]?=some (some (cT wk)):=by rw[hD];rfl
 have d4:D[4]?=some (some (.im (.tup (T.map itM)))):=by rw[hD];rfl
 have d5:D[5]?=some (some (.im (.tup (T.map itM)))):=by rw[hD];rfl
 have s4:aw 5 (eCall 1 G.cq (ab (oSl 3) aNil)) [some (.fz (ns.map .int)),some (iI k),some (.lst q3),some (cT wk),some (.im (.tup (T.map itM))),o5]=some (.nx,D):=by
  rw[hD]
  simp -implicitDefEqProofs [e5]
 have cg:eCall 1 G.cq (ab (oSl 3) aNil) D=some (.im (.tup (T.map itM)),D):=by
  rw[hD]
  simp -implicitDefEqProofs [e5]
 have k1:kB (ad vNe (oSl 5) (oSl 4)) D=some (false,D):=by
  simp -implicitDefEqProofs only[kB,ad,oSl,d4,d5,Option.bind_some,Option.map_some,dS,Option.getD_some,ne,kC]
 have kt:jw (jR (oV (jP "tuple" (oSl 5)))) D=some (false,D):=by
  rw[hD]
  rfl
 have r1:∀ i,D[i]?=some (some (.im (.tup (T.map itM))))→au vRepr (ab (oSl i) aNil) D=some (.im (.str (pyD (.tup (T.map itM))).shown),D):=fun i hi=>by
  simp -implicitDefEqProofs only[au,ab,oSl,c8,hi,Option.bind_some,Option.map_some,dW,dU,dS,Option.getD_some,vRepr,rp,if_true]
 have k2:kB (ad vNe (oV (au vRepr (ab (oSl 5) aNil))) (oV (au vRepr (ab (oSl 4) aNil)))) D=some (false,D):=by
  have es:∀ x:Str,vNe (.im (.str x)) (.im (.str x))=some (.im (.bl false)):=fun x=>by
   show some (Vl.im (.bl (!(x == x))))=_
   simp
  exact qh (r1 5 d5) (r1 4 d4) (es _)
 have cs:aU 2 [] (bb (oSl 5)) (gT 2 (bg (gN 0) (bg (gN 1) gNil'))) kYes G.iR D=some (.lst ((T.map (·.2)).map .int),D):=by
  refine (eZ (xs:=T.map itM) (o:=none) (D1:=D) ?_ (iM _ (fun p=>.int p.2) _ (fun p hp=>?_) (by lia))).trans ?_
  ·rw[hD];rfl
  ·exact⟨[some (.im (.tup (kE p.1))),some (iI p.2)],_,[some (.im (.tup (kE p.1))),some (iI p.2)],rfl,rfl,rfl,rfl⟩
  ·rw[List.map_map];rfl
 have k3:kB (ad vNe (oV (au vSum (ab (oV (aU 2 [] (bb (oSl 5)) (gT 2 (bg (gN 0) (bg (gN 1) gNil'))) kYes G.iR)) aNil))) (oV (ad vSub (oV (au vLen (ab (oSl 3) aNil))) (oV (eC (.int 1)))))) D=some (false,D):=by
  have es:∀ x:Int,vNe (iI x) (iI x)=some (.im (.bl false)):=fun x=>by
   show some (Vl.im (.bl (!(x == x))))=_
   simp
  have sl:ad vSub (oV (au vLen (ab (oSl 3) aNil))) (oV (eC (.int 1))) D=some (iI ((wk.length:Int) - 1),D):=by
   rw[hD]
   simp -implicitDefEqProofs
  have ss:au vSum (ab (oV (aU 2 [] (bb (oSl 5)) (gT 2 (bg (gN 0) (bg (gN 1) gNil'))) kYes G.iR)) aNil) D=some (iI ((wk.length:Int) - 1),D):=by
   have im:=vx (T.map (·.2))
   have sz:=yi (T.map (·.2))
   rw[sm] at sz
   simp -implicitDefEqProofs only[au,ab,oV,cs,c8,Option.bind_some,Option.map_some,dW,dU,c9,vSum,im,sz]
  exact qh ss sl (es _)
 have k4:kB (ad vNe (oV (eCall 1 G.cq (ab (oSl 3) aNil))) (oSl 4)) D=some (false,D):=by
  have ol:oSl 4 D=some (.sl 4,D):=by rw[hD];rfl
  generalize eCall 1 G.cq (ab (oSl 3) aNil)=gg at cg ⊢
  simp -implicitDefEqProofs only[kB,ad,oV,cg,ol,Option.bind_some,Option.map_some,c9,dS,d4,Option.getD_some,ne,kC]
 have or1:∀ {a b:M Bool},a D=some (false,D)→b D=some (false,D)→kOr a b D=some (false,D):=fun ha hb=>by
  unfold kOr
  rw[ha]
  exact hb
 unfold iS
 refine⟨_,_,_,_,(aC s1).trans ((aC s2).trans ((aC s3).trans ((aC s4).trans ((aC ((iL (or1 kt (or1 k1 k2))).trans rfl)).trans ((iL (or1 k3 k4)).trans (by rw[hD];rfl))))))⟩
theorem yl:cq [.im (.tup [.tup [.int 3,.int 4]])]=some (.im (.tup []),[.im (.tup [.tup [.int 3,.int 4]])]):=by
 have h:=p7 (wk:=[(3,4)]) (T:=[]) (by decide) rfl
 exact h
theorem ym (ns:List Int) (hl:ns.length<100000):∃ outs,fZ [.fz (ns.map .int)]=some (.im (.bl true),outs):=by
 obtain⟨D',lp,o1,o2,o3,o4,o5,rfl⟩:=iJ (tg:=gN 1) (b:=iS) (xs:=aT 0 3) (fun i D=>∃ o1 o2 o3 o4 o5,D=[some (.fz (ns.map .int)),o1,o2,o3,o4,o5]) (D:=[some (.fz (ns.map .int)),none,none,none,none,none]) ⟨none,none,none,none,none,rfl⟩
  (fun i x D hx hI=>by
   obtain⟨o1,o2,o3,o4,o5,rfl⟩:=hI
   obtain⟨hi,rfl⟩:i<3∧x=.int (0+(i:Int)):=by
    match i,hx with
    | 0,hx=>exact⟨by decide,(Option.some.inj hx).symm⟩
    | 1,hx=>exact⟨by decide,(Option.some.inj hx).symm⟩
    | 2,hx=>exact⟨by decide,(Option.some.inj hx).symm⟩
    | n+3,hx=>cases hx
   obtain⟨p2,p3,p4,p5,e⟩:=yk (ns:=ns) (k:=0+(i:Int)) (o2:=o2) (o3:=o3) (o4:=o4) (o5:=o5) (by lia) (by lia)
   exact⟨[some (.fz (ns.map .int)),some (iI (0+(i:Int))),o2,o3,o4,o5],.nx,_,rfl,e,.inl rfl,_,_,_,_,_,rfl⟩)
 refine⟨[.fz (ns.map .int)],?_⟩
 unfold fZ pf
 refine dX [some (.fz (ns.map .int)),o1,o2,o3,o4,o5] rfl ?_ rfl
 refine (aC (eV (o:=none) (xs:=aT 0 3) (D1:=[some (.fz (ns.map .int)),none,none,none,none,none]) rfl lp)).trans ?_
 have l:=yl
 refine iK ?_
 have c1:eCall 1 G.cq (ab (oV (bK (ab (oV (bK (ab (oV (eC (.int 3))) (ab (oV (eC (.int 4))) aNil)))) aNil))) aNil) [some (.fz (ns.map .int)),o1,o2,o3,o4,o5]=some (.im (.tup []),[some (.fz (ns.map .int)),o1,o2,o3,o4,o5]):=by
  simp -implicitDefEqProofs [l]
 exact qg c1 rfl rfl
end G
namespace L2
open PySem PySem.Spec PyProof.Rows
noncomputable def gU:List (Addr×Obj)→Bool
 | []=>true
 | (_,o)::r=>(match o.data with
  | .seq _ _=>(match o.cls with | .type n=>n != "list" | _=>true)
  | _=>true) && gU r
theorem yn {K:List (Addr×Obj)}{a:Addr}{o:Obj}{its:Array Value}{n:Nat} (h:gU K=true) (e:K.lookup a=some o) (hc:o.cls=.type "list") (hd:o.data=.seq its n):False:=by
 induction K with
 | nil=>cases e
 | cons p r ih=>
  obtain⟨b,x⟩:=p
  rw[gU,Bool.and_eq_true] at h
  simp only[List.lookup] at e
  split at e
  ·cases e
   have h1:=h.1
   rw[hd] at h1
   dsimp only at h1
   rw[hc] at h1
   exact absurd h1 (by decide)
  ·exact ih h.2 e
theorem qi {H:Hp}:∀ ns:List Int,aj H (ns.map .int) (ns.map V.int)
 | []=>rfl
 | n::r=>⟨.int n,_,rfl,rfl,qi r⟩
theorem yo {G:Fn}{K:PySem.W.Frag} (hK:gU K=true) (H:Hp) (a:Addr) (ns:List Int) (hO:gY H) (hS:SqL K H a (ns.map V.int)) (ht:∃ outs,G [.fz (ns.map .int)]=some (.im (.bl true),outs)) {E:XK}:spV 1 G [.ref a] H (fun v _=>v=.bl true) E:=by
 obtain⟨outs,ht⟩:=ht
 have hf:∃ o,H a=some (.frz o (.lst (ns.map V.int))):=by
  rcases hS with (h | h) | ⟨o,its,n,h1,h2,h3,h4,_⟩
  ·rcases hO a with e | ⟨o,xs,e⟩
   ·rw[e] at h;cases h
   ·rw[e] at h;cases h
  ·exact h
  ·exact (yn hK h1 h2 h4).elim
 obtain⟨o,ho⟩:=hf
 refine⟨rfl,[.fz (ns.map .int)],[],.im (.bl true),outs,⟨_,_,[],[],rfl,⟨a,_,o,rfl,ho,qi ns,rfl⟩,⟨rfl,rfl⟩,rfl⟩,List.nodup_nil,ht,fun v H' R R' h _ _=>?_⟩
 exact h.1
end L2
namespace K26
open PySem L2 PyProof.Rows
set_option maxHeartbeats 4000000 in
theorem yp {l:PySem.W.OpenLaw}{w:World}{K:PySem.W.Frag}{h:Heap}{mg:Str→Option Value}{fa f_lesser_first f_gone f_l_left f_l_pick f_l_beside f_l_part f_l_grown f_l_field f_l_gone f_l_walk f_law:Addr} (X:K.In h) (Gg:h.Ns mainGlobals mg) (hfa:mg "law" = some (.ref fa))
  {odlesser_first anlesser_first odgone angone odl_left anl_left odl_pick anl_pick odl_beside anl_beside odl_part anl_part odl_grown anl_grown odl_field anl_field odl_gone anl_gone odl_walk anl_walk odlaw anlaw:Option Addr}{sllesser_first slgone sll_left sll_pick sll_beside sll_part sll_grown sll_field sll_gone sll_walk sllaw:Array (Option Value)}{oclesser_first kVlesser_first dclesser_first pmlesser_first cdlesser_first ctlesser_first ocgone kVgone dcgone pmgone cdgone ctgone ocl_left kVl_left dcl_left pml_left cdl_left ctl_left ocl_pick kVl_pick dcl_pick pml_pick cdl_pick ctl_pick ocl_beside kVl_beside dcl_beside pml_beside cdl_beside ctl_beside ocl_part kVl_part dcl_part pml_part cdl_part ctl_part ocl_grown kVl_grown dcl_grown pml_grown cdl_grown ctl_grown ocl_field kVl_field dcl_field pml_field cdl_field ctl_field ocl_gone kVl_gone dcl_gone pml_gone cdl_gone ctl_gone ocl_walk kVl_walk dcl_walk pml_walk cdl_walk ctl_walk oclaw kVlaw dclaw pmlaw cdlaw ctlaw:Value}
  (alesser_first:PySem.W.nsIn K mainGlobals "lesser_first" = some (some (.ref f_lesser_first))) (llesser_first:K.lookup f_lesser_first=some ⟨oclesser_first,odlesser_first,.func (PySem.W.fnOf "lesser_first" "lesser_first" (bH fg) (bw fg) (ay fg) .none kVlesser_first dclesser_first pmlesser_first anlesser_first cdlesser_first ctlesser_first),sllesser_first⟩) (clesser_first:PySem.W.codeIn K cdlesser_first "lesser_first" = true) (klesser_first:PySem.W.keepIn K (.ref f_lesser_first)=true)
  (agone:PySem.W.nsIn K mainGlobals "gone" = some (some (.ref f_gone))) (lgone:K.lookup f_gone=some ⟨ocgone,odgone,.func (PySem.W.fnOf "gone" "gone" (bH fh) (bw fh) (ay fh) .none kVgone dcgone pmgone angone cdgone ctgone),slgone⟩) (cgone:PySem.W.codeIn K cdgone "gone" = true) (kgone:PySem.W.keepIn K (.ref f_gone)=true)
  (al_left:PySem.W.nsIn K mainGlobals "_law_left" = some (some (.ref f_l_left))) (ll_left:K.lookup f_l_left=some ⟨ocl_left,odl_left,.func (PySem.W.fnOf "_law_left" "_law_left" (bH fi) (bw fi) (ay fi) .none kVl_left dcl_left pml_left anl_left cdl_left ctl_left),sll_left⟩) (cl_left:PySem.W.codeIn K cdl_left "_law_left" = true) (kl_left:PySem.W.keepIn K (.ref f_l_left)=true)
  (al_pick:PySem.W.nsIn K mainGlobals "_law_pick" = some (some (.ref f_l_pick))) (ll_pick:K.lookup f_l_pick=some ⟨ocl_pick,odl_pick,.func (PySem.W.fnOf "_law_pick" "_law_pick" (bH dv) (bw dv) (ay dv) .none kVl_pick dcl_pick pml_pick anl_pick cdl_pick ctl_pick),sll_pick⟩) (cl_pick:PySem.W.codeIn K cdl_pick "_law_pick" = true) (kl_pick:PySem.W.keepIn K (.ref f_l_pick)=true)
  (al_beside:PySem.W.nsIn K mainGlobals "_law_beside" = some (some (.ref f_l_beside))) (ll_beside:K.lookup f_l_beside=some ⟨ocl_beside,odl_beside,.func (PySem.W.fnOf "_law_beside" "_law_beside" (bH dw) (bw dw) (ay dw) .none kVl_beside dcl_beside pml_beside anl_beside cdl_beside ctl_beside),sll_beside⟩) (cl_beside:PySem.W.codeIn K cdl_beside "_law_beside" = true) (kl_beside:PySem.W.keepIn K (.ref f_l_beside)=true)
  (al_part:PySem.W.nsIn K mainGlobals "_law_part" = some (some (.ref f_l_part))) (ll_part:K.lookup f_l_part=some ⟨ocl_part,odl_part,.func (PySem.W.fnOf "_law_part" "_law_part" (bH dY) (bw dY) (ay dY) .none kVl_part dcl_part pml_part anl_part cdl_part ctl_part),sll_part⟩) (cl_part:PySem.W.codeIn K cdl_part "_law_part" = true) (kl_part:PySem.W.keepIn K (.ref f_l_part)=true)
  (al_grown:PySem.W.nsIn K mainGlobals "_law_grown" = some (some (.ref f_l_grown))) (ll_grown:K.lookup f_l_grown=some ⟨ocl_grown,odl_grown,.func (PySem.W.fnOf "_law_grown" "_law_grown" (bH fj) (bw fj) (ay fj) .none kVl_grown dcl_grown pml_grown anl_grown cdl_grown ctl_grown),sll_grown⟩) (cl_grown:PySem.W.codeIn K cdl_grown "_law_grown" = true) (kl_grown:PySem.W.keepIn K (.ref f_l_grown)=true)
  (al_field:PySem.W.nsIn K mainGlobals "_law_field" = some (some (.ref f_l_field))) (ll_field:K.lookup f_l_field=some ⟨ocl_field,odl_field,.func (PySem.W.fnOf "_law_field" "_law_field" (bH cS) (bw cS) (ay cS) .none kVl_field dcl_field pml_field anl_field cdl_field ctl_field),sll_field⟩) (cl_field:PySem.W.codeIn K cdl_field "_law_field" = true) (kl_field:PySem.W.keepIn K (.ref f_l_field)=true)
  (al_gone:PySem.W.nsIn K mainGlobals "_law_gone" = some (some (.ref f_l_gone))) (ll_gone:K.lookup f_l_gone=some ⟨ocl_gone,odl_gone,.func (PySem.W.fnOf "_law_gone" "_law_gone" (bH fk) (bw fk) (ay fk) .none kVl_gone dcl_gone pml_gone anl_gone cdl_gone ctl_gone),sll_gone⟩) (cl_gone:PySem.W.codeIn K cdl_gone "_law_gone" = true) (kl_gone:PySem.W.keepIn K (.ref f_l_gone)=true)
  (al_walk:PySem.W.nsIn K mainGlobals "_law_walk" = some (some (.ref f_l_walk))) (ll_walk:K.lookup f_l_walk=some ⟨ocl_walk,odl_walk,.func (PySem.W.fnOf "_law_walk" "_law_walk" (bH dZ) (bw dZ) (ay dZ) .none kVl_walk dcl_walk pml_walk anl_walk cdl_walk ctl_walk),sll_walk⟩) (cl_walk:PySem.W.codeIn K cdl_walk "_law_walk" = true) (kl_walk:PySem.W.keepIn K (.ref f_l_walk)=true)
  (alaw:PySem.W.nsIn K mainGlobals "law" = some (some (.ref f_law))) (llaw:K.lookup f_law=some ⟨oclaw,odlaw,.func (PySem.W.fnOf "law" "law" (bH da) (bw da) (ay da) .none kVlaw dclaw pmlaw anlaw cdlaw ctlaw),sllaw⟩) (claw:PySem.W.codeIn K cdlaw "law" = true) (klaw:PySem.W.keepIn K (.ref f_law)=true)
  (z_dict:PySem.W.nsIn K mainGlobals "dict" = some none) (z_int:PySem.W.nsIn K mainGlobals "int" = some none) (z_isinstance:PySem.W.nsIn K mainGlobals "isinstance" = some none) (z_len:PySem.W.nsIn K mainGlobals "len" = some none) (z_max:PySem.W.nsIn K mainGlobals "max" = some none) (z_min:PySem.W.nsIn K mainGlobals "min" = some none) (z_range:PySem.W.nsIn K mainGlobals "range" = some none) (z_repr:PySem.W.nsIn K mainGlobals "repr" = some none) (z_sorted:PySem.W.nsIn K mainGlobals "sorted" = some none) (z_sum:PySem.W.nsIn K mainGlobals "sum" = some none) (z_tuple:PySem.W.nsIn K mainGlobals "tuple" = some none) (z_zip:PySem.W.nsIn K mainGlobals "zip" = some none):
  ∃ fd:FuncData,(∀ (s:Shared) (v:Value),BindsTo s fd ⟨[v],[]⟩ [("_law_script",v)])∧∀ base:Heap,K.In base→base.Ns mainGlobals mg→FnOk l.prog w K mg base CX0 4 fa fd ["_law_script"] (spV 1 G.fZ):=by
 have e:=hfa.symm.trans (PySem.W.mg_of X Gg alaw)
 cases e
 have T:Txt mg:=⟨PySem.W.mg_none_of X Gg z_dict,PySem.W.mg_none_of X Gg z_int,PySem.W.mg_none_of X Gg z_isinstance,PySem.W.mg_none_of X Gg z_len,PySem.W.mg_none_of X Gg z_max,PySem.W.mg_none_of X Gg z_min,PySem.W.mg_none_of X Gg z_range,PySem.W.mg_none_of X Gg z_repr,PySem.W.mg_none_of X Gg z_sorted,PySem.W.mg_none_of X Gg z_sum,PySem.W.mg_none_of X Gg z_tuple,PySem.W.mg_none_of X Gg z_zip⟩
 have U_lesser_first:=cG (st:=fg) llesser_first clesser_first klesser_first
 have U_gone:=cG (st:=fh) lgone cgone kgone
 have U_l_left:=cG (st:=fi) ll_left cl_left kl_left
 have U_l_pick:=cG (st:=dv) ll_pick cl_pick kl_pick
 have U_l_beside:=cG (st:=dw) ll_beside cl_beside kl_beside
 have U_l_part:=cG (st:=dY) ll_part cl_part kl_part
 have U_l_grown:=cG (st:=fj) ll_grown cl_grown kl_grown
 have U_l_field:=cG (st:=cS) ll_field cl_field kl_field
 have U_l_gone:=cG (st:=fk) ll_gone cl_gone kl_gone
 have U_l_walk:=cG (st:=dZ) ll_walk cl_walk kl_walk
 have U_law:=cG (st:=da) llaw claw klaw
 have b_lesser_first:=U_lesser_first.binds (ps:=["one","other"]) fun _ _ _ _ _ _ us hl=>match us,hl with | [_,_],_=>rfl
 have m_lesser_first:=PySem.W.mg_of X Gg alesser_first
 have b_gone:=U_gone.binds (ps:=["walk"]) fun _ _ _ _ _ _ us hl=>match us,hl with | [_],_=>rfl
 have m_gone:=PySem.W.mg_of X Gg agone
 have b_l_left:=U_l_left.binds (ps:=["_law_script","_law_turn"]) fun _ _ _ _ _ _ us hl=>match us,hl with | [_,_],_=>rfl
 have m_l_left:=PySem.W.mg_of X Gg al_left
 have b_l_pick:=U_l_pick.binds (ps:=["_law_left_here","_law_many"]) fun _ _ _ _ _ _ us hl=>match us,hl with | [_,_],_=>rfl
 have m_l_pick:=PySem.W.mg_of X Gg al_pick
 have b_l_beside:=U_l_beside.binds (ps:=["_law_cell"]) fun _ _ _ _ _ _ us hl=>match us,hl with | [_],_=>rfl
 have m_l_beside:=PySem.W.mg_of X Gg al_beside
 have b_l_part:=U_l_part.binds (ps:=["_law_some","_law_begin"]) fun _ _ _ _ _ _ us hl=>match us,hl with | [_,_],_=>rfl
 have m_l_part:=PySem.W.mg_of X Gg al_part
 have b_l_grown:=U_l_grown.binds (ps:=["_law_left_here","_law_most"]) fun _ _ _ _ _ _ us hl=>match us,hl with | [_,_],_=>rfl
 have m_l_grown:=PySem.W.mg_of X Gg al_grown
 have b_l_field:=U_l_field.binds (ps:=["_law_left_here","_law_most"]) fun _ _ _ _ _ _ us hl=>match us,hl with | [_,_],_=>rfl
 have m_l_field:=PySem.W.mg_of X Gg al_field
 have b_l_gone:=U_l_gone.binds (ps:=["_law_walk_here"]) fun _ _ _ _ _ _ us hl=>match us,hl with | [_],_=>rfl
 have m_l_gone:=PySem.W.mg_of X Gg al_gone
 have b_l_walk:=U_l_walk.binds (ps:=["_law_left_here","_law_field_here"]) fun _ _ _ _ _ _ us hl=>match us,hl with | [_,_],_=>rfl
 have m_l_walk:=PySem.W.mg_of X Gg al_walk
 refine⟨PySem.W.fnOf "law" "law" (bH da) (bw da) (ay da) .none kVlaw dclaw pmlaw anlaw cdlaw ctlaw,fun s v=>.of_eq rfl,fun base _ _=>?_⟩
 have G_lesser_first:=w9 (P:=l.prog) (w:=w) (base:=base) U_lesser_first T 
 have G_gone:=xa (P:=l.prog) (w:=w) (base:=base) U_gone T U_lesser_first G_lesser_first b_lesser_first m_lesser_first
 have G_l_left:=xb (P:=l.prog) (w:=w) (base:=base) U_l_left T 
 have G_l_pick:=xc (P:=l.prog) (w:=w) (base:=base) U_l_pick T 
 have G_l_beside:=xf (P:=l.prog) (w:=w) (base:=base) U_l_beside T 
 have G_l_part:=xg (P:=l.prog) (w:=w) (base:=base) U_l_part T U_l_beside G_l_beside b_l_beside m_l_beside
 have G_l_grown:=xh (P:=l.prog) (w:=w) (base:=base) U_l_grown T U_l_pick G_l_pick b_l_pick m_l_pick U_l_beside G_l_beside b_l_beside m_l_beside
 have G_l_field:=xi (P:=l.prog) (w:=w) (base:=base) U_l_field T U_l_pick G_l_pick b_l_pick m_l_pick U_l_grown G_l_grown b_l_grown m_l_grown U_l_part G_l_part b_l_part m_l_part
 have G_l_gone:=xj (P:=l.prog) (w:=w) (base:=base) U_l_gone T 
 have G_l_walk:=xk (P:=l.prog) (w:=w) (base:=base) U_l_walk T U_l_pick G_l_pick b_l_pick m_l_pick U_l_beside G_l_beside b_l_beside m_l_beside
 exact xl U_law T U_l_left G_l_left b_l_left m_l_left U_l_walk G_l_walk b_l_walk m_l_walk U_l_field G_l_field b_l_field m_l_field U_l_gone G_l_gone b_l_gone m_l_gone U_gone G_gone b_gone m_gone
theorem yq {l:PySem.W.OpenLaw}{q:Program}{loose:List Str}{XP:(Str→Option Value)→Heap→Prop}{YP:World→Heap→Prop}{d:DefRec}{K:Params→PySem.W.Frag} (hn:l.most=some 63) (hdf:d.params.defaults=[])
  (hY:∀ (w:World) (h:Heap),YP w h→(K w.params).In h) (hK:∀ p,gU (K p)=true)
  (F:∀ (w:World) (mg:Str→Option Value) (fa:Addr) (h:Heap),(K w.params).In h→h.Ns mainGlobals mg→mg d.name=some (.ref fa)→
   ∃ fd:FuncData,(∀ (s:Shared) (u:Value),BindsTo s fd ⟨[u],[]⟩ [("_law_script",u)])∧∀ base:Heap,(K w.params).In base→base.Ns mainGlobals mg→FnOk l.prog w (K w.params) mg base CX0 4 fa fd ["_law_script"] (spV 1 G.fZ)):
  PySem.W.WalkO q loose XP YP l.row.toRowW d [] (fun f vs=>PySem.call f vs):=
 L2.tX (n:=63) (k:=4) (x := "_law_script") (CX:=fun _=>CX0) (sp:=fun w=>spV 1 G.fZ) hn (by decide) hdf ⟨rfl,by decide,by decide,rfl⟩ hY F (fun w H a ns hl hO hS=>yo (hK w.params) H a ns hO hS (G.ym ns (Nat.lt_of_le_of_lt hl (by decide)))) fun _ _ _ _ _ z=>z
end K26
open PySem PySem.W PyProof.Rows
set_option maxRecDepth 100000 in
set_option maxHeartbeats 0 in
theorem PySem.Challenge.cw_mowfloor_k26_gone_holds : PySem.Challenge.rw_mowfloor_k26_gone.Holds := by
  w_on; o_law; k_head; (case hw => w_witness2)
  k_fill
  refine K26.yq (l := PySem.Challenge.rw_mowfloor_k26_gone) rfl rfl (fun w h Y => PySem.W.kIn_of Y) ?hK ?F
  case hK => intro p; rfl
  case F =>
    intro w mg fa h KX G hmg
    refine' K26.yp KX G hmg ?alesser_first ?llesser_first ?clesser_first ?klesser_first ?agone ?lgone ?cgone ?kgone ?al_left ?ll_left ?cl_left ?kl_left ?al_pick ?ll_pick ?cl_pick ?kl_pick ?al_beside ?ll_beside ?cl_beside ?kl_beside ?al_part ?ll_part ?cl_part ?kl_part ?al_grown ?ll_grown ?cl_grown ?kl_grown ?al_field ?ll_field ?cl_field ?kl_field ?al_gone ?ll_gone ?cl_gone ?kl_gone ?al_walk ?ll_walk ?cl_walk ?kl_walk ?alaw ?llaw ?claw ?klaw ?z_dict ?z_int ?z_isinstance ?z_len ?z_max ?z_min ?z_range ?z_repr ?z_sorted ?z_sum ?z_tuple ?z_zip
    (case alesser_first => k_is)
    (case llesser_first => k_is)
    (case clesser_first => k_is)
    (case klesser_first => k_is)
    (case agone => k_is)
    (case lgone => k_is)
    (case cgone => k_is)
    (case kgone => k_is)
    (case al_left => k_is)
    (case ll_left => k_is)
    (case cl_left => k_is)
    (case kl_left => k_is)
    (case al_pick => k_is)
    (case ll_pick => k_is)
    (case cl_pick => k_is)
    (case kl_pick => k_is)
    (case al_beside => k_is)
    (case ll_beside => k_is)
    (case cl_beside => k_is)
    (case kl_beside => k_is)
    (case al_part => k_is)
    (case ll_part => k_is)
    (case cl_part => k_is)
    (case kl_part => k_is)
    (case al_grown => k_is)
    (case ll_grown => k_is)
    (case cl_grown => k_is)
    (case kl_grown => k_is)
    (case al_field => k_is)
    (case ll_field => k_is)
    (case cl_field => k_is)
    (case kl_field => k_is)
    (case al_gone => k_is)
    (case ll_gone => k_is)
    (case cl_gone => k_is)
    (case kl_gone => k_is)
    (case al_walk => k_is)
    (case ll_walk => k_is)
    (case cl_walk => k_is)
    (case kl_walk => k_is)
    (case alaw => k_is)
    (case llaw => k_is)
    (case claw => k_is)
    (case klaw => k_is)
    (case z_dict => k_is)
    (case z_int => k_is)
    (case z_isinstance => k_is)
    (case z_len => k_is)
    (case z_max => k_is)
    (case z_min => k_is)
    (case z_range => k_is)
    (case z_repr => k_is)
    (case z_sorted => k_is)
    (case z_sum => k_is)
    (case z_tuple => k_is)
    (case z_zip => k_is)
