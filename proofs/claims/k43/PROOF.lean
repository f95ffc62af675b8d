import PyProof.Rows.All
import Wide.All
import OpenK.AllK
import Wide.FinOn
import Lean
import PyProof.EqAt
import PyProof.EqKinds
import PyProof.TupleCall
import PyProof.IsiNone
import PyProof.NeKinds
import PyProof.MaxThree
import PySem.Challenge.RW_mowfloor_k43_rings_of_leaves
set_option Elab.async false
set_option linter.all false
set_option maxRecDepth 100000
namespace L2
open PySem PySem.Spec PyProof.Rows
inductive Im where
 | non | bl (b:Bool) | int (i:Int) | str (x:Str) | tup (ds:List Im) | fn (a:Addr) | fl (ds:List Im)
mutual
noncomputable def Im.beq:Im→Im→Bool
 | .non,.non=>true
 | .bl a,.bl b=>a == b
 | .int i,.int j=>decide (i=j)
 | .str x,.str y=>decide (x=y)
 | .tup a,.tup b=>Im.beqs a b
 | .fn a,.fn b=>decide (a=b)
 | .fl a,.fl b=>Im.beqs a b
 | _,_=>false
noncomputable def Im.beqs:List Im→List Im→Bool
 | [],[]=>true
 | a::r,b::t=>Im.beq a b && Im.beqs r t
 | _,_=>false
end
mutual
theorem Im.beq_iff:∀ a b:Im,Im.beq a b=true↔a=b
 | .non,b=>by cases b<;>simp[Im.beq]
 | .bl a,b=>by cases b<;>simp[Im.beq]
 | .int i,b=>by cases b<;>simp[Im.beq]
 | .str x,b=>by cases b<;>simp[Im.beq]
 | .tup x,b=>by
  cases b with
  | tup y=>rw[Im.beq,Im.beqs_iff x y];simp
  | _=>simp[Im.beq]
 | .fn a,b=>by cases b<;>simp[Im.beq]
 | .fl x,b=>by
  cases b with
  | fl y=>rw[Im.beq,Im.beqs_iff x y];simp
  | _=>simp[Im.beq]
theorem Im.beqs_iff:∀ a b:List Im,Im.beqs a b=true↔a=b
 | [],b=>by cases b<;>simp[Im.beqs]
 | x::r,b=>by
  cases b with
  | nil=>simp[Im.beqs]
  | cons y t=>rw[Im.beqs,Bool.and_eq_true,Im.beq_iff x y,Im.beqs_iff r t];simp
end
noncomputable instance:DecidableEq Im:=fun a b=>decidable_of_iff (Im.beq a b=true) (Im.beq_iff a b)
mutual
noncomputable def ImV (h:Heap):Im→Value→Prop
 | .non,v=>v=.none
 | .bl b,v=>v=.bool b
 | .int i,v=>∃ t,v=.int i t
 | .str x,v=>∃ t,v=.str x t
 | .fn a,v=>v=.ref a
 | .fl _,v=>∃ a,v=.ref a
 | .tup ds,v=>∃ a o items n,v=.ref a∧h.get? a=some o∧o.cls=.type "tuple" ∧ o.data=.seq items n∧aK h ds items.toList
noncomputable def aK (h:Heap):List Im→List Value→Prop
 | [],vs=>vs=[]
 | d::ds,vs=>∃ v r,vs=v::r∧ImV h d v∧aK h ds r
end
mutual
noncomputable def Im.key:Nat→Im→Bool
 | _,.int _=>true
 | _,.str _=>true
 | n+1,.tup ds=>Im.keys n ds
 | _,_=>false
noncomputable def Im.keys:Nat→List Im→Bool
 | _,[]=>true
 | n,d::ds=>Im.key n d && Im.keys n ds
end
mutual
noncomputable def imH (w:World):Im→Int
 | .int i=>hashInt i
 | .str x=>hashStr w x
 | .tup ds=>reduceHash (Builtin.Tuple.tupleHashOf (cn w ds))
 | _=>0
noncomputable def cn (w:World):List Im→List Int
 | []=>[]
 | d::ds=>imH w d::cn w ds
end
mutual
noncomputable def imD:Im→Nat
 | .tup ds=>c5 ds+1
 | _=>1
noncomputable def c5:List Im→Nat
 | []=>0
 | d::ds=>imD d+c5 ds
end
theorem jt (w:World):∀ a b:List Im,cn w (a++b)=cn w a++cn w b
 | [],b=>rfl
 | d::a,b=>by rw[List.cons_append,cn,cn,jt w a b,List.cons_append]
theorem ju:∀ a b:List Im,c5 (a++b)=c5 a+c5 b
 | [],b=>by simp[c5]
 | d::a,b=>by rw[List.cons_append,c5,c5,ju a b];lia
theorem lK {n:Nat}:∀ {a b:List Im},Im.keys n (a++b)=true→Im.keys n b=true
 | [],b,h=>h
 | d::a,b,h=>by rw[List.cons_append,Im.keys,Bool.and_eq_true] at h;exact lK h.2
theorem aK.length {h:Heap}:∀ {ds:List Im}{vs:List Value},aK h ds vs→ds.length=vs.length
 | [],vs,e=>by rw[show vs=[] from e];rfl
 | d::ds,vs,e=>by
  obtain⟨v,r,rfl,_,e⟩:=e
  rw[List.length_cons,List.length_cons,aK.length e]
noncomputable def lL (h h':Heap):Prop:=∀ a o items n,h.get? a=some o→o.cls=.type "tuple" → o.data=.seq items n→h'.get? a=some o
mutual
theorem ImV.keep {h h':Heap} (k:lL h h'):∀ {d:Im}{v:Value},ImV h d v→ImV h' d v
 | .non,_,e=>e
 | .bl _,_,e=>e
 | .int _,_,e=>e
 | .str _,_,e=>e
 | .fn _,_,e=>e
 | .fl _,_,e=>e
 | .tup ds,_,e=>by
  obtain⟨a,o,items,n,rfl,h1,h2,h3,h4⟩:=e
  exact⟨a,o,items,n,rfl,k a o items n h1 h2 h3,h2,h3,aK.keep k h4⟩
theorem aK.keep {h h':Heap} (k:lL h h'):∀ {ds:List Im}{vs:List Value},aK h ds vs→aK h' ds vs
 | [],_,e=>e
 | d::ds,_,e=>by
  obtain⟨v,r,rfl,h1,h2⟩:=e
  exact⟨v,r,rfl,ImV.keep k h1,aK.keep k h2⟩
end
theorem lM {h:Heap}:∀ (n:Nat) {x y:Im}{v:Value},Im.key n x=true→Im.key n y=true→ImV h x v→ImV h y v→x=y
 | n,.int i,y,v,_,ky,hx,hy=>by
  obtain⟨t,rfl⟩:=hx
  cases y with
  | int j=>obtain⟨u,e⟩:=hy;injection e with e;rw[e]
  | str z=>obtain⟨u,e⟩:=hy;cases e
  | tup ds=>obtain⟨_,_,_,_,e,_⟩:=hy;cases e
  | _=>cases n<;>cases ky
 | n,.str z,y,v,_,ky,hx,hy=>by
  obtain⟨t,rfl⟩:=hx
  cases y with
  | int j=>obtain⟨u,e⟩:=hy;cases e
  | str z=>obtain⟨u,e⟩:=hy;injection e with e;rw[e]
  | tup ds=>obtain⟨_,_,_,_,e,_⟩:=hy;cases e
  | _=>cases n<;>cases ky
 | n+1,.tup ds,y,v,kx,ky,hx,hy=>by
  obtain⟨a,o,items,m,rfl,h1,h2,h3,h4⟩:=hx
  cases y with
  | int j=>obtain⟨u,e⟩:=hy;cases e
  | str z=>obtain⟨u,e⟩:=hy;cases e
  | tup es=>
   obtain⟨a',o',items',m',e,g1,g2,g3,g4⟩:=hy
   cases e
   rw[h1] at g1
   cases g1
   rw[h3] at g3
   injection g3 with g3 _
   subst g3
   have all:∀ (ds es:List Im) (vs:List Value),Im.keys n ds=true→Im.keys n es=true→aK h ds vs→aK h es vs→ds=es:=by
    intro ds
    induction ds with
    | nil=>
     intro es vs _ _ a b
     cases es with
     | nil=>rfl
     | cons e es=>obtain⟨_,_,q,_⟩:=b;rw[show vs=[] from a] at q;cases q
    | cons d ds ih=>
     intro es vs k1 k2 a b
     obtain⟨v,r,rfl,a1,a2⟩:=a
     cases es with
     | nil=>cases (show v::r=[] from b)
     | cons e es=>
      obtain⟨v',r',q,b1,b2⟩:=b
      cases q
      rw[Im.keys,Bool.and_eq_true] at k1 k2
      rw[lM n k1.1 k2.1 a1 b1,ih es r k1.2 k2.2 a2 b2]
   rw[all ds es _ kx ky h4 g4]
  | _=>cases ky
 | _,.non,_,_,k,_,_,_=>by cases ‹Nat›<;>cases k
 | _,.bl _,_,_,k,_,_,_=>by cases ‹Nat›<;>cases k
 | _,.fn _,_,_,k,_,_,_=>by cases ‹Nat›<;>cases k
 | _,.fl _,_,_,k,_,_,_=>by cases ‹Nat›<;>cases k
 | 0,.tup _,_,_,k,_,_,_=>by cases k
section
variable {prog:Program}{w:World}
theorem lN:∀ (n:Nat) {A:Around}{E:Value→Shared→Prop}{s:Shared}{d:Im}{v:Value}{Q:Int→Shared→Prop},Im.key n d=true→A.units+n<cLine→ImV s.heap d v→Q (imH w d) { s with toks:=s.toks+imD d }→
  wpAny (model prog w) A (pyHash v) Q E s
 | n,A,E,s,.int i,v,Q,_,_,hv,h=>by
  obtain⟨t,rfl⟩:=hv
  exact wpAny_pyHash_int h
 | n,A,E,s,.str i,v,Q,_,_,hv,h=>by
  obtain⟨t,rfl⟩:=hv
  exact wpAny_pyHash_str h
 | n+1,A,E,s,.tup ds,v,Q,k,hu,hv,h=>by
  obtain⟨a,o,items,m,rfl,ho,hc,hd,hi⟩:=hv
  have hT:s.TypeIs (.ref a) "tuple" := ⟨o,ho,hc⟩
  unfold pyHash
  first | unfold pyHashByItsType | skip
  first | refine wpAny_bind (wpAny_cRoomFor_or (.inr (by lia)) ?_) | skip
  refine wpAny_bind (wpAny_specialOf hT F.slot_tuple_hash.lookup ?_)
  show wpAny _ _ (if (some (Value.builtin "tuple.__hash__") == some Value.none)=true then _ else _) Q E s
  rw[if_neg (by rw[beq_builtin_none];exact Bool.false_ne_true)]
  refine wpAny_bind (wpAny_specialOf hT F.slot_tuple_hash.lookup ?_)
  show wpAny _ _ (callSpecialIfBoundUnlessNone? (.ref a) "__hash__" _ >>= _) Q E s
  refine wpAny_bind (wpAny_callSpecialIfBoundUnlessNone?_slot hT F.slot_tuple_hash (wpAny_call_entry F.slot_tuple_hash hT F.entry_tuple_hash ?_ (F.args_tuple_hash_1 _)))
  show wpAny _ _ (Builtin.Tuple.tupleItemsOf (.ref a) >>= _) _ _ s
  refine wpAny_bind (wpAny_tupleItemsOf ho hd ?_)
  refine wpAny_bind ?_
  rw[← Array.forIn_toList]
  refine wpAny_forIn_list _
   (fun rest (b:Array Int) s'=>∃ done left,ds=done++left∧aK s.heap left rest∧b.toList=cn w done∧s'={ s with toks:=s.toks+c5 done })
   _ ?_ ?_ _ _ ⟨[],ds,rfl,hi,rfl,rfl⟩
  ·rintro x rest b s' ⟨done,left,rfl,hl,hb,rfl⟩
   cases left with
   | nil=>cases (show x::rest=[] from hl)
   | cons d left=>
    obtain⟨v,r,e,h1,hl'⟩:=hl
    cases e
    have k2:=lK (a:=done) (show Im.keys n (done++d::left)=true from k)
    rw[Im.keys,Bool.and_eq_true] at k2
    refine wpAny_bind (lN n k2.1 (by show A.units+1+n<cLine;lia) h1 ?_)
    first
     | exact wpAny_pure ⟨done++[d],left,by simp,hl',by simp[hb,jt,cn],by simp[ju,c5,Nat.add_assoc]⟩
     | exact wpAny_bind (wpAny_pure (wpAny_pure ⟨done++[d],left,by simp,hl',by simp[hb,jt,cn],by simp[ju,c5,Nat.add_assoc]⟩))
  ·rintro b s' ⟨done,left,rfl,hl,hb,rfl⟩
   cases left with
   | cons d left=>obtain⟨_,_,e,_⟩:=hl;cases e
   | nil=>
   rw[List.append_nil] at h
   show wpAny _ _ (retInt (Builtin.Tuple.tupleHashOf b.toList)) _ _ _
   rw[hb]
   refine wpAny_ret_mkInt ?_
   show wpAny _ _ (if (decide (-(2:Int) ^ 63≤Builtin.Tuple.tupleHashOf (cn w done)) && decide (Builtin.Tuple.tupleHashOf (cn w done)<2 ^ 63))=true then _ else _) Q E _
   rw[imH,imD] at h
   unfold reduceHash at h
   by_cases hr:(decide (-(2:Int) ^ 63≤Builtin.Tuple.tupleHashOf (cn w done)) && decide (Builtin.Tuple.tupleHashOf (cn w done)<2 ^ 63))=true
   ·rw[if_pos hr]
    rw[if_pos hr] at h
    exact wpAny_pure (by simpa [Nat.add_assoc] using h)
   ·rw[if_neg hr]
    rw[if_neg hr] at h
    exact wpAny_bind (wpAny_rule (wpAny_pure (by simpa [Nat.add_assoc] using h)))
 | _,_,_,_,.non,_,_,k,_,_,_=>by cases ‹Nat›<;>cases k
 | _,_,_,_,.bl _,_,_,k,_,_,_=>by cases ‹Nat›<;>cases k
 | _,_,_,_,.fn _,_,_,k,_,_,_=>by cases ‹Nat›<;>cases k
 | _,_,_,_,.fl _,_,_,k,_,_,_=>by cases ‹Nat›<;>cases k
 | 0,_,_,_,.tup _,_,_,k,_,_,_=>by cases k
mutual
noncomputable def ap:Im→Im→Bool
 | .non,.non=>true
 | .bl a,.bl b=>a == b
 | .bl a,.int j=>(if a then 1 else 0) == j
 | .int i,.bl b=>i == (if b then 1 else 0)
 | .int i,.int j=>i == j
 | .str x,.str y=>x == y
 | .tup a,.tup b=>bw a b
 | _,_=>false
noncomputable def bw:List Im→List Im→Bool
 | [],[]=>true
 | a::r,b::t=>ap a b && bw r t
 | _,_=>false
end
mutual
noncomputable def Im.pl:Nat→Im→Bool
 | _,.non=>true
 | _,.bl _=>true
 | _,.int _=>true
 | _,.str _=>true
 | n+1,.tup ds=>Im.pls n ds
 | _,_=>false
noncomputable def Im.pls:Nat→List Im→Bool
 | _,[]=>true
 | n,d::ds=>Im.pl n d && Im.pls n ds
end
theorem c6 {n:Nat}:∀ {ds:List Im}{j:Nat}{d:Im},Im.pls n ds=true→ds[j]?=some d→Im.pl n d=true
 | [],j,d,_,h=>by simp at h
 | e::ds,0,d,k,h=>by
  rw[Im.pls,Bool.and_eq_true] at k
  simp at h
  subst h
  exact k.1
 | e::ds,j+1,d,k,h=>by
  rw[Im.pls,Bool.and_eq_true] at k
  exact c6 k.2 (by simpa using h)
theorem aK.get {h:Heap}:∀ {ds:List Im}{vs:List Value}{j:Nat}{v:Value},aK h ds vs→vs[j]?=some v→∃ d,ds[j]?=some d∧ImV h d v
 | [],vs,j,v,a,e=>by rw[show vs=[] from a] at e;simp at e
 | d::ds,vs,0,v,a,e=>by
  obtain⟨u,r,rfl,a1,a2⟩:=a
  simp at e
  subst e
  exact⟨d,rfl,a1⟩
 | d::ds,vs,j+1,v,a,e=>by
  obtain⟨u,r,rfl,a1,a2⟩:=a
  obtain⟨d',h1,h2⟩:=aK.get (j:=j) a2 (by simpa using e)
  exact⟨d',by simpa using h1,h2⟩
theorem lO {h:Heap}:∀ (n:Nat) {x y:Im}{v:Value},Im.pl n x=true→Im.pl n y=true→ImV h x v→ImV h y v→ap x y=true
 | n,.non,y,v,_,ky,hx,hy=>by
  cases (show v=.none from hx)
  cases y with
  | non=>rfl
  | bl b=>cases hy
  | int j=>obtain⟨u,e⟩:=hy;cases e
  | str z=>obtain⟨u,e⟩:=hy;cases e
  | tup ds=>obtain⟨_,_,_,_,e,_⟩:=hy;cases e
  | fn a=>cases n<;>cases ky
  | fl a=>cases n<;>cases ky
 | n,.bl b,y,v,_,ky,hx,hy=>by
  cases (show v=.bool b from hx)
  cases y with
  | non=>cases hy
  | bl c=>cases hy;simp[ap]
  | int j=>obtain⟨u,e⟩:=hy;cases e
  | str z=>obtain⟨u,e⟩:=hy;cases e
  | tup ds=>obtain⟨_,_,_,_,e,_⟩:=hy;cases e
  | fn a=>cases n<;>cases ky
  | fl a=>cases n<;>cases ky
 | n,.int i,y,v,_,ky,hx,hy=>by
  obtain⟨t,rfl⟩:=hx
  cases y with
  | non=>cases hy
  | bl c=>cases hy
  | int j=>obtain⟨u,e⟩:=hy;cases e;simp[ap]
  | str z=>obtain⟨u,e⟩:=hy;cases e
  | tup ds=>obtain⟨_,_,_,_,e,_⟩:=hy;cases e
  | fn a=>cases n<;>cases ky
  | fl a=>cases n<;>cases ky
 | n,.str i,y,v,_,ky,hx,hy=>by
  obtain⟨t,rfl⟩:=hx
  cases y with
  | non=>cases hy
  | bl c=>cases hy
  | int j=>obtain⟨u,e⟩:=hy;cases e
  | str z=>obtain⟨u,e⟩:=hy;cases e;simp[ap]
  | tup ds=>obtain⟨_,_,_,_,e,_⟩:=hy;cases e
  | fn a=>cases n<;>cases ky
  | fl a=>cases n<;>cases ky
 | n+1,.tup ds,y,v,kx,ky,hx,hy=>by
  obtain⟨a,o,items,m,rfl,h1,h2,h3,h4⟩:=hx
  cases y with
  | non=>cases hy
  | bl c=>cases hy
  | int j=>obtain⟨u,e⟩:=hy;cases e
  | str z=>obtain⟨u,e⟩:=hy;cases e
  | fn a=>cases ky
  | fl a=>cases ky
  | tup es=>
   obtain⟨a',o',items',m',e,g1,g2,g3,g4⟩:=hy
   cases e
   rw[h1] at g1
   cases g1
   rw[h3] at g3
   injection g3 with g3 _
   subst g3
   have all:∀ (ds es:List Im) (vs:List Value),Im.pls n ds=true→Im.pls n es=true→aK h ds vs→aK h es vs→bw ds es=true:=by
    intro ds
    induction ds with
    | nil=>
     intro es vs _ _ a b
     cases es with
     | nil=>rfl
     | cons e es=>obtain⟨_,_,q,_⟩:=b;rw[show vs=[] from a] at q;cases q
    | cons d ds ih=>
     intro es vs k1 k2 a b
     obtain⟨v,r,rfl,a1,a2⟩:=a
     cases es with
     | nil=>cases (show v::r=[] from b)
     | cons e es=>
      obtain⟨v',r',q,b1,b2⟩:=b
      cases q
      rw[Im.pls,Bool.and_eq_true] at k1 k2
      rw[bw,lO n k1.1 k2.1 a1 b1,ih es r k1.2 k2.2 a2 b2]
      rfl
   rw[ap]
   exact all ds es _ kx ky h4 g4
 | n,.fn _,_,_,k,_,_,_=>by cases n<;>cases k
 | n,.fl _,_,_,k,_,_,_=>by cases n<;>cases k
 | 0,.tup _,_,_,k,_,_,_=>by cases k
theorem gH {e:Nat→Bool}:∀ {ds es:List Im},(∀ (j:Nat) (x y:Im),ds[j]?=some x→es[j]?=some y→e j=ap x y)→((List.range (min ds.length es.length)).all e && ds.length == es.length)=bw ds es:=by
 have key:∀ (ds es:List Im) (f:Nat→Bool),(∀ (j:Nat) (x y:Im),ds[j]?=some x→es[j]?=some y→f j=ap x y)→((List.range (min ds.length es.length)).all f && ds.length == es.length)=bw ds es:=by
  intro ds
  induction ds with
  | nil=>intro es f _;cases es<;>simp[bw]
  | cons d ds ih=>
   intro es f h
   cases es with
   | nil=>simp[bw]
   | cons c es=>
    have:=ih es (fun j=>f (j+1)) fun j x y a b=>h (j+1) x y (by simpa using a) (by simpa using b)
    rw[bw,← this,← h 0 d c rfl rfl]
    rw[List.length_cons,List.length_cons,show min (ds.length+1) (es.length+1)=min ds.length es.length+1 by lia,List.range_succ_eq_map,List.all_cons,List.all_map,Bool.and_assoc]
    congr 2
    rw[Bool.eq_iff_iff]
    simp
 exact fun {ds es} h=>key ds es e h
theorem b9 {s:Shared}:∀ (n:Nat) {A:Around}{x y:Im}{u v:Value},Im.pl n x=true→Im.pl n y=true→A.units+n+1<cLine→ImV s.heap x u→ImV s.heap y v→SeqAt.EqAt A s u v (ap x y)
 | n,A,.non,y,u,v,_,ky,hu,hx,hy=>by
  cases (show u=.none from hx)
  cases y with
  | non=>cases (show v=.none from hy);exact SeqAt.EqAt.same _
  | bl b=>cases (show v=.bool b from hy);exact SeqAt.EqAt.none_bool b
  | int j=>obtain⟨t,rfl⟩:=hy;exact SeqAt.EqAt.none_int j t
  | str z=>obtain⟨t,rfl⟩:=hy;exact SeqAt.EqAt.none_str z t
  | tup ds=>obtain⟨a,o,items,m,rfl,h1,h2,h3,_⟩:=hy;exact SeqAt.EqAt.none_tuple ⟨o,h1,h2,m,h3⟩ (by lia)
  | fn a=>cases n<;>cases ky
  | fl a=>cases n<;>cases ky
 | n,A,.bl b,y,u,v,_,ky,hu,hx,hy=>by
  cases (show u=.bool b from hx)
  cases y with
  | non=>cases (show v=.none from hy);exact SeqAt.EqAt.bool_none b
  | bl c=>cases (show v=.bool c from hy);exact SeqAt.EqAt.bool_bool b c
  | int j=>obtain⟨t,rfl⟩:=hy;exact SeqAt.EqAt.bool_int b j t
  | str z=>obtain⟨t,rfl⟩:=hy;exact SeqAt.EqAt.bool_str b z t
  | tup ds=>obtain⟨a,o,items,m,rfl,h1,h2,h3,_⟩:=hy;exact SeqAt.EqAt.bool_tuple b ⟨o,h1,h2,m,h3⟩ (by lia)
  | fn a=>cases n<;>cases ky
  | fl a=>cases n<;>cases ky
 | n,A,.int i,y,u,v,_,ky,hu,hx,hy=>by
  obtain⟨t0,rfl⟩:=hx
  cases y with
  | non=>cases (show v=.none from hy);exact SeqAt.EqAt.int_none i t0
  | bl c=>cases (show v=.bool c from hy);exact SeqAt.EqAt.int_bool i t0 c
  | int j=>obtain⟨t,rfl⟩:=hy;exact SeqAt.EqAt.int_int i t0 j t
  | str z=>obtain⟨t,rfl⟩:=hy;exact SeqAt.EqAt.int_str i t0 z t
  | tup ds=>obtain⟨a,o,items,m,rfl,h1,h2,h3,_⟩:=hy;exact SeqAt.EqAt.int_tuple i t0 ⟨o,h1,h2,m,h3⟩ (by lia)
  | fn a=>cases n<;>cases ky
  | fl a=>cases n<;>cases ky
 | n,A,.str i,y,u,v,_,ky,hu,hx,hy=>by
  obtain⟨t0,rfl⟩:=hx
  cases y with
  | non=>cases (show v=.none from hy);exact SeqAt.EqAt.str_none i t0
  | bl c=>cases (show v=.bool c from hy);exact SeqAt.EqAt.str_bool i t0 c
  | int j=>obtain⟨t,rfl⟩:=hy;exact SeqAt.EqAt.str_int i t0 j t
  | str z=>obtain⟨t,rfl⟩:=hy;exact SeqAt.EqAt.str_str i t0 z t
  | tup ds=>obtain⟨a,o,items,m,rfl,h1,h2,h3,_⟩:=hy;exact SeqAt.EqAt.str_tuple i t0 ⟨o,h1,h2,m,h3⟩ (by lia)
  | fn a=>cases n<;>cases ky
  | fl a=>cases n<;>cases ky
 | n+1,A,.tup ds,y,u,v,kx,ky,hu,hx,hy=>by
  have hx':=hx
  obtain⟨a,o,items,m,rfl,h1,h2,h3,h4⟩:=hx
  have ta:s.heap.IsTuple a items:=⟨o,h1,h2,m,h3⟩
  cases y with
  | non=>cases (show v=.none from hy);exact SeqAt.EqAt.tuple_none ta (by lia)
  | bl c=>cases (show v=.bool c from hy);exact SeqAt.EqAt.tuple_bool c ta (by lia)
  | int j=>obtain⟨t,rfl⟩:=hy;exact SeqAt.EqAt.tuple_int j t ta (by lia)
  | str z=>obtain⟨t,rfl⟩:=hy;exact SeqAt.EqAt.tuple_str z t ta (by lia)
  | fn a=>cases ky
  | fl a=>cases ky
  | tup es=>
   have hy':=hy
   obtain⟨b,o',items',m',rfl,g1,g2,g3,g4⟩:=hy
   by_cases e:a=b
   ·subst e
    rw[lO (n+1) kx ky hx' hy']
    exact SeqAt.EqAt.same _
   ·have tb:s.heap.IsTuple b items':=⟨o',g1,g2,m',g3⟩
    have l1:=h4.length
    have l2:=g4.length
    have l3:items.toList.length=items.size:=by simp
    have l4:items'.toList.length=items'.size:=by simp
    rw[l3] at l1
    rw[l4] at l2
    have q:=SeqAt.EqAt.of_refs (A:=A) e (SeqAt.RcAt.tuples (e:=fun j=>ap (ds.getD j .non) (es.getD j .non)) ta tb (by lia) fun j j1 j2=>by
     obtain⟨d1,e1,r1⟩:=h4.get (j:=j) (v:=items[j]) (by rw[Array.getElem?_toList];simp[j1])
     obtain⟨d2,e2,r2⟩:=g4.get (j:=j) (v:=items'[j]) (by rw[Array.getElem?_toList];simp[j2])
     rw[List.getD_eq_getElem?_getD,e1,List.getD_eq_getElem?_getD,e2]
     exact b9 n (c6 kx e1) (c6 ky e2) (by show A.units+1+n+1<cLine;lia) r1 r2)
    rw[← l1,← l2,gH (ds:=ds) (es:=es) (fun j x y a b=>by rw[List.getD_eq_getElem?_getD,a,List.getD_eq_getElem?_getD,b];rfl)] at q
    rw[ap]
    exact q
 | n,A,.fn _,_,_,_,k,_,_,_,_=>by cases n<;>cases k
 | n,A,.fl _,_,_,_,k,_,_,_,_=>by cases n<;>cases k
 | 0,A,.tup _,_,_,_,k,_,_,_,_=>by cases k
mutual
theorem jv:∀ {n:Nat}{d:Im},Im.key n d=true→Im.pl n d=true
 | n,.int _,_=>by cases n<;>rfl
 | n,.str _,_=>by cases n<;>rfl
 | n+1,.tup ds,h=>by rw[Im.key] at h;rw[Im.pl];exact lP h
 | 0,.tup _,h=>by cases h
 | n,.non,h=>by cases n<;>cases h
 | n,.bl _,h=>by cases n<;>cases h
 | n,.fn _,h=>by cases n<;>cases h
 | n,.fl _,h=>by cases n<;>cases h
theorem lP:∀ {n:Nat}{ds:List Im},Im.keys n ds=true→Im.pls n ds=true
 | n,[],_=>by rw[Im.pls]
 | n,d::ds,h=>by rw[Im.keys,Bool.and_eq_true] at h;rw[Im.pls,jv h.1,lP h.2];rfl
end
mutual
theorem lQ:∀ {n:Nat}{x y:Im},Im.key n x=true→Im.key n y=true→ap x y=decide (x=y)
 | n,.int i,y,_,hy=>by
  cases y with
  | int j=>rw[ap];by_cases e:i=j<;>simp[e]
  | str z=>simp[ap]
  | tup z=>simp[ap]
  | _=>cases n<;>cases hy
 | n,.str i,y,_,hy=>by
  cases y with
  | int j=>simp[ap]
  | str z=>rw[ap];by_cases e:i=z<;>simp[e]
  | tup z=>simp[ap]
  | _=>cases n<;>cases hy
 | n+1,.tup ds,y,hx,hy=>by
  cases y with
  | int j=>simp[ap]
  | str z=>simp[ap]
  | tup es=>
   rw[Im.key] at hx hy
   rw[ap,lR hx hy]
   simp
  | _=>cases hy
 | 0,.tup _,_,h,_=>by cases h
 | n,.non,_,h,_=>by cases n<;>cases h
 | n,.bl _,_,h,_=>by cases n<;>cases h
 | n,.fn _,_,h,_=>by cases n<;>cases h
 | n,.fl _,_,h,_=>by cases n<;>cases h
theorem lR:∀ {n:Nat}{x y:List Im},Im.keys n x=true→Im.keys n y=true→bw x y=decide (x=y)
 | n,[],y,_,_=>by cases y<;>simp[bw]
 | n,d::ds,[],_,_=>by simp[bw]
 | n,d::ds,e::es,hx,hy=>by
  rw[Im.keys,Bool.and_eq_true] at hx hy
  rw[bw,lQ hx.1 hy.1,lR hx.2 hy.2]
  by_cases h1:d=e<;>by_cases h2:ds=es<;>simp[h1,h2]
end
theorem lS:∀ (n:Nat) {A:Around}{E:Value→Shared→Prop}{s:Shared}{d:Im}{v:Value}{Q:Bool→Shared→Prop},Im.key n d=true→ImV s.heap d v→Q true s→wpAny (model prog w) A (eqIsQuiet n v) Q E s
 | n,A,E,s,.int i,v,Q,_,hv,h=>by
  obtain⟨t,rfl⟩:=hv
  rw[eqIsQuiet_byValue n rfl]
  exact wpAny_pure h
 | n,A,E,s,.str i,v,Q,_,hv,h=>by
  obtain⟨t,rfl⟩:=hv
  rw[eqIsQuiet_byValue n rfl]
  exact wpAny_pure h
 | n+1,A,E,s,.tup ds,v,Q,k,hv,h=>by
  obtain⟨a,o,items,m,rfl,ho,hc,hd,hi⟩:=hv
  have hT:s.TypeIs (.ref a) "tuple" := ⟨o,ho,hc⟩
  unfold eqIsQuiet
  refine wpAny_bind (wpAny_specialOf hT F.slot_tuple_eq.lookup ?_)
  show wpAny _ _ (isInstance (.ref a) (.type "tuple") >>= _) _ _ s
  refine wpAny_bind (wpAny_isInstance hT isSubtype_tuple_tuple ?_)
  simp only[Bool.not_true,Bool.false_eq_true,if_false]
  refine wpAny_bind (wpAny_seqItems ho hd ?_)
  refine wpAny_bind ?_
  show wpAny _ _ (forIn items _ _) _ _ s
  rw[← Array.forIn_toList]
  rw[Im.key] at k
  refine wpAny_forIn_list _ (fun rest r s'=>r.1=none∧s'=s∧∃ left,Im.keys n left=true∧aK s.heap left rest) _ ?_ ?_ _ _ ⟨rfl,rfl,ds,k,hi⟩
  ·rintro v rest r s' ⟨hr,rfl,left,hk,hl⟩
   cases left with
   | nil=>cases (show v::rest=[] from hl)
   | cons d left=>
    obtain⟨v',r',e,h1,hl'⟩:=hl
    cases e
    rw[Im.keys,Bool.and_eq_true] at hk
    refine wpAny_bind (lS n hk.1 h1 ?_)
    simp only[Bool.not_true,Bool.false_eq_true,if_false]
    exact wpAny_pure ⟨rfl,rfl,left,hk.2,hl'⟩
  ·rintro⟨r1,r2⟩ s' ⟨hr,rfl,_⟩
   simp only at hr
   subst hr
   exact wpAny_pure h
 | _,_,_,_,.non,_,_,k,_,_=>by cases ‹Nat›<;>cases k
 | _,_,_,_,.bl _,_,_,k,_,_=>by cases ‹Nat›<;>cases k
 | _,_,_,_,.fn _,_,_,k,_,_=>by cases ‹Nat›<;>cases k
 | _,_,_,_,.fl _,_,_,k,_,_=>by cases ‹Nat›<;>cases k
 | 0,_,_,_,.tup _,_,_,k,_,_=>by cases k
noncomputable def cq (prog:Program) (w:World):HeapKind prog w (List Im) where
 is:=fun h ds a=>Im.keys 7 ds=true∧ImV h (.tup ds) (.ref a)
 hash:=fun ds=>imH w (.tup ds)
 draws:=fun ds=>imD (.tup ds)
 room:=fun A=>A.units+10<cLine
 inj:=fun hx hy=>by
  have:=lM 8 (x:=.tup _) (y:=.tup _) hx.1 hy.1 hx.2 hy.2
  injection this
 keeps:=fun {h h' k a d o es ep} x ho hd hs=>⟨x.1,x.2.keep fun b u items n hb hc hd'=>by
  have hne:b≠d:=by
   rintro rfl
   rw[ho] at hb
   cases hb
   rw[hd] at hd'
   cases hd'
  exact (hs.2 b hne).trans hb⟩
 pyHash:=fun hu hk h=>lN 8 (d:=.tup _) hk.1 (show _ < _ by have:_+10<cLine:=hu;lia) hk.2 h
 eqBool:=fun {A E s x y a b Q} hu hx hy h=>by
  have q:=b9 (s:=s) 8 (A:=A) (x:=.tup x) (y:=.tup y) (jv (n:=8) (d:=.tup x) hx.1) (jv (n:=8) (d:=.tup y) hy.1) (show _ < _ by have:A.units+10<cLine:=hu;lia) hx.2 hy.2
  rw[lQ (n:=8) (x:=.tup x) (y:=.tup y) hx.1 hy.1] at q
  exact q _ _ E Q (by simpa using h)
 quiet:=fun hk h=>lS 8 (d:=.tup _) hk.1 hk.2 h
end
noncomputable abbrev Key:=Sum Int Str
noncomputable def fT:Key→Value→Bool
 | .inl k,v=>Value.isInt k v
 | .inr x,v=>Value.isStrOf x v
noncomputable def rQ (w:World):Key→Int
 | .inl k=>hashInt k
 | .inr x=>hashStr w x
theorem dE:∀ {k:Key}{v:Value},fT k v=true→(∃ i t,k=Sum.inl i∧v=Value.int i t)∨(∃ x t,k=Sum.inr x∧v=Value.str x t)
 | .inl i,v,h=>by
  obtain⟨t,e⟩:=Value.isInt_shape (k:=i) (v:=v) h
  exact .inl ⟨i,t,rfl,e⟩
 | .inr x,v,h=>by
  obtain⟨t,e⟩:=Value.isStrOf_shape (x:=x) (v:=v) h
  exact .inr ⟨x,t,rfl,e⟩
theorem rR (i:Int) (t:Tok):fT (.inl i) (.int i t)=true:=by simp[fT,Value.isInt]
theorem rS (x:Str) (t:Tok):fT (.inr x) (.str x t)=true:=by simp[fT,Value.isStrOf]
theorem rT (a b:Int):decide ((Sum.inl a:Key)=Sum.inl b)=(a == b):=by
 by_cases e:a=b
 ·subst e;simp
 ·have h:¬ (Sum.inl a:Key)=Sum.inl b:=fun q=>e (Sum.inl.inj q)
  rw[decide_eq_false h]
  exact (beq_eq_false_iff_ne.mpr e).symm
theorem rV (a b:Str):decide ((Sum.inr a:Key)=Sum.inr b)=decide (a=b):=by
 by_cases e:a=b
 ·subst e;simp
 ·have h:¬ (Sum.inr a:Key)=Sum.inr b:=fun q=>e (Sum.inr.inj q)
  rw[decide_eq_false h,decide_eq_false e]
theorem rW (a:Int) (b:Str):decide ((Sum.inl a:Key)=Sum.inr b)=false:=decide_eq_false (fun q=>nomatch q)
theorem rX (a:Str) (b:Int):decide ((Sum.inr a:Key)=Sum.inl b)=false:=decide_eq_false (fun q=>nomatch q)
noncomputable def gI (prog:Program) (w:World):PySem.KeyKind prog w Key where
 is:=fT
 hash:=rQ w
 inj:=fun v a b ha hb=>by
  rcases dE ha with ⟨i,t,rfl,rfl⟩ | ⟨x,t,rfl,rfl⟩
  ·rcases dE hb with ⟨j,u,rfl,e⟩ | ⟨y,u,rfl,e⟩
   ·injection e with e1 _;rw[e1]
   ·exact nomatch e
  ·rcases dE hb with ⟨j,u,rfl,e⟩ | ⟨y,u,rfl,e⟩
   ·exact nomatch e
   ·injection e with e1 _;rw[e1]
 byValue:=fun k v h=>by
  rcases dE h with ⟨i,t,rfl,rfl⟩ | ⟨x,t,rfl,rfl⟩<;>rfl
 pyHash:=fun hv h=>by
  rcases dE hv with ⟨i,t,rfl,rfl⟩ | ⟨x,t,rfl,rfl⟩
  ·exact wpAny_pyHash_int h
  ·exact wpAny_pyHash_str h
 eqBool:=fun hu hv h=>by
  rcases dE hu with ⟨i,t,rfl,rfl⟩ | ⟨x,t,rfl,rfl⟩
  ·rcases dE hv with ⟨j,u,rfl,rfl⟩ | ⟨y,u,rfl,rfl⟩
   ·rw[rT] at h;exact wpAny_eqBool_int h
   ·rw[rW] at h;exact SeqAt.EqAt.int_str i t y u _ _ _ _ h
  ·rcases dE hv with ⟨j,u,rfl,rfl⟩ | ⟨y,u,rfl,rfl⟩
   ·rw[rX] at h;exact SeqAt.EqAt.str_int x t j u _ _ _ _ h
   ·rw[rV] at h;exact wpAny_eqBool_str h
 «strs»:=fun k x t v h=>by
  rcases dE h with ⟨i,u,rfl,e⟩ | ⟨y,u,rfl,e⟩
  ·exact nomatch e
  ·injection e with e1 _
   subst e1
   cases v<;>rfl
theorem rY (prog:Program) (w:World) (i:Int) (t:Tok):(gI prog w).is (.inl i) (.int i t)=true:=rR i t
theorem rZ (prog:Program) (w:World) (x:Str) (t:Tok):(gI prog w).is (.inr x) (.str x t)=true:=rS x t
inductive V where
 | non | bl (b:Bool) | int (i:Int) | str (x:Str) | byt (b:Array UInt8) | flt (b:UInt64) | ref (a:Addr) | ty (n:String)
 deriving DecidableEq
noncomputable def av:V→Value→Prop
 | .non,u=>u=Value.none
 | .bl b,u=>u=Value.bool b
 | .int i,u=>∃ t,u=Value.int i t
 | .str x,u=>∃ t,u=Value.str x t
 | .byt b,u=>∃ t,u=Value.bytes b t
 | .flt b,u=>∃ t,u=Value.float b t
 | .ref a,u=>u=Value.ref a
 | .ty n,u=>u=Value.type n
noncomputable abbrev ao:List V→List Value→Prop:=Paired av
theorem ao.length {xs:List V}{us:List Value} (r:ao xs us):xs.length=us.length:=Paired.length r
theorem ao.get:∀ {xs:List V}{us:List Value}{i:Nat}{x:V},ao xs us→xs[i]?=some x→∃ u,us[i]?=some u∧av x u
 | _,_,_,_,.nil,e=>by simp at e
 | _,_,0,_,.cons r _,e=>by simp at e;subst e;exact⟨_,rfl,r⟩
 | _,_,i+1,x,.cons _ t,e=>by
  obtain⟨u,h1,h2⟩:=ao.get (i:=i) (x:=x) t (by simpa using e)
  exact⟨u,by simpa using h1,h2⟩
theorem ao.set {x:V}{u:Value} (r:av x u):∀ {xs:List V}{us:List Value} (i:Nat),ao xs us→ao (xs.set i x) (us.set i u)
 | _,_,_,.nil=>.nil
 | _,_,0,.cons _ t=>.cons r t
 | _,_,i+1,.cons q t=>.cons q (ao.set r i t)
theorem ao.append:∀ {xs ys:List V}{us ws:List Value},ao xs us→ao ys ws→ao (xs++ys) (us++ws)
 | _,_,_,_,.nil,s=>s
 | _,_,_,_,.cons r t,s=>.cons r (ao.append t s)
theorem ao.take:∀ {xs:List V}{us:List Value} (n:Nat),ao xs us→ao (xs.take n) (us.take n)
 | _,_,0,_=>.nil
 | _,_,_+1,.nil=>.nil
 | _,_,n+1,.cons r t=>.cons r (ao.take n t)
theorem ao.drop:∀ {xs:List V}{us:List Value} (n:Nat),ao xs us→ao (xs.drop n) (us.drop n)
 | _,_,0,r=>r
 | _,_,_+1,.nil=>.nil
 | _,_,n+1,.cons _ t=>ao.drop n t
noncomputable def di:Option V→Option Value→Prop
 | some v,some u=>av v u
 | none,none=>True
 | _,_=>False
noncomputable def KV {κ:Type}:List (κ×V)→List (κ×Value)→Prop:=Paired fun (p:κ×V) (q:κ×Value)=>p.1=q.1∧av p.2 q.2
noncomputable def kV:Key→V
 | .inl i=>.int i
 | .inr x=>.str x
inductive HO where
 /-- a list -/
 | lst (xs:List V)
 /-- a tuple (never changes) -/
 | tup (xs:List V)
 /-- a dict whose keys are ints and texts;one whose keys are tuples of ints and texts (the empty one is both) -/
 | dK (kvs:List (Key×V)) | dT (kvs:List (List Im×V))
 /-- a set of ints: its members,its size -/
 | set (S:Int→Bool) (n:Nat)
 /-- an instance of the class at C,its dict at dx,its attributes -/
 | ins (C dx:Addr) (fs:List (Str×V))
 /-- the dict of the instance at x -/
 | own (x:Addr)
 /-- the dict of an exception -/
 | xd (fs:List (Str×V))
 /-- a bound method,f of x -/
 | met (f x:Addr)
 /-- a range object lo,lo+1,.. below hi -/
 | rng (lo hi:Int)
 /-- a thing that is known to the object (the script;a dict while a loop walks it): read,never written while it is so -/
 | frz (o:Obj) (u:HO)
 /-- a code object's table -/
 | tbl (ps:Array Value)
 /-- any other thing,by what is true of its one object (a def of one's own: SetO a S n:=HO.ext fun h=>..) -/
 | ext (φ:Heap→Prop)
noncomputable abbrev Hp:=Addr→Option HO
noncomputable def upd (H:Hp) (a:Addr) (o:HO):Hp:=fun b=>if b=a then some o else H b
theorem cu {H:Hp}{a:Addr}{o:HO}:upd H a o a=some o:=by unfold upd;rw[if_pos rfl]
theorem aY {H:Hp}{a b:Addr}{o:HO} (h:b≠a):upd H a o b=H b:=by unfold upd;rw[if_neg h]
theorem c7 {H:Hp}{a b:Addr}{o:HO} (h:H a=some o) (h':H b=none):a≠b:=by
 intro e;subst e;rw[h] at h';cases h'
mutual
noncomputable def IsI (H:Hp):Im→V→Prop
 | .non,v=>v=.non
 | .bl b,v=>v=.bl b
 | .int i,v=>v=.int i
 | .str x,v=>v=.str x
 | .fn a,v=>v=.ref a
 | .fl ds,v=>∃ a xs o,v=.ref a∧H a=some (.frz o (.lst xs))∧ak H ds xs
 | .tup ds,v=>∃ a xs,v=.ref a∧H a=some (.tup xs)∧ak H ds xs
noncomputable def ak (H:Hp):List Im→List V→Prop
 | [],vs=>vs=[]
 | d::ds,vs=>∃ v r,vs=v::r∧IsI H d v∧ak H ds r
end
noncomputable def gJ (H H':Hp):Prop:=∀ a xs,H a=some (.tup xs)→H' a=some (.tup xs)
structure TupS (H H':Hp):Prop where
 t:gJ H H'
 z:∀ a o u,H a=some (.frz o u)→H' a=some (.frz o u)
noncomputable instance {H H':Hp}:CoeFun (TupS H H') (fun _=>∀ a xs,H a=some (.tup xs)→H' a=some (.tup xs)):=⟨fun t=>t.t⟩
mutual
theorem IsI.mono {H H':Hp} (k:TupS H H'):∀ {d:Im}{v:V},IsI H d v→IsI H' d v
 | .non,_,e=>e
 | .bl _,_,e=>e
 | .int _,_,e=>e
 | .str _,_,e=>e
 | .fn _,_,e=>e
 | .tup ds,_,e=>by
  obtain⟨a,xs,rfl,h1,h2⟩:=e
  exact⟨a,xs,rfl,k.t a xs h1,ak.mono k h2⟩
 | .fl ds,_,e=>by
  obtain⟨a,xs,o,rfl,h1,h2⟩:=e
  exact⟨a,xs,o,rfl,k.z a _ _ h1,ak.mono k h2⟩
theorem ak.mono {H H':Hp} (k:TupS H H'):∀ {ds:List Im}{vs:List V},ak H ds vs→ak H' ds vs
 | [],_,e=>e
 | d::ds,_,e=>by
  obtain⟨v,r,rfl,h1,h2⟩:=e
  exact⟨v,r,rfl,IsI.mono k h1,ak.mono k h2⟩
end
noncomputable def KAd (H:Hp) (k:List Im) (b:Addr):Prop:=Im.keys 7 k=true∧IsI H (.tup k) (.ref b)
mutual
theorem IsI.monoK {H H':Hp} (k:gJ H H'):∀ {d:Im}{n:Nat}{v:V},Im.key n d=true→IsI H d v→IsI H' d v
 | .non,_,_,_,e=>e
 | .bl _,_,_,_,e=>e
 | .int _,_,_,_,e=>e
 | .str _,_,_,_,e=>e
 | .fn _,_,_,_,e=>e
 | .tup ds,n+1,_,q,e=>by
  obtain⟨a,xs,rfl,h1,h2⟩:=e
  exact⟨a,xs,rfl,k a xs h1,ak.monoK k q h2⟩
 | .tup ds,0,_,q,e=>nomatch q
 | .fl ds,0,_,q,e=>nomatch q
 | .fl ds,n+1,_,q,e=>nomatch q
theorem ak.monoK {H H':Hp} (k:gJ H H'):∀ {ds:List Im}{n:Nat}{vs:List V},Im.keys n ds=true→ak H ds vs→ak H' ds vs
 | [],_,_,_,e=>e
 | d::ds,n,_,q,e=>by
  obtain⟨v,r,rfl,h1,h2⟩:=e
  rw[Im.keys,Bool.and_eq_true] at q
  exact⟨v,r,rfl,IsI.monoK k q.1 h1,ak.monoK k q.2 h2⟩
end
theorem KAd.mono {H H':Hp}{k:List Im}{b:Addr} (h:KAd H k b) (t:gJ H H'):KAd H' k b:=by
 obtain⟨h0,a,xs,e,h1,h2⟩:=h
 exact⟨h0,a,xs,e,t a xs h1,h2.monoK t h0⟩
section
variable (P:Program) (w:World)
noncomputable def bQ (H:Hp) (h:Heap) (a:Addr):HO→Prop
 | .lst xs=>xs.length≤sizeLine∧∃ (its:List Value) (n:Nat),ao xs its∧h.get? a=some { cls:=.type "list",data:=.seq its.toArray n }
 | .tup xs=>xs.length≤sizeLine∧∃ its:List Value,ao xs its∧IsTup h a its.toArray
 | .dK kvs=>kvs.length≤sizeLine∧(a == sysModules)=false∧∃ vs,KV kvs vs∧h.DictOf (gI P w) a vs
 | .dT kvs=>kvs.length≤sizeLine∧(a == sysModules)=false∧∃ xs:List (List Im×Addr×Value),
   Paired (fun (p:List Im×V) (q:List Im×Addr×Value)=>p.1=q.1∧KAd H p.1 q.2.1∧av p.2 q.2.2) kvs xs∧
   ∃ o es ep,h.get? a=some o∧o.ExactDict∧o.data=.dict es ep∧es.toList=xs.map (entryOfKey (cq P w))∧(xs.map (·.1)).Nodup
 | .set S n=>h.SetOf (intKind P w) a S n
 | .ins C dx fs=>H dx=some (.own a)∧fs.length≤1000∧dx≠a∧h.get? a=some (PySem.W.instObj C dx)∧
   ∃ mA,h.Ns1 dx mA∧(∀ f,di (fs.lookup f) (mA f))∧PySem.Within mA (fs.map (·.1))
 | .own _=>∃ o,h.get? a=some o
 | .xd fs=>∃ mA,h.Ns1 a mA∧∀ f,di (fs.lookup f) (mA f)
 | .rng lo hi=>∃ t u v,h.get? a=some { cls:=.type "range",data:=.fields #[.int lo t,.int hi u,.int 1 v] }
 | .frz o u=>h.get? a=some o∧bQ H h a u
 | .tbl ps=>h.get? a=some { cls:=.none,data:=.fields ps }
 | .met f x=>h.get? a=some (PySem.W.methodObj (.ref f) (.ref x))
 | .ext φ=>φ h∧(∃ o,h.get? a=some o)∧∀ h1 h2:Heap,φ h1→(∀ o,h1.get? a=some o→h2.get? a=some o)→φ h2
noncomputable def HOk (H:Hp) (h:Heap):Prop:=∀ a o,H a=some o→bQ P w H h a o
end
section
variable {P:Program}{w:World}{H H':Hp}{h h':Heap}{a:Addr}{o:HO}
theorem bQ.lt (x:bQ P w H h a o):a<h.objs.size:=by
 cases o with
 | lst xs=>obtain⟨_,_,_,_,e⟩:=x;exact Heap.lt_size e
 | tup xs=>obtain⟨_,_,_,p⟩:=x;exact p.lt
 | dK kvs=>obtain⟨_,_,_,_,o,_,_,e,_⟩:=x;exact Heap.lt_size e
 | dT kvs=>obtain⟨_,_,_,_,o,_,_,e,_⟩:=x;exact Heap.lt_size e
 | set S n=>obtain⟨o,_,_,_,e,_⟩:=x;exact Heap.lt_size e
 | ins C dx fs=>obtain⟨_,_,_,e,_⟩:=x;exact Heap.lt_size e
 | own y=>obtain⟨_,e⟩:=x;exact Heap.lt_size e
 | xd fs=>obtain⟨_,⟨_,_,_,e,_⟩,_⟩:=x;exact Heap.lt_size e
 | rng lo hi=>obtain⟨_,_,_,e⟩:=x;exact Heap.lt_size e
 | frz ob u=>obtain⟨e,_⟩:=x;exact Heap.lt_size e
 | tbl ps=>exact Heap.lt_size (show h.get? a=some _ from x)
 | met f y=>exact Heap.lt_size (show h.get? a=some _ from x)
 | ext φ=>obtain⟨_,⟨_,e⟩,_⟩:=x;exact Heap.lt_size e
theorem Paired.mapP {α β:Type}{F G:α→β→Prop}:∀ {l₁:List α}{l₂:List β},Paired F l₁ l₂→(∀ a b,F a b→G a b)→Paired G l₁ l₂
 | _,_,.nil,_=>.nil
 | _,_,.cons r t,f=>.cons (f _ _ r) (Paired.mapP t f)
theorem bQ.stay (x:bQ P w H h a o) (k:∀ b u,(b=a∨H b=some (.own a))→h.get? b=some u→h'.get? b=some u)
  (ho:∀ b,H b=some (.own a)→H' b=some (.own a)) (ht:∀ b xs,H b=some (.tup xs)→H' b=some (.tup xs)):bQ P w H' h' a o:=by
 induction o with
 | lst xs=>obtain⟨z,its,n,r,e⟩:=x;exact⟨z,its,n,r,k _ _ (.inl rfl) e⟩
 | tup xs=>obtain⟨z,its,r,ob,e,c⟩:=x;exact⟨z,its,r,ob,k _ _ (.inl rfl) e,c⟩
 | dK kvs=>obtain⟨z,y,vs,r,ob,es,ep,e,c⟩:=x;exact⟨z,y,vs,r,ob,es,ep,k _ _ (.inl rfl) e,c⟩
 | dT kvs=>
  obtain⟨z,y,xs,r,ob,es,ep,e,c⟩:=x
  exact⟨z,y,xs,Paired.mapP r fun p q z=>⟨z.1,z.2.1.mono ht,z.2.2⟩,ob,es,ep,k _ _ (.inl rfl) e,c⟩
 | set S n=>obtain⟨ob,es,ep,t,e,c⟩:=x;exact⟨ob,es,ep,t,k _ _ (.inl rfl) e,c⟩
 | ins C dx fs=>
  obtain⟨d,z,ne,e,mA,⟨od,es,ep,e2,c⟩,r⟩:=x
  exact⟨ho _ d,z,ne,k _ _ (.inl rfl) e,mA,⟨od,es,ep,k _ _ (.inr d) e2,c⟩,r⟩
 | own y=>obtain⟨ob,e⟩:=x;exact⟨ob,k _ _ (.inl rfl) e⟩
 | xd fs=>obtain⟨mA,⟨od,es,ep,e,c⟩,r⟩:=x;exact⟨mA,⟨od,es,ep,k _ _ (.inl rfl) e,c⟩,r⟩
 | rng lo hi=>obtain⟨t,u,v,e⟩:=x;exact⟨t,u,v,k _ _ (.inl rfl) e⟩
 | frz ob u ih=>obtain⟨e,q⟩:=x;exact⟨k _ _ (.inl rfl) e,ih q⟩
 | tbl ps=>
  have e:h.get? a=some { cls:=.none,data:=.fields ps }:=x
  show h'.get? a=some { cls:=.none,data:=.fields ps }
  exact k a _ (.inl rfl) e
 | met f y=>
  have e:h.get? a=some (PySem.W.methodObj (.ref f) (.ref y)):=x
  show h'.get? a=some (PySem.W.methodObj (.ref f) (.ref y))
  exact k a _ (.inl rfl) e
 | ext φ=>obtain⟨p,⟨o,e⟩,st⟩:=x;exact⟨st _ _ p fun o q=>k _ _ (.inl rfl) q,⟨o,k _ _ (.inl rfl) e⟩,st⟩
theorem HOk.lt (x:HOk P w H h) (e:H a=some o):a<h.objs.size:=(x a o e).lt
theorem HOk.fresh (x:HOk P w H h) (e:h.objs.size≤a):H a=none:=by
 cases q:H a with
 | none=>rfl
 | some u=>exact absurd (Nat.lt_of_lt_of_le (x.lt q) e) (Nat.lt_irrefl _)
theorem HOk.kept (x:HOk P w H h) (k:∀ b u,h.get? b=some u→h'.get? b=some u):HOk P w H h':=fun a o e=>
 (x a o e).stay (fun b u _ q=>k b u q) (fun _ q=>q) fun _ _ q=>q
theorem HOk.laid (x:HOk P w H h) (k:∀ b u,h.get? b=some u→h'.get? b=some u) (hp:h.objs.size≤a) (new:bQ P w (upd H a o) h' a o):HOk P w (upd H a o) h':=fun b u e=>by
 have hn:=x.fresh hp
 by_cases hb:b=a
 ·subst hb;rw[cu] at e;cases e;exact new
 ·rw[aY hb] at e
  exact (x b u e).stay (fun c v _ q=>k c v q) (fun c q=>by rw[aY (c7 q hn)];exact q) fun c xs q=>by rw[aY (c7 q hn)];exact q
end
noncomputable def Rd (H:Hp) (a:Addr) (u:HO):Prop:=H a=some u∨∃ o,H a=some (.frz o u)
theorem Rd.ok {P:Program}{w:World}{H:Hp}{h:Heap}{a:Addr}{u:HO} (r:Rd H a u) (x:HOk P w H h):bQ P w H h a u:=by
 rcases r with r | ⟨o,r⟩
 ·exact x a u r
 ·obtain⟨_,q⟩:=x a _ r
  exact q
noncomputable def Mut:Option HO→Prop
 | some (.lst _)=>True
 | some (.dK _)=>True
 | some (.dT _)=>True
 | some (.set _ _)=>True
 | some (.ins _ _ _)=>True
 | some (.ext _)=>True
 | _=>False
section
variable {P:Program}{w:World}{H:Hp}{h h':Heap}{x e:Addr}{o':HO}
theorem HOk.write (ok:HOk P w H h) (mu:Mut (H x)) (he:e=x∨H e=some (.own x)) (k:∀ b u,b≠e→h.get? b=some u→h'.get? b=some u) (heo:∃ u,h'.get? e=some u)
  (new:bQ P w (upd H x o') h' x o'):HOk P w (upd H x o') h':=fun b u q=>by
 have nown:∀ c y,H c=some (.own y)→c≠x:=fun c y r z=>by subst z;rw[r] at mu;exact mu
 have ntup:∀ c xs,H c=some (.tup xs)→c≠x:=fun c xs r z=>by subst z;rw[r] at mu;exact mu
 by_cases hb:b=x
 ·subst hb;rw[cu] at q;cases q;exact new
 ·rw[aY hb] at q
  by_cases hbe:b=e
  ·have q':H b=some (.own x):=by
    rcases he with z | z
    ·exact absurd (hbe.trans z) hb
    ·rw[hbe];exact z
   rw[q] at q';cases q'
   obtain⟨v,hv⟩:=heo
   exact⟨v,by rw[hbe];exact hv⟩
  ·refine (ok b u q).stay (fun c v hc r=>k c v ?_ r) (fun c r=>by rw[aY (nown c b r)];exact r) fun c xs r=>by rw[aY (ntup c xs r)];exact r
   rcases hc with rfl | hc
   ·exact hbe
   ·rintro rfl
    rcases he with z | z
    ·exact nown c b hc z
    ·rw[hc] at z;cases z;exact hb rfl
end
structure Un (fs ex:List Addr) (H H':Hp) (h h':Heap):Prop where
 keep:∀ b o,h.get? b=some o→H b=none→b∉fs→b∉ex→h'.get? b=some o
 slot:∀ b o,h.get? b=some o→H b=none→b∈fs→b∉ex→∃ sl,h'.get? b=some { o with slots:=sl }
 free:∀ b o,h.get? b=some o→H b=none→b∉ex→H' b=none
 there:∀ b o,h.get? b=some o→b∉ex→∃ o',h'.get? b=some o'
 tups:∀ b xs,H b=some (.tup xs)→H' b=some (.tup xs)
 frzs:∀ b o u,H b=some (.frz o u)→H' b=some (.frz o u)
 tbls:∀ b ps,H b=some (.tbl ps)→∃ more,H' b=some (.tbl (ps++more))
section
variable {fs fs' ex ex':List Addr}{H H1 H2:Hp}{h h1 h2 h':Heap}{a x e:Addr}{o:HO}
theorem Un.any (u:Un fs ex H H1 h h1) {b:Addr}{ob:Obj} (q:h.get? b=some ob) (n:H b=none) (hx:b∉ex):∃ sl,h1.get? b=some { ob with slots:=sl }:=by
 by_cases hb:b∈fs
 ·exact u.slot b ob q n hb hx
 ·exact⟨ob.slots,u.keep b ob q n hb hx⟩
theorem Un.kept (k:∀ b u,h.get? b=some u→h'.get? b=some u):Un fs ex H H h h':=
 ⟨fun b ob q _ _ _=>k b ob q,fun b ob q _ _ _=>⟨ob.slots,k b ob q⟩,fun _ _ _ n _=>n,fun b ob q _=>⟨ob,k b ob q⟩,fun _ _ q=>q,fun _ _ _ q=>q,fun _ ps q=>⟨#[],by rw[q];simp⟩⟩
theorem Un.refl:Un fs ex H H h h:=Un.kept fun _ _ q=>q
theorem Un.laid (k:∀ b u,h.get? b=some u→h'.get? b=some u) (hp:h.objs.size≤a) (hn:H a=none):Un fs ex H (upd H a o) h h' where
 keep:=fun b u q _ _ _=>k b u q
 slot:=fun b u q _ _ _=>⟨u.slots,k b u q⟩
 free:=fun b u q n _=>by rw[aY (Nat.ne_of_lt (Nat.lt_of_lt_of_le (Heap.lt_size q) hp))];exact n
 there:=fun b u q _=>⟨u,k b u q⟩
 tups:=fun b xs q=>by rw[aY (c7 q hn)];exact q
 frzs:=fun b u xs q=>by rw[aY (c7 q hn)];exact q
 tbls:=fun b ps q=>⟨#[],by rw[aY (c7 q hn),q];simp⟩
theorem Un.write (mu:Mut (H x)) (he:e=x∨H e=some (.own x)) (k:∀ b u,b≠e→h.get? b=some u→h'.get? b=some u) (heo:∃ u,h'.get? e=some u):Un fs ex H (upd H x o) h h':=by
 have hx:∀ b,H b=none→b≠x:=fun b n z=>by subst z;rw[n] at mu;exact mu
 have hb:∀ b,H b=none→b≠e:=fun b n z=>by
  subst z
  rcases he with r | r
  ·exact hx b n r
  ·rw[n] at r;cases r
 have hm:∀ b u,H b=some u→¬ Mut (some u)→b≠x:=fun b u q nm z=>by subst z;rw[q] at mu;exact nm mu
 refine⟨fun b u q n _ _=>k b u (hb b n) q,fun b u q n _ _=>⟨u.slots,k b u (hb b n) q⟩,fun b u q n _=>by rw[aY (hx b n)];exact n,fun b u q _=>?_,
  fun b xs q=>by rw[aY (hm b _ q fun z=>z)];exact q,fun b u xs q=>by rw[aY (hm b _ q fun z=>z)];exact q,fun b ps q=>⟨#[],by rw[aY (hm b _ q fun z=>z),q];simp⟩⟩
 by_cases hbe:b=e
 ·subst hbe;exact heo
 ·exact⟨u,k b u hbe q⟩
end
noncomputable def trk (h:Heap) (H:Hp):List Addr:=(List.range h.objs.size).filter fun a=>(H a).isSome
noncomputable def dF (h:Heap) (H:Hp):Heap:=PySem.W.hideAll h (trk h H)
theorem r9 (h:Heap) (H:Hp):(dF h H).objs.size=h.objs.size:=PySem.W.hideAll_size _ _
theorem sd {h:Heap}{H:Hp}{b:Addr}{o:Obj} (e:h.get? b=some o) (n:H b=none):(dF h H).get? b=some o:=
 PySem.W.hideAll_get _ e fun hm=>by
  have q:(H b).isSome=true:=(List.mem_filter.mp hm).2
  rw[n] at q;simp at q
theorem se {h:Heap}{H:Hp}{b:Addr}{o:Obj} (e:(dF h H).get? b=some o):h.get? b=some o∧H b=none:=by
 have e':h.get? b=some o:=PySem.W.of_hideAll (trk h H) e
 refine⟨e',?_⟩
 cases q:H b with
 | none=>rfl
 | some x=>
  have hm:b∈trk h H:=List.mem_filter.mpr ⟨List.mem_range.mpr (Heap.lt_size e'),by simp[q]⟩
  have z:(dF h H).get? b=none:=PySem.W.hideAll_none (trk h H) hm
  rw[z] at e;cases e
noncomputable def sj (g h:Heap) (L:Addr):List (Addr×Obj):=(List.range h.objs.size).filterMap fun a=>if a=L∨(g.get? a).isSome=true then none else (h.get? a).map fun o=>(a,o)
noncomputable def rest (g h:Heap) (L d:Addr):List (Addr×Obj):=(sj g h L).filter fun p=>decide (p.1≠d)
structure Mod (K:PySem.W.Frag) (mg:Str→Option Value) (base:Heap):Prop where
 kin:K.In base
 glob:base.Ns mainGlobals mg
 blt:∃ mb,base.Ns builtinsNs mb∧∀ x:Str,x ≠ "__name__" → mb x=bootBuiltins x
 nolimit:base.NoLimit
structure Cx where
 prog:Program
 w:World
 K:PySem.W.Frag
 mg:Str→Option Value
 base:Heap
 A:Around
 N:List Str
 s₀:Shared
 H₀:Hp
 env:Env
 outer:List Env
 stack:List Env
 ex:List Addr
 fn:Str→Bool
 calm:Bool
 pn:List (Addr×Obj)
 xe:Value→Shared→Prop
noncomputable def frs (l:List Env):List Addr:=l.filterMap (·.frame)
noncomputable abbrev Cx.fs (X:Cx):List Addr:=frs X.outer
noncomputable def Vis (sc:Scope) (x:Str):Prop:=sc.names.lookup x=some .local∨sc.names.lookup x=some .cell∨sc.names.lookup x=some .free
noncomputable def Loc (sc:Scope) (x:Str):Prop:=sc.names.lookup x=some .local∨sc.names.lookup x=some .cell
noncomputable def sk (env:Env) (h:Heap) (m:Str→Option Value) (x:Str) (u:Value):Prop:=
 (env.kindOf x=some .local∧m x=some u)∨((env.kindOf x=some .cell∨env.kindOf x=some .free)∧∃ c,env.cells.lookup x=some c∧h.IsCell c (some u))
structure Cx.Ok (X:Cx):Prop where
 mod:Mod X.K X.mg X.base
 kind:X.env.scope.kind=.function
 glob:X.env.globals=mainGlobals
 blt:X.env.builtins=builtinsNs
 above:X.s₀.heap.objs.size≤X.env.locals
 inj:∀ x y c,X.env.cells.lookup x=some c→X.env.cells.lookup y=some c→x=y
 has:∀ x,(X.env.kindOf x=some .cell∨X.env.kindOf x=some .free)→∃ c,X.env.cells.lookup x=some c
 cab:∀ x c,X.fn x=true→X.env.cells.lookup x=some c→X.s₀.heap.objs.size≤c
 hd:X.calm=true→X.A.handled=none
 frames:X.A.frames=some X.stack
 stk:X.stack=X.outer∨(X.stack=X.env::X.outer∧X.env.frame=some X.env.locals)
 exf:∀ b∈X.ex,b≠X.env.locals∧∀ x c,X.env.cells.lookup x=some c→c≠b
 bs:∀ b o,X.base.get? b=some o→X.s₀.heap.get? b=some o∧X.H₀ b=none
 bsz:X.base.objs.size≤X.s₀.heap.objs.size
 noex:∀ b o,X.base.get? b=some o→b∉X.ex
 exfs:∀ b∈X.ex,b∉X.fs
 funs:X.s₀.heap.FunFrames X.base X.outer
 frf:∀ b∈X.fs,X.H₀ b=none
structure Inv (X:Cx) (pins:List (Addr×Obj)) (σ:List (Option V)) (H:Hp) (s:Shared):Prop where
 ok:X.Ok
 os:s.os=X.s₀.os
 bare:AllBare s.gens
 base:Un X.fs X.ex X.H₀ H X.s₀.heap s.heap
 loc:∃ m,s.heap.Ns X.env.locals m∧∀ (i:Nat) (x:Str) (v:V),X.N[i]?=some x→σ[i]?=some (some v)→Vis X.env.scope x→∃ u,av v u∧sk X.env s.heap m x u
 cell:∀ x c,X.env.cells.lookup x=some c→∃ v,s.heap.IsCell c v
 free:H X.env.locals=none
 freeC:∀ x c,X.env.cells.lookup x=some c→H c=none
 pin:∀ p∈X.pn++pins,s.heap.get? p.1=some p.2∧H p.1=none∧p.1≠X.env.locals∧p.1∉X.fs∧∀ v,p.2.data≠.cell v
 hok:HOk X.prog X.w H s.heap
 len:σ.length=X.N.length
section
variable {X:Cx}{pins:List (Addr×Obj)}{σ:List (Option V)}{H H':Hp}{s:Shared}{h':Heap}
theorem Cx.Ok.nofr (ok:X.Ok) {b:Addr}{o:Obj} (e:X.base.get? b=some o):b∉X.fs:=fun hb=>by
 have:=(ok.funs.mem hb).1
 rw[e] at this;cases this
theorem Inv.bs (I:Inv X pins σ H s):∀ b o,X.base.get? b=some o→s.heap.get? b=some o∧H b=none:=fun b o e=>
 ⟨I.base.keep b o (I.ok.bs b o e).1 (I.ok.bs b o e).2 (I.ok.nofr e) (I.ok.noex b o e),I.base.free b o (I.ok.bs b o e).1 (I.ok.bs b o e).2 (I.ok.noex b o e)⟩
theorem Inv.bk (I:Inv X pins σ H s):∀ b o,X.base.get? b=some o→s.heap.get? b=some o:=fun b o e=>(I.bs b o e).1
theorem Inv.mod (I:Inv X pins σ H s):Mod X.K X.mg X.base:=I.ok.mod
theorem Inv.kIn (I:Inv X pins σ H s):X.K.In s.heap:=I.ok.mod.kin.keeps I.bk
theorem Inv.fr (I:Inv X pins σ H s):∃ m,Fr X.base X.env.locals s.heap m:=
 let ⟨m,hn,_⟩:=I.loc
 ⟨m,hn,I.bk,Nat.le_trans I.ok.bsz I.ok.above⟩
theorem Inv.lt (I:Inv X pins σ H s):X.env.locals<s.heap.objs.size:=let ⟨_,hn,_⟩:=I.loc;hn.lt
theorem Inv.sz (I:Inv X pins σ H s):X.s₀.heap.objs.size≤s.heap.objs.size:=Nat.le_trans I.ok.above (Nat.le_of_lt I.lt)
theorem Inv.nofs (I:Inv X pins σ H s) {a:Addr} (h:s.heap.objs.size≤a):a∉X.fs:=fun hb=>by
 obtain⟨_,o,ho,_⟩:=I.ok.funs.mem hb
 exact absurd (Nat.lt_of_lt_of_le (Heap.lt_size ho) (Nat.le_trans I.sz h)) (Nat.lt_irrefl _)
theorem Inv.cne (I:Inv X pins σ H s):∀ x c,X.env.cells.lookup x=some c→c≠X.env.locals:=fun x c e z=>by
 obtain⟨v,o,ho,hd⟩:=I.cell x c e
 obtain⟨m,⟨o',es,ep,ho',hd',_⟩,_⟩:=I.loc
 rw[z,ho'] at ho;cases ho;rw[hd'] at hd;cases hd
theorem Inv.funs (I:Inv X pins σ H s):s.heap.FunFrames X.base X.outer:=by
 have all:∀ (l:List Env),(∀ b∈frs l,b∈X.fs)→X.s₀.heap.FunFrames X.base l→s.heap.FunFrames X.base l:=by
  intro l
  induction l with
  | nil=>intro _ _;trivial
  | cons env r ih=>
   intro hs hl
   obtain⟨hk,⟨L,o,hf,hn,ho,hd⟩,hr⟩:=hl
   have hL:L∈X.fs:=hs L (by unfold frs;rw[List.filterMap_cons,hf];exact List.mem_cons_self)
   obtain⟨sl,e⟩:=I.base.slot L o ho (I.ok.frf L hL) hL fun z=>I.ok.exfs L z hL
   exact⟨hk,⟨L,_,hf,hn,e,hd⟩,ih (fun b hb=>hs b (by unfold frs;rw[List.filterMap_cons,hf];exact List.mem_cons_of_mem _ hb)) hr⟩
 exact all X.outer (fun _ hb=>hb) I.ok.funs
theorem Inv.stack (I:Inv X pins σ H s):s.heap.FunFrames X.base X.stack:=by
 rcases I.ok.stk with e | ⟨e,hf⟩
 ·rw[e];exact I.funs
 ·rw[e]
  obtain⟨m,hn,_⟩:=I.loc
  refine .cons (by rw[I.ok.kind];decide) hf hn ?_ I.funs
  exact Heap.get?_none_of_le (Nat.le_trans I.ok.bsz I.ok.above)
theorem Inv.stkSub (I:Inv X pins σ H s):∀ b∈frs X.stack,b∈X.env.locals::X.fs:=fun b hb=>by
 rcases I.ok.stk with e | ⟨e,hf⟩
 ·rw[e] at hb;exact List.mem_cons_of_mem _ hb
 ·rw[e] at hb
  unfold frs at hb
  rw[List.filterMap_cons,hf] at hb
  exact hb
theorem Inv.stkFree (I:Inv X pins σ H s):∀ b∈frs X.stack,H b=none:=fun b hb=>by
 rcases List.mem_cons.mp (I.stkSub b hb) with e | hb
 ·rw[e];exact I.free
 ·obtain⟨_,o,ho,_⟩:=I.ok.funs.mem hb
  exact I.base.free b o ho (I.ok.frf b hb) fun z=>I.ok.exfs b z hb
theorem Inv.step {g':Array GenState}{t':Nat}{d':Drawn}{ch:List Addr} (I:Inv X pins σ H s)
  (hch:∀ b∈ch,(b∈X.ex∨X.s₀.heap.objs.size≤b)∧b≠X.env.locals∧(∀ x c,X.env.cells.lookup x=some c→c≠b)∧∀ p∈X.pn++pins,p.1≠b)
  (keep:∀ b o,b≠X.env.locals→b∉X.fs→b∉ch→s.heap.get? b=some o→H b=none→h'.get? b=some o)
  (slot:∀ b o,b≠X.env.locals→b∈X.fs→b∉ch→s.heap.get? b=some o→H b=none→∃ sl,h'.get? b=some { o with slots:=sl }) (free:∀ b o,b∉ch→s.heap.get? b=some o→H b=none→H' b=none)
  (there:∀ b o,b∉ch→s.heap.get? b=some o→∃ o',h'.get? b=some o')
  (tups:∀ b xs,H b=some (.tup xs)→H' b=some (.tup xs)) (frzs:∀ b o u,H b=some (.frz o u)→H' b=some (.frz o u)) (tbls:∀ b ps,H b=some (.tbl ps)→∃ more,H' b=some (.tbl (ps++more)))
  (ns:∀ m,s.heap.Ns X.env.locals m→h'.Ns X.env.locals m) (hok:HOk X.prog X.w H' h') (hg:AllBare g'):
  Inv X pins σ H' { s with heap:=h',gens:=g',drawn:=d',toks:=t' }:=by
 have neL:∀ b o,X.s₀.heap.get? b=some o→b≠X.env.locals:=fun b o e=>Nat.ne_of_lt (Nat.lt_of_lt_of_le (Heap.lt_size e) I.ok.above)
 have neC:∀ b o,X.s₀.heap.get? b=some o→b∉X.ex→b∉ch:=fun b o e hx hb=>by
  rcases (hch b hb).1 with z | z
  ·exact hx z
  ·exact absurd (Nat.lt_of_lt_of_le (Heap.lt_size e) z) (Nat.lt_irrefl _)
 have cellK:∀ x c,X.env.cells.lookup x=some c→∀ v,s.heap.IsCell c v→h'.IsCell c v:=fun x c e v ⟨o,ho,hd⟩=>by
  have nch:c∉ch:=fun z=>(hch c z).2.2.1 x c e rfl
  by_cases hc:c∈X.fs
  ·obtain⟨sl,q⟩:=slot c o (I.cne x c e) hc nch ho (I.freeC x c e)
   exact⟨_,q,hd⟩
  ·exact⟨o,keep c o (I.cne x c e) hc nch ho (I.freeC x c e),hd⟩
 refine⟨I.ok,I.os,hg,⟨fun b o e n hb hx=>?_,fun b o e n hb hx=>?_,fun b o e n hx=>?_,fun b o e hx=>?_,fun b xs e=>tups b xs (I.base.tups b xs e),fun b o xs e=>frzs b o xs (I.base.frzs b o xs e),fun b ps e=>?_⟩,?_,fun x c e=>?_,?_,fun x c e=>?_,fun p hp=>?_,hok,I.len⟩
 ·exact keep b o (neL b o e) hb (neC b o e hx) (I.base.keep b o e n hb hx) (I.base.free b o e n hx)
 ·obtain⟨sl,e1⟩:=I.base.slot b o e n hb hx
  obtain⟨sl',e2⟩:=slot b _ (neL b o e) hb (neC b o e hx) e1 (I.base.free b o e n hx)
  exact⟨sl',e2⟩
 ·obtain⟨o',e1⟩:=I.base.there b o e hx
  exact free b o' (neC b o e hx) e1 (I.base.free b o e n hx)
 ·obtain⟨o',e1⟩:=I.base.there b o e hx
  exact there b o' (neC b o e hx) e1
 ·obtain⟨m1,e1⟩:=I.base.tbls b ps e
  obtain⟨m2,e2⟩:=tbls b _ e1
  exact⟨m1++m2,by rw[e2,Array.append_assoc]⟩
 ·obtain⟨m,hn,hl⟩:=I.loc
  refine⟨m,ns m hn,fun i x v e1 e2 e3=>?_⟩
  obtain⟨u,r,l⟩:=hl i x v e1 e2 e3
  refine⟨u,r,?_⟩
  rcases l with l | ⟨k,c,e,z⟩
  ·exact .inl l
  ·exact .inr ⟨k,c,e,cellK x c e _ z⟩
 ·obtain⟨v,z⟩:=I.cell x c e
  exact⟨v,cellK x c e v z⟩
 ·obtain⟨m,⟨o,_,_,ho,_⟩,_⟩:=I.loc
  exact free _ o (fun z=>(hch _ z).2.1 rfl) ho I.free
 ·obtain⟨v,o,ho,hd⟩:=I.cell x c e
  exact free c o (fun z=>(hch c z).2.2.1 x c e rfl) ho (I.freeC x c e)
 ·obtain⟨e,n,ne,nf,d⟩:=I.pin p hp
  have nch:p.1∉ch:=fun z=>(hch p.1 z).2.2.2 p hp rfl
  exact⟨keep p.1 p.2 ne nf nch e n,free p.1 p.2 nch e n,ne,nf,d⟩
theorem Inv.un {t':Nat} (I:Inv X pins σ H s) (u:Un X.fs [] H H' s.heap h') (hok:HOk X.prog X.w H' h'):Inv X pins σ H' { s with heap:=h',toks:=t' }:=by
 obtain⟨m,⟨o,es,ep,ho,r⟩,_⟩:=id I.loc
 obtain⟨sl,hL⟩:=u.any ho I.free (by simp)
 exact I.step (g':=s.gens) (d':=s.drawn) (ch:=[]) (fun _ z=>nomatch z) (fun b o _ hb _ e n=>u.keep b o e n hb (by simp)) (fun b o _ hb _ e n=>u.slot b o e n hb (by simp)) (fun b o _ e n=>u.free b o e n (by simp)) (fun b o _ e=>u.there b o e (by simp)) u.tups u.frzs u.tbls (fun m' hm=>by
  obtain⟨o',es',ep',ho',r'⟩:=hm
  rw[ho] at ho';cases ho'
  exact⟨_,es',ep',hL,r'⟩) hok I.bare
theorem Inv.call {g':Array GenState}{t':Nat}{d':Drawn}{ch:List Addr} (I:Inv X pins σ H s) (u:Un (frs X.stack) ch H H' s.heap h') (hok:HOk X.prog X.w H' h') (hg:AllBare g')
  (hch:∀ b∈ch,(b∈X.ex∨X.s₀.heap.objs.size≤b)∧b≠X.env.locals∧(∀ x c,X.env.cells.lookup x=some c→c≠b)∧∀ p∈X.pn++pins,p.1≠b):
  Inv X pins σ H' { s with heap:=h',gens:=g',drawn:=d',toks:=t' }:=by
 obtain⟨m,⟨o,es,ep,ho,r⟩,_⟩:=id I.loc
 obtain⟨sl,hL⟩:=u.any ho I.free fun z=>(hch _ z).2.1 rfl
 exact I.step (ch:=ch) hch (fun b o hL hb hc e n=>u.keep b o e n (fun z=>(List.mem_cons.mp (I.stkSub b z)).elim hL hb) hc) (fun b o _ _ hc e n=>u.any e n hc) (fun b o hc e n=>u.free b o e n hc) (fun b o hc e=>u.there b o e hc) u.tups u.frzs u.tbls (fun m' hm=>by
  obtain⟨o',es',ep',ho',r'⟩:=hm
  rw[ho] at ho';cases ho'
  exact⟨_,es',ep',hL,r'⟩) hok hg
theorem Inv.turned {t':Nat}{it:Addr} (I:Inv X pins σ H s) (k:∀ b o,b≠it→s.heap.get? b=some o→h'.get? b=some o) (hn:H it=none) (hL:it≠X.env.locals)
  (h1:it∈X.ex∨X.s₀.heap.objs.size≤it) (h2:∀ x c,X.env.cells.lookup x=some c→c≠it) (h3:∀ p∈X.pn++pins,p.1≠it):Inv X pins σ H { s with heap:=h',toks:=t' }:=by
 have nit:∀ b u,H b=some u→b≠it:=fun b u e z=>by rw[z,hn] at e;cases e
 refine I.step (g':=s.gens) (d':=s.drawn) (ch:=[it]) (fun b hb=>?_) (fun b o _ _ hc e _=>k b o (fun z=>hc (by simp[z])) e) (fun b o _ _ hc e _=>⟨o.slots,k b o (fun z=>hc (by simp[z])) e⟩) (fun _ _ _ _ n=>n)
  (fun b o hc e=>⟨o,k b o (fun z=>hc (by simp[z])) e⟩) (fun _ _ e=>e) (fun _ _ _ e=>e) (fun b ps e=>⟨#[],by rw[e];simp⟩) (fun m hm=>?_) (fun b u e=>?_) I.bare
 ·have e:b=it:=by simpa using hb
  subst e
  exact⟨h1,hL,h2,h3⟩
 ·obtain⟨o,es,ep,ho,r⟩:=hm
  exact⟨o,es,ep,k _ o (Ne.symm hL) ho,r⟩
 ·refine (I.hok b u e).stay (fun c v hc q=>k c v ?_ q) (fun _ q=>q) fun _ _ q=>q
  rcases hc with z | z
  ·rw[z];exact nit b u e
  ·exact nit c _ z
theorem Inv.tok (I:Inv X pins σ H s) (t:Nat):Inv X pins σ H { s with toks:=t }:=I.un (h':=s.heap) (t':=t) Un.refl I.hok
theorem Inv.kept {t':Nat} (I:Inv X pins σ H s) (k:∀ b u,s.heap.get? b=some u→h'.get? b=some u):Inv X pins σ H { s with heap:=h',toks:=t' }:=I.un (Un.kept k) (I.hok.kept k)
theorem Inv.laid {a:Addr}{o:HO}{t':Nat} (I:Inv X pins σ H s) (k:∀ b u,s.heap.get? b=some u→h'.get? b=some u) (hp:s.heap.objs.size≤a) (new:bQ X.prog X.w (upd H a o) h' a o):
  Inv X pins σ (upd H a o) { s with heap:=h',toks:=t' }:=I.un (Un.laid k hp (I.hok.fresh hp)) (I.hok.laid k hp new)
theorem Inv.write {x e:Addr}{o:HO}{t':Nat} (I:Inv X pins σ H s) (mu:Mut (H x)) (he:e=x∨H e=some (.own x)) (k:∀ b u,b≠e→s.heap.get? b=some u→h'.get? b=some u) (heo:∃ u,h'.get? e=some u)
  (new:bQ X.prog X.w (upd H x o) h' x o):Inv X pins σ (upd H x o) { s with heap:=h',toks:=t' }:=I.un (Un.write mu he k heo) (I.hok.write mu he k heo new)
theorem Inv.weak {σ':List (Option V)} (I:Inv X pins σ H s) (hl:σ'.length=σ.length) (w:∀ (i:Nat) v,σ'[i]?=some (some v)→σ[i]?=some (some v)):Inv X pins σ' H s:=
 ⟨I.ok,I.os,I.bare,I.base,let ⟨m,hn,hl'⟩:=I.loc;⟨m,hn,fun i x v e1 e2 e3=>hl' i x v e1 (w i v e2) e3⟩,I.cell,I.free,I.freeC,I.pin,I.hok,hl.trans I.len⟩
theorem Inv.pins_of {pins':List (Addr×Obj)} (I:Inv X pins σ H s) (h:∀ p∈pins',s.heap.get? p.1=some p.2∧H p.1=none∧p.1≠X.env.locals∧p.1∉X.fs∧∀ v,p.2.data≠.cell v):Inv X pins' σ H s:=
 ⟨I.ok,I.os,I.bare,I.base,I.loc,I.cell,I.free,I.freeC,fun p hp=>(List.mem_append.mp hp).elim (fun z=>I.pin p (List.mem_append_left _ z)) (h p),I.hok,I.len⟩
theorem lT {N:List Str} (hN:N.Nodup) {i j:Nat}{x:Str} (a:N[i]?=some x) (b:N[j]?=some x):i=j:=by
 obtain⟨h1,e1⟩:=List.getElem?_eq_some_iff.mp a
 obtain⟨h2,e2⟩:=List.getElem?_eq_some_iff.mp b
 exact (List.getElem_inj hN).mp (e1.trans e2.symm)
theorem lU {M:Model}{A:Around}{E:Value→Shared→Prop}{i:Nat}{x:Str}{v:V}{u:Value}{Q:Unit→Shared→Prop} (I:Inv X pins σ H s) (hN:X.N.Nodup) (hi:X.N[i]?=some x) (hx:Loc X.env.scope x) (r:av v u)
  (h:∀ s',Inv X pins (σ.set i (some v)) H s'→(∃ a,Heap.SameBut a s.heap s'.heap∧(a=X.env.locals∨X.env.cells.lookup x=some a))→Q () s') (hf:X.fn x=true∨X.env.scope.names.lookup x=some .local:=by first | exact .inl rfl | exact .inr rfl | assumption):wpAny M A (storeName X.env x u) Q E s:=by
 obtain⟨m,hn,hl⟩:=id I.loc
 have hcls:(X.env.scope.kind == .class || (X.env.scope.kind == .module && X.env.locals != X.env.globals))=false:=by rw[I.ok.kind];rfl
 have hiσ:i < σ.length:=by rw[I.len];exact (List.getElem?_eq_some_iff.mp hi).1
 have cne:=I.cne
 have tracked:∀ {a:Addr}{h':Heap},(∃ o,s.heap.get? a=some o∧H a=none)→Heap.SameBut a s.heap h'→HOk X.prog X.w H h':=fun {a h'} ha hs b ob e=>by
  obtain⟨_,_,hfree⟩:=ha
  refine (I.hok b ob e).stay (fun c w' hc q=>(hs.2 c ?_).trans q) (fun _ q=>q) fun _ _ q=>q
  rintro rfl
  rcases hc with rfl | hc
  ·rw[hfree] at e;cases e
  ·rw[hfree] at hc;cases hc
 rcases hx with hk | hk
 ·refine wpAny_storeName_local hk hn (fun h' hn' hs=>?_) hcls
  obtain⟨oL,_,_,hoL,_⟩:=id hn
  refine h _ ⟨I.ok,I.os,I.bare,⟨fun b o e n hb hx=>?_,fun b o e n hb hx=>?_,I.base.free,fun b o e hx=>?_,I.base.tups,I.base.frzs,I.base.tbls⟩,⟨_,hn',fun j y v' e1 e2 e3=>?_⟩,fun y c e=>?_,I.free,I.freeC,fun p hp=>?_,tracked ⟨oL,hoL,I.free⟩ hs,by simpa using I.len⟩ ⟨_,hs,.inl rfl⟩
  ·exact (hs.2 b (Nat.ne_of_lt (Nat.lt_of_lt_of_le (Heap.lt_size e) I.ok.above))).trans (I.base.keep b o e n hb hx)
  ·obtain⟨sl,e1⟩:=I.base.slot b o e n hb hx
   exact⟨sl,(hs.2 b (Nat.ne_of_lt (Nat.lt_of_lt_of_le (Heap.lt_size e) I.ok.above))).trans e1⟩
  ·obtain⟨o',e1⟩:=I.base.there b o e hx
   exact⟨o',(hs.2 b (Nat.ne_of_lt (Nat.lt_of_lt_of_le (Heap.lt_size e) I.ok.above))).trans e1⟩
  ·by_cases hj:j=i
   ·subst hj
    rw[hi] at e1;cases e1
    rw[List.getElem?_set_self hiσ] at e2
    cases e2
    exact⟨u,r,.inl ⟨hk,by simp⟩⟩
   ·rw[List.getElem?_set_ne (Ne.symm hj)] at e2
    obtain⟨u',r',q⟩:=hl j y v' e1 e2 e3
    refine⟨u',r',?_⟩
    rcases q with ⟨k,e⟩ | ⟨k,c,e,z⟩
    ·refine .inl ⟨k,?_⟩
     have:y≠x:=fun e=>hj (lT hN e1 (e ▸ hi))
     simp[this,e]
    ·exact .inr ⟨k,c,e,z.sameBut hs (cne y c e)⟩
  ·obtain⟨w',z⟩:=I.cell y c e
   exact⟨w',z.sameBut hs (cne y c e)⟩
  ·obtain⟨e,n,ne,nf,d⟩:=I.pin p hp
   exact⟨(hs.2 p.1 ne).trans e,n,ne,nf,d⟩
 ·have hfn:X.fn x=true:=by
   rcases hf with z | z
   ·exact z
   ·rw[z] at hk;cases hk
  obtain⟨c,hc⟩:=I.ok.has x (.inl hk)
  obtain⟨w',z⟩:=I.cell x c hc
  refine wpAny_storeName_cell I.ok.kind hk hc z (fun h' hc' hs=>?_)
  obtain⟨oc,hoc,hocd⟩:=id z
  refine h { s with heap:=h' } ⟨I.ok,I.os,I.bare,⟨fun b o e n hb hx=>?_,fun b o e n hb hx=>?_,I.base.free,fun b o e hx=>?_,I.base.tups,I.base.frzs,I.base.tbls⟩,⟨m,hn.sameBut hs (Ne.symm (cne x c hc)),fun j y v' e1 e2 e3=>?_⟩,fun y c' e=>?_,I.free,I.freeC,fun p hp=>?_,tracked ⟨oc,hoc,I.freeC x c hc⟩ hs,by simpa using I.len⟩ ⟨c,hs,.inr hc⟩
  ·exact (hs.2 b (Nat.ne_of_lt (Nat.lt_of_lt_of_le (Heap.lt_size e) (I.ok.cab x c hfn hc)))).trans (I.base.keep b o e n hb hx)
  ·obtain⟨sl,e1⟩:=I.base.slot b o e n hb hx
   exact⟨sl,(hs.2 b (Nat.ne_of_lt (Nat.lt_of_lt_of_le (Heap.lt_size e) (I.ok.cab x c hfn hc)))).trans e1⟩
  ·obtain⟨o',e1⟩:=I.base.there b o e hx
   exact⟨o',(hs.2 b (Nat.ne_of_lt (Nat.lt_of_lt_of_le (Heap.lt_size e) (I.ok.cab x c hfn hc)))).trans e1⟩
  ·by_cases hj:j=i
   ·subst hj
    rw[hi] at e1;cases e1
    rw[List.getElem?_set_self hiσ] at e2
    cases e2
    exact⟨u,r,.inr ⟨.inl hk,c,hc,hc'⟩⟩
   ·rw[List.getElem?_set_ne (Ne.symm hj)] at e2
    obtain⟨u',r',q⟩:=hl j y v' e1 e2 e3
    refine⟨u',r',?_⟩
    rcases q with q | ⟨k,c',e,z'⟩
    ·exact .inl q
    ·refine .inr ⟨k,c',e,z'.sameBut hs ?_⟩
     rintro rfl
     exact hj (lT hN e1 (I.ok.inj _ _ _ e hc ▸ hi))
  ·by_cases hcc:c'=c
   ·subst hcc;exact⟨_,hc'⟩
   ·obtain⟨w2,z2⟩:=I.cell y c' e
    exact⟨w2,z2.sameBut hs hcc⟩
  ·obtain⟨e,n,ne,nf,d⟩:=I.pin p hp
   refine⟨(hs.2 p.1 ?_).trans e,n,ne,nf,d⟩
   intro q
   rw[q,hoc] at e
   have q':oc=p.2:=Option.some.inj e
   exact d w' (by rw[← q'];exact hocd)
theorem iz {M:Model}{A:Around}{E:Value→Shared→Prop}{i:Nat}{x:Str}{v:V}{u:Value}{Q:Unit→Shared→Prop} (I:Inv X pins σ H s) (hN:X.N.Nodup) (hi:X.N[i]?=some x) (hx:Loc X.env.scope x) (r:av v u)
  (h:∀ s',Inv X pins (σ.set i (some v)) H s'→Q () s') (hf:X.fn x=true∨X.env.scope.names.lookup x=some .local:=by first | exact .inl rfl | exact .inr rfl | assumption):wpAny M A (storeName X.env x u) Q E s:=
 lU I hN hi hx r (fun s' I' _=>h s' I') hf
theorem Inv.call' {s':Shared}{ch:List Addr} (I:Inv X pins σ H s) (ho:s'.os=s.os) (u:Un (frs X.stack) ch H H' s.heap s'.heap) (hok:HOk X.prog X.w H' s'.heap) (hg:AllBare s'.gens)
  (hch:∀ b∈ch,(b∈X.ex∨X.s₀.heap.objs.size≤b)∧b≠X.env.locals∧(∀ x c,X.env.cells.lookup x=some c→c≠b)∧∀ p∈X.pn++pins,p.1≠b):Inv X pins σ H' s':=by
 obtain⟨h',g',d',t',o'⟩:=s'
 have e:o'=s.os:=ho
 subst e
 exact I.call (g':=g') (t':=t') (d':=d') u hok hg hch
end
noncomputable abbrev XK:=Value→Option Addr→Hp→Prop
noncomputable abbrev St:=List (Option V)
noncomputable abbrev VK:=V→Hp→Prop
noncomputable abbrev TE:=St→Hp→VK→Prop
noncomputable abbrev TT:=St→Hp→(Bool→Hp→Prop)→Prop
noncomputable abbrev TA:=St→Hp→(List V→Hp→Prop)→Prop
structure Ends where
 nx:St→Hp→Prop
 rt:VK
 bk:St→Hp→Prop:=fun _ _=>False
 ct:St→Hp→Prop:=fun _ _=>False
noncomputable abbrev TS:=Ends→St→Hp→Prop
noncomputable def EP (X:Cx) (pins:List (Addr×Obj)) (σ:St) (Q:VK) (u:Value) (s':Shared):Prop:=∃ v H',Inv X pins σ H' s'∧av v u∧Q v H'
noncomputable def TP (X:Cx) (pins:List (Addr×Obj)) (σ:St) (Q:Bool→Hp→Prop) (b:Bool) (s':Shared):Prop:=∃ H',Inv X pins σ H' s'∧Q b H'
noncomputable def AP (X:Cx) (pins:List (Addr×Obj)) (σ:St) (Q:List V→Hp→Prop) (us:List Value) (s':Shared):Prop:=∃ vs H',Inv X pins σ H' s'∧ao vs us∧Q vs H'
noncomputable def SP (X:Cx) (pins:List (Addr×Obj)) (D:Ends) (f:Flow) (s':Shared):Prop:=
 match f with
 | .next=>∃ σ' H',Inv X pins σ' H' s'∧D.nx σ' H'
 | .brk=>∃ σ' H',Inv X pins σ' H' s'∧D.bk σ' H'
 | .cont=>∃ σ' H',Inv X pins σ' H' s'∧D.ct σ' H'
 | .ret u=>∃ v σ' H',Inv X pins σ' H' s'∧av v u∧D.rt v H'
noncomputable def PE (X:Cx) (e:Expr) (t:TE):Prop:=
 ∀ (pins:List (Addr×Obj)) (s:Shared) (σ:St) (H:Hp) (Q:VK),Inv X pins σ H s→t σ H Q→wpAny (model X.prog X.w) X.A (eval e X.env) (EP X pins σ Q) X.xe s
noncomputable def PT (X:Cx) (e:Expr) (t:TT):Prop:=
 ∀ (pins:List (Addr×Obj)) (s:Shared) (σ:St) (H:Hp) (Q:Bool→Hp→Prop),Inv X pins σ H s→t σ H Q→wpAny (model X.prog X.w) X.A (isTrue e X.env (eval e X.env)) (TP X pins σ Q) X.xe s
noncomputable def PW (X:Cx) (e:Expr) (t:TT):Prop:=
 ∀ (whole:Sem Value) (pins:List (Addr×Obj)) (s:Shared) (σ:St) (H:Hp) (Q:Bool→Hp→Prop),Inv X pins σ H s→t σ H Q→wpAny (model X.prog X.w) X.A (isTrue e X.env whole) (TP X pins σ Q) X.xe s
theorem PW.pt {X:Cx}{e:Expr}{t:TT} (h:PW X e t):PT X e t:=h _
noncomputable def PA (X:Cx) (es:List Expr) (t:TA):Prop:=
 ∀ (pos:Pos) (pins:List (Addr×Obj)) (s:Shared) (σ:St) (H:Hp) (Q:List V→Hp→Prop),Inv X pins σ H s→t σ H Q→wpAny (model X.prog X.w) X.A (spliced (backTo pos (starEach es X.env))) (AP X pins σ Q) X.xe s
noncomputable def PS (X:Cx) (st:Stmt) (t:TS):Prop:=
 ∀ (pins:List (Addr×Obj)) (s:Shared) (σ:St) (H:Hp) (D:Ends),Inv X pins σ H s→t D σ H→wpAny (model X.prog X.w) X.A (exec st X.env) (SP X pins D) X.xe s
noncomputable def PSs (X:Cx) (st:List Stmt) (t:TS):Prop:=
 ∀ (pins:List (Addr×Obj)) (s:Shared) (σ:St) (H:Hp) (D:Ends),Inv X pins σ H s→t D σ H→wpAny (model X.prog X.w) X.A (execs st X.env) (SP X pins D) X.xe s
theorem thn {α:Type}{t:Sem α}{Q Q':α→Shared→Prop}{M:Model}{A:Around}{E:Value→Shared→Prop}{s:Shared} (h:wpAny M A t Q E s) (hQ:∀ a s,Q a s→Q' a s):wpAny M A t Q' E s:=wpAny_mono h hQ fun _ _ x=>x
section
variable {X:Cx}
theorem bin {a b:Expr}{ta tb:TE} (ha:PE X a ta) (hb:PE X b tb) {pins:List (Addr×Obj)}{s:Shared}{σ:St}{H:Hp}{R:V→V→Hp→Prop} (I:Inv X pins σ H s) (h:ta σ H fun x H1=>tb σ H1 fun y H2=>R x y H2)
  {α:Type}{Q:α→Shared→Prop}{f:Value→Value→Sem α}
  (hf:∀ v u s2 x y H2,Inv X pins σ H2 s2→av x v→av y u→R x y H2→wpAny (model X.prog X.w) X.A (f v u) Q X.xe s2):
  wpAny (model X.prog X.w) X.A (eval a X.env) (fun v s₁=>wpAny (model X.prog X.w) X.A (eval b X.env) (fun u s₂=>wpAny (model X.prog X.w) X.A (f v u) Q X.xe s₂) X.xe s₁) X.xe s:=by
 refine thn (ha pins s σ H _ I h) fun v s1 ⟨x,H1,I1,r1,q1⟩=>?_
 refine thn (hb pins s1 σ H1 _ I1 q1) fun u s2 ⟨y,H2,I2,r2,q2⟩=>?_
 exact hf v u s2 x y H2 I2 r1 r2 q2
noncomputable def fU (i:Nat):TE:=fun σ H Q=>∃ v,σ[i]?=some (some v)∧Q v H
noncomputable def tC (v:V):TE:=fun _ H Q=>Q v H
theorem sn {i:Nat}{x:Str}{pos:Pos} (hN:X.N[i]?=some x) (hv:Vis X.env.scope x) (hd:(x == ("__debug__" : Str))=false:=by decide) (hcd:(x == ("__classdict__" : Str))=false:=by decide):PE X (.Name x pos) (fU i):=by
 intro pins s σ H Q I h
 obtain⟨v,e,h⟩:=h
 obtain⟨m,hn,hl⟩:=I.loc
 obtain⟨u,r,l⟩:=hl i x v hN e hv
 have fin:EP X pins σ Q u s:=⟨v,H,I,r,h⟩
 rcases l with ⟨hk,hm⟩ | ⟨hk,c,hc,hcell⟩
 ·exact wpAny_Name (wpAny_loadName_local I.ok.kind hk hn hm fin) hd
 ·rcases hk with hk | hk
  ·exact wpAny_Name (wpAny_loadName_cell I.ok.kind hk hc hcell fin) hd
  ·exact wpAny_Name (wpAny_loadName_free I.ok.kind hk hc hcell fin hcd) hd
theorem sq {i j pos}:PE X (.Constant (.int i) j pos) (tC (.int i)):=fun _ _ _ H _ I h=>wpAny_Constant_int ⟨.int i,H,I.tok _,⟨_,rfl⟩,h⟩
theorem ss {b j pos}:PE X (.Constant (.bool b) j pos) (tC (.bl b)):=fun _ _ _ H _ I h=>Constant_bool ⟨.bl b,H,I,rfl,h⟩
noncomputable def Gl (X:Cx) (x:Str):Prop:=X.env.kindOf x=some .globalImplicit
theorem lV {E:Value→Shared→Prop}{pins:List (Addr×Obj)}{s:Shared}{σ:St}{H:Hp}{x:Str}{u:Value}{pos:Pos}{Q:Value→Shared→Prop} (I:Inv X pins σ H s) (hg:Gl X x) (hm:X.mg x=some u) (h:Q u s)
  (hd:(x == ("__debug__" : Str))=false:=by decide):wpAny (model X.prog X.w) X.A (eval (.Name x pos) X.env) Q E s:=
 Calls.Name_function_global I.ok.kind hg (Calls.loadGlobal_global (by rw[I.ok.glob];exact I.mod.glob.keeps I.bk) hm h) hd
theorem jw {E:Value→Shared→Prop}{pins:List (Addr×Obj)}{s:Shared}{σ:St}{H:Hp}{x:Str}{u:Value}{pos:Pos}{Q:Value→Shared→Prop} (I:Inv X pins σ H s) (hg:Gl X x) (hm:X.mg x=none) (hv:bootBuiltins x=some u) (h:Q u s)
  (hn:x ≠ "__name__" := by decide) (hd:(x == ("__debug__" : Str))=false:=by decide):wpAny (model X.prog X.w) X.A (eval (.Name x pos) X.env) Q E s:=by
 obtain⟨mb,h1,h2⟩:=I.mod.blt
 exact Calls.Name_function_global I.ok.kind hg (Calls.loadGlobal_builtin (by rw[I.ok.glob];exact I.mod.glob.keeps I.bk) hm (by rw[I.ok.blt];exact h1.keeps I.bk) ((h2 x hn).trans hv) h) hd
theorem lX {x:Str}{v:V}{u:Value}{pos:Pos} (hg:Gl X x) (hm:X.mg x=some u) (r:av v u) (hd:(x == ("__debug__" : Str))=false:=by decide):PE X (.Name x pos) (tC v):=
 fun _ _ _ H _ I h=>lV I hg hm ⟨v,H,I,r,h⟩ hd
variable {a b:Expr}{ta tb:TE}{pos:Pos}
variable {tA tB':TT}{rest:List Expr}
noncomputable def lY (t u:TT):TT:=fun σ H Q=>t σ H fun c H1=>if c=true then u σ H1 Q else Q false H1
noncomputable def tOr (t u:TT):TT:=fun σ H Q=>t σ H fun c H1=>if c=true then Q true H1 else u σ H1 Q
theorem su (ha:PT X a tA):PW X (.BoolOp .And [a] pos) tA:=by
 intro wh pins s σ H Q I h
 refine isTrue_and (thn (ha pins s σ H Q I h) fun c s1 e=>?_)
 cases c with
 | true=>exact isTrue_and_nil e
 | false=>exact e
theorem sv (ha:PT X a tA):PW X (.BoolOp .Or [a] pos) tA:=by
 intro wh pins s σ H Q I h
 refine isTrue_or (thn (ha pins s σ H Q I h) fun c s1 e=>?_)
 cases c with
 | false=>exact isTrue_or_nil e
 | true=>exact e
theorem sw (ha:PT X a tA) (hb:PW X (.BoolOp .And (b::rest) pos) tB'):PW X (.BoolOp .And (a::b::rest) pos) (lY tA tB'):=by
 intro wh pins s σ H Q I h
 refine isTrue_and (thn (ha pins s σ H _ I h) fun c s1 ⟨H1,I1,q1⟩=>?_)
 cases c with
 | true=>exact hb wh pins s1 σ H1 Q I1 q1
 | false=>exact⟨H1,I1,q1⟩
theorem sx (ha:PT X a tA) (hb:PW X (.BoolOp .Or (b::rest) pos) tB'):PW X (.BoolOp .Or (a::b::rest) pos) (tOr tA tB'):=by
 intro wh pins s σ H Q I h
 refine isTrue_or (thn (ha pins s σ H _ I h) fun c s1 ⟨H1,I1,q1⟩=>?_)
 cases c with
 | true=>exact⟨H1,I1,q1⟩
 | false=>exact hb wh pins s1 σ H1 Q I1 q1
noncomputable def tIf (t:TT) (ta tb:TE):TE:=fun σ H Q=>t σ H fun c H1=>if c=true then ta σ H1 Q else tb σ H1 Q
theorem sy {c:Expr} (hc:PT X c tA) (ha:PE X a ta) (hb:PE X b tb):PE X (.IfExp c a b pos) (tIf tA ta tb):=by
 intro pins s σ H Q I h
 refine wpAny_IfExp (thn (hc pins s σ H _ I h) fun d s1 ⟨H1,I1,q1⟩=>?_)
 cases d with
 | true=>exact ha pins s1 σ H1 Q I1 q1
 | false=>exact hb pins s1 σ H1 Q I1 q1
end
noncomputable def SqL (K:PySem.W.Frag) (H:Hp) (a:Addr) (xs:List V):Prop:=
 Rd H a (.lst xs)∨
  ∃ (o:Obj) (its:Array Value) (n:Nat),K.lookup a=some o∧o.cls=.type "list" ∧ o.dict=none∧o.data=.seq its n∧its.size≤sizeLine∧ao xs its.toList
noncomputable def SqT (K:PySem.W.Frag) (H:Hp) (a:Addr) (xs:List V):Prop:=
 Rd H a (.tup xs)∨
  ∃ (o:Obj) (its:Array Value) (n:Nat),K.lookup a=some o∧o.cls=.type "tuple" ∧ o.data=.seq its n∧its.size≤sizeLine∧ao xs its.toList
noncomputable def sE:Value→Option V
 | .none=>some .non
 | .bool b=>some (.bl b)
 | .int i _=>some (.int i)
 | .str x _=>some (.str x)
 | .bytes b _=>some (.byt b)
 | .float b _=>some (.flt b)
 | .ref a=>some (.ref a)
 | .type n=>some (.ty n)
 | _=>none
theorem av.abs {x:V}{u:Value} (r:av x u):sE u=some x:=by
 cases x with
 | non=>cases r;rfl
 | bl _=>cases r;rfl
 | int _=>obtain⟨t,rfl⟩:=r;rfl
 | str _=>obtain⟨t,rfl⟩:=r;rfl
 | byt _=>obtain⟨t,rfl⟩:=r;rfl
 | flt _=>obtain⟨t,rfl⟩:=r;rfl
 | ref _=>cases r;rfl
 | ty _=>cases r;rfl
theorem av.inj {x y:V}{u:Value} (r:av x u) (q:av y u):x=y:=Option.some.inj (r.abs.symm.trans q.abs)
theorem ao.inj:∀ {xs ys:List V}{us:List Value},ao xs us→ao ys us→xs=ys
 | _,_,_,.nil,.nil=>rfl
 | _,_,_,.cons r t,.cons r' t'=>by rw[r.inj r',ao.inj t t']
section
variable {X:Cx}{pins:List (Addr×Obj)}{σ:St}{H:Hp}{s:Shared}{a:Addr}{xs ys:List V}
theorem SqL.of {K:PySem.W.Frag} (h:H a=some (.lst xs)):SqL K H a xs:=.inl (.inl h)
theorem SqT.of {K:PySem.W.Frag} (h:H a=some (.tup xs)):SqT K H a xs:=.inl (.inl h)
theorem Inv.list (I:Inv X pins σ H s) (h:SqL X.K H a xs):∃ its:List Value,ao xs its∧PlainL s.heap a its.toArray∧xs.length≤sizeLine:=by
 rcases h with h | ⟨o,its,n,hk,hc,hd,hs,hz,r⟩
 ·obtain⟨z,its,n,r,e⟩:=h.ok I.hok
  exact⟨its,r,⟨_,n,e,rfl,rfl,rfl⟩,z⟩
 ·refine⟨its.toList,r,⟨o,n,I.kIn a o hk,hc,hd,by simpa using hs⟩,?_⟩
  have e:=r.length
  simp only[Array.length_toList] at e
  lia
theorem Inv.tuple (I:Inv X pins σ H s) (h:SqT X.K H a xs):∃ its:List Value,ao xs its∧IsTup s.heap a its.toArray∧xs.length≤sizeLine:=by
 rcases h with h | ⟨o,its,n,hk,hc,hs,hz,r⟩
 ·obtain⟨z,its,r,p⟩:=h.ok I.hok
  exact⟨its,r,p,z⟩
 ·refine⟨its.toList,r,⟨o,I.kIn a o hk,hc,n,by simpa using hs⟩,?_⟩
  have e:=r.length
  simp only[Array.length_toList] at e
  lia
theorem Inv.list_inj (I:Inv X pins σ H s) (h:SqL X.K H a xs) (h':SqL X.K H a ys):xs=ys:=by
 obtain⟨its,r,⟨o,n,e,_,_,d⟩,_⟩:=I.list h
 obtain⟨its',r',⟨o',n',e',_,_,d'⟩,_⟩:=I.list h'
 rw[e] at e';cases e'
 rw[d] at d'
 injection d' with d1 _
 have:its=its':=by simpa using congrArg Array.toList d1
 subst this
 exact r.inj r'
theorem Inv.tuple_inj (I:Inv X pins σ H s) (h:SqT X.K H a xs) (h':SqT X.K H a ys):xs=ys:=by
 obtain⟨its,r,⟨o,e,_,n,d⟩,_⟩:=I.tuple h
 obtain⟨its',r',⟨o',e',_,n',d'⟩,_⟩:=I.tuple h'
 rw[e] at e';cases e'
 rw[d] at d'
 injection d' with d1 _
 have:its=its':=by simpa using congrArg Array.toList d1
 subst this
 exact r.inj r'
end
noncomputable abbrev Cx.wish (X:Cx) (E:Value→Shared→Prop):Cx:={ X with xe:=E }
noncomputable abbrev Cx.nox (X:Cx):Cx:=X.wish fun _ _=>False
theorem Cx.Ok.wish {X:Cx} (ok:X.Ok) (E:Value→Shared→Prop):(X.wish E).Ok:=
 ⟨ok.mod,ok.kind,ok.glob,ok.blt,ok.above,ok.inj,ok.has,ok.cab,ok.hd,ok.frames,ok.stk,ok.exf,ok.bs,ok.bsz,ok.noex,ok.exfs,ok.funs,ok.frf⟩
theorem Cx.Ok.unwish {X:Cx}{E:Value→Shared→Prop} (ok:(X.wish E).Ok):X.Ok:=
 ⟨ok.mod,ok.kind,ok.glob,ok.blt,ok.above,ok.inj,ok.has,ok.cab,ok.hd,ok.frames,ok.stk,ok.exf,ok.bs,ok.bsz,ok.noex,ok.exfs,ok.funs,ok.frf⟩
section
variable {X:Cx}{pins:List (Addr×Obj)}{σ:St}{H:Hp}{s:Shared}{E:Value→Shared→Prop}
theorem Inv.wish (I:Inv X pins σ H s) (E:Value→Shared→Prop):Inv (X.wish E) pins σ H s:=⟨I.ok.wish E,I.os,I.bare,I.base,I.loc,I.cell,I.free,I.freeC,I.pin,I.hok,I.len⟩
theorem Inv.unwish (I:Inv (X.wish E) pins σ H s):Inv X pins σ H s:=⟨I.ok.unwish,I.os,I.bare,I.base,I.loc,I.cell,I.free,I.freeC,I.pin,I.hok,I.len⟩
theorem SP.unwish {D:Ends}{f:Flow}{s':Shared} (h:SP (X.wish E) pins D f s'):SP X pins D f s':=by
 cases f with
 | next=>obtain⟨σ',H',I,q⟩:=h;exact⟨σ',H',I.unwish,q⟩
 | brk=>obtain⟨σ',H',I,q⟩:=h;exact⟨σ',H',I.unwish,q⟩
 | cont=>obtain⟨σ',H',I,q⟩:=h;exact⟨σ',H',I.unwish,q⟩
 | ret u=>obtain⟨v,σ',H',I,r,q⟩:=h;exact⟨v,σ',H',I.unwish,r,q⟩
theorem PSs.nox {st:List Stmt}{t:TS} (h:PSs X.nox st t):PSs X st t:=fun pins s σ H D I hw=>
 wpAny_mono (h pins s σ H D (I.wish _) hw) (fun _ _ q=>q.unwish) fun _ _ z=>False.elim z
end
section
variable {X:Cx}{st:Stmt}{rest:List Stmt}{t u:TS}{e:Expr}{te:TE}{pos:Pos}
noncomputable def tNext:TS:=fun D σ H=>D.nx σ H
noncomputable def lZ (t u:TS):TS:=fun D σ H=>t { D with nx:=u D } σ H
theorem sF:PSs X [] tNext:=fun _ _ σ H _ I h=>wpAny_execs_nil ⟨σ,H,I,h⟩
theorem sG (h1:PS X st t) (h2:PSs X rest u):PSs X (st::rest) (lZ t u):=by
 intro pins s σ H D I h
 refine wpAny_execs_cons (thn (h1 pins s σ H { D with nx:=u D } I h) fun f s1 q=>?_)
 cases f with
 | next=>
  obtain⟨σ',H',I',q⟩:=q
  exact h2 pins s1 σ' H' D I' q
 | ret v=>exact q
 | brk=>exact q
 | cont=>exact q
theorem sH (h1:PS X st t):PSs X [st] t:=by
 intro pins s σ H D I h
 refine wpAny_execs_cons (thn (h1 pins s σ H D I h) fun f s1 q=>?_)
 cases f with
 | next=>exact wpAny_execs_nil q
 | ret v=>exact q
 | brk=>exact q
 | cont=>exact q
theorem Inv.quiet {pins:List (Addr×Obj)}{σ:St}{H:Hp}{s:Shared} (I:Inv X pins σ H s):interactive X.env=false:=by simp[interactive,I.ok.kind]
noncomputable def sI (te:TE):TS:=fun D σ H=>te σ H fun _ H1=>D.nx σ H1
theorem sJ (he:PE X e te) (hs:swapsWith e none pos.line X.env=pure false:=by rfl):PS X (.Expr e pos) (sI te):=by
 intro pins s σ H D I h
 exact wpAny_Expr_any (thn (he pins s σ H _ I h) fun v s1 ⟨x,H1,I1,r1,q1⟩=>⟨σ,H1,I1,q1⟩) I.quiet hs
noncomputable def sK (te:TE):TS:=fun D σ H=>te σ H D.rt
theorem sL (he:PE X e te):PS X (.Return (some e) pos) (sK te):=by
 intro pins s σ H D I h
 exact wpAny_Return_some (thn (he pins s σ H _ I h) fun v s1 ⟨x,H1,I1,r1,q1⟩=>⟨x,σ,H1,I1,r1,q1⟩)
noncomputable def sM (c:TT) (t u:TS):TS:=fun D σ H=>c σ H fun b H1=>if b=true then t D σ H1 else u D σ H1
theorem sN {c:Expr}{a b:List Stmt}{tc:TT} (hc:PT X c tc) (ha:PSs X a t) (hb:PSs X b u):PS X (.If c a b pos) (sM tc t u):=by
 intro pins s σ H D I h
 refine wpAny_If (thn (hc pins s σ H _ I h) fun d s1 ⟨H1,I1,q1⟩=>?_)
 cases d with
 | true=>exact ha pins s1 σ H1 D I1 q1
 | false=>exact hb pins s1 σ H1 D I1 q1
end
noncomputable abbrev TG:=V→St→Hp→(St→Hp→Prop)→Prop
noncomputable abbrev TGs:=List V→St→Hp→(St→Hp→Prop)→Prop
noncomputable def PG (X:Cx) (target:Expr) (t:TG):Prop:=
 ∀ (pins:List (Addr×Obj)) (s:Shared) (σ:St) (H:Hp) (v:V) (u:Value) (Q:St→Hp→Prop),Inv X pins σ H s→av v u→t v σ H Q→
  wpAny (model X.prog X.w) X.A (assign target X.env u) (fun _ s'=>∃ σ' H',Inv X pins σ' H' s'∧Q σ' H') X.xe s
noncomputable def PGs (X:Cx) (ts:List Expr) (t:TGs):Prop:=
 ∀ (pins:List (Addr×Obj)) (s:Shared) (σ:St) (H:Hp) (vs:List V) (us:List Value) (Q:St→Hp→Prop),Inv X pins σ H s→ao vs us→t vs σ H Q→
  wpAny (model X.prog X.w) X.A (assignInOrder ((assignEach ts X.env).map (·.2)) us) (fun _ s'=>∃ σ' H',Inv X pins σ' H' s'∧Q σ' H') X.xe s
noncomputable abbrev TSet:=V→V→V→Hp→(Hp→Prop)→Prop
noncomputable def jx (X:Cx) (t:TSet):Prop:=
 ∀ (pins:List (Addr×Obj)) (s:Shared) (σ:St) (H:Hp) (o i v:V) (ov iv u:Value) (Q:Hp→Prop),Inv X pins σ H s→av o ov→av i iv→av v u→t o i v H Q→
  wpAny (model X.prog X.w) X.A (setItem ov iv u) (fun _ s'=>∃ H',Inv X pins σ H' s'∧Q H') X.xe s
section
variable {X:Cx}{pos:Pos}
noncomputable def jy (i:Nat):TG:=fun v σ H Q=>Q (σ.set i (some v)) H
theorem sO {i:Nat}{x:Str} (hN:X.N.Nodup) (hi:X.N[i]?=some x) (hx:Loc X.env.scope x) (hf:X.fn x=true∨X.env.scope.names.lookup x=some .local:=by first | exact .inl rfl | exact .inr rfl | assumption):PG X (.Name x pos) (jy i):=by
 intro pins s σ H v u Q I r h
 exact wpAny_assign_Name (iz I hN hi hx r (fun s' I'=>⟨_,H,I',h⟩) hf)
noncomputable def gNil:TGs:=fun vs σ H Q=>vs=[]∧Q σ H
noncomputable def sP (t:TG) (u:TGs):TGs:=fun vs σ H Q=>∃ v r,vs=v::r∧t v σ H fun σ' H'=>u r σ' H' Q
theorem sQ:PGs X [] gNil:=by
 intro pins s σ H vs us Q I r h
 obtain⟨e,h⟩:=h
 subst e
 cases r
 exact assignInOrder_nil ⟨σ,H,I,h⟩
theorem sR {e:Expr}{es:List Expr}{t:TG}{u:TGs} (h1:PG X e t) (h2:PGs X es u)
  (hs:(assignEach (e::es) X.env).map (·.2)=assign e X.env::(assignEach es X.env).map (·.2):=by rfl):PGs X (e::es) (sP t u):=by
 intro pins s σ H vs us Q I r h
 obtain⟨v,vr,e1,h⟩:=h
 subst e1
 cases r with
 | cons r rr=>
  rw[hs]
  refine assignInOrder_cons (thn (h1 pins s σ H _ _ _ I r h) fun _ s1 ⟨σ1,H1,I1,q1⟩=>?_)
  exact h2 pins s1 σ1 H1 _ _ Q I1 rr q1
noncomputable def sS (K:PySem.W.Frag) (n:Nat) (t:TGs):TG:=fun v σ H Q=>∃ a xs,v=.ref a∧SqT K H a xs∧xs.length=n∧t xs σ H Q
theorem sT {es:List Expr}{k:Nat}{t:TGs}{n:Nat} (hc:X.calm=true) (h:PGs X es t)
  (hn:(assignEach es X.env).length=n:=by rfl) (hst:(assignEach es X.env).findIdx? (·.1)=none:=by rfl):PG X (.Tuple es k pos) (sS X.K n t):=by
 intro pins s σ H v u Q I r hw
 obtain⟨a,xs,e1,hq,hl,hw⟩:=hw
 subst e1
 cases r
 obtain⟨its,rv,ht,hz⟩:=I.tuple hq
 refine assign_Tuple_tuple (I.ok.hd hc) ht (by simp[hn,← hl,rv.length]) hst fun h' hx=>?_
 have I1:Inv X pins σ H { s with heap:=h' }:=I.kept (t':=s.toks) fun b o e=>hx b o (Nat.ne_of_lt (Heap.lt_size e)) e
 exact h pins _ σ H xs _ Q I1 (by simpa using rv) hw
noncomputable def sU (to ti:TE) (t:TSet):TG:=fun v σ H Q=>to σ H fun o H1=>ti σ H1 fun i H2=>t o i v H2 fun H3=>Q σ H3
theorem sV {o i:Expr}{to ti:TE}{t:TSet} (ho:PE X o to) (hi:PE X i ti) (hs:jx X t)
  (ha:∀ v,assign (.Subscript o i pos) X.env v=(do
   let ov ← holding [v] (eval o X.env)
   let iv ← holding [v,ov] (eval i X.env)
   standAt pos
   holding [v,ov,iv] (setItem ov iv v)
   release [v,ov,iv] []):=by intro _;rfl):PG X (.Subscript o i pos) (sU to ti t):=by
 intro pins s σ H v u Q I r h
 rw[ha]
 refine wpAny_bind (wpAny_holding (thn (ho pins s σ H _ I h) fun ov s1 ⟨x,H1,I1,r1,q1⟩=>?_))
 refine wpAny_bind (wpAny_holding (thn (hi pins s1 σ H1 _ I1 q1) fun iv s2 ⟨y,H2,I2,r2,q2⟩=>?_))
 refine wpAny_bind (wpAny_standAt (wpAny_bind (wpAny_holding (thn (hs pins s2 σ H2 x y v ov iv u _ I2 r1 r2 r q2) fun _ s3 ⟨H3,I3,q3⟩=>?_))))
 exact wpAny_release ⟨σ,H3,I3,q3⟩
noncomputable def jz (te:TE) (g:TG):TS:=fun D σ H=>te σ H fun x H1=>g x σ H1 D.nx
theorem sW {tg e:Expr}{te:TE}{g:TG} (he:PE X e te) (hg:PG X tg g) (hs:swapsWithSole [tg] e pos.line X.env=pure false:=by rfl) (hw:swappedStores [tg] e X.env=pure none:=by rfl)
  (h1:(assignEach [tg] X.env).map (·.2)=[assign tg X.env]:=by rfl):PS X (.Assign [tg] e pos) (jz te g):=by
 intro pins s σ H D I h
 refine wpAny_Assign_stores (thn (he pins s σ H _ I h) fun v s1 ⟨x,H1,I1,r1,q1⟩=>?_) hs hw
 rw[h1]
 exact thn (hg pins s1 σ H1 x v _ I1 r1 q1) fun _ s2 q=>q
theorem sX {i:Nat}{x:Str}{e:Expr}{te:TE}{pos':Pos} (hN:X.N.Nodup) (hi:X.N[i]?=some x) (hx:Loc X.env.scope x) (he:PE X e te) (hs:swapsWith e (some (.Name x pos')) pos.line X.env=pure false:=by rfl) (hf:X.fn x=true∨X.env.scope.names.lookup x=some .local:=by first | exact .inl rfl | exact .inr rfl | assumption):
  PS X (.Assign [.Name x pos'] e pos) (jz te (jy i)):=by
 intro pins s σ H D I h
 refine wpAny_Assign_Name (thn (he pins s σ H _ I h) fun v s1 ⟨y,H1,I1,r1,q1⟩=>?_) hs
 exact iz I1 hN hi hx r1 (fun s2 I2=>⟨_,H1,I2,q1⟩) hf
noncomputable def sY (i j:Nat) (ta:TA):TS:=fun D σ H=>ta σ H fun vs H1=>∃ v w,vs=[v,w]∧D.nx ((σ.set i (some v)).set j (some w)) H1
theorem sZ {i j:Nat}{x y:Str}{a b:Expr}{ta:TA}{px py pt:Pos}{kt k2 pt2} (hc:X.calm=true) (hN:X.N.Nodup) (hi:X.N[i]?=some x) (hj:X.N[j]?=some y) (hij:i≠j)
  (hx:X.env.scope.names.lookup x=some .local) (hy:X.env.scope.names.lookup y=some .local) (ha:PA X [a,b] ta)
  (hw:swappedStores [.Tuple [.Name x px,.Name y py] kt pt] (.Tuple [a,b] k2 pt2) X.env=pure (some [x,y]))
  (hs:swapsWithSole [.Tuple [.Name x px,.Name y py] kt pt] (.Tuple [a,b] k2 pt2) pos.line X.env=pure false:=by rfl):
  PS X (.Assign [.Tuple [.Name x px,.Name y py] kt pt] (.Tuple [a,b] k2 pt2) pos) (sY i j ta):=by
 intro pins s σ H D I h
 rw[exec_Assign_arm]
 refine wpAny_bind (wpAny_standAt ?_)
 rw[hs]
 refine wpAny_bind (wpAny_pure ?_)
 rw[if_neg (by decide)]
 refine wpAny_bind (Tuple_ (thn (ha _ pins s σ H _ I h) fun us s1 ⟨vs,H1,I1,r1,q1⟩=>?_))
 obtain⟨v,w,e1,q1⟩:=q1
 subst e1
 obtain⟨u1,u2,rfl,rv,rw'⟩:∃ u1 u2,us=[u1,u2]∧av v u1∧av w u2:=by
  cases r1 with
  | cons p q=>
   cases q with
   | cons p' q'=>
    cases q'
    exact⟨_,_,rfl,p,p'⟩
 refine wpAny_newObj_type ?_ (by show 2≤sizeLine;decide)
 have I2:Inv X pins σ H1 { s1 with heap:=s1.heap.push { cls:=.type "tuple",data:=.seq [u1,u2].toArray } }:=I1.kept (t':=s1.toks) fun b o e=>Heap.get?_push_of_some _ e
 rw[hw]
 refine wpAny_bind (wpAny_pure ?_)
 show wpAny (model X.prog X.w) X.A (do rule "assign.swapped-stores";let items ← unpackItems (.ref s1.heap.objs.size) 2 none;assignInOrder [fun v=>bindName X.env y v,fun v=>bindName X.env x v] items.reverse;pure Flow.next) _ _ _
 refine wpAny_bind (wpAny_rule (wpAny_bind (unpackItems_tuple (items:=#[u1,u2]) (I.ok.hd hc) (IsTup.new s1.heap _) fun h' hx'=>?_)))
 have I3:=I2.kept (h':=h') (t':=s1.toks) fun b o e=>hx' b o (Nat.ne_of_lt (Heap.lt_size e)) e
 show wpAny _ _ (assignInOrder [fun v=>bindName X.env y v,fun v=>bindName X.env x v] [u2,u1] >>= fun _=>pure Flow.next) _ _ _
 refine wpAny_bind (assignInOrder_cons (wpAny_bindName (iz I3 hN hj (.inl hy) rw' (fun s2 I4=>?_) (.inr hy))))
 refine assignInOrder_cons (wpAny_bindName (iz I4 hN hi (.inl hx) rv (fun s3 I5=>assignInOrder_nil (wpAny_pure ?_)) (.inr hx)))
 rw[List.set_comm _ _ (Ne.symm hij)] at I5
 exact⟨_,H1,I5,q1⟩
end
section
variable {X:Cx}{pos:Pos}
noncomputable def tf (c:TT) (tb:TS):TS:=fun D σ H=>∃ W:Nat→St→Hp→Prop,(∃ m,W m σ H)∧∀ m σ H,W m σ H→
 c σ H fun b H1=>if b=true then ∃ N:St→Hp→Prop,(∀ σ' H',N σ' H'→∃ m',m'<m∧W m' σ' H')∧tb { D with nx:=N,ct:=N,bk:=D.nx } σ H1 else D.nx σ H1
theorem tj {c:Expr}{body:List Stmt}{tc:TT}{tb:TS} (hp:PassesOwn (model X.prog X.w) X.A X.env X.xe) (hc:PT X c tc) (hb:PSs X body tb):PS X (.While c body [] pos) (tf tc tb):=by
 intro pins s σ H D I h
 obtain⟨W,⟨m0,w0⟩,turn⟩:=h
 refine wpAny_While (codeAny_whileLoop (fun n s'=>∃ σ' H',Inv X pins σ' H' s'∧W n σ' H') ?_ m0 ⟨σ,H,I,w0⟩)
 rintro n s1 ⟨σ1,H1,I1,w1⟩
 refine wpAny_passesOwn hp (thn (hc pins s1 σ1 H1 _ I1 (turn n σ1 H1 w1)) fun b s2 ⟨H2,I2,q2⟩=>?_)
 cases b with
 | true=>
  obtain⟨N,hN,q2⟩:=q2
  rw[if_pos rfl]
  refine wpAny_passesOwn hp (thn (hb pins s2 σ1 H2 _ I2 q2) fun f s3 q3=>?_)
  cases f with
  | next=>
   obtain⟨σ3,H3,I3,n3⟩:=q3
   obtain⟨m',hm,w3⟩:=hN σ3 H3 n3
   exact⟨m',hm,σ3,H3,I3,w3⟩
  | cont=>
   obtain⟨σ3,H3,I3,n3⟩:=q3
   obtain⟨m',hm,w3⟩:=hN σ3 H3 n3
   exact⟨m',hm,σ3,H3,I3,w3⟩
  | brk=>exact q3
  | ret v=>exact q3
 | false=>
  rw[if_neg Bool.false_ne_true]
  exact wpAny_execs_nil ⟨σ1,H2,I2,q2⟩
end
structure It where
 go:Nat→Hp→Prop
 yld:Nat→Hp→V→Hp→Prop
 stop:Nat→Hp→Prop
noncomputable def dG (X:Cx) (pins:List (Addr×Obj)) (H:Hp) (b:Addr):Prop:=
 H b=none∧b≠X.env.locals∧b∉X.fs∧(b∈X.ex∨X.s₀.heap.objs.size≤b)∧(∀ x c,X.env.cells.lookup x=some c→c≠b)∧∀ p∈X.pn++pins,p.1≠b
theorem Inv.fpOk {X:Cx}{pins:List (Addr×Obj)}{σ:St}{H H':Hp}{s:Shared}{b:Addr} (I:Inv X pins σ H s) (hb:s.heap.objs.size≤b) (hn:H' b=none):dG X pins H' b:=by
 refine⟨hn,Nat.ne_of_gt (Nat.lt_of_lt_of_le I.lt hb),I.nofs hb,.inr (Nat.le_trans I.sz hb),fun x c e z=>?_,fun p hp z=>?_⟩
 ·obtain⟨v,q⟩:=I.cell x c e
  exact absurd (Nat.lt_of_lt_of_le q.lt (by rw[z];exact hb)) (Nat.lt_irrefl _)
 ·exact absurd (Nat.lt_of_lt_of_le (Heap.lt_size (I.pin p hp).1) (by rw[z];exact hb)) (Nat.lt_irrefl _)
structure Turn (P:Program) (w:World) (K:PySem.W.Frag) (tg:Expr) (J:It) (fp:List Addr) (it:Addr) (tn:Nat→Heap→Prop):Prop where
 mem:it∈fp
 obj:∀ i h,tn i h→∀ b∈fp,∃ o,h.get? b=some o∧∀ v,o.data≠.cell v
 keep:∀ i h h',tn i h→(∀ b∈fp,∀ o,h.get? b=some o→h'.get? b=some o)→tn i h'
 item:∀ (X:Cx),X.prog=P→X.w=w→X.K=K→X.calm=true→∀ (i:Nat) (pins:List (Addr×Obj)) (s:Shared) (σ:St) (H:Hp) (E:Value→Shared→Prop),Inv X pins σ H s→(∀ b∈fp,dG X pins H b)→tn i s.heap→J.go i H→
  wpAny (model P w) X.A (pyNext (.ref it)) (fun r s1=>∃ u,r=some u∧
   wpAny (model P w) X.A (letOwnedTupleGo tg (.ref it) u) (fun _ s2=>∃ x H',Inv X pins σ H' s2∧av x u∧J.yld i H x H'∧tn (i+1) s2.heap∧∀ b∈fp,H' b=none) E s1) E s
 done:∀ (X:Cx),X.prog=P→X.w=w→X.K=K→X.calm=true→∀ (i:Nat) (pins:List (Addr×Obj)) (s:Shared) (σ:St) (H:Hp) (E:Value→Shared→Prop),Inv X pins σ H s→(∀ b∈fp,dG X pins H b)→tn i s.heap→J.stop i H→
  wpAny (model P w) X.A (pyNext (.ref it)) (fun r s1=>r=none∧Inv X pins σ H s1) E s
 self:∀ (A:Around) (i:Nat) (s:Shared) (Q:Value→Shared→Prop) (E:Value→Shared→Prop),tn i s.heap→Q (.ref it) s→wpAny (model P w) A (pyIter (.ref it)) Q E s
noncomputable abbrev TI:=St→Hp→(It→Hp→Prop)→Prop
noncomputable def PIE (X:Cx) (pins:List (Addr×Obj)) (σ:St) (tg:Expr) (R:It→Hp→Prop) (itv:Value) (s2:Shared):Prop:=
 ∃ (it:Addr) (fp:List Addr) (tn:Nat→Heap→Prop) (J:It) (H':Hp),itv=.ref it∧Inv X pins σ H' s2∧Turn X.prog X.w X.K tg J fp it tn∧tn 0 s2.heap∧(∀ b∈fp,dG X pins H' b)∧R J H'
noncomputable def PI (X:Cx) (tg iter:Expr) (wi:TI):Prop:=
 ∀ (pins:List (Addr×Obj)) (s:Shared) (σ:St) (H:Hp) (R:It→Hp→Prop),Inv X pins σ H s→wi σ H R→
  wpAny (model X.prog X.w) X.A (eval iter X.env) (fun v s1=>wpAny (model X.prog X.w) X.A (pyIter v) (PIE X pins σ tg R) X.xe s1) X.xe s
theorem jA {M : Model} {A : Around} {E : Value → Shared → Prop} {s : Shared} {tg : Expr} {it : Addr} {u : Value} {o : Obj} {n : String} {vs : Array Value} {Q : Unit → Shared → Prop} (ho : s.heap.get? it = some o) (hc : o.cls = .type n) (hd : o.data = .fields vs)
    (hn : ["enumerate", "zip", "dict_itemiterator", "dict_reverseitemiterator", "odict_iterator", "itertools.zip_longest", "itertools.pairwise"].contains n = false) (hQ : Q () s) : wpAny M A (letOwnedTupleGo tg (.ref it) u) Q E s := by
  unfold letOwnedTupleGo
  cases tg <;> first
    | exact wpAny_pure hQ
    | (cases u <;> first
        | exact wpAny_pure hQ
        | (refine wpAny_bind (wpAny_load ho ?_)
           rw [hc, hd]
           show wpAny M A (if (["enumerate", "zip", "dict_itemiterator", "dict_reverseitemiterator", "odict_iterator", "itertools.zip_longest", "itertools.pairwise"].contains n && vs[0]? == some (rawInt _)) = true then _ else _) Q E s
           rw [if_neg (by intro h; rw [hn, Bool.false_and] at h; cases h)]
           exact wpAny_pure hQ))
noncomputable def Itl (K:PySem.W.Frag) (a:Addr):It:=
 ⟨fun i H=>∃ xs x,SqL K H a xs∧xs[i]?=some x,fun i H x H'=>H'=H∧∀ xs,SqL K H a xs→xs[i]?=some x,fun i H=>∃ xs,SqL K H a xs∧xs.length≤i⟩
noncomputable def Itt (K:PySem.W.Frag) (a:Addr):It:=
 ⟨fun i H=>∃ xs x,SqT K H a xs∧xs[i]?=some x,fun i H x H'=>H'=H∧∀ xs,SqT K H a xs→xs[i]?=some x,fun i H=>∃ xs,SqT K H a xs∧xs.length≤i⟩
noncomputable def Itr (lo:Int) (n:Nat):It:=⟨fun i _=>i<n,fun i H x H'=>H'=H∧x=.int (lo+i),fun i _=>n≤i⟩
theorem tm {P:Program}{w:World}{K:PySem.W.Frag}{tg:Expr} (a it:Addr):Turn P w K tg (Itl K a) [it] it (fun i h=>h.IsListIter it a i) where
 mem:=by simp
 obj:=fun i h st b hb=>by
  have e:b=it:=by simpa using hb
  subst e
  obtain⟨o,e,c,d⟩:=st
  exact⟨o,e,fun v z=>by rw[d] at z;cases z⟩
 keep:=fun i h h' st k=>st.at fun o e=>k it (by simp) o e
 item:=by
  intro X hP hw hK hc i pins s σ H E I hf st hg
  subst hP hw hK
  obtain⟨xs,x,hq,hx⟩:=hg
  obtain⟨its,rv,p,hz⟩:=I.list hq
  obtain⟨u,hu,ru⟩:=rv.get hx
  obtain⟨f0,f1,f2,f3,f4,f5⟩:=hf it (by simp)
  refine wpAny_pyNext_list_item st p.isList (x:=u) (by simpa using hu) fun h' st' sb=>?_
  have I1:Inv X pins σ H { s with heap:=h' }:=I.turned (t':=s.toks) (fun b o hb e=>(sb.2 b hb).trans e) f0 f1 f3 f4 f5
  obtain⟨o,e,c,d⟩:=id st'
  exact⟨u,rfl,jA (s:={ s with heap:=h' }) e c d (by decide) ⟨x,H,I1,ru,⟨rfl,fun ys hy=>by rw[I.list_inj hy hq];exact hx⟩,st',fun b hb=>(hf b hb).1⟩⟩
 done:=by
  intro X hP hw hK hc i pins s σ H E I hf st hg
  subst hP hw hK
  obtain⟨xs,hq,hx⟩:=hg
  obtain⟨its,rv,p,hz⟩:=I.list hq
  obtain⟨f0,f1,f2,f3,f4,f5⟩:=hf it (by simp)
  have hl:=rv.length
  exact wpAny_pyNext_list_end (I.ok.hd hc) st p.isList (by simp;lia) fun h' eb=>⟨rfl,I.turned (t':=s.toks) (fun b o hb e=>eb b o hb e) f0 f1 f3 f4 f5⟩
 self:=fun _ _ _ _ _ st h=>wpAny_pyIter_listiter st h
theorem tp {P:Program}{w:World}{K:PySem.W.Frag}{tg:Expr} (a it:Addr):Turn P w K tg (Itt K a) [it] it (fun i h=>h.IsTupleIter it a i) where
 mem:=by simp
 obj:=fun i h st b hb=>by
  have e:b=it:=by simpa using hb
  subst e
  obtain⟨o,e,c,d⟩:=st
  exact⟨o,e,fun v z=>by rw[d] at z;cases z⟩
 keep:=fun i h h' st k=>st.at fun o e=>k it (by simp) o e
 item:=by
  intro X hP hw hK hc i pins s σ H E I hf st hg
  subst hP hw hK
  obtain⟨xs,x,hq,hx⟩:=hg
  obtain⟨its,rv,p,hz⟩:=I.tuple hq
  obtain⟨u,hu,ru⟩:=rv.get hx
  obtain⟨f0,f1,f2,f3,f4,f5⟩:=hf it (by simp)
  refine wpAny_pyNext_tuple_item st (show s.heap.IsTuple a its.toArray from p) (x:=u) (by simpa using hu) fun h' st' sb=>?_
  have I1:Inv X pins σ H { s with heap:=h' }:=I.turned (t':=s.toks) (fun b o hb e=>(sb.2 b hb).trans e) f0 f1 f3 f4 f5
  obtain⟨o,e,c,d⟩:=id st'
  exact⟨u,rfl,jA (s:={ s with heap:=h' }) e c d (by decide) ⟨x,H,I1,ru,⟨rfl,fun ys hy=>by rw[I.tuple_inj hy hq];exact hx⟩,st',fun b hb=>(hf b hb).1⟩⟩
 done:=by
  intro X hP hw hK hc i pins s σ H E I hf st hg
  subst hP hw hK
  obtain⟨xs,hq,hx⟩:=hg
  obtain⟨its,rv,p,hz⟩:=I.tuple hq
  obtain⟨f0,f1,f2,f3,f4,f5⟩:=hf it (by simp)
  have hl:=rv.length
  exact wpAny_pyNext_tuple_end (I.ok.hd hc) st (show s.heap.IsTuple a its.toArray from p) (by simp;lia) fun h' eb=>⟨rfl,I.turned (t':=s.toks) (fun b o hb e=>eb b o hb e) f0 f1 f3 f4 f5⟩
 self:=fun _ _ _ _ _ st h=>wpAny_pyIter_tupleiter st h
theorem tq {P:Program}{w:World}{K:PySem.W.Frag}{tg:Expr} (it:Addr) (lo:Int) (n:Nat):Turn P w K tg (Itr lo n) [it] it (fun i h=>IsRangeIter h it (lo+(i:Nat) * 1) ((n:Int) - (i:Nat)) 1) where
 mem:=by simp
 obj:=fun i h st b hb=>by
  have e:b=it:=by simpa using hb
  subst e
  exact⟨_,st,fun v z=>by
   have z':Data.fields _=Data.cell v:=z
   cases z'⟩
 keep:=fun i h h' st k=>k it (by simp) _ st
 item:=by
  intro X hP hw hK hc i pins s σ H E I hf st hg
  subst hP hw hK
  obtain⟨f0,f1,f2,f3,f4,f5⟩:=hf it (by simp)
  have W:=Walks.range (prog:=X.prog) (w:=X.w) (I.ok.hd hc) it lo 1 n
  refine W.item i s _ _ hg st fun v h' tk hv st' kk=>?_
  obtain⟨t,rfl⟩:=hv
  have I1:Inv X pins σ H { s with heap:=h',toks:=tk }:=I.turned (fun b o hb e=>kk b o (by simpa using hb) e) f0 f1 f3 f4 f5
  refine⟨_,rfl,jA (s:={ s with heap:=h',toks:=tk }) (n := "range_iterator") st' rfl rfl (by decide) ⟨.int (lo+i),H,I1,⟨t,?_⟩,⟨rfl,rfl⟩,st',fun b hb=>(hf b hb).1⟩⟩
  rw[Int.mul_one]
 done:=by
  intro X hP hw hK hc i pins s σ H E I hf st hg
  subst hP hw hK
  obtain⟨f0,f1,f2,f3,f4,f5⟩:=hf it (by simp)
  exact wpAny_pyNext_range_end (I.ok.hd hc) st (by have:n≤i:=hg;lia) fun h' eb=>⟨rfl,I.turned (t':=s.toks) (fun b o hb e=>eb b o hb e) f0 f1 f3 f4 f5⟩
 self:=fun _ _ _ _ _ st h=>wpAny_pyIter_rangeiter st h
section
variable {X:Cx}{tg:Expr}
theorem tu {pins:List (Addr×Obj)}{σ:St}{H:Hp}{s:Shared}{R:It→Hp→Prop}{E:Value→Shared→Prop}{lo hi:Int}{t u v:Tok}{tk:Nat} (I:Inv X pins σ H s) (h1 : -(2 ^ 62)≤lo) (h2:lo<2 ^ 62) (h3 : -(2 ^ 62)≤hi) (h4:hi<2 ^ 62)
  (q:R (Itr lo (hi - lo).toNat) H):wpAny (model X.prog X.w) X.A (pyIter (.ref s.heap.objs.size)) (PIE X pins σ tg R) E { s with heap:=s.heap.push { cls:=.type "range",data:=.fields #[.int lo t,.int hi u,.int 1 v] },toks:=tk }:=by
 refine wpAny_pyIter_range (IsRange.new ..) (small_one h1 h2 h3 h4) ?_
 have I1:Inv X pins σ H { s with heap:=s.heap.push { cls:=.type "range",data:=.fields #[.int lo t,.int hi u,.int 1 v] },toks:=tk }:=I.kept fun b o e=>Heap.get?_push_of_some _ e
 refine⟨(s.heap.push { cls:=.type "range",data:=.fields #[.int lo t,.int hi u,.int 1 v] }).objs.size,[(s.heap.push { cls:=.type "range",data:=.fields #[.int lo t,.int hi u,.int 1 v] }).objs.size],_,_,H,rfl,
  I1.kept (t':=tk) fun b o e=>Heap.get?_push_of_some _ e,tq _ lo (hi - lo).toNat,?_,fun b hb=>?_,q⟩
 ·have e1:lo+((0:Nat):Int) * 1=lo:=by simp
  have e2:(((hi - lo).toNat:Nat):Int) - ((0:Nat):Int)=Builtin.Range.rangeSize lo hi 1:=by rw[rangeSize_one];split<;>lia
  show IsRangeIter _ _ (lo+((0:Nat):Int) * 1) ((((hi - lo).toNat:Nat):Int) - ((0:Nat):Int)) 1
  rw[e1,e2]
  exact Heap.get?_push_size _ rfl
 ·have e:b=(s.heap.push { cls:=.type "range",data:=.fields #[.int lo t,.int hi u,.int 1 v] }).objs.size:=by simpa using hb
  subst e
  exact I1.fpOk (Nat.le_refl _) (I1.hok.fresh (Nat.le_refl _))
noncomputable def tw (ta:TA):TI:=fun σ H R=>ta σ H fun vs H1=>∃ j:Int,vs=[.int j] ∧ -(2 ^ 62)≤j∧j<2 ^ 62∧R (Itr 0 j.toNat) H1
theorem tz {a:Expr}{ta:TA}{p pos:Pos} (hg:Gl X "range") (hm:X.mg "range" = none) (ha:PA X [a] ta) (hs:starEach [a] X.env=[(false,eval a X.env)]:=by rfl):PI X tg (.Call (.Name "range" p) [a] [] pos) (tw ta):=by
 intro pins s σ H R I h
 refine Call_ (jw I hg hm boot_range (PyProof.Rows.callWith_type1 (thn (ha pos pins s σ H _ I h) fun us s1 ⟨vs,H1,I1,r1,q1⟩=>?_) hs rfl))
 obtain⟨j,e,q1,q2,q⟩:=q1
 subst e
 cases r1 with
 | cons r rr=>
  cases rr
  obtain⟨t,rfl⟩:=r
  exact call_range_1 (tu I1 (by lia) (by lia) q1 q2 (by simpa using q))
noncomputable def l5 (wi:TI) (g:TG) (tb:TS):TS:=fun D σ H=>wi σ H fun J H1=>∃ W:Nat→Nat→St→Hp→Prop,(∃ m,W 0 m σ H1)∧∀ i m σ H,W i m σ H→
 (J.stop i H∧D.nx σ H)∨(J.go i H∧∃ N:St→Hp→Prop,(∀ σ' H',N σ' H'→∃ m',m'<m∧W (i+1) m' σ' H')∧∀ x H',J.yld i H x H'→g x σ H' fun σ2 H2=>tb { D with nx:=N,ct:=N,bk:=D.nx } σ2 H2)
noncomputable def dY (fp:List Addr) (h:Heap):List (Addr×Obj):=fp.filterMap fun b=>(h.get? b).map fun o=>(b,o)
theorem iA {fp:List Addr}{h:Heap}{b:Addr}{o:Obj} (hb:b∈fp) (e:h.get? b=some o):(b,o)∈dY fp h:=List.mem_filterMap.mpr ⟨b,hb,by rw[e];rfl⟩
theorem l6 {fp:List Addr}{h:Heap}{p:Addr×Obj} (hp:p∈dY fp h):p.1∈fp∧h.get? p.1=some p.2:=by
 obtain⟨b,hb,e⟩:=List.mem_filterMap.mp hp
 cases q:h.get? b with
 | none=>rw[q] at e;cases e
 | some o=>
  rw[q] at e
  have e':(b,o)=p:=Option.some.inj e
  subst e'
  exact⟨hb,q⟩
theorem Inv.pinned {pins:List (Addr×Obj)}{σ:St}{H:Hp}{s:Shared}{fp:List Addr} (I:Inv X pins σ H s) (hf:∀ b∈fp,dG X pins H b) (ho:∀ b∈fp,∃ o,s.heap.get? b=some o∧∀ v,o.data≠.cell v):Inv X (pins++dY fp s.heap) σ H s:=
 I.pins_of fun p hp=>(List.mem_append.mp hp).elim (fun z=>I.pin p (List.mem_append_right _ z)) fun z=>by
  obtain⟨hb,e⟩:=l6 z
  obtain⟨f0,f1,f2,_⟩:=hf p.1 hb
  obtain⟨o,e',d⟩:=ho p.1 hb
  rw[e] at e';cases e'
  exact⟨e,f0,f1,f2,d⟩
theorem Inv.unpinned {pins pl:List (Addr×Obj)}{σ:St}{H:Hp}{s:Shared} (I:Inv X (pins++pl) σ H s):Inv X pins σ H s:=I.pins_of fun p hp=>I.pin p (List.mem_append_right _ (List.mem_append_left _ hp))
theorem l7 {iter:Expr}{body:List Stmt}{wi:TI}{g:TG}{tb:TS}{pos:Pos} (hp:PassesOwn (model X.prog X.w) X.A X.env X.xe) (hc:X.calm=true) (hi:PI X tg iter wi) (hg:PG X tg g) (hb:PSs X body tb)
  (hs:∀ x,foldedSetIterable iter X.env x=pure x:=by intro _;rfl):PS X (.For tg iter body [] pos) (l5 wi g tb):=by
 intro pins s σ H D I h
 refine wpAny_For (thn (hi pins s σ H _ I h) fun v s1 h1=>thn h1 fun itv s2 h2=>?_) hs
 obtain⟨it,fp,tn,J,H2,e,I2,T,st2,f2,W,⟨m0,w0⟩,turn⟩:=h2
 subst e
 -- what stays true of the iterator's objects through the loop
 have stat:∀ {H':Hp},(∀ b∈fp,H' b=none)→∀ b∈fp,dG X pins H' b:=fun hn b hb=>⟨hn b hb,(f2 b hb).2⟩
 refine codeAny_forLoop_any (fun n s'=>∃ i σ' H',Inv X pins σ' H' s'∧tn i s'.heap∧(∀ b∈fp,H' b=none)∧W i n σ' H') ?_ m0 ⟨0,σ,H2,I2,st2,fun b hb=>(f2 b hb).1,w0⟩
 rintro n s3 ⟨i,σ3,H3,I3,st3,fr3,w3⟩
 rcases turn i n σ3 H3 w3 with ⟨stop,qn⟩ | ⟨go,N,hN,step⟩
 ·refine wpAny_passesOwn hp (thn (T.done X rfl rfl rfl hc i pins s3 σ3 H3 X.xe I3 (stat fr3) st3 stop) fun r s4 ⟨hr,I4⟩=>?_)
  subst hr
  exact wpAny_execs_nil ⟨σ3,H3,I4,qn⟩
 ·refine wpAny_passesOwn hp (thn (T.item X rfl rfl rfl hc i pins s3 σ3 H3 X.xe I3 (stat fr3) st3 go) fun r s4 ⟨u,hr,h4⟩=>?_)
  subst hr
  refine wpAny_passesOwn hp (thn h4 fun _ s5 ⟨x,H5,I5,r5,y5,st5,fr5⟩=>?_)
  have I5':=I5.pinned (stat fr5) (T.obj _ _ st5)
  refine wpAny_passesOwn hp (thn (hg _ s5 σ3 H5 x u _ I5' r5 (step x H5 y5)) fun _ s6 ⟨σ6,H6,I6,q6⟩=>?_)
  refine wpAny_passesOwn hp (thn (hb _ s6 σ6 H6 _ I6 q6) fun f s7 q7=>?_)
  have again:∀ {σ7:St}{H7:Hp},Inv X (pins++dY fp s5.heap) σ7 H7 s7→N σ7 H7→∃ m,m<n∧∃ i σ' H',Inv X pins σ' H' s7∧tn i s7.heap∧(∀ b∈fp,H' b=none)∧W i m σ' H':=fun {σ7 H7} I7 n7=>by
   obtain⟨m',hm,w7⟩:=hN σ7 H7 n7
   refine⟨m',hm,i+1,σ7,H7,I7.unpinned,T.keep _ _ _ st5 fun b hb o e=>(I7.pin (b,o) (List.mem_append_right _ (List.mem_append_right _ (iA hb e)))).1,fun b hb=>?_,w7⟩
   obtain⟨o,e,d⟩:=T.obj _ _ st5 b hb
   exact (I7.pin (b,o) (List.mem_append_right _ (List.mem_append_right _ (iA hb e)))).2.1
  cases f with
  | next=>obtain⟨σ7,H7,I7,n7⟩:=q7;exact again I7 n7
  | cont=>obtain⟨σ7,H7,I7,n7⟩:=q7;exact again I7 n7
  | brk=>obtain⟨σ7,H7,I7,q7⟩:=q7;exact⟨σ7,H7,I7.unpinned,q7⟩
  | ret v=>obtain⟨x7,σ7,H7,I7,r7,q7⟩:=q7;exact⟨x7,σ7,H7,I7.unpinned,r7,q7⟩
end
noncomputable abbrev R2:=V→V→Hp→VK→Prop
noncomputable def OpR (X:Cx) (f:Value→Value→Sem Value) (r:R2):Prop:=
 ∀ (pins:List (Addr×Obj)) (s:Shared) (σ:St) (H:Hp) (x y:V) (v u:Value) (Q:VK),Inv X pins σ H s→av x v→av y u→r x y H Q→
  wpAny (model X.prog X.w) X.A (f v u) (EP X pins σ Q) X.xe s
noncomputable def UnR (X:Cx) (f:Value→Sem Value) (r:V→Hp→VK→Prop):Prop:=
 ∀ (pins:List (Addr×Obj)) (s:Shared) (σ:St) (H:Hp) (x:V) (v:Value) (Q:VK),Inv X pins σ H s→av x v→r x H Q→
  wpAny (model X.prog X.w) X.A (f v) (EP X pins σ Q) X.xe s
noncomputable def bg (X:Cx) (f:Value) (r:List V→Hp→VK→Prop):Prop:=
 ∀ (pins:List (Addr×Obj)) (s:Shared) (σ:St) (H:Hp) (xs:List V) (us:List Value) (Q:VK),Inv X pins σ H s→ao xs us→r xs H Q→
  wpAny (model X.prog X.w) X.A (call f us) (EP X pins σ Q) X.xe s
noncomputable def tOp (r:R2) (ta tb:TE):TE:=fun σ H Q=>ta σ H fun x H1=>tb σ H1 fun y H2=>r x y H2 Q
noncomputable def tUn (r:V→Hp→VK→Prop) (ta:TE):TE:=fun σ H Q=>ta σ H fun x H1=>r x H1 Q
noncomputable def rI (C:Int→Int→Prop) (g:Int→Int→V):R2:=fun x y H Q=>∃ i j,x=.int i∧y=.int j∧C i j∧Q (g i j) H
noncomputable def rI0 (g:Int→Int→V):R2:=fun x y H Q=>∃ i j,x=.int i∧y=.int j∧Q (g i j) H
noncomputable def rU (g:Int→V):V→Hp→VK→Prop:=fun x H Q=>∃ i,x=.int i∧Q (g i) H
section
variable {X:Cx}{a b c:Expr}{ta tb tc:TE}{pos:Pos}
theorem jB (ha:PE X a ta) (hb:PE X b tb) {pins:List (Addr×Obj)}{s:Shared}{σ:St}{H:Hp}{R:V→V→Hp→Prop} (I:Inv X pins σ H s)
  (h:ta σ H fun x H1=>tb σ H1 fun y H2=>R x y H2) {Q:Value→Shared→Prop}{f:Value→Value→Sem Value}
  (hf:∀ v u s2 x y H2,Inv X pins σ H2 s2→av x v→av y u→R x y H2→wpAny (model X.prog X.w) X.A (f v u) Q X.xe s2):
  wpAny (model X.prog X.w) X.A (eval a X.env) (fun v s₁=>wpAny (model X.prog X.w) X.A (eval b X.env) (fun u s₂=>wpAny (model X.prog X.w) X.A (f v u) Q X.xe s₂) X.xe s₁) X.xe s:=by
 refine thn (ha pins s σ H _ I h) fun v s1 ⟨x,H1,I1,r1,q1⟩=>?_
 refine thn (hb pins s1 σ H1 _ I1 q1) fun u s2 ⟨y,H2,I2,r2,q2⟩=>?_
 exact hf v u s2 x y H2 I2 r1 r2 q2
theorem tB {op:Operator}{r:R2} (ho:OpR X (binaryOp op) r) (ha:PE X a ta) (hb:PE X b tb):PE X (.BinOp a op b pos) (tOp r ta tb):=by
 intro pins s σ H Q I h
 exact wpAny_BinOp (jB ha hb I h fun v u s2 x y H2 I2 rx ry q=>ho pins s2 σ H2 x y v u Q I2 rx ry q)
theorem tD {op:UnaryOp}{r:V→Hp→VK→Prop} (ho:UnR X (unaryOp op) r) (ha:PE X a ta):PE X (.UnaryOp op a pos) (tUn r ta):=by
 intro pins s σ H Q I h
 exact UnaryOp_ (thn (ha pins s σ H _ I h) fun v s1 ⟨x,H1,I1,r1,q1⟩=>ho pins s1 σ H1 x v Q I1 r1 q1)
theorem opI {f:Value→Value→Sem Value}{C:Int→Int→Prop}{g:Int→Int→Int}
  (rule:∀ (i j:Int) (t u:Tok) (s:Shared) (Q:Value→Shared→Prop) (E:Value→Shared→Prop),C i j→Q (.int (g i j) s.toks) { s with toks:=s.toks+1 }→wpAny (model X.prog X.w) X.A (f (.int i t) (.int j u)) Q E s):
  OpR X f (rI C fun i j=>.int (g i j)):=by
 intro pins s σ H x y v u Q I rx ry h
 obtain⟨i,j,rfl,rfl,hc,q⟩:=h
 obtain⟨t,rfl⟩:=rx
 obtain⟨t',rfl⟩:=ry
 exact rule i j t t' s _ _ hc ⟨.int (g i j),H,I.tok _,⟨_,rfl⟩,q⟩
theorem l8 {f:Value→Value→Sem Value}{g:Int→Int→Int}
  (rule:∀ (i j:Int) (t u:Tok) (s:Shared) (Q:Value→Shared→Prop) (E:Value→Shared→Prop),Q (.int (g i j) s.toks) { s with toks:=s.toks+1 }→wpAny (model X.prog X.w) X.A (f (.int i t) (.int j u)) Q E s):
  OpR X f (rI0 fun i j=>.int (g i j)):=by
 intro pins s σ H x y v u Q I rx ry h
 obtain⟨i,j,rfl,rfl,q⟩:=h
 obtain⟨t,rfl⟩:=rx
 obtain⟨t',rfl⟩:=ry
 exact rule i j t t' s _ _ ⟨.int (g i j),H,I.tok _,⟨_,rfl⟩,q⟩
theorem iB {f:Value→Value→Sem Value}{g:Int→Int→Bool}
  (rule:∀ (i j:Int) (t u:Tok) (s:Shared) (Q:Value→Shared→Prop) (E:Value→Shared→Prop),Q (.bool (g i j)) s→wpAny (model X.prog X.w) X.A (f (.int i t) (.int j u)) Q E s):
  OpR X f (rI0 fun i j=>.bl (g i j)):=by
 intro pins s σ H x y v u Q I rx ry h
 obtain⟨i,j,rfl,rfl,q⟩:=h
 obtain⟨t,rfl⟩:=rx
 obtain⟨t',rfl⟩:=ry
 exact rule i j t t' s _ _ ⟨.bl (g i j),H,I,rfl,q⟩
noncomputable def tE (i j:Int):Prop:=0<j∧j<1073741824
noncomputable def tF (i j:Int):Prop:=0≤j∧j≤1000000∧i.natAbs<2 ^ 64
theorem tH:OpR X (binaryOp .Add) (rI0 fun i j=>.int (i+j)):=l8 fun _ _ _ _ _ _ _ q=>add_int q
theorem tJ:OpR X (binaryOp .Sub) (rI0 fun i j=>.int (i - j)):=l8 fun _ _ _ _ _ _ _ q=>sub_int q
theorem tK:OpR X (binaryOp .FloorDiv) (rI tE fun i j=>.int (i / j)):=opI fun i j _ _ _ _ _ hc q=>by
 have h1:(0:Int)<j:=hc.1
 have h2:j<1073741824:=hc.2
 exact floordiv_int (by lia) (by rw[Int.fdiv_eq_ediv_of_nonneg i (by lia)];exact q) (.inl (PyProof.noPylong_small (by lia)))
theorem tL:OpR X (binaryOp .Mod) (rI (fun _ j=>0<j) fun i j=>.int (i % j)):=opI fun i j _ _ _ _ _ hc q=>by
 have h1:(0:Int)<j:=hc
 exact mod_int' (by lia) (by rw[Int.fmod_eq_emod_of_nonneg i (by lia)];exact q)
theorem tN:OpR X (binaryOp .Pow) (rI tF fun i j=>.int (i ^ j.toNat)):=opI fun _ _ _ _ _ _ _ hc q=>pow_int_small hc.1 hc.2.1 hc.2.2 q
theorem unI {f:Value→Sem Value}{g:Int→Int}
  (rule:∀ (i:Int) (t:Tok) (s:Shared) (Q:Value→Shared→Prop) (E:Value→Shared→Prop),Q (.int (g i) s.toks) { s with toks:=s.toks+1 }→wpAny (model X.prog X.w) X.A (f (.int i t)) Q E s):
  UnR X f (rU fun i=>.int (g i)):=by
 intro pins s σ H x v Q I rx h
 obtain⟨i,rfl,q⟩:=h
 obtain⟨t,rfl⟩:=rx
 exact rule i t s _ _ ⟨.int (g i),H,I.tok _,⟨_,rfl⟩,q⟩
theorem tQ:UnR X (unaryOp .USub) (rU fun i=>.int (-i)):=unI fun _ _ _ _ _ q=>neg_int q
end
section
variable {X:Cx}{a b c:Expr}{ta tb tc:TE}{pos:Pos}
theorem tR:OpR X (compareOp .Lt) (rI0 fun i j=>.bl (decide (i<j))):=iB fun _ _ _ _ _ _ _ q=>lt_int q
theorem tT:OpR X (compareOp .LtE) (rI0 fun i j=>.bl (decide (i≤j))):=iB fun _ _ _ _ _ _ _ q=>le_int q
theorem tU:OpR X (compareOp .Gt) (rI0 fun i j=>.bl (decide (j<i))):=iB fun _ _ _ _ _ _ _ q=>gt_int q
theorem tW:OpR X (compareOp .GtE) (rI0 fun i j=>.bl (decide (j≤i))):=iB fun _ _ _ _ _ _ _ q=>ge_int q
theorem OpR.or {f:Value→Value→Sem Value}{r r':R2} (h:OpR X f r) (h':OpR X f r'):OpR X f (fun x y H Q=>r x y H Q∨r' x y H Q):=by
 intro pins s σ H x y v u Q I rx ry q
 rcases q with q | q
 ·exact h pins s σ H x y v u Q I rx ry q
 ·exact h' pins s σ H x y v u Q I rx ry q
theorem cH (b:Expr) {op:CmpOp} (h:op≠.In:=by decide) (h2:op≠.NotIn:=by decide):behindInMarks op b=false:=by
 have e1:(op == CmpOp.In)=false:=by cases op<;>first | rfl | exact absurd rfl h
 have e2:(op == CmpOp.NotIn)=false:=by cases op<;>first | rfl | exact absurd rfl h2
 cases b<;>simp[behindInMarks,e1,e2]
theorem tX {op:CmpOp}{r:R2} (ho:OpR X (compareOp op) r) (ha:PE X a ta) (hb:PE X b tb) (hm:behindInMarks op b=false):PE X (.Compare a [op] [b] pos) (tOp r ta tb):=by
 intro pins s σ H Q I h
 exact wpAny_Compare1 (jB ha hb I h fun v u s2 x y H2 I2 rx ry q=>ho pins s2 σ H2 x y v u Q I2 rx ry q) hm
noncomputable def l9 (t:TE):TT:=fun σ H Q=>t σ H fun x H'=>∃ k,x=.bl k∧Q k H'
theorem tY {op:CmpOp}{r:R2} (ho:OpR X (compareOp op) r) (ha:PE X a ta) (hb:PE X b tb) (hm:behindInMarks op b=false):PT X (.Compare a [op] [b] pos) (l9 (tOp r ta tb)):=by
 intro pins s σ H Q I h
 refine wpAny_isTrue_Compare1 (thn (ha pins s σ H _ I h) fun v s1 ⟨x,H1,I1,r1,q1⟩=>thn (hb pins s1 σ H1 _ I1 q1) fun u s2 ⟨y,H2,I2,r2,q2⟩=>
  thn (ho pins s2 σ H2 x y v u _ I2 r1 r2 q2) fun c s3 ⟨z,H3,I3,r3,k,e,q3⟩=>?_) hm
 subst e
 cases r3
 exact wpAny_truthy_bool ⟨H3,I3,q3⟩
noncomputable def ma (r r':R2) (ta tb tc:TE):TE:=fun σ H Q=>ta σ H fun x H1=>tb σ H1 fun y H2=>r x y H2 fun z H3=>∃ k,z=.bl k∧
 (if k=true then tc σ H3 fun w' H4=>r' y w' H4 Q else Q (.bl false) H3)
theorem tZ {op op':CmpOp}{r r':R2} (ho:OpR X (compareOp op) r) (ho':OpR X (compareOp op') r') (ha:PE X a ta) (hb:PE X b tb) (hc:PE X c tc)
  (hm:lastMarks [op,op'] [b,c]=false:=by with_unfolding_all rfl):PT X (.Compare a [op,op'] [b,c] pos) (l9 (ma r r' ta tb tc)):=by
 intro pins s σ H Q I h
 refine isTrue_chain (thn (ha pins s σ H _ I h) fun v s1 ⟨x,H1,I1,r1,q1⟩=>test_link (thn (hb pins s1 σ H1 _ I1 q1) fun u s2 ⟨y,H2,I2,r2,q2⟩=>
  thn (ho pins s2 σ H2 x y v u _ I2 r1 r2 q2) fun d s3 ⟨z,H3,I3,r3,k,e,q3⟩=>?_)) hm
 subst e
 cases r3
 refine wpAny_truthy_bool ?_
 cases k with
 | false=>
  obtain⟨k',e',q'⟩:=q3
  cases e'
  exact ite_ff ⟨H3,I3,q'⟩
 | true=>
  refine ite_tt (test_last (thn (hc pins s3 σ H3 _ I3 q3) fun w' s4 ⟨z',H4,I4,r4,q4⟩=>thn (ho' pins s4 σ H4 y z' u w' _ I4 r2 r4 q4) fun d' s5 ⟨z2,H5,I5,r5,k2,e2,q5⟩=>?_))
  subst e2
  cases r5
  exact wpAny_truthy_bool ⟨H5,I5,q5⟩
theorem fV:(sizeLine:Nat)<2 ^ 63:=by rw[sizeLine_eq];decide
theorem t5:OpR X (binaryOp .Add) (fun x y H Q=>∃ i j,x=.str i∧y=.str j∧i.length+j.length≤sizeLine∧Q (.str (i++j)) H):=by
 intro pins s σ H x y v u Q I rx ry h
 obtain⟨i,j,rfl,rfl,hz,q⟩:=h
 obtain⟨t,rfl⟩:=rx
 obtain⟨t',rfl⟩:=ry
 exact add_str (fun t' tk=>⟨.str (i++j),H,I.tok _,⟨_,rfl⟩,q⟩) hz
theorem cP {x:V}{us:List Value} (r:ao [x] us):∃ u,us=[u]∧av x u:=by
 cases r with
 | cons r1 r2=>cases r2;exact⟨_,rfl,r1⟩
theorem gK {x y:V}{us:List Value} (r:ao [x,y] us):∃ u w',us=[u,w']∧av x u∧av y w':=by
 cases r with
 | cons r1 r2=>
  cases r2 with
  | cons r3 r4=>cases r4;exact⟨_,_,rfl,r1,r3⟩
theorem t6 (hc:X.calm=true):bg X (.builtin "max") (fun xs H Q=>∃ i j,xs=[.int i,.int j]∧Q (.int (if j > i then j else i)) H):=by
 intro pins s σ H xs us Q I r h
 obtain⟨i,j,rfl,q⟩:=h
 obtain⟨u,w',rfl,⟨t,rfl⟩,⟨t',rfl⟩⟩:=gK r
 refine max_two_ints (I.ok.hd hc) fun h' tk k=>⟨_,H,I.kept k,?_,q⟩
 by_cases hj:j > i
 ·rw[if_pos hj,if_pos hj];exact⟨_,rfl⟩
 ·rw[if_neg hj,if_neg hj];exact⟨_,rfl⟩
theorem t7 (hc:X.calm=true):bg X (.builtin "min") (fun xs H Q=>∃ i j,xs=[.int i,.int j]∧Q (.int (if j<i then j else i)) H):=by
 intro pins s σ H xs us Q I r h
 obtain⟨i,j,rfl,q⟩:=h
 obtain⟨u,w',rfl,⟨t,rfl⟩,⟨t',rfl⟩⟩:=gK r
 refine min_two_ints (I.ok.hd hc) fun h' tk k=>⟨_,H,I.kept k,?_,q⟩
 by_cases hj:j<i
 ·rw[if_pos hj,if_pos hj];exact⟨_,rfl⟩
 ·rw[if_neg hj,if_neg hj];exact⟨_,rfl⟩
theorem t8:bg X (.type "int") (fun xs H Q=>(∃ i,xs=[.int i]∧Q (.int i) H)∨∃ k,xs=[.bl k]∧Q (.int (if k then 1 else 0)) H):=by
 intro pins s σ H xs us Q I r h
 rcases h with ⟨i,rfl,q⟩ | ⟨k,rfl,q⟩
 ·obtain⟨u,rfl,t,rfl⟩:=cP r
  exact call_int_int ⟨.int i,H,I,⟨_,rfl⟩,q⟩
 ·obtain⟨u,rfl,r1⟩:=cP r
  cases r1
  exact call_int_bool ⟨.int (if k then 1 else 0),H,I.tok _,⟨_,rfl⟩,q⟩
end
section
variable {prog:Program}{w:World}{A:Around}{E:Value→Shared→Prop}{s:Shared}{K:PySem.W.Frag}{x dx C f:Addr}{mA:Str→Option Value}{name:Str}{v:Value}
end
theorem di.some_of {v:V}{o:Option Value} (r:di (some v) o):∃ u,o=some u∧av v u:=by
 cases o with
 | none=>exact (show False from r).elim
 | some u=>exact⟨u,rfl,r⟩
section
variable {P:Program}{w:World}{H H':Hp}{h h':Heap}{a C dx:Addr}{fs fs':List (Str×V)}
end
section
variable {X:Cx}{pins:List (Addr×Obj)}{σ:St}{H:Hp}{s:Shared}{a C dx:Addr}{fs:List (Str×V)}{f:Str}{v:V}{A:Around}{E:Value→Shared→Prop}
end
section
variable {X:Cx}{o e value:Expr}{f:Str}{pos pos' tpos:Pos}{ta tv:TE}
end
section
variable {X:Cx}{pins:List (Addr×Obj)}{σ:St}{H:Hp}{s:Shared}{A:Around}{E:Value→Shared→Prop}{Q:Value→Shared→Prop}{c:Value}{b:Bool}
end
structure Room (k:Nat) (A:Around):Prop where
 hd:A.handled=none
 dp:A.depth+3 * k+5<recursionLimit
 un:A.units+16 * k+200<cLine
 gd:A.guards=some []
theorem Room.mono {j k:Nat}{A:Around} (r:Room k A) (h:j≤k):Room j A:=⟨r.hd,by have:=r.dp;lia,by have:=r.un;lia,r.gd⟩
theorem Room.deeper {k:Nat}{A:Around} (r:Room (k+1) A) (env:Env):Room k (A.deeper env):=
 ⟨r.hd,by have:=r.dp;show A.depth+1+3 * k+5 < _;lia,by have:=r.un;show A.units+3+16 * k+200 < _;lia,r.gd⟩
theorem Room.depth {k:Nat}{A:Around} (r:Room k A):A.depth<recursionLimit:=by have:=r.dp;lia
noncomputable def tNil:TA:=fun _ H Q=>Q [] H
noncomputable def t9 (ta:TE) (tr:TA):TA:=fun σ H Q=>ta σ H fun x H1=>tr σ H1 fun xs H2=>Q (x::xs) H2
section
variable {X:Cx}{e:Expr}{es:List Expr}{te:TE}{t:TA}{pos:Pos}
theorem ua:PA X [] tNil:=fun _ _ _ _ H Q I h=>Calls.spliced_nil ⟨[],H,I,.nil,h⟩
theorem uc (ha:PE X e te) (hr:PA X es t) (hs:starEach (e::es) X.env=(false,eval e X.env)::starEach es X.env:=by rfl):PA X (e::es) (t9 te t):=by
 intro pos pins s σ H Q I h
 rw[hs]
 show wpAny _ _ (spliced ((false,eval e X.env)::backTo pos (starEach es X.env))) _ _ s
 refine Calls.spliced_cons (thn (ha pins s σ H _ I h) fun u s1 ⟨x,H1,I1,r1,q1⟩=>?_)
 exact thn (hr pos pins s1 σ H1 _ I1 q1) fun us s2 ⟨xs,H2,I2,r2,q2⟩=>⟨x::xs,H2,I2,.cons r1 r2,q2⟩
noncomputable def ud (t:TA):TE:=fun σ H Q=>t σ H fun xs H1=>xs.length≤sizeLine∧∀ p,H1 p=none→Q (.ref p) (upd H1 p (.tup xs))
noncomputable def ue (t:TA):TE:=fun σ H Q=>t σ H fun xs H1=>xs.length≤sizeLine∧∀ p,H1 p=none→Q (.ref p) (upd H1 p (.lst xs))
theorem uf {x1} (h:PA X es t):PE X (.Tuple es x1 pos) (ud t):=by
 intro pins s σ H Q I hq
 refine wpAny_Tuple_spliced (thn (h pos pins s σ H _ I hq) fun us s1 ⟨xs,H1,I1,r,z,q⟩=>⟨by rw[← r.length];exact z,?_⟩)
 have hf:H1 s1.heap.objs.size=none:=I1.hok.fresh (Nat.le_refl _)
 refine⟨.ref s1.heap.objs.size,upd H1 s1.heap.objs.size (.tup xs),I1.laid (t':=s1.toks) (fun b u e=>Heap.get?_push_of_some _ e) (Nat.le_refl _) ?_,rfl,q _ hf⟩
 exact⟨z,us,r,⟨_,Heap.get?_push_size _ rfl,rfl,_,rfl⟩⟩
theorem ug (h:PA X es t):PE X (.List es pos) (ue t):=by
 intro pins s σ H Q I hq
 refine wpAny_List_spliced (thn (h pos pins s σ H _ I hq) fun us s1 ⟨xs,H1,I1,r,z,q⟩=>⟨by rw[← r.length];exact z,?_⟩)
 have hf:H1 s1.heap.objs.size=none:=I1.hok.fresh (Nat.le_refl _)
 refine⟨.ref s1.heap.objs.size,upd H1 s1.heap.objs.size (.lst xs),I1.laid (t':=s1.toks) (fun b u e=>Heap.get?_push_of_some _ e) (Nat.le_refl _) ?_,rfl,q _ hf⟩
 exact⟨z,us,0,r,Heap.get?_push_size _ rfl⟩
end
noncomputable abbrev Sp:=List V→Hp→VK→XK→Prop
noncomputable abbrev CXT:=List Env→Hp→Shared→XK→Value→Shared→Prop
structure Env0 (P:Program) (w:World) (K:PySem.W.Frag) (mg:Str→Option Value) (base:Heap) (A:Around) (outer:List Env) (s:Shared) (H:Hp):Prop where
 frames:A.frames=some outer
 mod:Mod K mg base
 bs:∀ b o,base.get? b=some o→s.heap.get? b=some o∧H b=none
 bsz:base.objs.size≤s.heap.objs.size
 funs:s.heap.FunFrames base outer
 frf:∀ b∈frs outer,H b=none
 hok:HOk P w H s.heap
 bare:AllBare s.gens
noncomputable def CE (outer:List Env) (P:Program) (w:World) (H:Hp) (s:Shared) (Q:VK) (u:Value) (s':Shared):Prop:=
 ∃ v H',s'.os=s.os∧AllBare s'.gens∧Un (frs outer) [] H H' s.heap s'.heap∧HOk P w H' s'.heap∧av v u∧Q v H'
noncomputable def CR (CX:CXT) (outer:List Env) (P:Program) (w:World) (H:Hp) (s:Shared) (Q:VK) (E:XK) (r:Result) (s':Shared):Prop:=
 match r with
 | .ok (.ret u)=>CE outer P w H s Q u s'
 | .ok _=>False
 | .error e=>CX outer H s E e s'
structure FnOk (P:Program) (w:World) (K:PySem.W.Frag) (mg:Str→Option Value) (base:Heap) (CX:CXT) (k:Nat) (f:Addr) (fd:FuncData) (ps:List Str) (sp:Sp):Prop where
 len:∀ vs H Q E,sp vs H Q E→vs.length=ps.length
 run:∀ (A:Around) (outer:List Env) (s:Shared) (H:Hp) (args:Args) (us:List Value) (vs:List V) (Q:VK) (E:XK),Room k A→Env0 P w K mg base A outer s H→BindsTo s fd args (ps.zip us)→ao vs us→sp vs H Q E→
  codeAny (model P w) A (.call (.ref f) args) (CR CX outer P w H s Q E) s
section
variable {X:Cx}{pins:List (Addr×Obj)}{σ:St}{H:Hp}{s s':Shared}
theorem Inv.env0 (I:Inv X pins σ H s):Env0 X.prog X.w X.K X.mg X.base X.A X.stack s H:=
 ⟨I.ok.frames,I.ok.mod,I.bs,Nat.le_trans I.ok.bsz I.sz,I.stack,I.stkFree,I.hok,I.bare⟩
theorem Inv.after {Q:VK}{u:Value} (I:Inv X pins σ H s) (h:CE X.stack X.prog X.w H s Q u s'):EP X pins σ Q u s':=by
 obtain⟨v,H',os,bare,un,hok,r,q⟩:=h
 obtain⟨hh,g,d,t,os'⟩:=s'
 obtain rfl:os'=s.os:=os
 exact⟨v,H',I.call (h':=hh) (g':=g) (d':=d) (t':=t) (ch:=[]) un hok bare (fun b z=>absurd z (by simp)),r,q⟩
end
noncomputable def md (sp:Sp) (dvs:List V) (E:XK) (t:TA):TE:=fun σ H Q=>t σ H fun vs H1=>sp (vs++dvs) H1 Q E
noncomputable def br (K:PySem.W.Frag) (fd:FuncData) (ps:List Str) (ds:List Value):Prop:=
 ∀ (s:Shared) (us:List Value),K.In s.heap→(us++ds).length=ps.length→BindsTo s fd ⟨us,[]⟩ (ps.zip (us++ds))
theorem br.all {K:PySem.W.Frag}{fd:FuncData}{ps:List Str} (h:∀ us:List Value,us.length=ps.length→bindArgs fd ⟨us,[]⟩=pure (ps.zip us)):br K fd ps []:=fun s us _ hl=>by
 rw[List.append_nil] at hl ⊢
 exact .of_eq (h us hl)
noncomputable def jC (CX:CXT) (X:Cx) (E:XK):Prop:=∀ (pins:List (Addr×Obj)) (σ:St) (H:Hp) (s:Shared) (e:Value) (s':Shared),Inv X pins σ H s→CX X.stack H s E e s'→X.xe e s'
section
variable {X:Cx}{CX:CXT}{k:Nat}{f C:Addr}{fd:FuncData}{ps:List Str}{sp:Sp}{dvs:List V}{ds:List Value}{E:XK}{x m:Str}{p pos apos:Pos}{e o:Expr}{es:List Expr}{ta:TE}{t:TA}
theorem uh {pins:List (Addr×Obj)}{σ:St}{H:Hp}{s:Shared}{Q:VK}{us:List Value}{vs:List V} (F:FnOk X.prog X.w X.K X.mg X.base CX k f fd ps sp) (hr:Room k X.A) (hb:br X.K fd ps ds) (hd:ao dvs ds) (hx:jC CX X E)
  (I:Inv X pins σ H s) (r:ao vs us) (h:sp (vs++dvs) H Q E):wpAny (model X.prog X.w) X.A (call (.ref f) us) (EP X pins σ Q) X.xe s:=by
 have r2:ao (vs++dvs) (us++ds):=r.append hd
 have hl:(us++ds).length=ps.length:=by rw[← r2.length];exact F.len _ _ _ _ h
 refine wpAny_call (codeAny_mono (F.run X.A X.stack s H ⟨us,[]⟩ (us++ds) (vs++dvs) Q E hr I.env0 (hb s us I.kIn hl) r2 h) fun r s' hq=>?_)
 cases r with
 | error e=>exact hx pins σ H s e s' I hq
 | ok fl=>
  cases fl with
  | ret u=>exact I.after hq
  | next=>exact False.elim hq
  | brk=>exact False.elim hq
  | cont=>exact False.elim hq
theorem ui (F:FnOk X.prog X.w X.K X.mg X.base CX k f fd ps sp) (hr:Room k X.A) (hg:Gl X x) (hm:X.mg x=some (.ref f)) (hk:PySem.W.keepIn X.K (.ref f)=true) (hb:br X.K fd ps ds) (hd:ao dvs ds) (hx:jC CX X E)
  (ha:PA X (e::es) t) (hdb:(x == ("__debug__" : Str))=false:=by decide) (he:starEach (e::es) X.env=(false,eval e X.env)::starEach es X.env:=by rfl) (hpl:(backTo pos (starEach es X.env)).any (·.1)=false:=by rfl):
  PE X (.Call (.Name x p) (e::es) [] pos) (md sp dvs E t):=by
 intro pins s σ H Q I h
 refine wpAny_Call_Name_kw (lV I hg hm ?_ hdb)
 refine PySem.W.callWith_K (h₀:=X.base) I.ok.mod.kin hk (thn (ha pos pins s σ H _ I h) fun us s1 ⟨vs,H1,I1,r,q⟩=>⟨I1.kIn,?_⟩) he hpl
 exact uh F hr hb hd hx I1 r q
end
section
variable {X:Cx}{CX:CXT}{k:Nat}{f C:Addr}{fd:FuncData}{ps ks:List Str}{sp:Sp}{E:XK}{x m:Str}{p pos apos kpos:Pos}{e o:Expr}{es:List Expr}{kws:List Keyword}{te ta:TE}{t tk:TA}{nm:Option Str}
variable {g:List Value→List Value→List Value}{gV:List V→List V→List V}
end
structure FnScope (N P:List Str) (sc:Scope):Prop where
 kind:sc.kind=.function
 co:sc.isCoroutine=false
 gen:sc.isGenerator=false
 nd:N.Nodup
 pre:N.take P.length=P
 par:∀ x∈P,sc.names.lookup x=some .local∨sc.names.lookup x=some .cell
 nofree:∀ y∈sc.names,y.2≠.free
theorem mf {kindOf:Str→Option NameKind}{x:Str}:∀ {binds:List (Str×Value)}{m:Str→Option Value},(∀ v,(x,v)∉binds)→bindL kindOf binds m x=m x
 | [],_,_=>rfl
 | (n,v)::r,m,h=>by
  unfold bindL
  rw[mf fun w hw=>h w (List.mem_cons_of_mem _ hw)]
  split
  ·have:x≠n:=by rintro rfl;exact h v List.mem_cons_self
   simp[this]
  ·rfl
theorem mh {kindOf:Str→Option NameKind}{x:Str}:∀ {binds:List (Str×Value)}{m:Str→Option Value},(∀ v,(x,v)∉binds)→bindC kindOf binds m x=m x
 | [],_,_=>rfl
 | (n,v)::r,m,h=>by
  unfold bindC
  rw[mh fun w hw=>h w (List.mem_cons_of_mem _ hw)]
  split
  ·rfl
  ·have:x≠n:=by rintro rfl;exact h v List.mem_cons_self
   simp[this]
theorem mo {kindOf:Str→Option NameKind}{x:Str}{v:Value}:∀ {P:List Str}{vs:List Value}{i:Nat}{m:Str→Option Value},P.Nodup→P[i]?=some x→vs[i]?=some v→kindOf x=some .local→
  bindL kindOf (P.zip vs) m x=some v
 | [],_,_,_,_,h,_,_=>by simp at h
 | _::_,[],_,_,_,_,h,_=>by simp at h
 | p::P,w::vs,0,m,nd,h1,h2,hk=>by
  simp at h1 h2;subst h1;subst h2
  show bindL kindOf ((p,w)::P.zip vs) m p=_
  unfold bindL
  rw[mf fun v hv=>(List.nodup_cons.mp nd).1 (List.of_mem_zip hv).1,if_pos hk]
  simp
 | p::P,w::vs,i+1,m,nd,h1,h2,hk=>by
  show bindL kindOf ((p,w)::P.zip vs) m x=_
  unfold bindL
  exact mo (i:=i) (List.nodup_cons.mp nd).2 (by simpa using h1) (by simpa using h2) hk
theorem mq {kindOf:Str→Option NameKind}{x:Str}{v:Value}:∀ {P:List Str}{vs:List Value}{i:Nat}{m:Str→Option Value},P.Nodup→P[i]?=some x→vs[i]?=some v→kindOf x≠some .local→
  bindC kindOf (P.zip vs) m x=some v
 | [],_,_,_,_,h,_,_=>by simp at h
 | _::_,[],_,_,_,_,h,_=>by simp at h
 | p::P,w::vs,0,m,nd,h1,h2,hk=>by
  simp at h1 h2;subst h1;subst h2
  show bindC kindOf ((p,w)::P.zip vs) m p=_
  unfold bindC
  rw[mh fun v hv=>(List.nodup_cons.mp nd).1 (List.of_mem_zip hv).1,if_neg hk]
  simp
 | p::P,w::vs,i+1,m,nd,h1,h2,hk=>by
  show bindC kindOf ((p,w)::P.zip vs) m x=_
  unfold bindC
  exact mq (i:=i) (List.nodup_cons.mp nd).2 (by simpa using h1) (by simpa using h2) hk
noncomputable def dj (N:List Str) (vs:List V):St:=vs.map some++List.replicate (N.length - vs.length) none
noncomputable def eO (CX:CXT) (P:Program) (w:World) (K:PySem.W.Frag) (mg:Str→Option Value) (base:Heap) (N:List Str) (qual:Str) (scope:Scope) (f:Addr) (cd:Value) (A:Around) (outer:List Env) (s:Shared) (H:Hp) (E:XK):Cx where
 prog:=P
 w:=w
 K:=K
 mg:=mg
 base:=base
 A:=A.deeper (envOfC qual scope s.heap.objs.size f cd)
 N:=N
 s₀:=s
 H₀:=H
 env:=envOfC qual scope s.heap.objs.size f cd
 outer:=outer
 stack:=envOfC qual scope s.heap.objs.size f cd::outer
 ex:=[]
 calm:=true
 fn:=fun _=>true
 pn:=[]
 xe:=fun e s'=>wpAny (model P w) (A.deeper (envOfC qual scope s.heap.objs.size f cd)) (leaving (envOfC qual scope s.heap.objs.size f cd) e) (fun _ s''=>CX outer H s E e s'') (fun e' s''=>CX outer H s E e' s'') s'
theorem mr {sc:Scope}{n:Nat}{x:Str} (h:sc.names.lookup x=some .cell):∃ c,(cellsFrom n sc.names []).lookup x=some c:=by
 have q:=PySem.W.cellsFrom_some sc.names n [] (.inl h)
 exact Option.isSome_iff_exists.mp q
theorem uj {CX:CXT}{P:Program}{w:World}{K:PySem.W.Frag}{mg:Str→Option Value}{base:Heap}{N ps:List Str}{qual:Str}{scope:Scope}{f:Addr}{cd:Value}{A:Around}{outer:List Env}{s s1:Shared}{H:Hp}{E:XK}{us:List Value}{vs:List V}
  (S:FnScope N ps scope) (hd:A.handled=none) (e0:Env0 P w K mg base A outer s H) (hl:vs.length=ps.length) (r:ao vs us)
  (x:InCallC s s.heap.objs.size (bindL (envOfC qual scope s.heap.objs.size f cd).kindOf (ps.zip us) fun _=>none) (cellsFrom (s.heap.objs.size+1) scope.names []) (bindC (envOfC qual scope s.heap.objs.size f cd).kindOf (ps.zip us) fun _=>none) s1):
  Inv (eO CX P w K mg base N qual scope f cd A outer s H E) [] (dj N vs) H s1:=by
 have hpl:ps.length≤N.length:=by have:=congrArg List.length S.pre;rw[List.length_take] at this;lia
 obtain⟨h1,tk,rfl,hk⟩:=x.done
 have noA:∀ b:Addr,b∉(eO CX P w K mg base N qual scope f cd A outer s H E).ex:=fun b z=>absurd (show b∈([]:List Addr) from z) (by simp)
 refine⟨⟨e0.mod,S.kind,rfl,rfl,Nat.le_refl _,fun y z c h1 h2=>?_,fun y hy=>?_,fun y c _ h=>?_,fun _=>hd,Around.frames_deeper e0.frames,.inr ⟨rfl,rfl⟩,fun b z=>absurd z (noA b),e0.bs,e0.bsz,fun b _ _=>noA b,fun b z=>absurd z (noA b),e0.funs,e0.frf⟩,
  rfl,e0.bare,Un.kept hk,⟨_,x.toInCall.ns,fun i y v h1 h2 h3=>?_⟩,fun y c h=>⟨_,x.cell y c h⟩,e0.hok.fresh (Nat.le_refl _),fun y c h=>?_,fun p hp=>absurd (show p∈([]:List (Addr×Obj)) from hp) (by simp),e0.hok.kept hk,?_⟩
 ·exact name_of_addr x.apart (PySem.mem_of_lookup h1) (PySem.mem_of_lookup h2)
 ·have hy:scope.names.lookup y=some .cell∨scope.names.lookup y=some .free:=hy
  rcases hy with hy | hy
  ·exact mr hy
  ·exact absurd rfl (S.nofree _ (PySem.mem_of_lookup hy))
 ·exact Nat.le_of_lt (x.above y c (PySem.mem_of_lookup h))
 ·have hi:i<vs.length:=by
   unfold dj at h2
   by_cases hi:i<vs.length
   ·exact hi
   ·rw[List.getElem?_append_right (by simpa using hi)] at h2
    rw[List.getElem?_replicate] at h2
    split at h2<;>cases h2
  have ha:vs[i]?=some v:=by
   unfold dj at h2
   rw[List.getElem?_append_left (by simpa using hi),List.getElem?_map] at h2
   cases e:vs[i]? with
   | none=>rw[e] at h2;cases h2
   | some a=>rw[e] at h2;cases h2;rfl
  obtain⟨u,hu,rv⟩:=r.get ha
  have hp:ps[i]?=some y:=by
   rw[← S.pre,List.getElem?_take_of_lt (by lia)];exact h1
  have ndP:ps.Nodup:=by rw[← S.pre];exact S.nd.sublist (List.take_sublist _ _)
  refine⟨u,rv,?_⟩
  rcases S.par y (List.mem_of_getElem? hp) with k | k
  ·exact .inl ⟨k,mo ndP hp hu k⟩
  ·obtain⟨c,e⟩:=mr (n:=s.heap.objs.size+1) k
   refine .inr ⟨.inl k,c,e,?_⟩
   have q:=x.cell y c e
   rw[mq ndP hp hu (by show scope.names.lookup y≠_;rw[k];decide)] at q
   exact q
 ·exact e0.hok.fresh (Nat.le_of_lt (x.above y c (PySem.mem_of_lookup h)))
 ·unfold dj
  show _=N.length
  rw[List.length_append,List.length_map,List.length_replicate]
  lia
theorem uk {CX:CXT}{P:Program}{w:World}{K:PySem.W.Frag}{mg:Str→Option Value}{base:Heap}{k:Nat}{f:Addr}{name qual:Str}{params:Arguments}{body:List Stmt}{scope:Scope}{dV kV doc pm cdv ct oc:Value}{an od:Option Addr}
  {osl:Array (Option Value)}{N ps:List Str}{sp:Sp} (lk:K.lookup f=some ⟨oc,od,.func (PySem.W.fnOf name qual params body scope dV kV doc pm an cdv ct),osl⟩) (hcd:PySem.W.codeIn K cdv qual=true) (S:FnScope N ps scope)
  (len:∀ vs H Q E,sp vs H Q E→vs.length=ps.length)
  (hbody:∀ (A:Around) (outer:List Env) (s:Shared) (H:Hp) (vs:List V) (Q:VK) (E:XK),Room k (A.deeper (envOfC qual scope s.heap.objs.size f cdv))→sp vs H Q E→
   ∃ t,PSs (eO CX P w K mg base N qual scope f cdv A outer s H E) body t∧t { nx:=fun _ H'=>Q .non H',rt:=Q } (dj N vs) H):
  FnOk P w K mg base CX (k+1) f (PySem.W.fnOf name qual params body scope dV kV doc pm an cdv ct) ps sp:=by
 refine⟨len,fun A outer s H args us vs Q E hr e0 hb r hsp=>?_⟩
 have hl:=len _ _ _ _ hsp
 have KX:K.In s.heap:=e0.mod.kin.keeps fun b o e=>(e0.bs b o e).1
 have lim:s.heap.NoLimit:=e0.mod.nolimit.keeps fun b o e=>(e0.bs b o e).1
 have hkind:∀ y∈ps.zip us,scope.names.lookup y.1=some .local∨(scope.names.lookup y.1=some .cell∧((cellsFrom (s.heap.objs.size+1) scope.names []).lookup y.1).isSome=true):=fun ⟨n,v⟩ hy=>by
  rcases S.par n (List.of_mem_zip hy).1 with q | q
  ·exact .inl q
  ·exact .inr ⟨q,PySem.W.cellsFrom_some _ _ _ (.inl q)⟩
 refine codeAny_call_function hr.depth (KX _ _ lk) rfl S.co S.gen rfl (PySem.W.codeRec_of KX hcd) (hb _ _ _ _ ?_)
 refine wpAny_newFunctionEnv_cells S.kind hkind fun env he s1 x=>?_
 subst he
 refine⟨lim.keeps x.toInCall.keep,codeAny_func ?_⟩
 obtain⟨t,ht,hq⟩:=hbody A outer s H vs Q E (hr.deeper _) hsp
 have I:Inv (eO CX P w K mg base N qual scope f cdv A outer s H E) [] (dj N vs) H s1:=uj S hr.hd e0 hl r x
 refine wpAny_mono (ht [] s1 (dj N vs) H _ I hq) (fun fl s' hs=>?_) fun e s' hs=>hs
 have fin:∀ {σ':St}{H':Hp}{v:V}{u:Value},Inv (eO CX P w K mg base N qual scope f cdv A outer s H E) [] σ' H' s'→av v u→Q v H'→CE outer P w H s Q u s':=
  fun {σ' H' v u} J rv q=>⟨v,H',J.os,J.bare,J.base,J.hok,rv,q⟩
 cases fl with
 | ret u=>
  obtain⟨v,σ',H',J,rv,q⟩:=hs
  exact fin J rv q
 | next=>
  obtain⟨σ',H',J,q⟩:=hs
  exact fin (v:=V.non) (u:=Value.none) J rfl q
 | brk=>
  obtain⟨_,_,_,q⟩:=hs
  exact False.elim q
 | cont=>
  obtain⟨_,_,_,q⟩:=hs
  exact False.elim q
section
variable {X:Cx}{x:Str}{p pos:Pos}{e:Expr}{es:List Expr}{t:TA}{id T:String}{r:List V→Hp→VK→Prop}
noncomputable def tCB (r:List V→Hp→VK→Prop) (t:TA):TE:=fun σ H Q=>t σ H fun vs H1=>r vs H1 Q
theorem ul (hc:bg X (.builtin id) r) (hg:Gl X x) (hm:X.mg x=none) (hv:bootBuiltins x=some (.builtin id)) (ha:PA X (e::es) t) (hn:x ≠ "__name__" := by decide) (hdb:(x == ("__debug__" : Str))=false:=by decide)
  (he:starEach (e::es) X.env=(false,eval e X.env)::starEach es X.env:=by rfl) (hpl:(backTo pos (starEach es X.env)).any (·.1)=false:=by rfl):PE X (.Call (.Name x p) (e::es) [] pos) (tCB r t):=by
 intro pins s σ H Q I h
 refine wpAny_Call_Name_kw (jw I hg hm hv ?_ hn hdb)
 exact PyProof.Rows.callWith_builtin1 (thn (ha pos pins s σ H _ I h) fun us s1 ⟨vs,H1,I1,r1,q1⟩=>hc pins s1 σ H1 vs us Q I1 r1 q1) he hpl
theorem um (hc:bg X (.type T) r) (hg:Gl X x) (hm:X.mg x=none) (hv:bootBuiltins x=some (.type T)) (ha:PA X (e::es) t) (hn:x ≠ "__name__" := by decide) (hdb:(x == ("__debug__" : Str))=false:=by decide)
  (he:starEach (e::es) X.env=(false,eval e X.env)::starEach es X.env:=by rfl) (hpl:(backTo pos (starEach es X.env)).any (·.1)=false:=by rfl):PE X (.Call (.Name x p) (e::es) [] pos) (tCB r t):=by
 intro pins s σ H Q I h
 refine wpAny_Call_Name_kw (jw I hg hm hv ?_ hn hdb)
 exact PyProof.Rows.callWith_type1 (thn (ha pos pins s σ H _ I h) fun us s1 ⟨vs,H1,I1,r1,q1⟩=>hc pins s1 σ H1 vs us Q I1 r1 q1) he hpl
end
end L2
namespace HT
open PySem PyProof.Rows
theorem uo (A:Around) (s:Shared) (a:Int) (t:Tok) (c:Int) (u:Tok) (prog:Program) (w:World) (E:Value→Shared→Prop) (Q:Value→Shared→Prop) (h:Q (.bool (decide (a<c))) s):
  wpAny (model prog w) A (richCompare .Lt (.int a t) (.int c u)) Q E s:=
 (PyProof.Rows.lt_int h:wpAny (model prog w) A (compareOp .Lt (.int a t) (.int c u)) Q E s)
section
open PySem.SeqAt
open PySem.AutoSeq1 (wpAny_loadPart')
open PySem.MeetsSeq PySem.MeetsSeq2 PySem.MeetsSeq3
end
section
variable {prog:Program}{w:World}{A:Around}{E:Value→Shared→Prop}{s:Shared}
theorem uq {t b:Addr}{vs ws:List Value}{Q:Value→Shared→Prop} (ht:IsTup s.heap t vs.toArray) (hb:IsTup s.heap b ws.toArray) (hv:vs≠[])
  (h1:ws=[]→Q (.ref t) s) (h2:ws≠[]→Q (.ref s.heap.objs.size) { s with heap:=s.heap.push { cls:=.type "tuple",data:=.seq (vs++ws).toArray } })
  (hsz:vs.length+ws.length≤sizeLine):wpAny (model prog w) A (binaryOp .Add (.ref t) (.ref b)) Q E s:=by
 obtain⟨⟨cls,dd,data,sl⟩,ho,hc,n,hd⟩:=id ht
 obtain⟨⟨cls2,dd2,data2,sl2⟩,ho2,hc2,n2,hd2⟩:=id hb
 simp only at hc hd hc2 hd2
 subst hc hd hc2 hd2
 have e:vs.toArray++ws.toArray=(vs++ws).toArray:=by simp
 by_cases hw:ws=[]
 ·exact concat_meets ⟨_,ho,rfl⟩ ⟨_,ho2,rfl⟩ noFill_tuple_add seq_tuple_add PySem.F.slot_tuple_add PySem.F.entry_tuple_add (PySem.F.args_tuple_add_2 _ _)
   (tuple_addW1 t b vs.toArray ws.toArray n n2 dd dd2 sl sl2 (by simpa using hv) (by simp[hw])) ⟨ho,ho2,h1 hw⟩
 ·refine concat_meets ⟨_,ho,rfl⟩ ⟨_,ho2,rfl⟩ noFill_tuple_add seq_tuple_add PySem.F.slot_tuple_add PySem.F.entry_tuple_add (PySem.F.args_tuple_add_2 _ _)
   (tuple_addW2 t b vs.toArray ws.toArray n n2 dd dd2 sl sl2 (by simpa using hv) (by simpa using hw) (by rw[List.size_toArray,List.size_toArray];exact hsz)) ⟨ho,ho2,?_⟩
  rw[e]
  exact h2 hw
noncomputable def sIx (n d:Nat):Option Int→Nat
 | none=>d
 | some v=>if v<0 then (v+(n:Int)).toNat else min v.toNat n
theorem mv (n d:Nat):sIx n d none=d:=rfl
theorem mw (n d k:Nat):sIx n d (some (k:Int))=min k n:=by
 show (if (k:Int)<0 then ((k:Int)+(n:Int)).toNat else min (k:Int).toNat n)=min k n
 rw[if_neg (by lia),Int.toNat_natCast]
theorem ur (n d:Nat) (hd:d≤n) (o:Option Int):sIx n d o≤n:=by
 cases o with
 | none=>exact hd
 | some v=>
  show (if v<0 then (v+(n:Int)).toNat else min v.toNat n)≤n
  by_cases hv:v<0
  ·rw[if_pos hv];lia
  ·rw[if_neg hv];exact Nat.min_le_right _ _
theorem mx (v:Int) (n d:Nat):(if v<0 then max (v+(n:Int)) 0 else min v (n:Int))=((sIx n d (some v):Nat):Int):=by
 show (if v<0 then max (v+(n:Int)) 0 else min v (n:Int))=(((if v<0 then (v+(n:Int)).toNat else min v.toNat n):Nat):Int)
 by_cases hv:v<0
 ·simp only[if_pos hv];lia
 ·simp only[if_neg hv];lia
theorem ut (lo hi:Option Int) (n:Nat):Builtin.Slice.sliceAdjust lo hi 1 (n:Int)=(((sIx n 0 lo:Nat):Int),((sIx n n hi:Nat):Int)):=by
 have h1:¬ ((1:Int)<0):=by lia
 unfold Builtin.Slice.sliceAdjust
 simp only[h1,if_false]
 refine Prod.ext ?_ ?_
 ·cases lo with
  | none=>rfl
  | some v=>exact mx v n 0
 ·cases hi with
  | none=>rfl
  | some v=>exact mx v n n
theorem uu (i j:Nat):Builtin.Slice.slicePlaces (i:Int) (j:Int) 1=j - i:=by
 unfold Builtin.Slice.slicePlaces
 have h1:(1:Int) > 0:=by lia
 simp only[h1,if_true,Int.ediv_one]
 split<;>lia
theorem my {v:Value}{o:Option Int}{Q:Option Int→Shared→Prop} (p:IsPart v o) (h:Q o s):wpAny (model prog w) A (Builtin.Slice.slicePartIndex v) Q E s:=by
 cases p with
 | none=>exact slicePart_none h
 | int i t=>exact slicePart_int h
theorem mz {sl:Addr}{vl vu:Value}{lo hi:Option Int}{n:Nat}{Q:Int×Int×Nat→Shared→Prop} (hs:s.heap.IsSliceOf sl vl vu .none) (pl:IsPart vl lo) (pu:IsPart vu hi)
  (h:Q (((sIx n 0 lo:Nat):Int),1,sIx n n hi - sIx n 0 lo) s):wpAny (model prog w) A (Builtin.Slice.sliceApplied (.ref sl) (pure (n:Int))) Q E s:=by
 obtain⟨os,hos,hcs,hds⟩:=id hs
 unfold Builtin.Slice.sliceApplied Builtin.Slice.sliceFields
 refine wpAny_bind (wpAny_bind (wpAny_field hos hds (x:=vl) rfl (wpAny_bind (wpAny_field hos hds (x:=vu) rfl (wpAny_bind (wpAny_field hos hds (x:=.none) rfl (wpAny_pure ?_)))))))
 refine wpAny_bind (slicePart_none ?_)
 show wpAny _ _ (if ((1:Int) == 0)=true then _ else _) _ _ s
 rw[if_neg (by decide)]
 refine wpAny_bind (my pl (wpAny_bind (my pu (wpAny_bind (wpAny_pure ?_)))))
 show wpAny _ _ (match Builtin.Slice.sliceAdjust lo hi 1 (n:Int) with | (lo,hi)=>pure (lo,(1:Int),Builtin.Slice.slicePlaces lo hi 1)) _ _ s
 rw[ut lo hi n]
 show wpAny _ _ (pure (((sIx n 0 lo:Nat):Int),(1:Int),Builtin.Slice.slicePlaces ((sIx n 0 lo:Nat):Int) ((sIx n n hi:Nat):Int) 1)) _ _ s
 rw[uu]
 exact wpAny_pure h
theorem uw (xs:Array Value) (i k:Nat):((List.range k).filterMap fun (m:Nat)=>xs[((i:Int)+(m:Int) * 1).toNat]?).toArray=((xs.toList.drop i).take k).toArray:=by
 have e:(fun (m:Nat)=>xs[((i:Int)+(m:Int) * 1).toNat]?)=fun m=>xs[i+m]?:=by
  funext m
  have:((i:Int)+(m:Int) * 1).toNat=i+m:=by lia
  rw[this]
 rw[e]
 have:=pick_run xs i k
 rw[List.filterMap_map] at this
 have e2:((fun x=>xs[x]?) ∘ fun x=>i+x)=fun m=>xs[i+m]?:=rfl
 rw[e2] at this
 rw[this]
theorem ux {t sl:Addr}{items:Array Value}{vl vu:Value}{lo hi:Option Int}{Q:Value→Shared→Prop} (ht:IsTup s.heap t items) (hs:s.heap.IsSliceOf sl vl vu .none) (pl:IsPart vl lo) (pu:IsPart vu hi)
  (hw:¬ (sIx items.size 0 lo=0∧sIx items.size items.size hi=items.size))
  (h:Q (.ref s.heap.objs.size) { s with heap:=s.heap.push { cls:=.type "tuple",data:=.seq ((items.toList.drop (sIx items.size 0 lo)).take (sIx items.size items.size hi - sIx items.size 0 lo)).toArray } })
  (hsz:items.size≤sizeLine):wpAny (model prog w) A (getItem (.ref t) (.ref sl)) Q E s:=by
 have htake:sizeOk (.seq ((items.toList.drop (sIx items.size 0 lo)).take (sIx items.size items.size hi - sIx items.size 0 lo)).toArray):=by
  show ((items.toList.drop (sIx items.size 0 lo)).take (sIx items.size items.size hi - sIx items.size 0 lo)).toArray.size≤sizeLine
  rw[List.size_toArray,List.length_take,List.length_drop,Array.length_toList]
  lia
 have hj:sIx items.size items.size hi≤items.size:=ur _ _ (Nat.le_refl _) hi
 obtain⟨os,hos,hcs,hds⟩:=id hs
 have hTs:s.TypeIs (.ref sl) "slice" := ⟨os,hos,hcs⟩
 unfold getItem
 try with_reducible refine wpAny_holding ?_
 first | refine wpAny_bind (wpAny_pure ?_) | skip
 refine wpAny_bind (wpAny_sequenceKey ht.typeIs (by decide) ?_)
 refine wpAny_bind (wpAny_callSpecial?_slot (name:=Str.ofString "__getitem__") ht.typeIs PyProof.Rows.slot_tuple_getitem
  (wpAny_call_entry PyProof.Rows.slot_tuple_getitem ht.typeIs entry_tuple_getitem ?_ (args_tuple_getitem _ _)))
 show wpAny _ _ (Builtin.Tuple.tupleItemsOf (.ref t) >>= _) _ _ s
 refine wpAny_bind (tupleItemsOf_ ht ?_)
 refine wpAny_bind (wpAny_typeOf hTs ?_)
 rw[if_pos (by decide)]
 refine wpAny_bind (mz hs pl pu ?_)
 have hno:¬ ((((sIx items.size 0 lo:Nat):Int) == 0 && (1:Int) == 1 && (sIx items.size items.size hi - sIx items.size 0 lo) == items.size)=true):=by
  intro q
  rw[Bool.and_eq_true,Bool.and_eq_true] at q
  have q1:((sIx items.size 0 lo:Nat):Int)=0:=eq_of_beq q.1.1
  have q2:sIx items.size items.size hi - sIx items.size 0 lo=items.size:=eq_of_beq q.2
  exact hw ⟨by lia,by lia⟩
 show wpAny _ _ (if (((sIx items.size 0 lo:Nat):Int) == 0 && (1:Int) == 1 && (sIx items.size items.size hi - sIx items.size 0 lo) == items.size)=true then _ else _) _ _ s
 rw[if_neg hno,uw]
 first
  | exact wpAny_bind (m:=Builtin.Tuple.tupleExact _) (wpAny_newObj_type (wpAny_pure ⟨_,rfl,wpAny_pure h⟩) htake)
  | exact wpAny_bind (m:=Builtin.Tuple.tupleExact _) (wpAny_newObj_type (wpAny_bind (wpAny_pure (wpAny_pure ⟨_,rfl,wpAny_pure h⟩))) htake)
  | exact wpAny_bind (wpAny_bind (m:=Builtin.Tuple.tupleExact _) (wpAny_newObj_type (wpAny_pure (wpAny_pure ⟨_,rfl,wpAny_pure h⟩)) htake))
  | exact wpAny_bind (wpAny_bind (m:=Builtin.Tuple.tupleExact _) (wpAny_newObj_type (wpAny_pure ⟨_,rfl,wpAny_pure h⟩) htake))
end
end HT
namespace L2
open PySem PySem.Spec PyProof.Rows
noncomputable abbrev TO:=St→Hp→(Option Int→Hp→Prop)→Prop
noncomputable def PO (X:Cx) (e:Option Expr) (t:TO):Prop:=
 ∀ (pins:List (Addr×Obj)) (s:Shared) (σ:St) (H:Hp) (Q:Option Int→Hp→Prop),Inv X pins σ H s→t σ H Q→
  wpAny (model X.prog X.w) X.A (evalPart e X.env) (fun u s'=>∃ o H',Inv X pins σ H' s'∧IsPart u o∧Q o H') X.xe s
noncomputable def tNoPart:TO:=fun _ H Q=>Q none H
noncomputable def uy (t:TE):TO:=fun σ H Q=>t σ H fun x H1=>∃ i,x=.int i∧Q (some i) H1
section
variable {X:Cx}{e:Expr}{te:TE}{lo hi:Option Expr}{tl th:TO}{pos p2:Pos}
theorem uz:PO X none tNoPart:=by
 intro pins s σ H Q I h
 rw[evalPart_none]
 exact wpAny_pure ⟨none,H,I,.none,h⟩
theorem uA (h:PE X e te):PO X (some e) (uy te):=by
 intro pins s σ H Q I hw
 rw[evalPart_some]
 refine thn (h pins s σ H _ I hw) fun u s1 ⟨x,H1,I1,r1,q1⟩=>?_
 obtain⟨i,rfl,q⟩:=q1
 obtain⟨t,rfl⟩:=r1
 exact⟨some i,H1,I1,.int i t,q⟩
noncomputable def SlR (X:Cx) (r:V→Option Int→Option Int→Hp→VK→Prop):Prop:=
 ∀ (pins:List (Addr×Obj)) (s:Shared) (σ:St) (H:Hp) (x:V) (v vl vu:Value) (lo hi:Option Int) (sl:Addr) (Q:VK),Inv X pins σ H s→av x v→s.heap.IsSliceOf sl vl vu .none→IsPart vl lo→IsPart vu hi→r x lo hi H Q→
  ∃ T id,typeLookup (.type T) "__getitem__" = pure (some (.builtin id))∧s.TypeIs v T∧wpAny (model X.prog X.w) X.A (getItem v (.ref sl)) (EP X pins σ Q) X.xe s
noncomputable def tSl (r:V→Option Int→Option Int→Hp→VK→Prop) (te:TE) (tl th:TO):TE:=fun σ H Q=>te σ H fun x H1=>tl σ H1 fun l H2=>th σ H2 fun u H3=>r x l u H3 Q
theorem uB {r:V→Option Int→Option Int→Hp→VK→Prop} (hr:SlR X r) (he:PE X e te) (hl:PO X lo tl) (hu:PO X hi th):PE X (.Subscript e (.Slice lo hi none p2) pos) (tSl r te tl th):=by
 intro pins s σ H Q I h
 refine Subscript_ (thn (he pins s σ H _ I h) fun v s1 ⟨x,H1,I1,r1,q1⟩=>?_)
 refine wpAny_Slice (thn (hl pins s1 σ H1 _ I1 q1) fun vl s2 ⟨l,H2,I2,pl,q2⟩=>thn (hu pins s2 σ H2 _ I2 q2) fun vu s3 ⟨u,H3,I3,pu,q3⟩=>?_)
 rw[evalPart_none]
 refine wpAny_pure ?_
 have I4:Inv X pins σ H3 { s3 with heap:=s3.heap.push { cls:=.type "slice",data:=.fields #[vl,vu,.none] } }:=I3.kept (t':=s3.toks) fun b ob q=>Heap.get?_push_of_some _ q
 obtain⟨T,id,hT,ht,hg⟩:=hr pins { s3 with heap:=s3.heap.push { cls:=.type "slice",data:=.fields #[vl,vu,.none] } } σ H3 x v vl vu l u s3.heap.objs.size Q I4 r1 (Heap.IsSliceOf.new ..) pl pu q3
 show wpAny (model X.prog X.w) X.A (subscriptTail e (.Slice lo hi none p2) v (.ref s3.heap.objs.size)) (EP X pins σ Q) X.xe { s3 with heap:=s3.heap.push { cls:=.type "slice",data:=.fields #[vl,vu,.none] } }
 exact tail_any (ops:=[.ref s3.heap.objs.size,v]) ht hT hg (by with_unfolding_all rfl)
noncomputable def dZ (xs:List V) (lo hi:Option Int):List V:=(xs.drop (HT.sIx xs.length 0 lo)).take (HT.sIx xs.length xs.length hi - HT.sIx xs.length 0 lo)
theorem mC (xs:List V) (lo hi:Option Int):(dZ xs lo hi).length≤xs.length:=by
 unfold dZ
 rw[List.length_take,List.length_drop]
 lia
noncomputable def uF (K:PySem.W.Frag):V→Option Int→Option Int→Hp→VK→Prop:=fun x lo hi H Q=>∃ a xs,x=.ref a∧SqT K H a xs∧
 ¬ (HT.sIx xs.length 0 lo=0∧HT.sIx xs.length xs.length hi=xs.length)∧∀ p,H p=none→Q (.ref p) (upd H p (.tup (dZ xs lo hi)))
theorem uG:SlR X (uF X.K):=by
 intro pins s σ H x v vl vu lo hi sl Q I rx hs pl pu h
 obtain⟨a,xs,rfl,hx,hw,q⟩:=h
 cases rx
 obtain⟨its,r,ht,hz⟩:=I.tuple hx
 have hlen:its.toArray.size=xs.length:=by rw[List.size_toArray];exact r.length.symm
 refine⟨"tuple",_,PyProof.Rows.slot_tuple_getitem.lookup,ht.typeIs,?_⟩
 refine HT.ux ht hs pl pu (by rw[hlen];exact hw) ?_ (by rw[hlen];exact hz)
 rw[hlen]
 refine⟨.ref s.heap.objs.size,_,I.laid (t':=s.toks) (o:=.tup (dZ xs lo hi)) (fun b ob q=>Heap.get?_push_of_some _ q) (Nat.le_refl _) ?_,rfl,q _ (I.hok.fresh (Nat.le_refl _))⟩
 exact⟨Nat.le_trans (mC xs lo hi) hz,_,(r.drop (HT.sIx xs.length 0 lo)).take (HT.sIx xs.length xs.length hi - HT.sIx xs.length 0 lo),IsTup.new _ _⟩
noncomputable def uH (K:PySem.W.Frag):R2:=fun x y H Q=>∃ a b xs ys,x=.ref a∧y=.ref b∧SqT K H a xs∧SqT K H b ys∧xs≠[]∧xs.length+ys.length≤sizeLine∧
 (ys=[]→Q (.ref a) H)∧(ys≠[]→∀ p,H p=none→Q (.ref p) (upd H p (.tup (xs++ys))))
theorem ao.nil_iff {xs:List V}{us:List Value} (r:ao xs us):us=[]↔xs=[]:=by
 cases r with
 | nil=>simp
 | cons _ _=>simp
theorem uI:OpR X (binaryOp .Add) (uH X.K):=by
 intro pins s σ H x y v u Q I rx ry h
 obtain⟨a,b,xs,ys,rfl,rfl,ha,hb,hx,hz,q1,q2⟩:=h
 cases rx
 cases ry
 obtain⟨its,r1,p1,_⟩:=I.tuple ha
 obtain⟨its2,r2,p2,_⟩:=I.tuple hb
 refine HT.uq p1 p2 (fun z=>hx (r1.nil_iff.mp z)) (fun z=>⟨.ref a,H,I,rfl,q1 (r2.nil_iff.mp z)⟩) (fun z=>?_) (by rw[← r1.length,← r2.length];exact hz)
 refine⟨.ref s.heap.objs.size,_,I.laid (t':=s.toks) (o:=.tup (xs++ys)) (fun b ob q=>Heap.get?_push_of_some _ q) (Nat.le_refl _) ?_,rfl,q2 (fun w=>z (r2.nil_iff.mpr w)) _ (I.hok.fresh (Nat.le_refl _))⟩
 exact⟨by rw[List.length_append];exact hz,_,r1.append r2,IsTup.new _ _⟩
end
noncomputable def ixN (n:Nat) (i:Int):Option Nat:=if 0≤i then (if i<n then some i.toNat else none) else if -(n:Int)≤i then some (i+n).toNat else none
noncomputable def atI {α:Type} (xs:List α) (i:Int):Option α:=(ixN xs.length i).bind fun j=>xs[j]?
theorem mD {n:Nat}{i:Int}{j:Nat} (h:ixN n i=some j):seqIndex? i n=some j∧j<n ∧ -(n:Int)≤i∧i<n:=by
 unfold ixN at h
 by_cases h0:0≤i
 ·rw[if_pos h0] at h
  by_cases h1:i<n
  ·rw[if_pos h1] at h
   have e:i.toNat=j:=Option.some.inj h
   exact⟨by rw[seqIndex_of h0 h1,e],by lia,by lia,h1⟩
  ·rw[if_neg h1] at h;cases h
 ·rw[if_neg h0] at h
  by_cases h1 : -(n:Int)≤i
  ·rw[if_pos h1] at h
   have e:(i+n).toNat=j:=Option.some.inj h
   exact⟨by rw[seqIndex_neg (by lia) h1,e],by lia,h1,by lia⟩
  ·rw[if_neg h1] at h;cases h
theorem mE {α:Type}{xs:List α}{i:Int}{v:α} (h:atI xs i=some v):∃ j,seqIndex? i xs.length=some j∧xs[j]?=some v∧j<xs.length ∧ -(xs.length:Int)≤i∧i<xs.length:=by
 unfold atI at h
 cases e:ixN xs.length i with
 | none=>rw[e] at h;cases h
 | some j=>
  rw[e] at h
  obtain⟨h1,h2,h3,h4⟩:=mD e
  exact⟨j,h1,h,h2,h3,h4⟩
noncomputable def mG (b:Expr):Prop:=∀ o i,subscripted b false o i=operate [o,i] (getItem o i)
noncomputable def IxR (X:Cx) (r:R2):Prop:=
 ∀ (value slice:Expr) (pins:List (Addr×Obj)) (s:Shared) (σ:St) (H:Hp) (x y:V) (v u:Value) (Q:VK),Inv X pins σ H s→av x v→av y u→r x y H Q→
  subscripted slice false v u=operate [v,u] (getItem v u)→wpAny (model X.prog X.w) X.A (subscriptTail value slice v u) (EP X pins σ Q) X.xe s
noncomputable def MtR (X:Cx) (id:String) (r:V→List V→Hp→VK→Prop):Prop:=
 ∀ (pins:List (Addr×Obj)) (s:Shared) (σ:St) (H:Hp) (x:V) (xs:List V) (v:Value) (us:List Value) (Q:VK),Inv X pins σ H s→av x v→ao xs us→r x xs H Q→
  wpAny (model X.prog X.w) X.A (call (.builtin id) (v::us)) (EP X pins σ Q) X.xe s
section
variable {X:Cx}{a b:Expr}{ta tb:TE}{pos:Pos}
theorem IxR.or {r r':R2} (h:IxR X r) (h':IxR X r'):IxR X (fun x y H Q=>r x y H Q∨r' x y H Q):=by
 intro value slice pins s σ H x y v u Q I rx ry q hs
 rcases q with q | q
 ·exact h value slice pins s σ H x y v u Q I rx ry q hs
 ·exact h' value slice pins s σ H x y v u Q I rx ry q hs
theorem uJ {r:R2} (hr:IxR X r) (ha:PE X a ta) (hb:PE X b tb) (hs:mG b):PE X (.Subscript a b pos) (tOp r ta tb):=by
 intro pins s σ H Q I h
 exact Subscript_ (jB ha hb I h fun v u s2 x y H2 I2 rx ry q=>hr a b pins s2 σ H2 x y v u Q I2 rx ry q (hs _ _))
noncomputable def uK (K:PySem.W.Frag):R2:=fun x y H Q=>∃ p xs i v,x=.ref p∧y=.int i∧SqL K H p xs∧atI xs i=some v∧Q v H
noncomputable def uL (K:PySem.W.Frag):R2:=fun x y H Q=>∃ p xs i v,x=.ref p∧y=.int i∧SqT K H p xs∧atI xs i=some v∧Q v H
theorem uM:IxR X (uK X.K):=by
 intro value slice pins s σ H x y v u Q I rx ry h hs
 obtain⟨p,xs,i,z,rfl,rfl,hq,he,q⟩:=h
 cases rx
 obtain⟨t,rfl⟩:=ry
 obtain⟨its,r,pl,hz⟩:=I.list hq
 obtain⟨j,h1,h2,h3,h4,h5⟩:=mE he
 obtain⟨w,ew,rw'⟩:=r.get h2
 have hl:=r.length
 have hn:=fV
 have fin:EP X pins σ Q w s:=⟨z,H,I,rw',q⟩
 by_cases h0:0≤i
 ·have hj:i.toNat=j:=by
   rw[seqIndex_of h0 h5] at h1
   exact Option.some.inj h1
  exact item_listR pl.isList h0 (by lia) (by rw[hj];simpa using ew) fin hs
 ·have hj:(i+(its.toArray.size:Int)).toNat=j:=by
   rw[seqIndex_neg (by lia) h4] at h1
   rw[List.size_toArray,← hl]
   exact Option.some.inj h1
  exact subscriptTail_builtinR (x:=w) pl.isList.typeIs slot_list_getitem.lookup
   (wpAny_getItem_list_neg (Q:=fun r s'=>r=w∧EP X pins σ Q r s') pl.isList (by lia) (by rw[List.size_toArray]<;>lia) (by lia) (by rw[hj];simpa using ew) ⟨rfl,fin⟩) hs
theorem mH:IxR X (uL X.K):=by
 intro value slice pins s σ H x y v u Q I rx ry h hs
 obtain⟨p,xs,i,z,rfl,rfl,hq,he,q⟩:=h
 cases rx
 obtain⟨t,rfl⟩:=ry
 obtain⟨its,r,pl,hz⟩:=I.tuple hq
 obtain⟨j,h1,h2,h3,h4,h5⟩:=mE he
 obtain⟨w,ew,rw'⟩:=r.get h2
 have hl:=r.length
 have hn:=fV
 have fin:EP X pins σ Q w s:=⟨z,H,I,rw',q⟩
 exact subscriptTail_builtinR (x:=w) pl.typeIs slot_tuple_getitem.lookup
  (getItem_tuple (j:=j) (Q:=fun r s'=>r=w∧EP X pins σ Q r s') pl (by lia) (by lia) (by rw[List.size_toArray,← hl];exact h1) (by simpa using ew) ⟨rfl,fin⟩) hs
theorem uN (its:List Value) (n j:Nat) (u:Value):Obj.mapSeq (·.setIfInBounds j u) { cls:=.type "list",data:=.seq its.toArray n }={ cls:=.type "list",data:=.seq (its.set j u).toArray n }:=by
 simp[Obj.mapSeq]
theorem Inv.lst {pins:List (Addr×Obj)}{σ:St}{H:Hp}{s:Shared}{p:Addr}{xs:List V} (I:Inv X pins σ H s) (h:H p=some (.lst xs)):
  ∃ (its:List Value) (n:Nat),ao xs its∧s.heap.get? p=some { cls:=.type "list",data:=.seq its.toArray n }∧xs.length≤sizeLine:=by
 obtain⟨z,its,n,r,e⟩:=I.hok p _ h
 exact⟨its,n,r,e,z⟩
theorem Inv.lstUpd {pins:List (Addr×Obj)}{σ:St}{H:Hp}{s:Shared}{p:Addr}{xs ys:List V}{its its':List Value}{n n':Nat}{f:Obj→Obj} (I:Inv X pins σ H s) (h:H p=some (.lst xs))
  (ho:s.heap.get? p=some { cls:=.type "list",data:=.seq its.toArray n }) (hf:f { cls:=.type "list",data:=.seq its.toArray n }={ cls:=.type "list",data:=.seq its'.toArray n' }) (r:ao ys its') (hz:ys.length≤sizeLine) (t:Nat):
  Inv X pins σ (upd H p (.lst ys)) { s with heap:=s.heap.update p f,toks:=t }:=by
 have e:(s.heap.update p f).get? p=some { cls:=.type "list",data:=.seq its'.toArray n' }:=by
  rw[Heap.get?_update_self f ho (by rw[hf]<;>rfl),hf]
 refine I.write (x:=p) (e:=p) (by rw[h];trivial) (.inl rfl) (fun b u hb q=>(Heap.get?_update_other _ _ (Ne.symm hb)).trans q) ⟨_,e⟩ ?_
 exact⟨hz,its',n',r,e⟩
noncomputable def rSetL:V→V→V→Hp→(Hp→Prop)→Prop:=fun o i v H Q=>∃ p xs k j,o=.ref p∧i=.int k∧H p=some (.lst xs)∧ixN xs.length k=some j∧Q (upd H p (.lst (xs.set j v)))
theorem uO:jx X rSetL:=by
 intro pins s σ H o i v ov iv u Q I ro ri rv h
 obtain⟨p,xs,k,j,rfl,rfl,hp,hj,q⟩:=h
 cases ro
 obtain⟨t,rfl⟩:=ri
 obtain⟨its,n,r,ho,hz⟩:=I.lst hp
 obtain⟨h1,h2,h3,h4⟩:=mD hj
 have hl:=r.length
 have hn:=fV
 have I':Inv X pins σ (upd H p (.lst (xs.set j v))) { s with heap:=s.heap.update p (Obj.mapSeq (·.setIfInBounds j u)) }:=
  I.lstUpd hp ho (uN its n j u) (r.set rv j) (by rw[List.length_set];exact hz) s.toks
 by_cases h0:0≤k
 ·have hk:k.toNat=j:=by
   rw[seqIndex_of h0 h4] at h1
   exact Option.some.inj h1
  exact PySem.W.ki_setAt ho h0 (by lia) (by rw[List.size_toArray,← hl];exact h4) (by rw[hk];exact⟨_,I',q⟩)
 ·have hk:(k+(its.toArray.size:Int)).toNat=j:=by
   rw[seqIndex_neg (by lia) h3] at h1
   rw[List.size_toArray,← hl]
   exact Option.some.inj h1
  exact PySem.W.ki_setBack ho (by lia) (by rw[List.size_toArray,← hl];exact h3) (by lia) (by rw[hk];exact⟨_,I',q⟩)
theorem uP (lo hi:Option Int) (n:Nat):(sliceBounds lo hi none n).1=((HT.sIx n 0 lo:Nat):Int)∧(sliceBounds lo hi none n).2.1=((HT.sIx n n hi:Nat):Int)∧(sliceBounds lo hi none n).2.2=1:=by
 refine⟨?_,?_,rfl⟩
 ·cases lo with
  | none=>simp[sliceBounds,HT.sIx]
  | some i=>
   simp only[sliceBounds,HT.sIx,Option.getD_none,show (1:Int) > 0 by decide,if_true]
   by_cases h:i<0
   ·simp only[h,if_true]<;>lia
   ·simp only[h,if_false]<;>lia
 ·cases hi with
  | none=>simp[sliceBounds,HT.sIx]
  | some i=>
   simp only[sliceBounds,HT.sIx,Option.getD_none,show (1:Int) > 0 by decide,if_true]
   by_cases h:i<0
   ·simp only[h,if_true]<;>lia
   ·simp only[h,if_false]<;>lia
theorem uQ (its:List Value) (lo hi:Option Int):slicePick its.toArray lo hi none=((its.drop (HT.sIx its.length 0 lo)).take (HT.sIx its.length its.length hi - HT.sIx its.length 0 lo)).toArray:=by
 obtain⟨h1,h2,h3⟩:=uP lo hi its.toArray.size
 unfold slicePick
 rw[h1,h2,h3]
 simp only[sliceRange_one,pick_run,List.size_toArray]<;>rfl
noncomputable def uR (K:PySem.W.Frag):V→Option Int→Option Int→Hp→VK→Prop:=fun x lo hi H Q=>∃ a xs,x=.ref a∧SqL K H a xs∧∀ p,H p=none→Q (.ref p) (upd H p (.lst (dZ xs lo hi)))
theorem mI:SlR X (uR X.K):=by
 intro pins s σ H x v vl vu lo hi sl Q I rx hs pl pu h
 obtain⟨a,xs,rfl,hx,q⟩:=h
 cases rx
 obtain⟨its,r,ht,hz⟩:=I.list hx
 have hlen:=r.length
 refine⟨"list",_,slot_list_getitem.lookup,ht.isList.typeIs,?_⟩
 refine wpAny_getItem_list_slice ht.isList hs pl pu .none (by simp) ?_ (by rw[List.size_toArray]<;>lia)
 rw[uQ,← hlen]
 refine⟨.ref s.heap.objs.size,_,I.laid (t':=s.toks) (o:=.lst (dZ xs lo hi)) (fun b ob q=>Heap.get?_push_of_some _ q) (Nat.le_refl _) ?_,rfl,q _ (I.hok.fresh (Nat.le_refl _))⟩
 exact⟨Nat.le_trans (mC xs lo hi) hz,_,0,(r.drop (HT.sIx xs.length 0 lo)).take (HT.sIx xs.length xs.length hi - HT.sIx xs.length 0 lo),Heap.get?_push_size _ rfl⟩
theorem uS:bg X (.builtin "len") (fun xs H Q=>∃ p ys,xs=[.ref p]∧(SqL X.K H p ys∨SqT X.K H p ys)∧Q (.int ys.length) H):=by
 intro pins s σ H xs us Q I r h
 obtain⟨p,ys,rfl,hq,q⟩:=h
 obtain⟨u,rfl,rx⟩:=cP r
 cases rx
 have hn:=fV
 rcases hq with hq | hq
 ·obtain⟨its,r',pl,hz⟩:=I.list hq
  have hlen:=r'.length
  exact Calls.call_len_list pl.isList (by simp only[List.size_toArray]<;>lia) ⟨.int ys.length,H,I.tok _,⟨s.toks+1,by rw[List.size_toArray,hlen]⟩,q⟩
 ·obtain⟨its,r',pl,hz⟩:=I.tuple hq
  have hlen:=r'.length
  exact len_tuple pl (by simp only[List.size_toArray]<;>lia) ⟨.int ys.length,H,I.tok _,⟨s.toks+1,by rw[List.size_toArray,hlen]⟩,q⟩
theorem uT:bg X (.builtin "len") (fun xs H Q=>∃ z,xs=[.str z]∧z.length≤sizeLine∧Q (.int z.length) H):=by
 intro pins s σ H xs us Q I r h
 obtain⟨z,rfl,hz,q⟩:=h
 obtain⟨u,rfl,t,rfl⟩:=cP r
 have hn:=fV
 exact len_str (by lia) ⟨.int z.length,H,I.tok _,⟨_,rfl⟩,q⟩
theorem bg.or {f:Value}{r r':List V→Hp→VK→Prop} (h:bg X f r) (h':bg X f r'):bg X f (fun xs H Q=>r xs H Q∨r' xs H Q):=by
 intro pins s σ H xs us Q I rs q
 rcases q with q | q
 ·exact h pins s σ H xs us Q I rs q
 ·exact h' pins s σ H xs us Q I rs q
theorem uU:bg X (.type "list") (fun xs H Q=>∃ p ys,xs=[.ref p]∧(SqL X.K H p ys∨SqT X.K H p ys)∧∀ l,H l=none→Q (.ref l) (upd H l (.lst ys))):=by
 intro pins s σ H xs us Q I r h
 obtain⟨p,ys,rfl,hq,q⟩:=h
 obtain⟨u,rfl,rx⟩:=cP r
 cases rx
 have fin:∀ (its:List Value),ao ys its→ys.length≤sizeLine→∀ (h':Heap) (c':Nat),(∀ b o',s.heap.get? b=some o'→h'.get? b=some o')→
   h'.get? s.heap.objs.size=some { cls:=.type "list",dict:=none,data:=.seq its.toArray c',slots:=#[] }→EP X pins σ Q (.ref s.heap.objs.size) { s with heap:=h' }:=fun its r' hz h' c' kp e=>
  ⟨.ref s.heap.objs.size,_,I.laid (t':=s.toks) kp (Nat.le_refl _) (show bQ X.prog X.w _ h' _ (.lst ys) from ⟨hz,its,c',r',e⟩),rfl,q _ (I.hok.fresh (Nat.le_refl _))⟩
 rcases hq with hq | hq
 ·obtain⟨its,r',pl,hz⟩:=I.list hq
  have hlen:=r'.length
  obtain⟨o,ho,hc,n,hd⟩:=pl.isList
  exact call_list_seq p (.inl rfl) ho hc hd (fun h' c' kp e=>fin its r' hz h' c' kp e) (by simp only[List.size_toArray]<;>lia)
 ·obtain⟨its,r',pl,hz⟩:=I.tuple hq
  have hlen:=r'.length
  obtain⟨o,ho,hc,n,hd⟩:=pl
  exact call_list_seq p (.inr rfl) ho hc hd (fun h' c' kp e=>fin its r' hz h' c' kp e) (by simp only[List.size_toArray]<;>lia)
theorem uV:bg X (.type "tuple") (fun xs H Q=>∃ p ys,xs=[.ref p]∧((SqL X.K H p ys∧∀ l,H l=none→Q (.ref l) (upd H l (.tup ys)))∨(SqT X.K H p ys∧Q (.ref p) H))):=by
 intro pins s σ H xs us Q I r h
 obtain⟨p,ys,rfl,h⟩:=h
 obtain⟨u,rfl,rx⟩:=cP r
 cases rx
 rcases h with ⟨hq,q⟩ | ⟨hq,q⟩
 ·obtain⟨its,r',pl,hz⟩:=I.list hq
  have hlen:=r'.length
  refine call_tuple_list pl.isList (fun h' kp=>?_) (by simp only[List.size_toArray]<;>lia)
  have I1:Inv X pins σ H { s with heap:=h' }:=I.kept (t':=s.toks) kp
  have I2:Inv X pins σ (upd H h'.objs.size (.tup ys)) { s with heap:=h'.push { cls:=.type "tuple",data:=.seq its.toArray } }:=
   I1.laid (t':=s.toks) (fun b o e=>Heap.get?_push_of_some _ e) (Nat.le_refl _) (show bQ X.prog X.w _ _ _ (.tup ys) from ⟨hz,its,r',IsTup.new _ _⟩)
  exact⟨.ref h'.objs.size,_,I2,rfl,q _ (I1.hok.fresh (Nat.le_refl _))⟩
 ·obtain⟨its,r',pl,hz⟩:=I.tuple hq
  exact call_tuple_same pl ⟨.ref p,H,I,rfl,q⟩
noncomputable def tyV (K:PySem.W.Frag) (T:String) (x:V) (H:Hp):Prop:=match x with
 | .str _=>T = "str"
 | .int _=>T = "int"
 | .ref p=>(T = "list" ∧ ∃ xs,SqL K H p xs)∨(T = "tuple" ∧ ∃ o,K.lookup p=some o∧o.cls=.type "tuple" ∧ o.dict=none)∨
   (T = "dict" ∧ ((∃ kvs,H p=some (.dK kvs))∨∃ kvs,H p=some (.dT kvs)))∨(T = "set" ∧ ∃ S n,H p=some (.set S n))
 | _=>False
theorem uW {pins:List (Addr×Obj)}{σ:St}{H:Hp}{s:Shared}{T:String}{x:V}{v:Value} (I:Inv X pins σ H s) (r:av x v) (ty:tyV X.K T x H):
  s.TypeIs v T∧∀ a,v=.ref a→∃ ob,s.heap.get? a=some ob∧ob.dict=none:=by
 cases x with
 | str z=>
  obtain⟨t,rfl⟩:=r
  cases (show T = "str" from ty)
  exact⟨typeIs_str s z t,fun _ e=>nomatch e⟩
 | int i=>
  obtain⟨t,rfl⟩:=r
  cases (show T = "int" from ty)
  exact⟨typeIs_int s i t,fun _ e=>nomatch e⟩
 | ref p=>
  cases r
  rcases ty with ⟨rfl,xs,hq⟩ | ⟨rfl,o,hk,hc,hd⟩ | ⟨rfl,hk⟩ | ⟨rfl,S,n,hk⟩
  ·obtain⟨its,_,pl,_⟩:=I.list hq
   refine⟨pl.isList.typeIs,fun a e=>?_⟩
   cases e
   obtain⟨o,n,e,c,hd,_⟩:=pl
   exact⟨o,e,hd⟩
  ·refine⟨⟨o,I.kIn p o hk,hc⟩,fun a e=>?_⟩
   cases e
   exact⟨o,I.kIn _ o hk,hd⟩
  ·have z:∃ o,s.heap.get? p=some o∧o.ExactDict:=by
    rcases hk with ⟨kvs,hk⟩ | ⟨kvs,hk⟩
    ·obtain⟨_,_,_,_,o,_,_,e,ex,_⟩:=I.hok p _ hk
     exact⟨o,e,ex⟩
    ·obtain⟨_,_,_,_,o,_,_,e,ex,_⟩:=I.hok p _ hk
     exact⟨o,e,ex⟩
   obtain⟨o,e,ex⟩:=z
   refine⟨⟨o,e,ex.1⟩,fun a e2=>?_⟩
   cases e2
   exact⟨o,e,ex.2.1⟩
  ·obtain⟨o,_,_,_,e,ex,_⟩:=I.hok p _ hk
   refine⟨⟨o,e,ex.1⟩,fun a e2=>?_⟩
   cases e2
   exact⟨o,e,ex.2.1⟩
 | _=>exact False.elim ty
noncomputable def tBM (K:PySem.W.Frag) (T:String) (r:V→List V→Hp→VK→Prop) (to:TE) (t:TA):TE:=fun σ H Q=>to σ H fun x H1=>tyV K T x H1∧t σ H1 fun xs H2=>r x xs H2 Q
variable {o e:Expr}{es:List Expr}{to:TE}{t:TA}{name:Str}{apos cpos:Pos}{T id:String}{r:V→List V→Hp→VK→Prop}
theorem jD (pa:PlainAttrs T) (slot:Slot T name id) (hty:typeOf (.builtin id)=pure (.type "method_descriptor")) (hm:MtR X id r) (ho:PE X o to) (ha:PA X (e::es) t)
  (hbase:attributeBase o name X.env (eval o X.env)=eval o X.env:=by rfl)
  (hfew:((backTo cpos (starEach (e::es) X.env)).all (fun x=>!x.1) && (backToKw cpos (keywordEach [] X.env)).all (fun x=>x.1.isSome)
   && decide ((e::es).length+([]:List Keyword).length+(if ([]:List Keyword).isEmpty then 0 else 1)<30))=true:=by rfl)
  (hline:(apos.endLine == cpos.line)=true:=by rfl) (hs:starEach (e::es) X.env=(false,eval e X.env)::starEach es X.env:=by rfl) (hplain:(backTo cpos (starEach es X.env)).any (·.1)=false:=by rfl):
  PE X (.Call (.Attribute o name apos) (e::es) [] cpos) (tBM X.K T r to t):=by
 intro pins s σ H Q I h
 refine wpAny_Call_method_late hbase hfew hline rfl (thn (ho pins s σ H _ I h) fun v s1 ⟨x,H1,I1,r1,ty,q1⟩=>?_)
 obtain⟨h1,h2⟩:=uW I1 r1 ty
 refine⟨T,id,pa,slot,hty,h1,h2,?_⟩
 have hA:=ha cpos pins s1 σ H1 _ I1 q1
 rw[hs] at hA ⊢
 refine Calls.callWith_builtin (by show (false || (backTo cpos (starEach es X.env)).any (·.1))=false;rw[hplain]<;>rfl) (Calls.evalArgs_plain ?_)
 exact thn hA fun us s2 ⟨vs,H2,I2,r2,q2⟩=>hm pins s2 σ H2 x vs v us Q I2 r1 r2 q2
/- xs.append(e),list.index on a module's tuple .. are MtR facts of 06m -/
end
noncomputable def MtM (X:Cx) (id:String) (r:V→List V→Hp→VK→Prop):Prop:=
 ∀ (pins:List (Addr×Obj)) (s:Shared) (σ:St) (H:Hp) (x:V) (xs:List V) (v:Value) (us:List Value) (Q:VK),Inv X pins σ H s→av x v→ao xs us→r x xs H Q→
  wpAny (model X.prog X.w) X.A (call (.builtin id) (v::us)) (EP X pins σ Q) X.xe s
theorem ao.one:∀ {x:V}{us:List Value},ao [x] us→∃ u,us=[u]∧av x u
 | _,_,.cons r .nil=>⟨_,rfl,r⟩
theorem ao.eraseIdx:∀ {xs:List V}{us:List Value} (i:Nat),ao xs us→ao (xs.eraseIdx i) (us.eraseIdx i)
 | _,_,_,.nil=>.nil
 | _,_,0,.cons _ t=>t
 | _,_,i+1,.cons r t=>.cons r (ao.eraseIdx i t)
theorem mJ {α:Type}:∀ (l:List α) (i:Nat),(l.eraseIdx i).length≤l.length
 | [],_=>Nat.le_refl _
 | _::_,0=>Nat.le_succ _
 | _::r,i+1=>Nat.succ_le_succ (mJ r i)
section
variable {X:Cx}{pins:List (Addr×Obj)}{σ:St}{H:Hp}{s:Shared}{l b:Addr}{xs ys zs:List V}
theorem Inv.lset {its its':List Value}{n:Nat}{f:Array Value→Array Value}{t':Nat} (I:Inv X pins σ H s) (hH:H l=some (.lst xs))
  (e:s.heap.get? l=some { cls:=.type "list",data:=.seq its.toArray n }) (hf:f its.toArray=its'.toArray) (hv:ao ys its') (hz:ys.length≤sizeLine):
  Inv X pins σ (upd H l (.lst ys)) { s with heap:=s.heap.update l (Obj.mapSeq f),toks:=t' }:=by
 have q:=PySem.IsL.update e f
 rw[hf] at q
 refine I.write (x:=l) (e:=l) (by rw[hH];exact trivial) (.inl rfl) (fun b' u hb hu=>(Heap.get?_update_other s.heap (Obj.mapSeq f) (Ne.symm hb)).trans hu) ⟨_,q⟩ ?_
 exact⟨hz,its',_,hv,q⟩
theorem Inv.lnew {its:List Value}{t':Nat} (I:Inv X pins σ H s) (hv:ao ys its) (hz:ys.length≤sizeLine):
  Inv X pins σ (upd H s.heap.objs.size (.lst ys)) { s with heap:=s.heap.push { cls:=.type "list",data:=.seq its.toArray },toks:=t' }:=
 I.laid (fun _ _ q=>Heap.get?_push_of_some _ q) (Nat.le_refl _) ⟨hz,its,0,hv,Heap.get?_push_size _ rfl⟩
theorem Inv.fresh (I:Inv X pins σ H s):H s.heap.objs.size=none:=I.hok.fresh (Nat.le_refl _)
theorem Inv.lstM (I:Inv X pins σ H s) (hH:H l=some (.lst xs)):xs.length≤sizeLine∧∃ (its:List Value) (n:Nat),ao xs its∧xs.length=its.length∧s.heap.get? l=some { cls:=.type "list",data:=.seq its.toArray n }:=by
 obtain⟨z,its,n,r,e⟩:=I.hok l _ hH
 exact⟨z,its,n,r,r.length,e⟩
theorem uX {n:Nat} (h:n≤sizeLine):Builtin.List.listTooLong n=false:=by
 unfold Builtin.List.listTooLong
 exact decide_eq_false (by lia)
end
section
variable {X:Cx}
noncomputable def rAppend:V→List V→Hp→VK→Prop:=fun x vs H Q=>∃ l xs y,x=.ref l∧vs=[y]∧H l=some (.lst xs)∧xs.length<sizeLine∧Q .non (upd H l (.lst (xs++[y])))
theorem uY:MtM X "list.append" rAppend:=by
 intro pins s σ H x vs v us Q I rx rv h
 obtain⟨l,xs,y,rfl,rfl,hH,hz,q⟩:=h
 cases rx
 obtain⟨u,rfl,ru⟩:=rv.one
 obtain⟨z,its,n,r,hl,e⟩:=I.lstM hH
 refine call_meets F.slot_list_append ⟨_,e,rfl⟩ F.entry_list_append (F.args_list_append_2 _ _) (PySem.list_append l its.toArray n u (by rw[List.size_toArray];lia)) ⟨e,?_⟩
 refine⟨.non,_,I.lset (its':=its++[u]) hH e (by simp) (r.append (.cons ru .nil)) ?_,rfl,q⟩
 rw[List.length_append,List.length_singleton]
 lia
noncomputable def rExtend:V→List V→Hp→VK→Prop:=fun x vs H Q=>∃ l b xs zs,x=.ref l∧vs=[.ref b]∧H l=some (.lst xs)∧H b=some (.lst zs)∧xs.length+zs.length≤sizeLine∧Q .non (upd H l (.lst (xs++zs)))
theorem uZ:MtM X "list.extend" rExtend:=by
 intro pins s σ H x vs v us Q I rx rv h
 obtain⟨l,b,xs,zs,rfl,rfl,hH,hB,hz,q⟩:=h
 cases rx
 obtain⟨u,rfl,ru⟩:=rv.one
 cases ru
 obtain⟨z,its,n,r,hl,e⟩:=I.lstM hH
 obtain⟨z2,its2,n2,r2,hl2,e2⟩:=I.lstM hB
 have hsz:its.toArray.size+its2.toArray.size≤sizeLine:=by rw[List.size_toArray,List.size_toArray];lia
 have hlong:¬ (!its.toArray.isEmpty && Builtin.List.listTooLong (its.toArray.size+its2.toArray.size))=true:=by
  rw[uX hsz,Bool.and_false]
  exact Bool.false_ne_true
 refine call_meets F.slot_list_extend ⟨_,e,rfl⟩ F.entry_list_extend (F.args_list_extend_2 _ _)
  (AutoSeq1.list_extend_list_list_0 l its.toArray n b its2.toArray n2 hlong (by rw[List.size_toArray];lia) (by lia)) ⟨e,e2,?_⟩
 refine⟨.non,_,I.lset (its':=its++its2) hH e (by simp) (r.append r2) ?_,rfl,q⟩
 rw[List.length_append]
 lia
noncomputable def rPopAt:V→List V→Hp→VK→Prop:=fun x vs H Q=>∃ l xs i k y,x=.ref l∧vs=[.int i]∧H l=some (.lst xs) ∧ -(2 ^ 63)≤i∧i<2 ^ 63∧seqIndex? i xs.length=some k∧xs[k]?=some y∧Q y (upd H l (.lst (xs.eraseIdx k)))
theorem u0:MtM X "list.pop" rPopAt:=by
 intro pins s σ H x vs v us Q I rx rv h
 obtain⟨l,xs,i,k,y,rfl,rfl,hH,h1,h2,hk,hy,q⟩:=h
 cases rx
 obtain⟨u,rfl,ru⟩:=rv.one
 obtain⟨t,rfl⟩:=ru
 obtain⟨z,its,n,r,hl,e⟩:=I.lstM hH
 obtain⟨w,hw,rw'⟩:=r.get hy
 refine call_meets F.slot_list_pop ⟨_,e,rfl⟩ F.entry_list_pop (F.args_list_pop_2 _ _)
  (MeetsSeq.list_pop_at l its.toArray n i t k w (fitsIndex_both h1 h2) (by rw[List.size_toArray,← hl];exact hk) (by rw[← Array.getElem?_toList];exact hw) (by rw[List.size_toArray];lia)) ⟨e,?_⟩
 refine⟨y,_,I.lset (its':=its.eraseIdx k) hH e ?_ (r.eraseIdx k) ?_,rw',q⟩
 ·show its.toArray.eraseIdxIfInBounds k=(its.eraseIdx k).toArray
  rw[List.eraseIdxIfInBounds_toArray]
 ·have:=mJ xs k
  lia
noncomputable def rCat:R2:=fun x y H Q=>∃ l b xs zs,x=.ref l∧y=.ref b∧H l=some (.lst xs)∧H b=some (.lst zs)∧xs.length+zs.length≤sizeLine∧∀ p,H p=none→Q (.ref p) (upd H p (.lst (xs++zs)))
theorem u3:OpR X (binaryOp .Add) rCat:=by
 intro pins s σ H x y v u Q I rx ry h
 obtain⟨l,b,xs,zs,rfl,rfl,hH,hB,hz,q⟩:=h
 cases rx
 cases ry
 obtain⟨z,its,n,r,hl,e⟩:=I.lstM hH
 obtain⟨z2,its2,n2,r2,hl2,e2⟩:=I.lstM hB
 refine PySem.P.add_list e e2 ?_ (by rw[List.size_toArray,List.size_toArray];lia)
 have ea:its.toArray++its2.toArray=(its++its2).toArray:=by simp
 rw[ea]
 exact⟨.ref _,_,I.lnew (t':=s.toks) (r.append r2) (by rw[List.length_append];lia),rfl,q _ I.fresh⟩
end
section
variable {prog:Program}{w:World}{A:Around}{E:Value→Shared→Prop}{s:Shared}
end
section
variable {X:Cx}
end
section
variable {κ:Type} [DecidableEq κ]
noncomputable def ce (kvs:List (κ×V)) (k:κ):Option V:=(kvs.find? fun kv=>decide (kv.1=k)).map (·.2)
noncomputable def fW (kvs:List (κ×V)) (k:κ) (v:V):List (κ×V):=
 if (kvs.any fun kv=>decide (kv.1=k))=true then kvs.map (fun kv=>if kv.1=k then (kv.1,v) else kv) else kvs++[(k,v)]
theorem iC {p:κ×V}{r:List (κ×V)}{k:κ} (e:p.1=k):ce (p::r) k=some p.2:=by simp[ce,List.find?_cons,e]
theorem iD {p:κ×V}{r:List (κ×V)}{k:κ} (e:¬ p.1=k):ce (p::r) k=ce r k:=by simp[ce,List.find?_cons,e]
theorem mK (k:κ):∀ kvs:List (κ×V),(kvs.any fun kv=>decide (kv.1=k))=(ce kvs k).isSome
 | []=>rfl
 | p::r=>by
  rw[List.any_cons]
  by_cases e:p.1=k
  ·simp only[iC e,decide_eq_true e,Bool.true_or,Option.isSome_some]
  ·rw[iD e,decide_eq_false e,Bool.false_or];exact mK k r
theorem di.isSome_eq {o:Option V}{u:Option Value} (r:di o u):o.isSome=u.isSome:=by
 cases o with
 | none=>cases u with
  | none=>rfl
  | some _=>exact (show False from r).elim
 | some _=>cases u with
  | none=>exact (show False from r).elim
  | some _=>rfl
theorem KV.val {kvs:List (κ×V)}{vs:List (κ×Value)} (r:KV kvs vs) (k:κ):di (ce kvs k) (valueAt vs k):=by
 unfold KV at r
 induction r with
 | nil=>exact True.intro
 | @cons p q ps qs h t ih=>
  obtain⟨h1,h2⟩:=h
  by_cases e:p.1=k
  ·have e':q.1=k:=h1.symm.trans e
   have b:valueAt (q::qs) k=some q.2:=by simp[valueAt,List.find?_cons,e']
   rw[iC e,b];exact h2
  ·have e':¬ q.1=k:=fun z=>e (h1.trans z)
   have b:valueAt (q::qs) k=valueAt qs k:=by simp[valueAt,List.find?_cons,e']
   rw[iD e,b];exact ih
theorem KV.length {kvs:List (κ×V)}{vs:List (κ×Value)} (r:KV kvs vs):kvs.length=vs.length:=Paired.length r
end
theorem jE {P:Program}{w:World}{k:Key}{u:Value} (r:av (kV k) u):(gI P w).is k u=true:=by
 cases k with
 | inl i=>obtain⟨t,e⟩:=(show ∃ t,u=Value.int i t from r);subst e;exact rY P w i t
 | inr x=>obtain⟨t,e⟩:=(show ∃ t,u=Value.str x t from r);subst e;exact rZ P w x t
noncomputable abbrev KT (H:Hp):List (List Im×V)→List (List Im×Addr×Value)→Prop:=Paired fun p q=>p.1=q.1∧KAd H p.1 q.2.1∧av p.2 q.2.2
theorem KT.val {H:Hp}{kvs:List (List Im×V)}{xs:List (List Im×Addr×Value)} (r:KT H kvs xs) (k:List Im):di (ce kvs k) ((atKey xs k).map (·.2)):=by
 induction r with
 | nil=>exact True.intro
 | @cons p q ps qs h t ih=>
  obtain⟨h1,_,h2⟩:=h
  by_cases e:p.1=k
  ·have e':q.1=k:=h1.symm.trans e
   have b:atKey (q::qs) k=some q.2:=by simp[atKey,List.find?_cons,e']
   rw[iC e,b];exact h2
  ·have e':¬ q.1=k:=fun z=>e (h1.trans z)
   have b:atKey (q::qs) k=atKey qs k:=by simp[atKey,List.find?_cons,e']
   rw[iD e,b];exact ih
theorem KT.repl {H:Hp}{kvs:List (List Im×V)}{xs:List (List Im×Addr×Value)} (r:KT H kvs xs) (k:List Im) {y:V}{u:Value} (ry:av y u):
  KT H (kvs.map fun kv=>if kv.1=k then (kv.1,y) else kv) (xs.map (putAt k u)):=by
 induction r with
 | nil=>exact .nil
 | @cons p q ps qs h t ih=>
  rw[List.map_cons,List.map_cons]
  refine .cons ?_ ih
  obtain⟨h1,h2,h3⟩:=h
  unfold putAt
  by_cases e:p.1=k
  ·rw[if_pos e,if_pos (h1.symm.trans e)];exact⟨h1,h2,ry⟩
  ·rw[if_neg e,if_neg (fun z=>e (h1.trans z))];exact⟨h1,h2,h3⟩
theorem KT.put {H:Hp}{kvs:List (List Im×V)}{xs:List (List Im×Addr×Value)} (r:KT H kvs xs) (k:List Im) {b:Addr}{y:V}{u:Value} (hb:KAd H k b) (ry:av y u):
  KT H (fW kvs k y) (storedH xs k b u):=by
 have e:(kvs.any fun kv=>decide (kv.1=k))=(atKey xs k).isSome:=by
  rw[mK,(r.val k).isSome_eq,Option.isSome_map]
 unfold fW storedH
 rw[e]
 by_cases q:(atKey xs k).isSome=true
 ·rw[if_pos q,if_pos q];exact r.repl k ry
 ·rw[if_neg q,if_neg q];exact Paired.snoc r ⟨rfl,hb,ry⟩
theorem KT.keeps {H H':Hp}{kvs:List (List Im×V)}{xs:List (List Im×Addr×Value)} (r:KT H kvs xs) (ht:∀ b ys,H b=some (.tup ys)→H' b=some (.tup ys)):KT H' kvs xs:=
 Paired.mapP r fun _ _ z=>⟨z.1,z.2.1.mono ht,z.2.2⟩
section
variable {P:Program}{w:World}{H:Hp}{h:Heap}{a:Addr}
theorem mL {u:HO} (ok:HOk P w H h) (e:Rd H a u):bQ P w H h a u:=e.ok ok
theorem gL {kvs:List (Key×V)} (ok:HOk P w H h) (e:Rd H a (.dK kvs)):kvs.length≤sizeLine∧(a == sysModules)=false∧∃ vs,KV kvs vs∧h.DictOf (gI P w) a vs:=
 show bQ P w H h a (.dK kvs) from mL ok e
mutual
theorem IsI.imv (ok:HOk P w H h):∀ {d:Im}{v:V}{u:Value},IsI H d v→av v u→ImV h d u
 | .non,_,_,e,r=>by cases (show _=V.non from e);exact r
 | .bl b,_,_,e,r=>by cases (show _=V.bl b from e);exact r
 | .int i,_,_,e,r=>by cases (show _=V.int i from e);exact r
 | .str x,_,_,e,r=>by cases (show _=V.str x from e);exact r
 | .fn a,_,_,e,r=>by cases (show _=V.ref a from e);exact r
 | .tup ds,_,_,e,r=>by
  obtain⟨a,xs,rfl,h1,h2⟩:=e
  cases r
  obtain⟨_,its,rv,o,g1,g2,n,g3⟩:=(show bQ P w H h a (.tup xs) from ok a _ h1)
  exact⟨a,o,its.toArray,n,rfl,g1,g2,g3,by simpa using ak.imv ok h2 rv⟩
 | .fl ds,_,_,e,r=>by
  obtain⟨a,xs,o,rfl,h1,h2⟩:=e
  cases r
  exact⟨a,rfl⟩
theorem ak.imv (ok:HOk P w H h):∀ {ds:List Im}{vs:List V}{us:List Value},ak H ds vs→ao vs us→aK h ds us
 | [],_,_,e,r=>by cases (show _=[] from e);cases r;rfl
 | d::ds,_,_,e,r=>by
  obtain⟨v,t,rfl,h1,h2⟩:=e
  cases r with
  | cons r1 r2=>exact⟨_,_,rfl,IsI.imv ok h1 r1,ak.imv ok h2 r2⟩
end
theorem eQ {ks:List Im} (ok:HOk P w H h) (e:KAd H ks a):(cq P w).is h ks a:=⟨e.1,e.2.imv ok rfl⟩
theorem gM {P:Program}{w:World}{A:Around} (h:A.units+20<cLine):(cq P w).room A.in1:=show A.units+1+10<cLine by lia
theorem iE {kvs:List (List Im×V)} (ok:HOk P w H h) (e:Rd H a (.dT kvs)):kvs.length≤sizeLine∧(a == sysModules)=false∧
  ∃ xs,KT H kvs xs∧h.DictOfH (cq P w) a xs:=by
 obtain⟨z,y,xs,r,o,es,ep,h1,h2,h3,h4,h5⟩:=(show bQ P w H h a (.dT kvs) from mL ok e)
 refine⟨z,y,xs,r,o,es,ep,h1,h2,h3,h4,fun x hx=>?_,h5⟩
 have all:∀ {l:List (List Im×V)}{m:List (List Im×Addr×Value)},KT H l m→∀ x∈m,(cq P w).is h x.1 x.2.1:=by
  intro l m q
  induction q with
  | nil=>intro x hx;exact nomatch hx
  | @cons p q ps qs hq t ih=>
   intro x hx
   rcases List.mem_cons.mp hx with e | hx
   ·subst e
    exact eQ ok (by rw[← hq.1];exact hq.2.1)
   ·exact ih x hx
 exact all r x hx
end
noncomputable def bR (H:Hp) (a:Addr) (y:V) (r:Option V):Prop:=
 (∃ kvs k,Rd H a (.dK kvs)∧y=kV k∧r=ce kvs k)∨∃ kvs k b,Rd H a (.dT kvs)∧y=.ref b∧KAd H k b∧r=ce kvs k
theorem bR.k {H:Hp}{a:Addr}{kvs:List (Key×V)}{k:Key} (e:H a=some (.dK kvs)):bR H a (kV k) (ce kvs k):=.inl ⟨kvs,k,.inl e,rfl,rfl⟩
theorem bR.t {H:Hp}{a b:Addr}{kvs:List (List Im×V)}{k:List Im} (e:H a=some (.dT kvs)) (eb:KAd H k b):bR H a (.ref b) (ce kvs k):=.inr ⟨kvs,k,b,.inl e,rfl,eb,rfl⟩
section
variable {X:Cx}{pins:List (Addr×Obj)}{σ:St}{H:Hp}{s:Shared}{a:Addr}{y v:V}{u r:Value}{o:Option V}{A:Around}{E:Value→Shared→Prop}
theorem Inv.big (I:Inv X pins σ H s):sysModules<s.heap.objs.size:=by
 have h:mainGlobals<s.heap.objs.size:=(I.mod.glob.keeps I.bk).lt
 exact Nat.lt_trans (by decide) h
theorem u4 {Q:Value→Shared→Prop} (hu:A.units+20<cLine) (I:Inv X pins σ H s) (g:bR H a y (some v)) (ry:av y u) (h:∀ w' s',Inv X pins σ H s'→av v w'→Q w' s'):
  wpAny (model X.prog X.w) A (getItem (.ref a) u) Q E s:=by
 rcases g with ⟨kvs,k,e,ey,l⟩ | ⟨kvs,k,b,e,ey,eb,l⟩
 ·subst ey
  obtain⟨z,hd,vs,rel,dd⟩:=gL I.hok e
  obtain⟨w',hw,rw'⟩:=di.some_of (v:=v) (o:=valueAt vs k) (by rw[l];exact rel.val k)
  exact wpAny_getItem_of (jE ry) dd.mapOf hw (h w' _ (I.tok _) rw')
 ·subst ey
  cases (show u=Value.ref b from ry)
  obtain⟨z,hd,xs,rel,dd⟩:=iE I.hok e
  obtain⟨w',hw,rw'⟩:=di.some_of (v:=v) (o:=(atKey xs k).map (·.2)) (by rw[l];exact rel.val k)
  obtain⟨p,hp,hp2⟩:=Option.map_eq_some_iff.mp hw
  refine wpAny_getItem_heap (gM hu) (eQ I.hok eb) dd hp ?_
  rw[hp2]
  exact h w' _ (I.tok _) rw'
theorem jF {Q:Value→Shared→Prop} (hu:A.units+20<cLine) (I:Inv X pins σ H s) (g:bR H a y o) (ry:av y u) (h:∀ s',Inv X pins σ H s'→Q (.bool o.isSome) s'):
  wpAny (model X.prog X.w) A (compareOp .In u (.ref a)) Q E s:=by
 rcases g with ⟨kvs,k,e,ey,l⟩ | ⟨kvs,k,b,e,ey,eb,l⟩
 ·subst ey
  obtain⟨z,hd,vs,rel,dd⟩:=gL I.hok e
  refine wpAny_in_of (jE ry) hd dd.mapOf ?_
  rw[← (rel.val k).isSome_eq,← l]
  exact h _ (I.tok _)
 ·subst ey
  cases (show u=Value.ref b from ry)
  obtain⟨z,hd,xs,rel,dd⟩:=iE I.hok e
  refine wpAny_in_heap (gM hu) (eQ I.hok eb) hd dd ?_
  have q:=(rel.val k).isSome_eq
  rw[Option.isSome_map] at q
  rw[← q,← l]
  exact h _ (I.tok _)
theorem jG {Q:Value→Shared→Prop} (hu:A.units+20<cLine) (I:Inv X pins σ H s) (g:bR H a y o) (ry:av y u) (h:∀ s',Inv X pins σ H s'→Q (.bool (!o.isSome)) s'):
  wpAny (model X.prog X.w) A (compareOp .NotIn u (.ref a)) Q E s:=by
 rcases g with ⟨kvs,k,e,ey,l⟩ | ⟨kvs,k,b,e,ey,eb,l⟩
 ·subst ey
  obtain⟨z,hd,vs,rel,dd⟩:=gL I.hok e
  refine wpAny_notIn_of (jE ry) hd dd.mapOf ?_
  rw[← (rel.val k).isSome_eq,← l]
  exact h _ (I.tok _)
 ·subst ey
  cases (show u=Value.ref b from ry)
  obtain⟨z,hd,xs,rel,dd⟩:=iE I.hok e
  refine wpAny_notIn_heap (gM hu) (eQ I.hok eb) hd dd ?_
  have q:=(rel.val k).isSome_eq
  rw[Option.isSome_map] at q
  rw[← q,← l]
  exact h _ (I.tok _)
end
section
variable {X:Cx}{pins:List (Addr×Obj)}{σ:St}{H:Hp}{s:Shared}{a:Addr}{kvs:List (Key×V)}{k:Key}{u:Value}{A:Around}{E:Value→Shared→Prop}
theorem u5 {Q:Value→Shared→Prop} (I:Inv X pins σ H s) (e:Rd H a (.dK kvs)) (h:∀ t s',Inv X pins σ H s'→Q (.int kvs.length t) s'):wpAny (model X.prog X.w) A (call (.builtin "len") [.ref a]) Q E s:=by
 obtain⟨z,hd,vs,rel,dd⟩:=gL I.hok e
 refine call_len_dict hd dd (by rw[← rel.length];rw[sizeLine_eq] at z;lia) ?_
 rw[← rel.length]
 exact h _ _ (I.tok _)
end
theorem u6 {X:Cx}{pins:List (Addr×Obj)}{σ:St}{H:Hp}{s:Shared}{a:Addr}{y:V}{o:Option V} (I:Inv X pins σ H s) (g:bR H a y o):s.TypeIs (.ref a) "dict" := by
 rcases g with ⟨kvs,k,e,_,_⟩ | ⟨kvs,k,b,e,_,_,_⟩
 ·obtain⟨_,_,vs,_,dd⟩:=gL I.hok e
  exact dd.typeIs
 ·obtain⟨_,_,xs,_,dd⟩:=iE I.hok e
  exact dd.typeIs
section
variable {X:Cx}{o i e value:Expr}{pos pos' tpos:Pos}{td ty tv:TE}
end
section
variable {X:Cx}{pos:Pos}
end
section
variable {X:Cx}{pins:List (Addr×Obj)}{σ:St}{H:Hp}{s:Shared}{a:Addr}{y d:V}{u r:Value}{o:Option V}{A:Around}{E:Value→Shared→Prop}
end
section
variable {X:Cx}{o e f:Expr}{apos cpos:Pos}{td ty tx:TE}
end
section
variable {X:Cx}{pins:List (Addr×Obj)}{σ:St}{H:Hp}{s:Shared}{a:Addr}{kvs:List (Key×V)}{A:Around}{E:Value→Shared→Prop}
end
section
variable {X:Cx}{pins:List (Addr×Obj)}{σ:St}{H:Hp}{s:Shared}{a:Addr}{y:V}{u:Value}{A:Around}{E:Value→Shared→Prop}
end
end L2
namespace Att
open PySem PySem.W PySem.Calls PyProof.Rows
theorem u7 {P:Params}{h:Heap}:∀ (ns:List Int) (vs:List Value),WellAll P h vs (ns.map WData.int)→IntsAre vs ns:=by
 intro ns
 induction ns with
 | nil=>
  intro vs w
  rw[List.map_nil] at w
  cases w
  exact .nil
 | cons n ns ih=>
  intro vs w
  rw[List.map_cons] at w
  cases w with
  | cons a b=>
   cases a
   exact .cons _ _ (ih _ b)
theorem u8 {l:OpenLaw}{n:Nat} (hn:l.most=some n) {P:Params}{h:Heap}{args:List WData}{vals:List Value}
  (hpre:l.row.toRowW.claim.pre args=true) (hwl:WellAll P h vals args):
  ∃ a vs ns,vals=[Value.ref a]∧args=[WData.list (ns.map WData.int)]∧h.get? a=some { cls:=.type "list",data:=.seq vs.toArray }∧IntsAre vs ns∧ns.length≤n:=by
 have hsh:WShape.hasAll [] args [.list .int]=true:=(pre_splitW hpre).1
 have hc:l.pre.holds [] { args:=args }=true:=(pre_splitW hpre).2
 obtain⟨d,r,rfl,h1,h2⟩:=hasAllW_cons hsh
 obtain rfl:=hasAllW_nil h2
 obtain⟨xs,rfl,h3⟩:=hasW_list h1
 obtain⟨ns,rfl⟩:=items_int h3
 have hlen:ns.length≤n:=by
  unfold OpenLaw.pre at hc
  have h4:(WTm.not (.lt (.lit (.int (n:Int))) (.len (.arg 0)))).holds [] { args:=[.list (ns.map .int)] }=true:=by
   have h4:=(holds_andW hc).1
   rw[hn] at h4
   exact h4
  have h5:=condW_of h4 (w_not (w_lt w_lit (w_len_list (w_arg rfl))))
  rw[List.length_map] at h5
  refine Nat.le_of_not_lt fun q=>?_
  have q':(n:Int)<((ns.length:Nat):Int):=by lia
  first
   | (rw[decide_eq_true q'] at h5;exact absurd h5 (by decide))
   | (simp at h5;lia)
 cases hwl with
 | cons w1 w2=>
  cases w2
  cases w1 with
  | list ho hall=>exact⟨_,_,ns,rfl,rfl,ho,u7 ns _ hall,hlen⟩
theorem u9 (l:OpenLaw) (args:List WData):l.row.toRowW.claim.post args (.bool true) args=true:=
 postW_of (r:=l.row.toRowW) (X:=(true == true))
  (show WShape.has [] (.bool true) .bool=true by first | rfl | decide | simp[WShape.has,WShape.arms,WShape.armsAll])
  (show (WTm.eq .res (.lit (.bool true))).value [] { args:=args,res:=some (.bool true),after:=args }=some (.bool (true == true)) from w_eq_bool (w_res rfl) w_lit) rfl
theorem attach_call {l:OpenLaw}{n:Nat}{q:Program}{loose:List Str}{XP:(Str→Option Value)→Heap→Prop}{YP:World→Heap→Prop}{d:DefRec}
  (hn:l.most=some n) (hdf:d.params.defaults=[])
  (call:∀ (w:World) (s₀ s₁:Shared) (mg mb:Str→Option Value) (fa:Addr) (o:Obj) (pm cd doc:Value) (a:Addr) (vs:List Value) (ns:List Int),
   Ground q loose [] XP w s₀ mg mb s₁.heap→YP w s₁.heap→
   s₁.heap.get? fa=some o→o.data=.func (docDef d.name d.params d.body d.scope pm cd doc)→s₁.heap.CodeRec cd d.name→mg d.name=some (.ref fa)→
   s₁.heap.get? a=some { cls:=.type "list",data:=.seq vs.toArray }→IntsAre vs ns→ns.length≤n→s₁.gens=#[]→
   codeAny (model l.prog w) callerA (.call (.ref fa) ⟨[.ref a],[]⟩) (fun r s'=>r=.ok (.ret (.bool true))∧OldK s₁.heap s'.heap∧s'.os=s₁.os∧AllBare s'.gens) s₁):
  WalkO q loose XP YP l.row.toRowW d [] (fun f vs=>PySem.call f vs):=by
 intro w s₀ s₁ mg mb G Y fa o pm cd doc dV kV ho hd hcd hD hmg hg args vals as hpre hlay hrd hwl hlo
 obtain rfl:dV=.none:=Dflts.none hD hdf
 obtain rfl:kV=.none:=Dflts.noKw hD
 obtain⟨a,vs,ns,rfl,rfl,hobj,hints,hlen⟩:=u8 hn hpre hwl
 refine enter_call (codeAny_mono (call w s₀ s₁ mg mb fa o pm cd doc a vs ns G Y ho (fd_plain hd) hcd hmg hobj hints hlen hg) fun r s' hq=>?_)
 obtain⟨rfl,h2,h3,h4⟩:=hq
 exact⟨.inl ⟨.bool true,.bool true,[],rfl,fun _=>rfl,.bool true,u9 l _,fun _=>⟨List.Pairwise.nil,fun _ hm=>(nomatch hm)⟩⟩,h2,h3,h4⟩
section
variable {prog:Program}{w:World}{A:Around}{E:Value→Shared→Prop}{s:Shared}{K:Frag}
end
end Att
namespace L2
open PySem PySem.Spec PyProof.Rows
theorem mM:∀ {vs:List Value}{ns:List Int},IntsAre vs ns→ao (ns.map V.int) vs
 | _,_,.nil=>.nil
 | _,_,.cons n t h=>.cons ⟨t,rfl⟩ (mM h)
noncomputable def iF (H:Hp):Prop:=∀ b,H b=none∨∃ o xs,H b=some (.frz o (.lst xs))
theorem vc {P:Program}{w:World}{K:PySem.W.Frag}{mg mb:Str→Option Value}{CX:CXT}{k:Nat}{fa a:Addr}{fd:FuncData}{x:Str}{sp:Sp}{s₁:Shared}{vs:List Value}{ns:List Int}
  (KX:K.In s₁.heap) (hns:s₁.heap.Ns mainGlobals mg) (hb:s₁.heap.Ns builtinsNs mb) (hbb:∀ x:Str,x ≠ "__name__" → mb x=bootBuiltins x) (hlim:s₁.heap.NoLimit) (hg:s₁.gens=#[])
  (ha:s₁.heap.get? a=some { cls:=.type "list",data:=.seq vs.toArray }) (hi:IntsAre vs ns) (hl:ns.length≤sizeLine) (hr:Room k callerA)
  (F:∀ base:Heap,K.In base→base.Ns mainGlobals mg→FnOk P w K mg base CX k fa fd [x] sp) (hbind:∀ (s:Shared) (u:Value),BindsTo s fd ⟨[u],[]⟩ [(x,u)])
  (hsp:∀ H:Hp,iF H→SqL K H a (ns.map V.int)→sp [.ref a] H (fun v _=>v=.bl true) fun _ _ _=>False)
  (hCX:∀ H e s',CX [] H s₁ (fun _ _ _=>False) e s'→False):
  codeAny (model P w) callerA (.call (.ref fa) ⟨[.ref a],[]⟩) (fun r s'=>r=.ok (.ret (.bool true))∧OldK s₁.heap s'.heap∧s'.os=s₁.os∧AllBare s'.gens) s₁:=by
 have rv:=mM hi
 have lenV:=hi.length
 -- from an abstract heap in which nothing but the script may be tracked
 have core:∀ H:Hp,iF H→SqL K H a (ns.map V.int)→HOk P w H s₁.heap→(∀ b,H b≠none→b=a)→(H a≠none→K.lookup a=none)→
   codeAny (model P w) callerA (.call (.ref fa) ⟨[.ref a],[]⟩) (fun r s'=>r=.ok (.ret (.bool true))∧OldK s₁.heap s'.heap∧s'.os=s₁.os∧AllBare s'.gens) s₁:=by
  intro H hO hS hok hA hK
  have base_of:∀ {b:Addr}{o:Obj},s₁.heap.get? b=some o→H b=none→(dF s₁.heap H).get? b=some o:=fun e n=>sd e n
  have noA:∀ {b:Addr}{o:Obj}{es:Array DictEntry}{ep:Nat},s₁.heap.get? b=some o→o.data=.dict es ep→H b=none:=fun {b o es ep} e d=>by
   cases q:H b with
   | none=>rfl
   | some u=>
    have e':b=a:=hA b (by rw[q];simp)
    subst e'
    rw[ha] at e;cases e
    have d':Data.seq vs.toArray _=Data.dict es ep:=d
    cases d'
  have nsK:∀ {b:Addr}{m:Str→Option Value},s₁.heap.Ns b m→(dF s₁.heap H).Ns b m:=fun {b m} ⟨o,es,ep,e,d,r⟩=>⟨o,es,ep,base_of e (noA e d),d,r⟩
  have hKb:K.In (dF s₁.heap H):=fun b o e=>base_of (KX b o e) (by
   cases q:H b with
   | none=>rfl
   | some u=>
    have e':b=a:=hA b (by rw[q];simp)
    subst e'
    rw[hK (by rw[q];simp)] at e;cases e)
  have hM:Mod K mg (dF s₁.heap H):=⟨hKb,nsK hns,⟨mb,nsK hb,hbb⟩,let ⟨mc,h1,h2⟩:=hlim;⟨mc,nsK h1,h2⟩⟩
  have e0:Env0 P w K mg (dF s₁.heap H) callerA [] s₁ H:=⟨rfl,hM,fun b o e=>se e,Nat.le_of_eq (r9 _ _),trivial,fun b hb=>absurd (show b∈([]:List Addr) from hb) (by simp),hok,.of_eq hg⟩
  refine codeAny_mono ((F _ hKb (nsK hns)).run callerA [] s₁ H ⟨[.ref a],[]⟩ [.ref a] [.ref a] _ _ hr e0 (hbind s₁ (.ref a)) (.cons rfl .nil) (hsp H hO hS)) fun r s' h=>?_
  cases r with
  | error e=>exact (hCX H e s' h).elim
  | ok fl=>
   cases fl with
   | next=>exact False.elim h
   | brk=>exact False.elim h
   | cont=>exact False.elim h
   | ret u=>
    obtain⟨v,H',os,bare,un,hok',r',q⟩:=h
    have q':v=.bl true:=q
    subst q'
    obtain rfl:u=Value.bool true:=r'
    refine⟨rfl,OldK.of_keep fun b o e=>?_,os,bare⟩
    cases q:H b with
    | none=>exact un.keep b o e q (by intro z;exact absurd (show b∈([]:List Addr) from z) (by simp)) (by simp)
    | some u=>
     rcases hO b with z | ⟨ob,xs,z⟩
     ·rw[q] at z;cases z
     ·have z2:=un.frzs b ob _ z
      obtain⟨e1,_⟩:=hok b _ z
      obtain⟨e2,_⟩:=hok' b _ z2
      rw[e] at e1;cases e1
      exact e2
 cases hk:K.lookup a with
 | some o=>
  -- the script is one of the module's own objects
  have e:=KX a o hk
  rw[ha] at e
  cases e
  refine core (fun _=>none) (fun _=>.inl rfl) (.inr ⟨_,vs.toArray,_,hk,rfl,rfl,rfl,by rw[List.size_toArray,lenV];exact hl,by simpa using rv⟩) (fun b u z=>by have z':(none:Option HO)=some u:=z;cases z') (fun b z=>absurd rfl z) fun z=>absurd rfl z
 | none=>
  refine core (fun b=>if b=a then some (.frz { cls:=.type "list",data:=.seq vs.toArray } (.lst (ns.map V.int))) else none) (fun b=>?_) (.inl (.inr ⟨{ cls:=.type "list",data:=.seq vs.toArray },if_pos rfl⟩)) (fun b u z=>?_) (fun b z=>?_) fun _=>hk
  ·by_cases hb:b=a
   ·exact .inr ⟨_,_,if_pos hb⟩
   ·exact .inl (if_neg hb)
  ·by_cases hb:b=a
   ·have z':=(if_pos hb).symm.trans z
    cases z'
    subst hb
    exact⟨ha,by rw[List.length_map];exact hl,vs,_,rv,ha⟩
   ·have z':=(if_neg hb).symm.trans z
    cases z'
  ·by_cases hb:b=a
   ·exact hb
   ·exact absurd (if_neg hb) z
theorem vd {l:PySem.W.OpenLaw}{n k:Nat}{q:Program}{loose:List Str}{XP:(Str→Option Value)→Heap→Prop}{YP:World→Heap→Prop}{d:DefRec}{K:Params→PySem.W.Frag}{CX:World→CXT}{sp:World→Sp}{x:Str}
  (hn:l.most=some n) (hn2:n≤sizeLine) (hdf:d.params.defaults=[]) (hr:Room k callerA)
  (hY:∀ (w:World) (h:Heap),YP w h→(K w.params).In h)
  (F:∀ (w:World) (mg:Str→Option Value) (fa:Addr) (h:Heap),(K w.params).In h→h.Ns mainGlobals mg→mg d.name=some (.ref fa)→
   ∃ fd:FuncData,(∀ (s:Shared) (u:Value),BindsTo s fd ⟨[u],[]⟩ [(x,u)])∧
    ∀ base:Heap,(K w.params).In base→base.Ns mainGlobals mg→FnOk l.prog w (K w.params) mg base (CX w) k fa fd [x] (sp w))
  (hsp:∀ (w:World) (H:Hp) (a:Addr) (ns:List Int),ns.length≤n→iF H→SqL (K w.params) H a (ns.map V.int)→sp w [.ref a] H (fun v _=>v=.bl true) fun _ _ _=>False)
  (hCX:∀ (w:World) (H:Hp) (s:Shared) (e:Value) (s':Shared),CX w [] H s (fun _ _ _=>False) e s'→False):
  PySem.W.WalkO q loose XP YP l.row.toRowW d [] (fun f vs=>PySem.call f vs):=by
 refine Att.attach_call hn hdf fun w s₀ s₁ mg mb fa o pm cd doc a vs ns G Y ho hd hcd hmg hobj hints hlen hg=>?_
 have KX:=hY w _ Y
 obtain⟨fd,hb,hF⟩:=F w mg fa _ KX G.T.g hmg
 exact vc KX G.T.g G.T.b G.T.builtins G.T.nolimit hg hobj hints (Nat.le_trans hlen hn2) hr hF hb (fun H hO hS=>hsp w H a ns hlen hO hS) fun H e s'=>hCX w H s₁ e s'
noncomputable def bD (s:Stmt):Arguments:=match s with
 | .FunctionDef _ a _ _ _ _ _ _ _ _=>a
 | _=>{ posonlyargs:=[],args:=[],vararg:=none,kwonlyargs:=[],kw_defaults:=[],kwarg:=none,defaults:=[] }
noncomputable def bx (s:Stmt):List Stmt:=match s with
 | .FunctionDef _ _ b _ _ _ _ _ _ _=>b
 | _=>[]
noncomputable def aD (s:Stmt):Scope:=match s with
 | .FunctionDef _ _ _ _ _ _ sc _ _ _=>sc
 | _=>{ kind:=.function,names:=[],isGenerator:=false,isCoroutine:=false }
noncomputable abbrev CX0:CXT:=fun _ _ _ _ _ _=>False
noncomputable abbrev E0:XK:=fun _ _ _=>False
theorem ve {X:Cx}:jC CX0 X E0:=fun _ _ _ _ _ _ _ h=>h.elim
structure Fun (K:PySem.W.Frag) (x qual:Str) (st:Stmt) (f:Addr) (fd:FuncData):Prop where
 ex:∃ (oc:Value) (od:Option Addr) (kV doc pm:Value) (an:Option Addr) (cdv ct:Value) (osl:Array (Option Value)),
  fd=PySem.W.fnOf x qual (bD st) (bx st) (aD st) .none kV doc pm an cdv ct∧K.lookup f=some ⟨oc,od,.func fd,osl⟩∧PySem.W.codeIn K cdv qual=true
 kp:PySem.W.keepIn K (.ref f)=true
section
variable {P:Program}{w:World}{K:PySem.W.Frag}{mg:Str→Option Value}{base:Heap}
theorem Fun.ok {x qual:Str}{st:Stmt}{f:Addr}{fd:FuncData}{N ps:List Str}{k:Nat}{sp:Sp} (F:Fun K x qual st f fd) (S:FnScope N ps (aD st)) (len:∀ vs H Q E,sp vs H Q E→vs.length=ps.length)
  (hbody:∀ (cdv:Value) (A:Around) (outer:List Env) (s:Shared) (H:Hp) (vs:List V) (Q:VK) (E:XK),Room k (A.deeper (envOfC qual (aD st) s.heap.objs.size f cdv))→sp vs H Q E→
   ∃ t,PSs (eO CX0 P w K mg base N qual (aD st) f cdv A outer s H E).nox (bx st) t∧t { nx:=fun _ H'=>Q .non H',rt:=Q } (dj N vs) H):FnOk P w K mg base CX0 (k+1) f fd ps sp:=by
 obtain⟨oc,od,kV,doc,pm,an,cdv,ct,osl,rfl,lk,hcd⟩:=F.ex
 refine uk lk hcd S len fun A outer s H vs Q E hr hsp=>?_
 obtain⟨t,h,q⟩:=hbody cdv A outer s H vs Q E hr hsp
 exact⟨t,h.nox,q⟩
theorem Fun.binds {x qual:Str}{st:Stmt}{f:Addr}{fd:FuncData}{ps:List Str} (F:Fun K x qual st f fd)
  (h:∀ (kV doc pm:Value) (an:Option Addr) (cdv ct:Value) (us:List Value),us.length=ps.length→bindArgs (PySem.W.fnOf x qual (bD st) (bx st) (aD st) .none kV doc pm an cdv ct) ⟨us,[]⟩=pure (ps.zip us)):br K fd ps []:=by
 obtain⟨oc,od,kV,doc,pm,an,cdv,ct,osl,rfl,lk,hcd⟩:=F.ex
 exact .all (h kV doc pm an cdv ct)
theorem cf {x qual:Str}{st:Stmt}{f:Addr}{oc:Value}{od an:Option Addr}{osl:Array (Option Value)}{kV doc pm cdv ct:Value} (l:K.lookup f=some ⟨oc,od,.func (PySem.W.fnOf x qual (bD st) (bx st) (aD st) .none kV doc pm an cdv ct),osl⟩)
  (c:PySem.W.codeIn K cdv qual=true) (k:PySem.W.keepIn K (.ref f)=true):Fun K x qual st f (PySem.W.fnOf x qual (bD st) (bx st) (aD st) .none kV doc pm an cdv ct):=⟨⟨oc,od,kV,doc,pm,an,cdv,ct,osl,rfl,l,c⟩,k⟩
end
section
variable {X:Cx}
theorem pv (i:Nat) {x:Str}{pos:Pos} (hN:X.N[i]?=some x:=by rfl) (hv:Vis X.env.scope x:=by first | exact Or.inl rfl | exact Or.inr (Or.inl rfl) | exact Or.inr (Or.inr rfl)) (hd:(x == ("__debug__" : Str))=false:=by decide)
  (hcd:(x == ("__classdict__" : Str))=false:=by decide):PE X (.Name x pos) (fU i):=sn hN hv hd hcd
end
noncomputable def aH (H H':Hp):Prop:=∀ b o,H b=some o→H' b=some o
theorem aH.refl (H:Hp):aH H H:=fun _ _ h=>h
end L2
namespace L2
section
variable {X:Cx}
theorem vf:bg X (.builtin "len") (fun xs H Q=>∃ a kvs,xs=[V.ref a]∧H a=some (.dK kvs)∧Q (.int kvs.length) H):=by
 intro pins s σ H xs us Q I r h
 obtain⟨a,kvs,rfl,ha,q⟩:=h
 obtain⟨u,rfl,ru⟩:=cP r
 cases ru
 exact u5 I (.inl ha) fun t s' I'=>⟨.int kvs.length,H,I',⟨t,rfl⟩,q⟩
end
section
variable {κ:Type} [DecidableEq κ]
end
end L2
namespace L2
open PySem PySem.Spec PyProof.Rows
theorem vg {prog:Program}{w:World}{A:Around}{R:Result→Shared→Prop}{s:Shared}{elt target iter:Expr}{ifs:List Expr}{scope:Scope}{pos:Pos}{it acc:Value}{env:Env} (I:Nat→Shared→Prop)
  (turn:∀ n s,I n s→wpAny (model prog w) A (pyNext it) (fun r s₁=>match r with
   | none=>R (.ok .next) s₁
   | some v=>wpAny (model prog w) A (letOwnedTupleGo target it v) (fun _ s₁=>wpAny (model prog w) A (assign target env v) (fun _ s₂=>
     wpAny (model prog w) A (forIn ifs true fun c r=>if r=true then do let ok ← isTrue c env (eval c env);pure (ForInStep.yield ok) else pure (ForInStep.yield r)) (fun ok s₃=>
      if ok=true then wpAny (model prog w) A (eval elt env) (fun x s₄=>
       wpAny (model prog w) A (call (.builtin "list.append") [acc,x]) (fun _ s₅=>∃ m,m<n∧I m s₅) (fun _ _=>False) s₄) (fun _ _=>False) s₃
      else ∃ m,m<n∧I m s₃) (fun _ _=>False) s₂) (fun _ _=>False) s₁) (fun _ _=>False) s₁) (fun _ _=>False) s)
  (n:Nat) (h:I n s):
  codeAny (model prog w) A (.compLoop (.ListComp elt [⟨target,iter,ifs,0⟩] scope pos) 0 it acc env) R s:=by
 refine codeAny_loop rfl I (fun n s hI=>?_) n h
 show wpAny _ A ((compTurn (.ListComp elt [⟨target,iter,ifs,0⟩] scope pos) 0 it acc env).onRaise (fun x=>do noteFrame x env;theTreesLotGoes x)) _ _ s
 refine wpAny_noted ?_
 rw[compTurn_list]
 refine wpAny_bind (wpAny_standAt (wpAny_bind (wpAny_mono (turn n s hI) (fun r s₁ h₁=>?_) fun _ _ h'=>h'.elim)))
 cases r with
 | none=>exact wpAny_pure h₁
 | some v=>
  refine wpAny_bind (wpAny_mono h₁ (fun _ s₁ h₁=>?_) fun _ _ h'=>h'.elim)
  refine wpAny_bind (wpAny_mono h₁ (fun _ s₂ h₂=>wpAny_bind (wpAny_mono h₂ (fun ok s₃ h₃=>?_) fun _ _ h'=>h'.elim)) fun _ _ h'=>h'.elim)
  cases ok with
  | false=>exact wpAny_pure ⟨rfl,h₃⟩
  | true=>
   exact wpAny_bind (wpAny_bind (wpAny_mono h₃ (fun x s₄ h₄=>wpAny_bind (wpAny_mono h₄ (fun _ s₅ h₅=>wpAny_pure (wpAny_pure ⟨rfl,h₅⟩)) fun _ _ h'=>h'.elim)) fun _ _ h'=>h'.elim))
noncomputable def eR (env:Env) (names:List (Str×NameKind)):List (Str×Addr):=names.foldl (fun cs y=>if y.2 == .free then (y.1,(env.cells.lookup y.1).getD 0)::cs else cs) []
theorem jH {env:Env}:∀ (names:List (Str×NameKind)) (cs:List (Str×Addr)),(∀ y∈names,y.2=.free→∃ c,env.cells.lookup y.1=some c)→
  (forIn names cs fun (y:Str×NameKind) cs=>if y.2 == .free then (do let c ← cellOf env y.1;pure (ForInStep.yield ((y.1,c)::cs))) else pure (ForInStep.yield cs):Sem _)=
   pure (names.foldl (fun cs y=>if y.2 == .free then (y.1,(env.cells.lookup y.1).getD 0)::cs else cs) cs)
 | [],cs,_=>rfl
 | y::r,cs,h=>by
  rw[List.forIn_cons,List.foldl_cons]
  by_cases hy:y.2=.free
  ·obtain⟨c,hc⟩:=h y List.mem_cons_self hy
   have e:(y.2 == NameKind.free)=true:=by simp[hy]
   rw[if_pos e,if_pos e]
   have ec:cellOf env y.1=pure c:=by unfold cellOf;rw[hc]
   rw[ec,hc]
   show (forIn r ((y.1,c)::cs) _:Sem _)=_
   exact jH r _ fun z hz=>h z (List.mem_cons_of_mem _ hz)
  ·have e:¬ (y.2 == NameKind.free)=true:=by simp[hy]
   rw[if_neg e,if_neg e]
   show (forIn r cs _:Sem _)=_
   exact jH r _ fun z hz=>h z (List.mem_cons_of_mem _ hz)
theorem vh {env:Env}{scope:Scope} (h:∀ y∈scope.names,y.2=.free→∃ c,env.cells.lookup y.1=some c):closureFor scope env=pure (eR env scope.names):=by
 have:=jH (env:=env) scope.names [] h
 unfold closureFor
 dsimp only
 have e:(forIn scope.names ([]:List (Str×Addr)) (fun (x:Str×NameKind) (r:List (Str×Addr))=>(if x.2 == .free then (do let c ← cellOf env x.1;pure (ForInStep.yield ((x.1,c)::r))) else pure (ForInStep.yield r):Sem (ForInStep (List (Str×Addr))))))=pure (eR env scope.names):=this
 rw[e]
 rfl
theorem mN {env:Env}:∀ (names:List (Str×NameKind)) (cs:List (Str×Addr)) (x:Str) (c:Addr),
  (names.foldl (fun cs y=>if y.2 == .free then (y.1,(env.cells.lookup y.1).getD 0)::cs else cs) cs).lookup x=some c→
  (c=(env.cells.lookup x).getD 0∧(x,NameKind.free)∈names)∨cs.lookup x=some c
 | [],cs,x,c,h=>.inr h
 | y::r,cs,x,c,h=>by
  rw[List.foldl_cons] at h
  rcases mN r _ x c h with ⟨e,m⟩ | h
  ·exact .inl ⟨e,List.mem_cons_of_mem _ m⟩
  ·by_cases hy:y.2=.free
   ·rw[if_pos (by simp[hy])] at h
    rw[List.lookup_cons] at h
    by_cases hx:x=y.1
    ·subst hx
     rw[beq_self_eq_true] at h
     refine .inl ⟨(Option.some.inj h).symm,?_⟩
     rw[← hy]
     exact List.mem_cons_self
    ·have:(x == y.1)=false:=by simpa using hx
     rw[this] at h
     exact .inr h
   ·rw[if_neg (by simp[hy])] at h
    exact .inr h
theorem jI {env:Env}:∀ (names:List (Str×NameKind)) (cs:List (Str×Addr)) (x:Str),(x,NameKind.free)∈names∨(∃ c,cs.lookup x=some c)→
  ∃ c,(names.foldl (fun cs y=>if y.2 == .free then (y.1,(env.cells.lookup y.1).getD 0)::cs else cs) cs).lookup x=some c
 | [],cs,x,h=>by
  rcases h with h | h
  ·cases h
  ·exact h
 | y::r,cs,x,h=>by
  rw[List.foldl_cons]
  apply jI r _ x
  rcases h with h | ⟨c,h⟩
  ·rcases List.mem_cons.mp h with e | h
   ·right
    subst e
    rw[if_pos (by rfl),List.lookup_cons,beq_self_eq_true]
    exact⟨_,rfl⟩
   ·exact .inl h
  ·right
   by_cases hy:(y.2 == NameKind.free)=true
   ·rw[if_pos hy,List.lookup_cons]
    cases x == y.1
    ·exact⟨c,h⟩
    ·exact⟨_,rfl⟩
   ·rw[if_neg hy]
    exact⟨c,h⟩
structure Blk where
 C:Addr
 s:Shared
 H:Hp
 fp:List Addr
noncomputable def Cx.blk (X : Cx) (N' : List Str) (scope : Scope) (Y : Blk) : Cx :=
  { prog := X.prog, w := X.w, K := X.K, mg := X.mg, base := X.base, A := X.A, N := N', s₀ := Y.s, H₀ := Y.H, env := compEnvC scope (eR X.env scope.names) Y.C X.env, outer := X.stack, stack := X.stack,
    ex := Y.fp, fn := fun _ => false, calm := X.calm, pn := [], xe := fun _ _ => False }
theorem jJ {env:Env}:∀ {names:List (Str×NameKind)}{x:Str}{k:NameKind},
  (names.map fun (n,k)=>if (k == NameKind.free && env.scope.kind == .function && env.kindOf n == some .cell) then (n,NameKind.cell) else (n,k)).lookup x=some k→
  (k=.cell∨k=.free)→(∀ y∈names,y.2≠.cell)→(x,NameKind.free)∈names
 | [],x,k,h,_,_=>by simp at h
 | (n,k')::r,x,k,h,hk,hc=>by
  rw[List.map_cons] at h
  dsimp only at h
  by_cases hx:x=n
  ·subst hx
   by_cases hf:(k' == NameKind.free && env.scope.kind == .function && env.kindOf x == some .cell)=true
   ·have:k'=NameKind.free:=by
     simp only[Bool.and_eq_true] at hf
     exact by simpa using hf.1.1
    subst this
    exact List.mem_cons_self
   ·simp only[hf] at h
    have e:k'=k:=by simpa [List.lookup_cons] using h
    subst e
    rcases hk with hk | hk
    ·exact absurd hk (hc (x,k') List.mem_cons_self)
    ·rw[hk]
     exact List.mem_cons_self
  ·have hb:(x == n)=false:=by simpa using hx
   have h':(r.map fun (n,k)=>if (k == NameKind.free && env.scope.kind == .function && env.kindOf n == some .cell) then (n,NameKind.cell) else (n,k)).lookup x=some k:=by
    by_cases hf:(k' == NameKind.free && env.scope.kind == .function && env.kindOf n == some .cell)=true
    ·rw[if_pos hf,List.lookup_cons,hb] at h
     exact h
    ·rw[if_neg hf,List.lookup_cons,hb] at h
     exact h
   exact List.mem_cons_of_mem _ (jJ h' hk fun y hy=>hc y (List.mem_cons_of_mem _ hy))
section
variable {X:Cx}
structure CompScope (X:Cx) (scope:Scope) (own:List Str) (caps:List Nat):Prop where
 kind:scope.kind=.function
 cell:∀ y∈scope.names,y.2≠.cell
 free:∀ y∈scope.names,y.2=.free→X.env.scope.names.lookup y.1=some .cell
 loc:∀ y∈scope.names,y.2=.local→scope.names.lookup y.1=some .local
 capF:∀ i∈caps,∃ x,X.N[i]?=some x∧(x,NameKind.free)∈scope.names∧scope.names.lookup x=some .free
noncomputable def bH (X:Cx) (own:List Str) (caps:List Nat):List Str:=own++caps.map fun i=>X.N.getD i ""
noncomputable def da (own:List Str) (caps:List Nat) (σ:St):St:=own.map (fun _=>none)++caps.map fun i=>σ.getD i none
theorem CompScope.cells {scope:Scope}{own:List Str}{caps:List Nat} (S:CompScope X scope own caps) (ok:X.Ok):∀ y∈scope.names,y.2=.free→∃ c,X.env.cells.lookup y.1=some c:=
 fun y hy hf=>ok.has y.1 (.inl (S.free y hy hf))
theorem CompScope.sub {scope:Scope}{own:List Str}{caps:List Nat} (S:CompScope X scope own caps) (ok:X.Ok) {x:Str}{c:Addr} (h:(eR X.env scope.names).lookup x=some c):X.env.cells.lookup x=some c∧(x,NameKind.free)∈scope.names:=by
 rcases mN scope.names [] x c h with ⟨e,m⟩ | h
 ·obtain⟨c',e'⟩:=S.cells ok (x,.free) m rfl
  rw[show (List.lookup x X.env.cells)=some c' from e'] at e
  refine⟨?_,m⟩
  rw[e]
  exact e'
 ·simp at h
theorem mO {scope:Scope}{own:List Str}{caps:List Nat}{pins:List (Addr×Obj)}{σ:St}{H:Hp}{s:Shared}{C:Addr}{fp:List Addr} (S:CompScope X scope own caps) (I:Inv X pins σ H s) (hC:s.heap.objs.size≤C)
  (hf:∀ b∈fp,dG X pins H b) (hlt:∀ b∈fp,b<s.heap.objs.size):(X.blk (bH X own caps) scope ⟨C,s,H,fp⟩).Ok where
 mod:=I.ok.mod
 kind:=S.kind
 glob:=I.ok.glob
 blt:=I.ok.blt
 above:=hC
 inj:=fun x y c h1 h2=>I.ok.inj x y c (S.sub I.ok h1).1 (S.sub I.ok h2).1
 has:=fun x hx=>by
  have m:(x,NameKind.free)∈scope.names:=by
   rcases hx with hx | hx
   ·exact jJ hx (.inl rfl) S.cell
   ·exact jJ hx (.inr rfl) S.cell
  exact jI scope.names [] x (.inl m)
 cab:=fun x c h _=>nomatch h
 hd:=I.ok.hd
 frames:=I.ok.frames
 stk:=.inl rfl
 exf:=fun b hb=>⟨Nat.ne_of_lt (Nat.lt_of_lt_of_le (hlt b hb) hC),fun x c h=>(hf b hb).2.2.2.2.1 x c (S.sub I.ok h).1⟩
 bs:=I.bs
 bsz:=Nat.le_trans I.ok.bsz I.sz
 noex:=fun b o e hb=>by
  rcases (hf b hb).2.2.2.1 with z | z
  ·exact I.ok.noex b o e z
  ·exact absurd (Nat.lt_of_lt_of_le (Heap.lt_size e) (Nat.le_trans I.ok.bsz z)) (Nat.lt_irrefl _)
 exfs:=fun b hb z=>by
  rcases List.mem_cons.mp (I.stkSub b z) with e | e
  ·exact (hf b hb).2.1 e
  ·exact (hf b hb).2.2.1 e
 funs:=I.stack
 frf:=I.stkFree
theorem vj {scope:Scope}{own:List Str}{caps:List Nat}{pins:List (Addr×Obj)}{σ:St}{H:Hp}{s:Shared}{C:Addr}{fp:List Addr}{h1:Heap}{tk:Nat}{m:Str→Option Value} (S:CompScope X scope own caps) (I:Inv X pins σ H s)
  (hC:s.heap.objs.size≤C) (hf:∀ b∈fp,dG X pins H b) (hlt:∀ b∈fp,b<s.heap.objs.size) (old:∀ b o,s.heap.get? b=some o→h1.get? b=some o) (hn:h1.Ns C m):
  Inv (X.blk (bH X own caps) scope ⟨C,s,H,fp⟩) [] (da own caps σ) H { s with heap:=h1,toks:=tk } where
 ok:=mO S I hC hf hlt
 os:=rfl
 bare:=I.bare
 base:=Un.kept old
 loc:=by
  obtain⟨m0,hn0,hl0⟩:=I.loc
  refine⟨m,hn,fun j x v e1 e2 hv=>?_⟩
  have e1:(own++caps.map fun i=>X.N.getD i "")[j]?=some x:=e1
  have e2:(own.map (fun _=>(none:Option V))++caps.map fun i=>σ.getD i none)[j]?=some (some v):=e2
  by_cases hj:j<own.length
  ·rw[List.getElem?_append_left (by rw[List.length_map];exact hj),List.getElem?_map] at e2
   cases q:own[j]? with
   | none=>rw[q] at e2;cases e2
   | some z=>rw[q] at e2;cases e2
  ·rw[List.getElem?_append_right (by lia),List.getElem?_map] at e1
   rw[List.getElem?_append_right (by rw[List.length_map];lia),List.getElem?_map,List.length_map] at e2
   cases q:caps[j - own.length]? with
   | none=>rw[q] at e1;cases e1
   | some i=>
    rw[q] at e1 e2
    have e1:X.N.getD i "" = x:=Option.some.inj e1
    have e2:σ.getD i none=some v:=Option.some.inj e2
    obtain⟨x',hx',hm,hlk⟩:=S.capF i (List.mem_of_getElem? q)
    have ex:x'=x:=by
     rw[← e1,List.getD_eq_getElem?_getD,hx']
     rfl
    subst ex
    have hs:σ[i]?=some (some v):=by
     rw[List.getD_eq_getElem?_getD] at e2
     cases q2:σ[i]? with
     | none=>rw[q2] at e2;cases e2
     | some z=>rw[q2] at e2;rw[show z=some v from e2]
    have hcel:=S.free (x',.free) hm rfl
    obtain⟨u,r,lk⟩:=hl0 i x' v hx' hs (.inr (.inl hcel))
    refine⟨u,r,.inr ⟨?_,?_⟩⟩
    ·rcases hv with hv | hv | hv
     ·-- local in the block: it is free
      exfalso
      have:∀ {names:List (Str×NameKind)},names.lookup x'=some .free→(names.map fun (n,k)=>if (k == NameKind.free && X.env.scope.kind == .function && X.env.kindOf n == some .cell) then (n,NameKind.cell) else (n,k)).lookup x'≠some .local:=by
       intro names
       induction names with
       | nil=>intro h;simp at h
       | cons y r ih=>
        obtain⟨n,k⟩:=y
        intro h
        rw[List.map_cons]
        dsimp only
        by_cases hx:x'=n
        ·subst hx
         have ek:k=.free:=by simpa [List.lookup_cons] using h
         subst ek
         by_cases hq:(NameKind.free == NameKind.free && X.env.scope.kind == ScopeKind.function && X.env.kindOf x' == some NameKind.cell)=true
         ·rw[if_pos hq];simp[List.lookup_cons]
         ·rw[if_neg hq];simp[List.lookup_cons]
        ·have hb:(x' == n)=false:=by simpa using hx
         rw[List.lookup_cons,hb] at h
         by_cases hq:(k == NameKind.free && X.env.scope.kind == ScopeKind.function && X.env.kindOf n == some NameKind.cell)=true
         ·rw[if_pos hq,List.lookup_cons,hb];exact ih h
         ·rw[if_neg hq,List.lookup_cons,hb];exact ih h
      exact this hlk hv
     ·exact .inl hv
     ·exact .inr hv
    ·rcases lk with ⟨hk,_⟩ | ⟨_,c,hc,hcell⟩
     ·exact absurd (hk.symm.trans hcel) (by simp)
     ·obtain⟨c',hc'⟩:=jI (env:=X.env) scope.names [] x' (.inl hm)
      have:=(S.sub I.ok hc').1
      rw[hc] at this
      cases this
      obtain⟨o,ho,hd⟩:=hcell
      exact⟨c,hc',o,old _ _ ho,hd⟩
 cell:=fun x c h=>by
  obtain⟨v,o,ho,hd⟩:=I.cell x c (S.sub I.ok h).1
  exact⟨v,o,old _ _ ho,hd⟩
 free:=I.hok.fresh hC
 freeC:=fun x c h=>I.freeC x c (S.sub I.ok h).1
 pin:=fun p hp=>nomatch hp
 hok:=I.hok.kept old
 len:=by simp[da,bH,Cx.blk]
end
section
variable {X:Cx}
noncomputable def PTs (X:Cx) (ifs:List Expr) (t:TT):Prop:=
 ∀ (pins:List (Addr×Obj)) (s:Shared) (σ:St) (H:Hp) (Q:Bool→Hp→Prop),Inv X pins σ H s→t σ H Q→
  wpAny (model X.prog X.w) X.A (forIn ifs true fun c r=>if r=true then do let ok ← isTrue c X.env (eval c X.env);pure (ForInStep.yield ok) else pure (ForInStep.yield r)) (TP X pins σ Q) X.xe s
noncomputable def tYes:TT:=fun _ H Q=>Q true H
theorem vk:PTs X [] tYes:=fun pins s σ H Q I h=>wpAny_tests_nil ⟨H,I,h⟩
theorem vn {c:Expr}{t:TT} (h:PT X c t):PTs X [c] t:=fun pins s σ H Q I hw=>wpAny_tests_one (h pins s σ H Q I hw)
noncomputable def vo (own:List Str) (caps:List Nat) (g:TG) (tt:TT) (te:TE) (σ:St) (N:List V→Hp→Prop) (ys:List V) (x:V) (H':Hp):Prop:=
 g x (da own caps σ) H' fun σ2 H2=>(∀ (j:Nat) (v:V),(da own caps σ)[j]?=some (some v)→σ2[j]?=some (some v))∧tt σ2 H2 fun b H3=>if b=true then te σ2 H3 fun v H4=>ys.length<sizeLine∧N (ys++[v]) H4 else N ys H3
noncomputable def vp (J:It) (own:List Str) (caps:List Nat) (g:TG) (tt:TT) (te:TE) (σ:St) (H1:Hp) (Q:VK):Prop:=
 ∃ W:Nat→Nat→List V→Hp→Prop,(∃ m,W 0 m [] H1)∧∀ i m ys H,W i m ys H→(J.stop i H∧∀ D,H D=none→Q (.ref D) (upd H D (.lst ys)))∨
  (J.go i H∧∃ N:List V→Hp→Prop,(∀ ys' H',N ys' H'→∃ m',m'<m∧W (i+1) m' ys' H')∧∀ x H',J.yld i H x H'→vo own caps g tt te σ N ys x H')
noncomputable def iG (own:List Str) (caps:List Nat) (wi:TI) (g:Blk→TG) (tt:Blk→TT) (te:Blk→TE):TE:=fun σ H Q=>wi σ H fun J H1=>∀ Y:Blk,vp J own caps (g Y) (tt Y) (te Y) σ H1 Q
noncomputable def mP (sc:Scope) (N:List Str) (scope:Scope) (caps:List Nat):Bool:=
 scope.kind == .function && scope.names.all (fun y=>y.2 != .cell) && scope.names.all (fun y=>y.2 != .free || sc.names.lookup y.1 == some .cell) && scope.names.all (fun y=>y.2 != .local || scope.names.lookup y.1 == some .local) &&
  caps.all (fun i=>match N[i]? with | some x=>scope.names.lookup x == some .free | none=>false)
theorem mem_of_lookup:∀ {l:List (Str×NameKind)}{x:Str}{k:NameKind},l.lookup x=some k→(x,k)∈l
 | [],_,_,h=>by simp at h
 | (n,k')::r,x,k,h=>by
  rw[List.lookup_cons] at h
  by_cases hx:x=n
  ·subst hx
   rw[beq_self_eq_true] at h
   cases h
   exact List.mem_cons_self
  ·rw[show (x == n)=false by simpa using hx] at h
   exact List.mem_cons_of_mem _ (mem_of_lookup h)
theorem d4 {X:Cx}{scope:Scope}{own:List Str}{caps:List Nat} (sc:Scope) (N:List Str) (h:mP sc N scope caps=true) (e:X.env.scope=sc:=by rfl) (eN:X.N=N:=by rfl):CompScope X scope own caps:=by
 unfold mP at h
 simp only[Bool.and_eq_true,List.all_eq_true,bne_iff_ne,ne_eq,Bool.or_eq_true,beq_iff_eq] at h
 obtain⟨⟨⟨⟨h1,h2⟩,h3⟩,h4⟩,h5⟩:=h
 refine⟨h1,h2,fun y hy hf=>?_,fun y hy hf=>?_,fun i hi=>?_⟩
 ·rw[e]
  exact (h3 y hy).resolve_left fun z=>z hf
 ·exact (h4 y hy).resolve_left fun z=>z hf
 ·have:=h5 i hi
  rw[eN]
  cases q:N[i]? with
  | none=>rw[q] at this;cases this
  | some x=>
   rw[q] at this
   have hl:scope.names.lookup x=some .free:=by simpa using this
   exact⟨x,rfl,mem_of_lookup hl,hl⟩
theorem mQ {tg iter elt:Expr}{ifs:List Expr}{scope:Scope}{pos p2:Pos}{own:List Str}{caps:List Nat}{wi:TI}{g:Blk→TG}{tt:Blk→TT}{te:Blk→TE}{use:Option (Value→Sem Unit)}{Qp:Value→Shared→Prop}{Qv:VK}{pins:List (Addr×Obj)}{s:Shared}{σ:St}{H:Hp}
  (hc:X.calm=true) (S:CompScope X scope own caps) (hi:PI X tg iter wi)
  (hg:∀ Y,PG (X.blk (bH X own caps) scope Y) tg (g Y)) (ht:∀ Y,PTs (X.blk (bH X own caps) scope Y) ifs (tt Y)) (he:∀ Y,PE (X.blk (bH X own caps) scope Y) elt (te Y))
  (hs:∀ x,foldedSetIterable iter X.env x=pure x) (I:Inv X pins σ H s) (h:iG own caps wi g tt te σ H Qv)
  (hend:∀ (D C:Addr) (H4:Hp) (s4:Shared) (m:Str→Option Value),Inv X pins σ H4 s4→s4.heap.Ns C m→H4 C=none→X.env.locals≠C→(∀ x c,X.env.cells.lookup x=some c→c≠C)→X.s₀.heap.objs.size≤C→(∀ p∈X.pn++pins,p.1≠C)→Qv (.ref D) H4→compPost (model X.prog X.w) X.A X.xe use Qp (.ref D) C (.ok .next) s4):
  wpAny (model X.prog X.w) X.A (comprehension (.ListComp elt [⟨tg,iter,ifs,0⟩] scope pos) scope X.env p2 (newList []) false (eval iter X.env) use) Qp X.xe s:=by
 refine wpAny_comprehension_free (use:=use) rfl hs (vh (S.cells I.ok)) S.kind S.loc (thn (hi pins s σ H _ I h) fun v s1 h1=>thn h1 fun itv s2 h2=>?_)
 obtain⟨it,fp,tn,J,H2,e,I2,T,st2,f2,hW⟩:=h2
 subst e
 have hlt:∀ b∈fp,b<s2.heap.objs.size:=fun b hb=>by
  obtain⟨o,e,_⟩:=T.obj _ _ st2 b hb
  exact Heap.lt_size e
 refine wpAny_newObj_type (wpAny_newFunctionEnv S.cell (by intro y hy;simp at hy) (fun h₁ hns₁ hsb₁=>?_) S.kind)
 dsimp only at hns₁ hsb₁ ⊢
 generalize hHq:s2.heap.push { cls:=.type "list",dict:=none,data:=.seq ([]:List Value).toArray }=Hq at hns₁ hsb₁ ⊢
 have hC:Hq.objs.size=s2.heap.objs.size+1:=by rw[← hHq,Heap.size_push]
 have hDC:s2.heap.objs.size≠Hq.objs.size:=by rw[hC];exact Nat.ne_of_lt (Nat.lt_succ_self _)
 have hCle:s2.heap.objs.size≤Hq.objs.size:=by rw[hC];exact Nat.le_succ _
 have old:∀ b o,s2.heap.get? b=some o→h₁.get? b=some o:=fun b o e=>
  hsb₁.extBut b o (by rw[hC];exact Nat.ne_of_lt (Nat.lt_succ_of_lt (Heap.lt_size e))) (Heap.get?_push_of_some _ (hHq ▸ Heap.get?_push_of_some _ e))
 have hacc:h₁.get? s2.heap.objs.size=some { cls:=.type "list",data:=.seq ([]:List Value).toArray 0 }:=hsb₁.extBut _ _ hDC (Heap.get?_push_of_some _ (hHq ▸ Heap.get?_push_size _ rfl))
 generalize hCq:Hq.objs.size=C at hns₁ hsb₁ hC hDC hCle ⊢
 generalize hDq:s2.heap.objs.size=D at hacc hC hDC hCle ⊢
 have hCs:s2.heap.objs.size≤C:=by rw[hDq];exact hCle
 obtain⟨W,⟨m0,w0⟩,turn⟩:=hW ⟨C,s2,H2,fp⟩
 have hX':=fun (tk:Nat)=>vj (tk:=tk) S I2 hCs f2 hlt old hns₁
 have hgY:=hg ⟨C,s2,H2,fp⟩
 have htY:=ht ⟨C,s2,H2,fp⟩
 have heY:=he ⟨C,s2,H2,fp⟩
 have hok':=mO S I2 hCs f2 hlt
 generalize hX'q:X.blk (bH X own caps) scope ⟨C,s2,H2,fp⟩=X' at hX' hgY htY heY hok'
 have eP:X'.prog=X.prog:=by rw[← hX'q];rfl
 have ew:X'.w=X.w:=by rw[← hX'q];rfl
 have eK:X'.K=X.K:=by rw[← hX'q];rfl
 have eA:X'.A=X.A:=by rw[← hX'q];rfl
 have ec:X'.calm=true:=by rw[← hX'q];exact hc
 have eL:X'.env.locals=C:=by rw[← hX'q];rfl
 have eex:X'.ex=fp:=by rw[← hX'q];rfl
 have es0:X'.s₀=s2:=by rw[← hX'q];rfl
 have eH0:X'.H₀=H2:=by rw[← hX'q];rfl
 have efs:X'.fs=frs X.stack:=by rw[← hX'q];rfl
 have epn:X'.pn=[]:=by rw[← hX'q];rfl
 have exe:X'.xe=fun _ _=>False:=by rw[← hX'q];rfl
 have eenv:X'.env=compEnvC scope (eR X.env scope.names) C X.env:=by rw[← hX'q];rfl
 have ecell:∀ x c,X'.env.cells.lookup x=some c→X.env.cells.lookup x=some c:=fun x c h=>(S.sub I2.ok (by rw[eenv] at h;exact h)).1
 -- a cell is no new thing
 have nD:∀ x c,X'.env.cells.lookup x=some c→c≠D:=fun x c h z=>by
  obtain⟨v,o,ho,_⟩:=I2.cell x c (ecell x c h)
  have:=Heap.lt_size ho
  rw[z,← hDq] at this
  exact Nat.lt_irrefl _ this
 have fpD:∀ b∈fp,b≠D:=fun b hb z=>by
  have:=hlt b hb
  rw[z,← hDq] at this
  exact Nat.lt_irrefl _ this
 have fsD:D∉X'.fs:=fun z=>by
  obtain⟨_,o,ho,_⟩:=hok'.funs.mem z
  rw[es0] at ho
  have:=Heap.lt_size ho
  rw[hDq] at this
  exact Nat.lt_irrefl _ this
 have fpo:∀ (H':Hp) (o:Obj),(∀ b∈fp,H' b=none)→∀ b∈fp,dG X' [(D,o)] H' b:=fun H' o hn b hb=>by
  refine⟨hn b hb,?_,?_,.inl (by rw[eex];exact hb),fun x c h=>(f2 b hb).2.2.2.2.1 x c (ecell x c h),fun p hp=>?_⟩
  ·rw[eL]
   exact Nat.ne_of_lt (Nat.lt_of_lt_of_le (hlt b hb) hCs)
  ·exact hok'.exfs b (by rw[eex];exact hb)
  ·rw[epn] at hp
   have:p=(D,o):=by simpa using hp
   rw[this]
   exact Ne.symm (fpD b hb)
 have loop:∀ s₃:Shared,s₃={ s2 with heap:=h₁,toks:=s2.toks+([]:List (Str×Value)).length }→
   codeAny (model X.prog X.w) X.A (.compLoop (.ListComp elt [⟨tg,iter,ifs,0⟩] scope pos) 0 (.ref it) (.ref D) X'.env)
    (compPost (model X.prog X.w) X.A X.xe use Qp (.ref D) C) s₃:=by
  rintro s₃ rfl
  refine vg (fun n s'=>∃ (i:Nat) (ys:List V) (H':Hp) (its:List Value) (k:Nat),Inv X' [(D,{ cls:=.type "list",data:=.seq its.toArray k })] (da own caps σ) H' s'∧ao ys its∧ys.length≤sizeLine∧tn i s'.heap∧
   (∀ b∈fp,H' b=none)∧W i n ys H') ?_ m0 ?_
  ·rintro n s3 ⟨i,ys,H3,its,k,I3,rv,hz,st3,fr3,w3⟩
   rcases turn i n ys H3 w3 with ⟨stop,qn⟩ | ⟨go,N,hN,step⟩
   ·have:=T.done X' eP ew eK ec i _ s3 _ H3 (fun _ _=>False) I3 (fpo H3 _ fr3) st3 stop
    rw[eA] at this
    refine thn this fun r s4 ⟨hr,I4⟩=>?_
    subst hr
    obtain⟨m,hn,_⟩:=I4.loc
    have hnC:s4.heap.Ns C m:=by rw[← eL];exact hn
    have hp:=I4.pin (D,{ cls:=.type "list",data:=.seq its.toArray k }) (by rw[epn];simp)
    have hD0:H3 D=none:=hp.2.1
    have kp:∀ b,b≠C→s4.heap.get? b=s4.heap.get? b:=fun b hb=>rfl
    have nC:∀ b o,s2.heap.get? b=some o→b≠C:=fun b o e=>Nat.ne_of_lt (Nat.lt_of_lt_of_le (Heap.lt_size e) hCs)
    have nDs:∀ b o,s2.heap.get? b=some o→b≠D:=fun b o e=>by rw[← hDq];exact Nat.ne_of_lt (Heap.lt_size e)
    have ub:Un (frs X.stack) fp H2 H3 s2.heap s4.heap:=by
     have:=I4.base
     rw[efs,eex,eH0,es0] at this
     exact this
    have u:Un (frs X.stack) fp H2 (upd H3 D (.lst ys)) s2.heap s4.heap:=
     ⟨fun b o e n hb hx=>(kp b (nC b o e)).trans (ub.keep b o e n hb hx),
      fun b o e n hb hx=>by
      obtain⟨sl,q⟩:=ub.slot b o e n hb hx
      exact⟨sl,(kp b (nC b o e)).trans q⟩,
      fun b o e n hx=>by rw[aY (nDs b o e)];exact ub.free b o e n hx,
      fun b o e hx=>by
      obtain⟨o',q⟩:=ub.there b o e hx
      exact⟨o',(kp b (nC b o e)).trans q⟩,
      fun b xs e=>by rw[aY (c7 (ub.tups b xs e) hD0)];exact ub.tups b xs e,
      fun b o xs e=>by rw[aY (c7 (ub.frzs b o xs e) hD0)];exact ub.frzs b o xs e,
      fun b ps e=>by
      obtain⟨more,q⟩:=ub.tbls b ps e
      exact⟨more,by rw[aY (c7 q hD0)];exact q⟩⟩
    have hokC:∀ b o,H3 b=some o→b≠C:=fun b o e z=>by
     have:=I4.free
     rw[eL,← z,e] at this
     cases this
    have hk:HOk X.prog X.w (upd H3 D (.lst ys)) s4.heap:=fun a o e=>by
     by_cases ha:a=D
     ·subst ha
      rw[cu] at e
      cases e
      exact⟨hz,its,k,rv,(kp _ hDC).trans hp.1⟩
     ·rw[aY ha] at e
      have:=I4.hok a o e
      rw[eP,ew] at this
      refine this.stay (fun b u hb q=>(kp b ?_).trans q) (fun b q=>by rw[aY (c7 q hD0)];exact q) fun b xs q=>by rw[aY (c7 q hD0)];exact q
      rcases hb with z | z
      ·rw[z];exact hokC a o e
      ·exact hokC b _ z
    have I4':Inv X pins σ (upd H3 D (.lst ys)) s4:=I2.call' (s':=s4) (ch:=fp) (by have:=I4.os;rw[es0] at this;exact this) u hk I4.bare fun b hb=>⟨(f2 b hb).2.2.2.1,(f2 b hb).2.1,(f2 b hb).2.2.2.2.1,(f2 b hb).2.2.2.2.2⟩
    have nLC:X.env.locals≠C:=by
     obtain⟨m2,hn2,_⟩:=I2.loc
     obtain⟨o,_,_,ho,_⟩:=hn2
     exact nC _ _ ho
    have nCC:∀ x c,X.env.cells.lookup x=some c→c≠C:=fun x c h=>by
     obtain⟨v,o,ho,_⟩:=I2.cell x c h
     exact nC _ _ ho
    refine hend D C _ s4 m I4' hnC ?_ nLC nCC ?_ (fun p hp=>nC _ _ (I2.pin p hp).1) (qn D hD0)
    ·rw[aY (Ne.symm hDC)]
     have:=I4.free
     rwa [eL] at this
    ·exact Nat.le_trans I2.sz hCs
   ·have:=T.item X' eP ew eK ec i _ s3 _ H3 (fun _ _=>False) I3 (fpo H3 _ fr3) st3 go
    rw[eA] at this
    refine thn this fun r s4 ⟨u,hr,h4⟩=>?_
    subst hr
    refine thn h4 fun _ s5 ⟨x,H5,I5,r5,y5,st5,fr5⟩=>?_
    have I5':=I5.pinned (fpo H5 _ fr5) (T.obj _ _ st5)
    have a6:=hgY _ s5 _ H5 x u _ I5' r5 (step x H5 y5)
    rw[eP,ew,eA,exe] at a6
    refine thn a6 fun _ s6 ⟨σ6,H6,I6,keepσ,q6⟩=>?_
    have a7:=htY _ s6 σ6 H6 _ I6 q6
    rw[eP,ew,eA,exe] at a7
    refine thn a7 fun b s7 ⟨H7,I7,q7⟩=>?_
    -- the next turn's state
    have keep2:∀ {σ':St}{H':Hp}{s':Shared},Inv X' ([(D,{ cls:=.type "list",data:=.seq its.toArray k })]++dY fp s5.heap) σ' H' s'→(∀ b∈fp,H' b=none)∧tn (i+1) s'.heap:=fun {σ' H' s'} I'=>by
     refine⟨fun b hb=>?_,T.keep _ _ _ st5 fun b hb o e=>(I'.pin (b,o) (List.mem_append_right _ (List.mem_append_right _ (iA hb e)))).1⟩
     obtain⟨o,e,_⟩:=T.obj _ _ st5 b hb
     exact (I'.pin (b,o) (List.mem_append_right _ (List.mem_append_right _ (iA hb e)))).2.1
    have wk:∀ {pins':List (Addr×Obj)}{H':Hp}{s':Shared},Inv X' pins' σ6 H' s'→Inv X' pins' (da own caps σ) H' s':=fun {pins' H' s'} I'=>
     I'.weak (by rw[I'.len,I3.len]) keepσ
    cases b with
    | false=>
     rw[if_neg Bool.false_ne_true] at q7
     obtain⟨m',hm,w7⟩:=hN _ _ q7
     rw[if_neg Bool.false_ne_true]
     obtain⟨k1,k2⟩:=keep2 I7
     exact⟨m',hm,i+1,ys,H7,its,k,wk (I7.pins_of fun p hp=>I7.pin p (by
      rw[epn]
      simp at hp ⊢
      exact .inl hp)),rv,hz,k2,k1,w7⟩
    | true=>
     rw[if_pos rfl] at q7 ⊢
     have a8:=heY _ s7 σ6 H7 _ I7 q7
     rw[eP,ew,eA,exe] at a8
     refine thn a8 fun uv s8 ⟨v8,H8,I8,r8,hz8,n8⟩=>?_
     obtain⟨m',hm,w8⟩:=hN _ _ n8
     have hp:=I8.pin (D,{ cls:=.type "list",data:=.seq its.toArray k }) (List.mem_append_right _ (List.mem_append_left _ (by simp)))
     have eD:=hp.1
     refine call_meets F.slot_list_append ⟨_,eD,rfl⟩ F.entry_list_append (F.args_list_append_2 _ _) (PySem.list_append D its.toArray k uv (by rw[List.size_toArray,← rv.length];lia)) ⟨eD,?_⟩
     have q:=PySem.IsL.update eD (fun a=>a.push uv)
     obtain⟨k1,k2⟩:=keep2 I8
     have I8':Inv X' (dY fp s5.heap) σ6 H8 s8:=I8.pins_of fun p hp=>I8.pin p (List.mem_append_right _ (List.mem_append_right _ hp))
     have oth:∀ b o,b≠D→s8.heap.get? b=some o→(s8.heap.update D (Obj.mapSeq fun a=>a.push uv)).get? b=some o:=fun b o hb e=>(Heap.get?_update_other s8.heap _ (Ne.symm hb)).trans e
     have I9:Inv X' (dY fp s5.heap) σ6 H8 { s8 with heap:=s8.heap.update D (Obj.mapSeq fun a=>a.push uv),toks:=s8.toks }:=
      I8'.turned (it:=D) oth hp.2.1 (by rw[eL];exact hDC) (.inr (by rw[es0,hDq];exact Nat.le_refl _)) nD fun p hp'=>by
       rw[epn] at hp'
       obtain⟨hb,_⟩:=l6 (show p∈dY fp s5.heap by simpa using hp')
       exact fpD _ hb
     refine⟨m',hm,i+1,ys++[v8],H8,its++[uv],k+1,wk (I9.pins_of fun p hp'=>?_),rv.append (.cons r8 .nil),?_,?_,k1,w8⟩
     ·have e:p=(D,{ cls:=.type "list",data:=.seq (its++[uv]).toArray (k+1) }):=by simpa using hp'
      subst e
      refine⟨?_,hp.2.1,hp.2.2.1,hp.2.2.2.1,fun v z=>by cases z⟩
      have e2:its.toArray.push uv=(its++[uv]).toArray:=by simp
      rw[← e2]
      have q':IsL (s8.heap.update D (Obj.mapSeq fun a=>a.push uv)) D (its.toArray.push uv) (if (its.toArray.push uv).size == its.toArray.size then k else k+1):=q
      rw[if_neg (by simp)] at q'
      exact q'
     ·rw[List.length_append,List.length_singleton]
      lia
     ·refine T.keep _ _ _ k2 fun b hb o e=>oth b o (fpD b hb) e
  ·refine⟨0,[],H2,[],0,?_,.nil,Nat.zero_le _,T.keep _ _ _ st2 fun b _ o e=>old b o e,fun b hb=>(f2 b hb).1,w0⟩
   refine (hX' _).pins_of fun p hp=>?_
   have e:p=(D,{ cls:=.type "list",data:=.seq ([]:List Value).toArray 0 }):=by simpa using hp
   subst e
   exact⟨hacc,I2.hok.fresh (by rw[hDq];exact Nat.le_refl _),by rw[eL];exact hDC,fsD,fun v z=>by cases z⟩
 have eenv':compEnvC scope (eR X.env scope.names) C X.env=X'.env:=eenv.symm
 show codeAny (model X.prog X.w) X.A (.compStart _ 0 (.ref it) (.ref D) (compEnvC scope (eR X.env scope.names) C X.env)) _ _
 rw[eenv']
 exact codeAny_compStart_list (loop _ rfl) (T.self X.A 0 _ _ _ (T.keep _ _ _ st2 fun b _ o e=>old b o e) (loop _ rfl))
theorem vq {tg iter elt:Expr}{ifs:List Expr}{scope:Scope}{pos:Pos}{own:List Str}{caps:List Nat}{wi:TI}{g:Blk→TG}{tt:Blk→TT}{te:Blk→TE}
  (hc:X.calm=true) (S:CompScope X scope own caps) (hi:PI X tg iter wi)
  (hg:∀ Y,PG (X.blk (bH X own caps) scope Y) tg (g Y)) (ht:∀ Y,PTs (X.blk (bH X own caps) scope Y) ifs (tt Y)) (he:∀ Y,PE (X.blk (bH X own caps) scope Y) elt (te Y))
  (hs:∀ x,foldedSetIterable iter X.env x=pure x:=by intro _;rfl):PE X (.ListComp elt [⟨tg,iter,ifs,0⟩] scope pos) (iG own caps wi g tt te):=by
 intro pins s σ H Q I h
 show wpAny _ X.A (comprehension (.ListComp elt [⟨tg,iter,ifs,0⟩] scope pos) scope X.env _ (newList []) false (eval iter X.env) none) _ _ s
 refine mQ (use:=none) (Qp:=EP X pins σ Q) hc S hi hg ht he hs I h fun D C H4 s4 m I4 hn f l c z p q=>?_
 show ∃ m,s4.heap.Ns C m∧∀ h',Heap.SameBut C s4.heap h'→EP X pins σ Q (.ref D) { s4 with heap:=h' }
 refine⟨m,hn,fun h' sb=>⟨.ref D,H4,?_,rfl,q⟩⟩
 exact I4.turned (it:=C) (t':=s4.toks) (fun b o hb e=>(sb.2 b hb).trans e) f (Ne.symm l) (.inr z) c p
end
noncomputable def KAt (h:Heap) (d:Addr) (ks:List Value) (ep:Nat):Prop:=∃ o es,h.get? d=some o∧o.ExactDict∧o.data=.dict es ep∧es.toList.map (·.key)=ks
theorem KAt.ty {s:Shared}{d:Addr}{ks:List Value}{ep:Nat} (x:KAt s.heap d ks ep):s.TypeIs (.ref d) "dict" := let ⟨o,_,e,c,_⟩:=x;⟨o,e,c.1⟩
theorem KAt.lt {h:Heap}{d:Addr}{ks:List Value}{ep:Nat} (x:KAt h d ks ep):d<h.objs.size:=let ⟨_,_,e,_⟩:=x;Heap.lt_size e
theorem KAt.go {h h':Heap}{d:Addr}{ks:List Value}{ep:Nat} (x:KAt h d ks ep) (k:∀ o,h.get? d=some o→h'.get? d=some o):KAt h' d ks ep:=let ⟨o,es,e,r⟩:=x;⟨o,es,k o e,r⟩
section
variable {prog:Program}{w:World}{A:Around}{E:Value→Shared→Prop}{s:Shared}
theorem vv {d:Addr}{ks:List Value}{ep:Nat}{Q:Value→Shared→Prop} (lo:(d == sysModules)=false) (x:KAt s.heap d ks ep)
  (q:Q (.ref s.heap.objs.size) { s with heap:=s.heap.push { cls:=.type "dict_keyiterator",data:=.fields #[.ref d,.int 0 0,.int ks.length 0,.int ep 0] } }):wpAny (model prog w) A (pyIter (.ref d)) Q E s:=by
 have ty:=x.ty
 obtain⟨o,es,e1,e2,e3,e4⟩:=x
 have n:es.size=ks.length:=by rw[← e4,List.length_map,Array.length_toList]
 refine wpAny_pyIter_slot ty F.slot_dict_iter (wpAny_call_entry F.slot_dict_iter ty F.entry_dict_iter ?z (F.args_dict_iter_1 _))
 case z=>
  unfold Builtin.«dict.__iter__» Builtin.Dict.dictSlotNone
  refine wpAny_bind (wpAny_bind (wpAny_notOrdered_dict ty ?_))
  show wpAny _ _ (pure (Value.ref d)) _ _ s
  apply wpAny_pure
  show wpAny _ _ (Builtin.Dict.showsAll d >>= _) _ _ s
  unfold Builtin.Dict.showsAll
  rw[if_neg (by rw[lo];simp)]
  refine wpAny_bind (wpAny_pure (wpAny_bind (wpAny_dictEntries e1 e3 (wpAny_bind (wpAny_dictEpoch e1 e3 (wpAny_bind (wpAny_newObj_type (wpAny_pure ⟨_,rfl,"dict_keyiterator",_,⟨_,Heap.get?_push_size _ rfl,rfl⟩,F.slot_dict_keyiterator_next.lookup,?_⟩))))))))
  simpa [rawInt,n] using q
theorem vw {it d:Addr}{i ep:Nat}{ks:List Value}{v:Value}{Q:Option Value→Shared→Prop} (hit:s.heap.IsKeyIter it d i ks.length ep) (x:KAt s.heap d ks ep) (hv:ks[i]?=some v)
  (q:∀ h',h'.IsKeyIter it d (i+1) ks.length ep→Heap.SameBut it s.heap h'→Q (some v) { s with heap:=h' }):wpAny (model prog w) A (pyNext (.ref it)) Q E s:=by
 obtain⟨oi,f1,f2,f3⟩:=id hit
 obtain⟨o,es,e1,e2,e3,e4⟩:=x
 have n:es.size=ks.length:=by rw[← e4,List.length_map,Array.length_toList]
 have hi:i<es.size:=by
  have:i<ks.length:=(List.getElem?_eq_some_iff.mp hv).1
  lia
 have ek:es[i].key=v:=by
  rw[← e4,List.getElem?_map,Array.getElem?_toList,Array.getElem?_eq_getElem hi] at hv
  exact Option.some.inj hv
 unfold pyNext
 refine wpAny_bind (wpAny_attempt (wpAny_callSpecial?_slot (name:=Str.ofString "__next__") hit.typeIs F.slot_dict_keyiterator_next (wpAny_call_entry F.slot_dict_keyiterator_next hit.typeIs F.entry_dict_keyiterator_next ?z (F.args_dict_keyiterator_next_1 _))))
 case z=>
  refine wpAny_bind (wpAny_pure (wpAny_bind (wpAny_bind ?_)))
  refine wpAny_bind (wpAny_typeNameOfWhole_keyiter hit.typeIs (wpAny_pure (wpAny_bind (wpAny_fieldsOf f1 f3 ?_))))
  simp only[show Builtin.Dict_items.ownsTuple "dict_keyiterator" = false by decide,Bool.false_eq_true,if_false]
  show wpAny _ _ (if (Value.ref d == Value.none)=true then _ else _) _ _ s
  rw[if_neg (show ¬ (Value.ref d == Value.none)=true by intro z;cases z)]
  refine wpAny_bind (wpAny_pure (wpAny_bind (wpAny_dictEntries e1 e3 ?_)))
  rw[if_neg (by simp[n])]
  refine wpAny_bind (wpAny_pure (wpAny_bind (wpAny_dictEpoch e1 e3 ?_)))
  rw[if_neg (by simp)]
  apply wpAny_pure
  simp only[show ¬ ((i:Int)<0) by lia,if_false,Int.toNat_natCast,Array.getElem?_eq_getElem hi]
  refine wpAny_bind (wpAny_bind (wpAny_typeNameOfWhole_keyiter hit.typeIs (wpAny_pure (wpAny_bind (wpAny_isOneOf_keyiter hit.typeIs ?_)))))
  show wpAny _ _ (setField (.ref it) 1 (rawInt ((i:Int)+1)) >>= _) _ _ s
  have hit':(s.heap.update it (Obj.mapFields (·.setIfInBounds 1 (rawInt ((i:Int)+1))))).IsKeyIter it d (i+1) ks.length ep:=
   ⟨_,Heap.get?_update_self _ f1 (Obj.isFreed_of_fields (Obj.data_mapFields f3 _)),(Obj.cls_mapFields ..).trans f2,by rw[Obj.data_mapFields f3];simp[rawInt]⟩
  refine wpAny_bind (wpAny_setField f1 f3 (by simp) (wpAny_bind (wpAny_holding (wpAny_bind (wpAny_isOneOf_keyiter (s:={ s with heap:=s.heap.update it (Obj.mapFields (·.setIfInBounds 1 (rawInt ((i:Int)+1)))) }) hit'.typeIs ?_)))))
  show wpAny _ _ (pure es[i].key) _ _ _
  rw[ek]
  exact wpAny_pure (wpAny_pure ⟨_,rfl,wpAny_pure (q _ hit' (Heap.SameBut.update ..))⟩)
theorem vx {it d:Addr}{i ep:Nat}{ks:List Value}{Q:Option Value→Shared→Prop} (hh:A.handled=none) (hit:s.heap.IsKeyIter it d i ks.length ep) (x:KAt s.heap d ks ep) (hv:ks.length≤i)
  (q:∀ h',Heap.ExtBut it s.heap h'→Q none { s with heap:=h' }):wpAny (model prog w) A (pyNext (.ref it)) Q E s:=by
 obtain⟨oi,f1,f2,f3⟩:=id hit
 obtain⟨o,es,e1,e2,e3,e4⟩:=x
 have n:es.size=ks.length:=by rw[← e4,List.length_map,Array.length_toList]
 unfold pyNext
 refine wpAny_bind (wpAny_attempt (wpAny_callSpecial?_slot (name:=Str.ofString "__next__") hit.typeIs F.slot_dict_keyiterator_next (wpAny_call_entry F.slot_dict_keyiterator_next hit.typeIs F.entry_dict_keyiterator_next ?z (F.args_dict_keyiterator_next_1 _))))
 case z=>
  refine wpAny_bind (wpAny_pure (wpAny_bind (wpAny_bind ?_)))
  refine wpAny_bind (wpAny_typeNameOfWhole_keyiter hit.typeIs (wpAny_pure (wpAny_bind (wpAny_fieldsOf f1 f3 ?_))))
  simp only[show Builtin.Dict_items.ownsTuple "dict_keyiterator" = false by decide,Bool.false_eq_true,if_false]
  show wpAny _ _ (if (Value.ref d == Value.none)=true then _ else _) _ _ s
  rw[if_neg (show ¬ (Value.ref d == Value.none)=true by intro z;cases z)]
  refine wpAny_bind (wpAny_pure (wpAny_bind (wpAny_dictEntries e1 e3 ?_)))
  rw[if_neg (by simp[n])]
  refine wpAny_bind (wpAny_pure (wpAny_bind (wpAny_dictEpoch e1 e3 ?_)))
  rw[if_neg (by simp)]
  apply wpAny_pure
  simp only[show ¬ ((i:Int)<0) by lia,if_false,Int.toNat_natCast,Array.getElem?_eq_none (show es.size≤i by lia)]
  refine wpAny_bind (wpAny_bind (wpAny_typeNameOfWhole_keyiter hit.typeIs (wpAny_pure ?_)))
  show wpAny _ _ (setField (.ref it) 0 .none >>= _) _ _ s
  refine wpAny_bind (wpAny_setField f1 f3 (by simp) ?_)
  show wpAny _ _ (newExc (.type "StopIteration") [] >>= _) _ _ _
  apply wpAny_bind
  simp only[newExc,newTuple]
  refine wpAny_bind (wpAny_newObj_type (wpAny_bind (m:=firstArgMember _ _) (wpAny_of_eq (a:=Value.none) (by first | rfl | (simp only[firstArgMember];rfl)) (wpAny_newObj_type ?_ (by size_fits)))) (by size_fits))
  simp only[raiseNew]
  apply wpAny_bind
  apply wpAny_handled
  rw[show A.in1.handled=none from hh]
  refine wpAny_bind (m:=pure _) (wpAny_pure (wpAny_throw ?_))
  apply wpAny_bind
  refine wpAny_isInstance (T := "StopIteration") (b:=true) ⟨_,Heap.get?_push_size _ rfl,rfl⟩ isSubtype_stop ?_
  exact wpAny_pure (q _ (((Heap.SameBut.update ..).extBut.push _).push _))
theorem vy (hh:A.handled=none) (it d:Addr) (ne:d≠it) (ks:List Value) (ep:Nat):Walks prog w A it [it,d] [it] ks.length (fun i v=>ks[i]?=some v) (fun i h=>h.IsKeyIter it d i ks.length ep∧KAt h d ks ep) where
 sub:=fun b hb=>by
  have:b=it:=by simpa using hb
  simp[this]
 frame:=fun i h h' st k=>⟨let ⟨o,e,r⟩:=st.1;⟨o,k it (by simp) o e,r⟩,st.2.go (k d (by simp))⟩
 item:=fun i s Q E hi st hQ=>by
  have hv:ks[i]?=some ks[i]:=by simp[hi]
  refine vw st.1 st.2 hv fun h' a b=>hQ _ h' s.toks hv ⟨a,st.2.go fun o e=>b.extBut d o ne e⟩ fun c o hc e=>b.extBut c o (by simpa using hc) e
 done:=fun s Q E st hQ=>vx hh st.1 st.2 (Nat.le_refl _) fun h' b=>hQ h' s.toks fun c o hc e=>b c o (by simpa using hc) e
 self:=fun i s Q E st hQ=>wpAny_pyIter_keyiter st.1 hQ
theorem vz {d:Addr}{ks:List Value}{ep:Nat} (lo:(d == sysModules)=false):PySem.W.KdlSrc prog w "dict" d d ks.length (fun i v=>ks[i]?=some v) (fun h=>KAt h d ks ep) where
 type:=fun s x=>x.ty
 there:=fun h x=>⟨x.lt,x.lt⟩
 keep:=fun h h' x k=>x.go (k d (.inl rfl))
 notList:=by decide
 notTuple:=by decide
 hint:=fun A E s Q x q=>PySem.W.kdl_hint_dict x.ty q
 iter:=fun A s hh x=>⟨_,_,(fun E Q q=>vv lo x q),vy hh _ d (Nat.ne_of_lt x.lt) ks ep,⟨⟨_,Heap.get?_push_size _ rfl,rfl,rfl⟩,x.go fun o e=>Heap.get?_push_of_some _ e⟩⟩
end
end L2
namespace L2
open PySem PySem.Spec PyProof.Rows PySem.W
section
variable {n:Nat}{key:Nat→Int}{cmp:Nat→Nat→(Bool→Shared→Prop)→Shared→Prop}
noncomputable def kyA (key:Nat→Int) (p:Array Nat) (i:Nat):Int:=key (p.getD i 0)
noncomputable def Up (key:Nat→Int) (p:Array Nat) (m:Nat):Prop:=∀ i j,i≤j→j<m→kyA key p i≤kyA key p j
noncomputable def bj (n:Nat) (key:Nat→Int) (cmp:Nat→Nat→(Bool→Shared→Prop)→Shared→Prop) (s:Shared):Prop:=∀ i j C,i<n→j<n→C (decide (key i<key j)) s→cmp i j C s
noncomputable def Rg (n:Nat) (p:Array Nat):Prop:=p.toList.Perm (List.range n)
theorem Rg.size {p:Array Nat} (h:Rg n p):p.size=n:=by
 have:=h.length_eq
 simpa using this
theorem Rg.lt {p:Array Nat} (h:Rg n p) {i:Nat} (hi:i<n):p.getD i 0<n:=by
 have hs:=h.size
 have e:p.getD i 0=p[i]:=by simp[Array.getD,hs,hi]
 rw[e]
 have:p[i]∈p.toList:=by simp
 exact List.mem_range.mp (h.mem_iff.mp this)
theorem Rg.ne {p:Array Nat} (h:Rg n p) (inj:∀ i j,i<n→j<n→key i=key j→i=j) {i j:Nat} (hij:i<j) (hj:j<n):kyA key p i≠kyA key p j:=by
 intro e
 have hs:=h.size
 have e':=inj _ _ (h.lt (by lia)) (h.lt hj) e
 have e1:p.getD i 0=p[i]:=by simp[Array.getD,hs,show i<n by lia]
 have e2:p.getD j 0=p[j]:=by simp[Array.getD,hs,hj]
 rw[e1,e2] at e'
 have nd:p.toList.Nodup:=h.nodup_iff.mpr List.nodup_range
 have e3:p.toList[i]'(by simpa [hs] using (show i<n by lia))=p.toList[j]'(by simpa [hs] using hj):=by simpa using e'
 have:=(List.getElem_inj nd).mp e3
 lia
theorem db {p q:Array Nat}{i j:Nat} (e:p[i]?=q[j]?):kyA key p i=kyA key q j:=by
 unfold kyA
 rw[Array.getD_eq_getD_getElem?,Array.getD_eq_getD_getElem?,e]
theorem Rg.rev {p:Array Nat} (h:Rg n p) (i j:Nat):Rg n (kas_rev p i j):=(Array.perm_iff_toList_perm.mp (mirror_perm p i j _)).trans h
theorem Rg.bub {p:Array Nat} (h:Rg n p) (i j:Nat):Rg n (bubble p i j):=(Array.perm_iff_toList_perm.mp (bubble_perm p i j)).trans h
theorem iH {s:Shared} (hc:bj n key cmp s) {p:Array Nat} (hp:Rg n p) {Q:Nat→Shared→Prop}:∀ (f m:Nat),1≤m→m+f≤n→
  (∀ m',m≤m'→m'≤m+f→(∀ j,m≤j→j<m'→kyA key p (j - 1)≤kyA key p j)→(m'=m+f∨kyA key p m'<kyA key p (m' - 1))→Q m' s)→(kas_asc p f m).kasWp cmp Q s
 | 0,m,h1,hn,h=>h m (Nat.le_refl _) (Nat.le_refl _) (fun j a b=>by lia) (.inl rfl)
 | f+1,m,h1,hn,h=>by
  show cmp (p.getD m 0) (p.getD (m - 1) 0) (fun b s'=>KasT.kasWp cmp (if b=true then .ret m else kas_asc p f (m+1)) Q s') s
  refine hc _ _ _ (hp.lt (by lia)) (hp.lt (by lia)) ?_
  by_cases hb:key (p.getD m 0)<key (p.getD (m - 1) 0)
  ·rw[decide_eq_true hb,if_pos rfl]
   exact h m (Nat.le_refl _) (by lia) (fun j a b=>by lia) (.inr hb)
  ·rw[decide_eq_false hb,if_neg Bool.false_ne_true]
   refine iH hc hp f (m+1) (by lia) (by lia) fun m' a b c d=>h m' (by lia) (by lia) (fun j x y=>?_) (by rcases d with d | d;exact .inl (by lia);exact .inr d)
   by_cases e:j=m
   ·subst e
    have:¬ kyA key p j<kyA key p (j - 1):=hb
    lia
   ·exact c j (by lia) y
theorem iJ {p : Array Nat} {m : Nat} (h : ∀ j, 1 ≤ j → j < m → kyA key p (j - 1) ≤ kyA key p j) : Up key p m := by
  intro i j hij hj
  induction j with
  | zero => have : i = 0 := by lia
            subst this; exact Int.le_refl _
  | succ j ih =>
    by_cases e : i = j + 1
    · subst e; exact Int.le_refl _
    · have h1 := ih (by lia) (by lia)
      have h2 := h (j + 1) (by lia) hj
      rw [Nat.add_sub_cancel] at h2
      exact Int.le_trans h1 h2
theorem mR {s:Shared} (hc:bj n key cmp s) (inj:∀ i j,i<n→j<n→key i=key j→i=j) {p:Array Nat} (hp:Rg n p) {Q:Array Nat×Nat×Nat→Shared→Prop}:∀ (f m:Nat),1≤m→m+f≤n→
  (∀ m',m≤m'→m'≤m+f→(∀ j,m≤j→j<m'→kyA key p j<kyA key p (j - 1))→Q (p,m',0) s)→(kas_desc f p m 0).kasWp cmp Q s
 | 0,m,h1,hn,h=>h m (Nat.le_refl _) (Nat.le_refl _) (fun j a b=>by lia)
 | f+1,m,h1,hn,h=>by
  show cmp (p.getD m 0) (p.getD (m - 1) 0) (fun b s'=>KasT.kasWp cmp (if b=true then (if 0 > 0 then kas_desc f (kas_rev p (m - (0+1)) m) (m+1) 0 else kas_desc f p (m+1) 0)
   else .ask (p.getD (m - 1) 0) (p.getD m 0) fun d=>if d=true then .ret (p,m,0) else kas_desc f p (m+1) (0+1)) Q s') s
  refine hc _ _ _ (hp.lt (by lia)) (hp.lt (by lia)) ?_
  by_cases hb:key (p.getD m 0)<key (p.getD (m - 1) 0)
  ·rw[decide_eq_true hb,if_pos rfl,if_neg (by lia)]
   refine mR hc inj hp f (m+1) (by lia) (by lia) fun m' a b c=>h m' (by lia) (by lia) fun j x y=>?_
   by_cases e:j=m
   ·subst e;exact hb
   ·exact c j (by lia) y
  ·rw[decide_eq_false hb,if_neg Bool.false_ne_true]
   refine hc _ _ _ (hp.lt (by lia)) (hp.lt (by lia)) ?_
   have h2:key (p.getD (m - 1) 0)<key (p.getD m 0):=by
    have:=hp.ne inj (show m - 1<m by lia) (by lia)
    unfold kyA at this
    lia
   rw[decide_eq_true h2]
   dsimp only
   rw[if_pos rfl]
   exact h m (Nat.le_refl _) (by lia) fun j a b=>by lia
theorem vA {s:Shared} (hc:bj n key cmp s) (inj:∀ i j,i<n→j<n→key i=key j→i=j) {p:Array Nat} (hp:Rg n p) {Q:Nat×Array Nat→Shared→Prop} (hn:1≤n)
  (h:∀ m p',1≤m→m≤n→Rg n p'→Up key p' m→Q (m,p') s):(kas_count n p).kasWp cmp Q s:=by
 unfold kas_count
 rw[KasT.kasWp_bind]
 refine iH hc hp (n - 1) 1 (Nat.le_refl _) (by lia) fun m a b c d=>?_
 have up:Up key p m:=iJ c
 by_cases e:m=n
 ·subst e
  rw[if_pos (by simp)]
  exact h m p a (Nat.le_refl _) hp up
 ·rw[if_neg (by simpa using e)]
  by_cases e1:m > 1
  ·rw[if_pos e1]
   refine hc _ _ _ (hp.lt (by lia)) (hp.lt (by lia)) ?_
   have h2:key (p.getD 0 0)<key (p.getD (m - 1) 0):=by
    have x:=hp.ne inj (show 0<m - 1 by lia) (by lia)
    have y:=up 0 (m - 1) (by lia) (by lia)
    unfold kyA at x y
    lia
   rw[decide_eq_true h2]
   dsimp only
   rw[if_pos rfl]
   exact h m p a (by lia) hp up
  ·rw[if_neg e1]
   have e2:m=1:=by lia
   subst e2
   have d:kyA key p 1<kyA key p 0:=by
    rcases d with d | d
    ·lia
    ·exact d
   unfold kas_descPart
   rw[KasT.kasWp_bind]
   refine mR hc inj hp (n - (1+1)) (1+1) (by lia) (by lia) fun k a1 b1 c1=>?_
   dsimp only
   rw[if_neg (by lia)]
   unfold kas_tail3
   rw[KasT.kasWp_bind]
   have hp':=hp.rev 0 k
   have ky:∀ i,kyA key (kas_rev p 0 k) i=if i<k then kyA key p (k - 1 - i) else kyA key p i:=fun i=>by
    by_cases hi:i<k
    ·rw[if_pos hi]
     exact db (by unfold kas_rev;rw[getElem?_mirror_all (by rw[hp.size];lia),if_pos ⟨Nat.zero_le _,hi⟩];congr 1;lia)
    ·rw[if_neg hi]
     exact db (by unfold kas_rev;rw[getElem?_mirror_all (by rw[hp.size];lia),if_neg (by lia)])
   have dn:∀ j,1≤j→j<k→kyA key p j<kyA key p (j - 1):=fun j x y=>by
    by_cases z:j=1
    ·subst z;exact d
    ·exact c1 j (by lia) y
   refine iH hc hp' (n - k) k (by lia) (by lia) fun m' a2 b2 c2 _=>?_
   refine h m' (kas_rev p 0 k) (by lia) (by lia) hp' (iJ fun j x y=>?_)
   by_cases z:j<k
   ·rw[ky,ky,if_pos (by lia),if_pos z]
    have:=dn (k - 1 - (j - 1)) (by lia) (by lia)
    rw[show k - 1 - (j - 1) - 1=k - 1 - j by lia] at this
    exact Int.le_of_lt this
   ·exact c2 j (by lia) y
theorem jK {s:Shared} (hc:bj n key cmp s) {p:Array Nat} (hp:Rg n p) {k:Nat} (hk:k<n) (up:Up key p k) {Q:Nat→Shared→Prop}:∀ (f l r:Nat),l≤r→r≤k→r - l≤f→
  (∀ i,i<l→kyA key p i≤kyA key p k)→(∀ i,r≤i→i<k→kyA key p k≤kyA key p i)→
  (∀ l',l'≤k→(∀ i,i<l'→kyA key p i≤kyA key p k)→(∀ i,l'≤i→i<k→kyA key p k≤kyA key p i)→Q l' s)→(kas_place p k f l r).kasWp cmp Q s
 | 0,l,r,h1,h2,h3,a,b,h=>h l (by lia) a fun i x y=>b i (by lia) y
 | f+1,l,r,h1,h2,h3,a,b,h=>by
  by_cases e:l ≥ r
  ·show KasT.kasWp cmp (if l ≥ r then .ret l else _) Q s
   rw[if_pos e]
   exact h l (by lia) a fun i x y=>b i (by lia) y
  ·show KasT.kasWp cmp (if l ≥ r then .ret l else .ask (p.getD k 0) (p.getD ((l+r) / 2) 0) fun c=>if c=true then kas_place p k f l ((l+r) / 2) else kas_place p k f ((l+r) / 2+1) r) Q s
   rw[if_neg e]
   refine hc _ _ _ (hp.lt hk) (hp.lt (by lia)) ?_
   have m1:l≤(l+r) / 2:=by lia
   have m2:(l+r) / 2<r:=by lia
   generalize (l+r) / 2=mid at m1 m2 ⊢
   by_cases hb:key (p.getD k 0)<key (p.getD mid 0)
   ·rw[decide_eq_true hb]
    dsimp only
    rw[if_pos rfl]
    refine jK hc hp hk up f l mid m1 (by lia) (by lia) a (fun i x y=>?_) h
    have:=up mid i x y
    have hb:kyA key p k<kyA key p mid:=hb
    lia
   ·rw[decide_eq_false hb]
    dsimp only
    rw[if_neg Bool.false_ne_true]
    refine jK hc hp hk up f (mid+1) r (by lia) h2 (by lia) (fun i x=>?_) b h
    have:=up i mid (by lia) (by lia)
    have hb:¬ kyA key p k<kyA key p mid:=hb
    lia
theorem mS {s:Shared} (hc:bj n key cmp s) {Q:Array Nat→Shared→Prop}:∀ (f k:Nat) (p:Array Nat),Rg n p→Up key p k→k+f≤n→(∀ p',Rg n p'→Up key p' (k+f)→Q p' s)→(kas_bin f p k).kasWp cmp Q s
 | 0,k,p,hp,up,hn,h=>h p hp up
 | f+1,k,p,hp,up,hn,h=>by
  show KasT.kasWp cmp ((kas_place p k k 0 k).bind fun l=>kas_bin f (bubble p k (k - l)) (k+1)) Q s
  rw[KasT.kasWp_bind]
  refine jK hc hp (by lia) up k 0 k (Nat.zero_le _) (Nat.le_refl _) (by lia) (fun i x=>by lia) (fun i x y=>by lia) fun l hl a b=>?_
  have ky:∀ i,kyA key (bubble p k (k - l)) i=if i=l then kyA key p k else if l<i∧i≤k then kyA key p (i - 1) else kyA key p i:=fun i=>by
   have g:=getElem?_bubble (xs:=p) (src:=k) (by rw[hp.size];lia) (k - l) (by lia) i
   rw[show k - (k - l)=l by lia] at g
   by_cases e:i=l
   ·rw[if_pos e] at g ⊢;exact db g
   ·rw[if_neg e] at g ⊢
    by_cases e2:l<i∧i≤k
    ·rw[if_pos e2] at g ⊢;exact db g
    ·rw[if_neg e2] at g ⊢;exact db g
  refine mS hc f (k+1) _ (hp.bub _ _) (iJ fun j x y=>?_) (by lia) fun p' r1 r2=>h p' r1 (by rw[show k+(f+1)=k+1+f by lia];exact r2)
  rw[ky,ky]
  by_cases c1:j - 1=l
  ·rw[if_pos c1,if_neg (by lia),if_pos (by lia)]
   exact b (j - 1) (by lia) (by lia)
  ·rw[if_neg c1]
   by_cases c2:j=l
   ·rw[if_pos c2,if_neg (by lia)]
    exact a (j - 1) (by lia)
   ·rw[if_neg c2]
    by_cases c3:l<j - 1
    ·rw[if_pos (by lia),if_pos (by lia)]
     exact up _ _ (by lia) (by lia)
    ·rw[if_neg (by lia),if_neg (by lia)]
     exact up _ _ (by lia) (by lia)
theorem vB {s:Shared} (hc:bj n key cmp s) (inj:∀ i j,i<n→j<n→key i=key j→i=j) {Q:Array Nat→Shared→Prop} (hn:1≤n) (h:∀ p',Rg n p'→Up key p' n→Q p' s):(kas_sort n).kasWp cmp Q s:=by
 unfold kas_sort
 rw[KasT.kasWp_bind]
 refine vA hc inj (p:=(List.range n).toArray) (List.Perm.refl _) hn fun m p' a b c d=>?_
 by_cases e:m<n
 ·show KasT.kasWp cmp (if m<n then kas_bin (n - max m 1) p' (max m 1) else .ret p') Q s
  rw[if_pos e]
  refine mS hc _ _ p' c (by rw[show max m 1=m by lia];exact d) (by lia) fun p'' r1 r2=>h p'' r1 (by rw[show max m 1+(n - max m 1)=n by lia] at r2;exact r2)
 ·show KasT.kasWp cmp (if m<n then kas_bin (n - max m 1) p' (max m 1) else .ret p') Q s
  rw[if_neg e]
  have:m=n:=by lia
  subst this
  exact h p' c d
end
theorem mT:∀ (f n r:Nat),minRun' f n r≤n+r
 | 0,n,r=>Nat.le_refl _
 | f+1,n,r=>by
  rw[minRun'_succ]
  by_cases h:n<64
  ·rw[if_pos h]
   exact Nat.le_refl _
  ·rw[if_neg h]
   have:=mT f (n / 2) (max r (n % 2))
   lia
section
variable {prog:Program}{w:World}{A:Around}{E:Value→Shared→Prop}{κ:SortKind}{it:Array Keyed}{key:Nat→Int}
theorem vC {n:Nat}{Q:Unit→SortSt→Shared→Prop}{s:Shared} (hc:bj n key (kas_cmp prog w A κ it) s) (inj:∀ i j,i<n→j<n→key i=key j→i=j) (h2:2≤n) (up:∀ j,1≤j→j<n→key (j - 1)≤key j)
  (hG:∀ p' st',Rg n p'→Up key p' n→arrOf st'=p'.map (kas_item it)→failedOf st'=none→Q () st' s):kasC (model prog w) A E sortRuns' Q (kas_st κ it (List.range n).toArray) s:=by
 obtain⟨r,rfl⟩:∃ r,n=r+2:=⟨n - 2,by lia⟩
 have hr:Rg (r+2) (List.range (r+2)).toArray:=List.Perm.refl _
 have ky:∀ j,j<r+2→kyA key (List.range (r+2)).toArray j=key j:=fun j hj=>by
  unfold kyA
  simp[Array.getD,hj]
 have cw:(kas_count (r+2) (List.range (r+2)).toArray).kasWp (kas_cmp prog w A κ it) (fun q s'=>s'=s∧q=(r+2,(List.range (r+2)).toArray)) s:=by
  unfold kas_count
  rw[KasT.kasWp_bind]
  refine iH hc hr (r+2 - 1) 1 (Nat.le_refl _) (by lia) fun m a b c d=>?_
  have e:m=r+2:=by
   rcases d with d | d
   ·lia
   ·by_cases hm:m<r+2
    ·rw[ky m hm,ky (m - 1) (by lia)] at d
     have:=up m a hm
     lia
    ·lia
  subst e
  rw[if_pos (by simp)]
  exact⟨rfl,rfl⟩
 rw[sortRuns'_eq]
 apply kasC_bind
 apply kasC_get
 dsimp only
 have hsz:(arrOf (kas_st κ it (List.range (r+2)).toArray)).size=r+2:=by
  show ((List.range (r+2)).toArray.map (kas_item it)).size=r+2
  simp
 simp only[hsz]
 apply kasC_bind
 apply kasC_range
 show kasC _ _ _ (forIn (0::1::List.range' 2 r) _ _) _ _ _
 apply kasC_cons
 dsimp only
 rw[if_neg (by lia)]
 simp only[Nat.sub_zero,Nat.zero_add]
 apply kasC_bind
 refine kas_count_ (by lia) (by simp) (fun m p' s' _ _ _ hg=>?_) cw
 obtain⟨rfl,hg⟩:=hg
 cases hg
 dsimp only
 rw[if_neg (by have:=mT (r+2) (r+2) 0;lia)]
 apply kasC_bind
 apply kasC_get
 rw[show (pendingOf (kas_st κ it (List.range (r+2)).toArray)).back?=none from rfl]
 dsimp only
 refine kasC_bind (kasC_modify (kasC_pure ?_))
 show kasC _ _ _ (forIn (1::List.range' 2 r) _ _) _ _ _
 apply kasC_cons
 dsimp only
 rw[if_pos (Nat.le_refl _)]
 apply kasC_pure
 dsimp only
 apply kasC_bind
 apply kasC_range
 show kasC _ _ _ (forIn (0::1::List.range' 2 r) _ _) _ _ _
 apply kasC_cons
 apply kasC_bind
 apply kasC_get
 rw[if_pos (show (pendingOf (setPending (kas_st κ it (List.range (r+2)).toArray) ((pendingOf (kas_st κ it (List.range (r+2)).toArray)).push (0,r+2,0)))).size≤1 from Nat.le_refl 1)]
 apply kasC_pure
 dsimp only
 apply kasC_pure
 exact hG (List.range (r+2)).toArray _ hr (fun i j hij hj=>by
  rw[ky i (by lia),ky j hj]
  have:=iJ (key:=key) (p:=(List.range (r+2)).toArray) (m:=r+2) (fun j x y=>by rw[ky _ (by lia),ky _ y];exact up j x y) i j hij hj
  rw[ky i (by lia),ky j hj] at this
  exact this) rfl rfl
theorem zN {n:Nat}{Q:Unit→SortSt→Shared→Prop}{s:Shared} (hc:bj n key (kas_cmp prog w A κ it) s) (inj:∀ i j,i<n→j<n→key i=key j→i=j) (h2:2≤n) (up:n<64∨∀ j,1≤j→j<n→key (j - 1)≤key j)
  (hG:∀ p' st',Rg n p'→Up key p' n→arrOf st'=p'.map (kas_item it)→failedOf st'=none→Q () st' s):kasC (model prog w) A E sortRuns' Q (kas_st κ it (List.range n).toArray) s:=by
 rcases up with h | up
 ·exact kas_runs (G:=fun p' s'=>s'=s∧Rg n p'∧Up key p' n) h2 h (fun p' st' s' _ a b ⟨e,c,d⟩=>by subst e;exact hG p' st' c d a b) (vB hc inj (by lia) fun p' a b=>⟨rfl,a,b⟩)
 ·exact vC hc inj h2 up hG
end
section
variable {prog:Program}{w:World}{A:Around}{E:Value→Shared→Prop}{κ:SortKind}{it:Array Keyed}{key:Nat→Int}{n:Nat}{s:Shared}
noncomputable def iK:Bool→Keyed→Array Keyed→Nat→Nat→Nat→StateT SortSt Sem (Option Nat):=sortPriv% PySem.Builtin.gallop
theorem gO (hc:bj n key (kas_cmp prog w A κ it) s) {i j:Nat} (hi:i<n) (hj:j<n) {st:SortSt} (hk:kindOf st=κ) {Q:Option Bool→SortSt→Shared→Prop} (h:Q (some (decide (key i<key j))) st s):
  kasC (model prog w) A E (lt' (kas_item it i) (kas_item it j)) Q st s:=by
 rw[lt'_eq]
 apply kasC_bind
 apply kasC_get
 have:=hc i j (fun c s'=>s'=s∧c=decide (key i<key j)) hi hj ⟨rfl,rfl⟩
 unfold kas_cmp at this
 rw[hk]
 refine kasC_bind (kasC_lift (wpAny_attempt (wpAny_mono this (fun c s' hcs=>?_) fun _ _ hF=>hF.elim)))
 obtain⟨rfl,rfl⟩:=hcs
 exact kasC_pure h
theorem bI {σ β:Type}{M:Model}{f:Nat→β→StateT σ Sem (ForInStep β)}{Q:β→σ→Shared→Prop} (I:Nat→β→σ→Shared→Prop)
  (step:∀ x c st s',I x c st s'→kasC M A E (f x c) (fun r st2 s2=>match r with | .yield c'=>I (x+1) c' st2 s2 | .done c'=>Q c' st2 s2) st s'):∀ (m a:Nat) (c:β) (st:σ) (s':Shared),(∀ c st s',I (a+m) c st s'→Q c st s')→I a c st s'→
   kasC M A E (forIn (List.range' a m) c f) Q st s'
 | 0,a,c,st,s',fin,h=>by
  show kasC M A E (forIn ([]:List Nat) c f) Q st s'
  exact kasC_nil (fin c st s' h)
 | m+1,a,c,st,s',fin,h=>by
  show kasC M A E (forIn (a::List.range' (a+1) m) c f) Q st s'
  refine kasC_cons (wpAny_mono (step a c st s' h) (fun r s2 h'=>?_) fun _ _ e=>e)
  obtain⟨r,st2⟩:=r
  cases r with
  | done c'=>exact h'
  | yield c'=>exact bI I step m (a+1) c' st2 s2 (fun c st s' hi=>fin c st s' (by rw[show a+(m+1)=a+1+m by lia];exact hi)) h'
noncomputable def bey (key:Nat→Int) (left:Bool) (k:Nat) (pa:Array Nat) (base i:Nat):Bool:=if left=true then decide (key (pa.getD (base+i) 0)<key k) else !decide (key k<key (pa.getD (base+i) 0))
set_option maxHeartbeats 2000000 in
theorem mU (hc:bj n key (kas_cmp prog w A κ it) s) {left:Bool}{k:Nat} (hk:k<n) {pa:Array Nat} (hpa:∀ i,i<pa.size→pa.getD i 0<n) {base m hint:Nat} (hb:base+m≤pa.size) (hh:hint<m)
  (mono:∀ i j,i≤j→j<m→bey key left k pa base j=true→bey key left k pa base i=true) {st:SortSt} (hkind:kindOf st=κ) {Q:Option Nat→SortSt→Shared→Prop}
  (h:∀ r,r≤m→(∀ i,i<r→bey key left k pa base i=true)→(∀ i,r≤i→i<m→bey key left k pa base i=false)→Q (some r) st s):
  kasC (model prog w) A E (iK left (kas_item it k) (pa.map (kas_item it)) base m hint) Q st s:=by
 have el:∀ i,i<m→(pa.map (kas_item it))[base+i]?=some (kas_item it (pa.getD (base+i) 0)):=fun i hi=>by
  have:base+i<pa.size:=by lia
  simp[Array.getD,this]
 have ask:∀ i,i<m→∀ Q':Option Bool→SortSt→Shared→Prop,Q' (some (bey key left k pa base i)) st s→
   kasC (model prog w) A E (do let x ← elem' (pa.map (kas_item it)) (base+i);if left=true then lt' x (kas_item it k) else do let r ← lt' (kas_item it k) x;pure (r.map fun x=>!x)) Q' st s:=fun i hi Q' hq=>by
  rw[elem'_eq,el i hi]
  apply kasC_bind
  apply kasC_pure
  have hx:=hpa (base+i) (by lia)
  unfold bey at hq
  cases left with
  | true=>
   rw[if_pos rfl] at hq ⊢
   exact gO hc hx hk hkind hq
  | false=>
   rw[if_neg Bool.false_ne_true] at hq ⊢
   exact kasC_bind (gO hc hk hx hkind (kasC_pure hq))
 unfold iK
 with_unfolding_all refine kasC_bind ?_
 refine ask hint hh _ ?_
 dsimp only
 cases hB0:bey key left k pa base hint with
 | true=>
  rw[if_pos rfl]
  apply kasC_bind
  apply kasC_range
  have nxt:∀ last ofs,last<ofs→hint+last<m→bey key left k pa base (hint+last)=true→(ofs ≥ m - hint∨bey key left k pa base (hint+ofs)=false)→
    hint+last+1≤hint+min ofs (m - hint)∧hint+min ofs (m - hint)≤m∧(∀ i,i<hint+last+1→bey key left k pa base i=true)∧(∀ i,hint+min ofs (m - hint)≤i→i<m→bey key left k pa base i=false)∧hint+min ofs (m - hint) - (hint+last+1)≤m - 0:=fun last ofs a1 a2 a3 a4=>by
   refine⟨by lia,by lia,fun i hi=>mono i (hint+last) (by lia) a2 a3,fun i h1 h2=>?_,by lia⟩
   rcases a4 with a4 | a4
   ·lia
   ·cases hi2:bey key left k pa base i with
    | false=>rfl
    | true=>rw[mono (hint+ofs) i (by lia) h2 hi2] at a4;cases a4
  refine bI (fun x c st' s'=>st'=st∧s'=s∧∃ last ofs,c=(none,last,ofs)∧last<ofs∧x<ofs∧hint+last<m∧bey key left k pa base (hint+last)=true) ?_ _ 0 _ _ _ ?_ ⟨rfl,rfl,0,1,rfl,by lia,by lia,by lia,hB0⟩
  ·rintro x c st' s' ⟨e1,e2,last,ofs,rfl,h1,h2,h3,h4⟩
   rw[e1,e2]
   dsimp only
   by_cases ho:ofs ≥ m - hint
   ·rw[if_pos ho]
    apply kasC_pure
    dsimp only
    have LH:=nxt last ofs h1 h3 h4 (.inl ho)
    apply kasC_bind
    apply kasC_range
    refine bI (fun x c st' s'=>st'=st∧s'=s∧∃ lo hi,c=(none,lo,hi)∧lo≤hi∧hi≤m∧(∀ i,i<lo→bey key left k pa base i=true)∧(∀ i,hi≤i→i<m→bey key left k pa base i=false)∧hi - lo≤m - x) ?_ _ 0 _ _ _ ?_ ⟨rfl,rfl,_,_,rfl,LH⟩
    ·rintro x c st' s' ⟨e1,e2,lo,hi,rfl,h1,h2,h3,h4,h5⟩
     rw[e1,e2]
     dsimp only
     by_cases hlh:lo ≥ hi
     ·rw[if_pos hlh]
      apply kasC_pure
      dsimp only
      have e:lo=hi:=by lia
      subst e
      exact kasC_pure (h lo h2 h3 h4)
     ·rw[if_neg hlh]
      have m1:lo≤lo+(hi - lo) / 2:=by lia
      have m2:lo+(hi - lo) / 2<hi:=by lia
      generalize lo+(hi - lo) / 2=mid at m1 m2 ⊢
      refine kasC_bind (ask mid (by lia) _ ?_)
      dsimp only
      cases hB:bey key left k pa base mid with
      | true=>
       rw[if_pos rfl]
       exact kasC_pure ⟨rfl,rfl,mid+1,hi,rfl,by lia,h2,fun i hi'=>mono i mid (by lia) (by lia) hB,h4,by lia⟩
      | false=>
       rw[if_neg Bool.false_ne_true]
       refine kasC_pure ⟨rfl,rfl,lo,mid,rfl,by lia,by lia,h3,fun i a b=>?_,by lia⟩
       cases hi2:bey key left k pa base i with
       | false=>rfl
       | true=>rw[mono mid i a b hi2] at hB;cases hB
    ·rintro c st' s' ⟨e1,e2,lo,hi,rfl,h1,h2,h3,h4,h5⟩
     rw[e1,e2]
     dsimp only
     have e:lo=hi:=by lia
     subst e
     exact kasC_pure (h lo h2 h3 h4)
   ·rw[if_neg ho]
    refine kasC_bind (ask (hint+ofs) (by lia) _ ?_)
    dsimp only
    cases hB:bey key left k pa base (hint+ofs) with
    | true=>
     simp only[Bool.not_true,Bool.false_eq_true,if_false]
     exact kasC_pure ⟨rfl,rfl,ofs,2 * ofs+1,rfl,by lia,by lia,by lia,hB⟩
    | false=>
     simp only[Bool.not_false,if_true]
     apply kasC_pure
     dsimp only
     have LH:=nxt last ofs h1 h3 h4 (.inr hB)
     apply kasC_bind
     apply kasC_range
     refine bI (fun x c st' s'=>st'=st∧s'=s∧∃ lo hi,c=(none,lo,hi)∧lo≤hi∧hi≤m∧(∀ i,i<lo→bey key left k pa base i=true)∧(∀ i,hi≤i→i<m→bey key left k pa base i=false)∧hi - lo≤m - x) ?_ _ 0 _ _ _ ?_ ⟨rfl,rfl,_,_,rfl,LH⟩
     ·rintro x c st' s' ⟨e1,e2,lo,hi,rfl,h1,h2,h3,h4,h5⟩
      rw[e1,e2]
      dsimp only
      by_cases hlh:lo ≥ hi
      ·rw[if_pos hlh]
       apply kasC_pure
       dsimp only
       have e:lo=hi:=by lia
       subst e
       exact kasC_pure (h lo h2 h3 h4)
      ·rw[if_neg hlh]
       have m1:lo≤lo+(hi - lo) / 2:=by lia
       have m2:lo+(hi - lo) / 2<hi:=by lia
       generalize lo+(hi - lo) / 2=mid at m1 m2 ⊢
       refine kasC_bind (ask mid (by lia) _ ?_)
       dsimp only
       cases hB:bey key left k pa base mid with
       | true=>
        rw[if_pos rfl]
        exact kasC_pure ⟨rfl,rfl,mid+1,hi,rfl,by lia,h2,fun i hi'=>mono i mid (by lia) (by lia) hB,h4,by lia⟩
       | false=>
        rw[if_neg Bool.false_ne_true]
        refine kasC_pure ⟨rfl,rfl,lo,mid,rfl,by lia,by lia,h3,fun i a b=>?_,by lia⟩
        cases hi2:bey key left k pa base i with
        | false=>rfl
        | true=>rw[mono mid i a b hi2] at hB;cases hB
     ·rintro c st' s' ⟨e1,e2,lo,hi,rfl,h1,h2,h3,h4,h5⟩
      rw[e1,e2]
      dsimp only
      have e:lo=hi:=by lia
      subst e
      exact kasC_pure (h lo h2 h3 h4)
  ·rintro c st' s' ⟨e1,e2,last,ofs,rfl,h1,h2,h3,h4⟩
   rw[e1,e2]
   dsimp only
   have LH:=nxt last ofs h1 h3 h4 (.inl (by lia))
   apply kasC_bind
   apply kasC_range
   refine bI (fun x c st' s'=>st'=st∧s'=s∧∃ lo hi,c=(none,lo,hi)∧lo≤hi∧hi≤m∧(∀ i,i<lo→bey key left k pa base i=true)∧(∀ i,hi≤i→i<m→bey key left k pa base i=false)∧hi - lo≤m - x) ?_ _ 0 _ _ _ ?_ ⟨rfl,rfl,_,_,rfl,LH⟩
   ·rintro x c st' s' ⟨e1,e2,lo,hi,rfl,h1,h2,h3,h4,h5⟩
    rw[e1,e2]
    dsimp only
    by_cases hlh:lo ≥ hi
    ·rw[if_pos hlh]
     apply kasC_pure
     dsimp only
     have e:lo=hi:=by lia
     subst e
     exact kasC_pure (h lo h2 h3 h4)
    ·rw[if_neg hlh]
     have m1:lo≤lo+(hi - lo) / 2:=by lia
     have m2:lo+(hi - lo) / 2<hi:=by lia
     generalize lo+(hi - lo) / 2=mid at m1 m2 ⊢
     refine kasC_bind (ask mid (by lia) _ ?_)
     dsimp only
     cases hB:bey key left k pa base mid with
     | true=>
      rw[if_pos rfl]
      exact kasC_pure ⟨rfl,rfl,mid+1,hi,rfl,by lia,h2,fun i hi'=>mono i mid (by lia) (by lia) hB,h4,by lia⟩
     | false=>
      rw[if_neg Bool.false_ne_true]
      refine kasC_pure ⟨rfl,rfl,lo,mid,rfl,by lia,by lia,h3,fun i a b=>?_,by lia⟩
      cases hi2:bey key left k pa base i with
      | false=>rfl
      | true=>rw[mono mid i a b hi2] at hB;cases hB
   ·rintro c st' s' ⟨e1,e2,lo,hi,rfl,h1,h2,h3,h4,h5⟩
    rw[e1,e2]
    dsimp only
    have e:lo=hi:=by lia
    subst e
    exact kasC_pure (h lo h2 h3 h4)
 | false=>
  rw[if_neg Bool.false_ne_true]
  apply kasC_bind
  apply kasC_range
  have nxt:∀ last ofs,last<ofs→last≤hint→bey key left k pa base (hint - last)=false→(ofs ≥ hint+1∨bey key left k pa base (hint - ofs)=true)→
    hint+1 - min ofs (hint+1)≤hint - last∧hint - last≤m∧(∀ i,i<hint+1 - min ofs (hint+1)→bey key left k pa base i=true)∧(∀ i,hint - last≤i→i<m→bey key left k pa base i=false)∧hint - last - (hint+1 - min ofs (hint+1))≤m - 0:=fun last ofs a1 a2 a3 a4=>by
   refine⟨by lia,by lia,fun i hi=>?_,fun i h1 h2=>?_,by lia⟩
   ·rcases a4 with a4 | a4
    ·lia
    ·exact mono i (hint - ofs) (by lia) (by lia) a4
   ·cases hi2:bey key left k pa base i with
    | false=>rfl
    | true=>rw[mono (hint - last) i (by lia) h2 hi2] at a3;cases a3
  refine bI (fun x c st' s'=>st'=st∧s'=s∧∃ last ofs,c=(none,last,ofs)∧last<ofs∧x<ofs∧last≤hint∧bey key left k pa base (hint - last)=false) ?_ _ 0 _ _ _ ?_ ⟨rfl,rfl,0,1,rfl,by lia,by lia,by lia,hB0⟩
  ·rintro x c st' s' ⟨e1,e2,last,ofs,rfl,h1,h2,h3,h4⟩
   rw[e1,e2]
   dsimp only
   by_cases ho:ofs ≥ hint+1
   ·rw[if_pos ho]
    apply kasC_pure
    dsimp only
    have LH:=nxt last ofs h1 h3 h4 (.inl ho)
    apply kasC_bind
    apply kasC_range
    refine bI (fun x c st' s'=>st'=st∧s'=s∧∃ lo hi,c=(none,lo,hi)∧lo≤hi∧hi≤m∧(∀ i,i<lo→bey key left k pa base i=true)∧(∀ i,hi≤i→i<m→bey key left k pa base i=false)∧hi - lo≤m - x) ?_ _ 0 _ _ _ ?_ ⟨rfl,rfl,_,_,rfl,LH⟩
    ·rintro x c st' s' ⟨e1,e2,lo,hi,rfl,h1,h2,h3,h4,h5⟩
     rw[e1,e2]
     dsimp only
     by_cases hlh:lo ≥ hi
     ·rw[if_pos hlh]
      apply kasC_pure
      dsimp only
      have e:lo=hi:=by lia
      subst e
      exact kasC_pure (h lo h2 h3 h4)
     ·rw[if_neg hlh]
      have m1:lo≤lo+(hi - lo) / 2:=by lia
      have m2:lo+(hi - lo) / 2<hi:=by lia
      generalize lo+(hi - lo) / 2=mid at m1 m2 ⊢
      refine kasC_bind (ask mid (by lia) _ ?_)
      dsimp only
      cases hB:bey key left k pa base mid with
      | true=>
       rw[if_pos rfl]
       exact kasC_pure ⟨rfl,rfl,mid+1,hi,rfl,by lia,h2,fun i hi'=>mono i mid (by lia) (by lia) hB,h4,by lia⟩
      | false=>
       rw[if_neg Bool.false_ne_true]
       refine kasC_pure ⟨rfl,rfl,lo,mid,rfl,by lia,by lia,h3,fun i a b=>?_,by lia⟩
       cases hi2:bey key left k pa base i with
       | false=>rfl
       | true=>rw[mono mid i a b hi2] at hB;cases hB
    ·rintro c st' s' ⟨e1,e2,lo,hi,rfl,h1,h2,h3,h4,h5⟩
     rw[e1,e2]
     dsimp only
     have e:lo=hi:=by lia
     subst e
     exact kasC_pure (h lo h2 h3 h4)
   ·rw[if_neg ho]
    refine kasC_bind (ask (hint - ofs) (by lia) _ ?_)
    dsimp only
    cases hB:bey key left k pa base (hint - ofs) with
    | false=>
     rw[if_neg Bool.false_ne_true]
     exact kasC_pure ⟨rfl,rfl,ofs,2 * ofs+1,rfl,by lia,by lia,by lia,hB⟩
    | true=>
     rw[if_pos rfl]
     apply kasC_pure
     dsimp only
     have LH:=nxt last ofs h1 h3 h4 (.inr hB)
     apply kasC_bind
     apply kasC_range
     refine bI (fun x c st' s'=>st'=st∧s'=s∧∃ lo hi,c=(none,lo,hi)∧lo≤hi∧hi≤m∧(∀ i,i<lo→bey key left k pa base i=true)∧(∀ i,hi≤i→i<m→bey key left k pa base i=false)∧hi - lo≤m - x) ?_ _ 0 _ _ _ ?_ ⟨rfl,rfl,_,_,rfl,LH⟩
     ·rintro x c st' s' ⟨e1,e2,lo,hi,rfl,h1,h2,h3,h4,h5⟩
      rw[e1,e2]
      dsimp only
      by_cases hlh:lo ≥ hi
      ·rw[if_pos hlh]
       apply kasC_pure
       dsimp only
       have e:lo=hi:=by lia
       subst e
       exact kasC_pure (h lo h2 h3 h4)
      ·rw[if_neg hlh]
       have m1:lo≤lo+(hi - lo) / 2:=by lia
       have m2:lo+(hi - lo) / 2<hi:=by lia
       generalize lo+(hi - lo) / 2=mid at m1 m2 ⊢
       refine kasC_bind (ask mid (by lia) _ ?_)
       dsimp only
       cases hB:bey key left k pa base mid with
       | true=>
        rw[if_pos rfl]
        exact kasC_pure ⟨rfl,rfl,mid+1,hi,rfl,by lia,h2,fun i hi'=>mono i mid (by lia) (by lia) hB,h4,by lia⟩
       | false=>
        rw[if_neg Bool.false_ne_true]
        refine kasC_pure ⟨rfl,rfl,lo,mid,rfl,by lia,by lia,h3,fun i a b=>?_,by lia⟩
        cases hi2:bey key left k pa base i with
        | false=>rfl
        | true=>rw[mono mid i a b hi2] at hB;cases hB
     ·rintro c st' s' ⟨e1,e2,lo,hi,rfl,h1,h2,h3,h4,h5⟩
      rw[e1,e2]
      dsimp only
      have e:lo=hi:=by lia
      subst e
      exact kasC_pure (h lo h2 h3 h4)
  ·rintro c st' s' ⟨e1,e2,last,ofs,rfl,h1,h2,h3,h4⟩
   rw[e1,e2]
   dsimp only
   have LH:=nxt last ofs h1 h3 h4 (.inl (by lia))
   apply kasC_bind
   apply kasC_range
   refine bI (fun x c st' s'=>st'=st∧s'=s∧∃ lo hi,c=(none,lo,hi)∧lo≤hi∧hi≤m∧(∀ i,i<lo→bey key left k pa base i=true)∧(∀ i,hi≤i→i<m→bey key left k pa base i=false)∧hi - lo≤m - x) ?_ _ 0 _ _ _ ?_ ⟨rfl,rfl,_,_,rfl,LH⟩
   ·rintro x c st' s' ⟨e1,e2,lo,hi,rfl,h1,h2,h3,h4,h5⟩
    rw[e1,e2]
    dsimp only
    by_cases hlh:lo ≥ hi
    ·rw[if_pos hlh]
     apply kasC_pure
     dsimp only
     have e:lo=hi:=by lia
     subst e
     exact kasC_pure (h lo h2 h3 h4)
    ·rw[if_neg hlh]
     have m1:lo≤lo+(hi - lo) / 2:=by lia
     have m2:lo+(hi - lo) / 2<hi:=by lia
     generalize lo+(hi - lo) / 2=mid at m1 m2 ⊢
     refine kasC_bind (ask mid (by lia) _ ?_)
     dsimp only
     cases hB:bey key left k pa base mid with
     | true=>
      rw[if_pos rfl]
      exact kasC_pure ⟨rfl,rfl,mid+1,hi,rfl,by lia,h2,fun i hi'=>mono i mid (by lia) (by lia) hB,h4,by lia⟩
     | false=>
      rw[if_neg Bool.false_ne_true]
      refine kasC_pure ⟨rfl,rfl,lo,mid,rfl,by lia,by lia,h3,fun i a b=>?_,by lia⟩
      cases hi2:bey key left k pa base i with
      | false=>rfl
      | true=>rw[mono mid i a b hi2] at hB;cases hB
   ·rintro c st' s' ⟨e1,e2,lo,hi,rfl,h1,h2,h3,h4,h5⟩
    rw[e1,e2]
    dsimp only
    have e:lo=hi:=by lia
    subst e
    exact kasC_pure (h lo h2 h3 h4)
end
section
variable {key:Nat→Int}
noncomputable def Srt (key:Nat→Int) (l:List Nat):Prop:=l.Pairwise fun x y=>key x≤key y
structure MLo (key:Nat→Int) (la lb:List Nat) (po:List Nat) (ia ib:Nat):Prop where
 perm:po.Perm (la.take ia++lb.take ib)
 sa:Srt key (po++la.drop ia)
 sb:Srt key (po++lb.drop ib)
 pa:ia+1<la.length
 pb:ib<lb.length
theorem bu {l m:List Nat}:Srt key (l++m)↔Srt key l∧Srt key m∧∀ x∈l,∀ y∈m,key x≤key y:=List.pairwise_append
theorem fX (l:List Nat) (i k:Nat):l.take i++(l.drop i).take k=l.take (i+k):=by rw[List.take_add]
theorem eS {la lb po:List Nat}{ia ib:Nat} (k:Nat) (perm:po.Perm (la.take ia++lb.take ib)) (sa:Srt key (po++la.drop ia)) (sb:Srt key (po++lb.drop ib)) (h:∀ x∈(la.drop ia).take k,∀ y∈lb.drop ib,key x≤key y):
  (po++(la.drop ia).take k).Perm (la.take (ia+k)++lb.take ib)∧Srt key (po++(la.drop ia).take k++la.drop (ia+k))∧Srt key (po++(la.drop ia).take k++lb.drop ib):=by
 refine⟨?_,?_,?_⟩
 ·rw[← fX la ia k]
  refine (perm.append_right _).trans ?_
  rw[List.append_assoc,List.append_assoc]
  exact List.Perm.append_left _ List.perm_append_comm
 ·rw[List.append_assoc,← List.drop_drop,List.take_append_drop]
  exact sa
 ·rw[List.append_assoc]
  have s1:=bu.mp sa
  have s2:=bu.mp sb
  refine bu.mpr ⟨s1.1,bu.mpr ⟨s1.2.1.sublist (List.take_sublist _ _),s2.2.1,h⟩,fun x hx y hy=>?_⟩
  rcases List.mem_append.mp hy with hy | hy
  ·exact s1.2.2 x hx y (List.mem_of_mem_take hy)
  ·exact s2.2.2 x hx y hy
theorem gP {la lb po:List Nat}{ia ib:Nat} (k:Nat) (perm:po.Perm (la.take ia++lb.take ib)) (sa:Srt key (po++la.drop ia)) (sb:Srt key (po++lb.drop ib)) (h:∀ x∈(lb.drop ib).take k,∀ y∈la.drop ia,key x≤key y):
  (po++(lb.drop ib).take k).Perm (la.take ia++lb.take (ib+k))∧Srt key (po++(lb.drop ib).take k++la.drop ia)∧Srt key (po++(lb.drop ib).take k++lb.drop (ib+k)):=by
 have:=eS (la:=lb) (lb:=la) k (perm.trans List.perm_append_comm) sb sa h
 exact⟨this.1.trans List.perm_append_comm,this.2.2,this.2.1⟩
theorem bJ {l:List Nat}{i:Nat} (h:i<l.length):(l.drop i).take 1=[l.getD i 0]:=by
 rw[List.drop_eq_getElem_cons h,List.getD_eq_getElem?_getD,List.getElem?_eq_getElem h]
 rfl
theorem bZ {l:List Nat}{i y:Nat} (h:y∈l.drop i):∃ j,i≤j∧j<l.length∧y=l.getD j 0:=by
 obtain⟨j,hj,e⟩:=List.mem_iff_getElem.mp h
 have hl:=hj
 rw[List.length_drop] at hl
 exact⟨i+j,by lia,by lia,by rw[← e,List.getElem_drop];simp[List.getD,show i+j<l.length by lia]⟩
theorem eU {l:List Nat}{i k y:Nat} (h:y∈(l.drop i).take k):∃ j,j<k∧i+j<l.length∧y=l.getD (i+j) 0:=by
 obtain⟨j,hj,e⟩:=List.mem_iff_getElem.mp h
 have hl:=hj
 rw[List.length_take,List.length_drop] at hl
 exact⟨j,by lia,by lia,by rw[← e,List.getElem_take,List.getElem_drop];simp[List.getD,show i+j<l.length by lia]⟩
theorem eV {l:List Nat} (h:Srt key l) {i j:Nat} (hij:i≤j) (hj:j<l.length):key (l.getD i 0)≤key (l.getD j 0):=by
 rcases Nat.lt_or_eq_of_le hij with hlt | rfl
 ·have:=List.pairwise_iff_getElem.mp h i j (by lia) hj hlt
  simpa [List.getD,hj,show i<l.length by lia] using this
 ·exact Int.le_refl _
theorem mV {l m:List Nat} (h:Srt key (l++m)):Srt key m:=(bu.mp h).2.1
theorem d5 {po l:List Nat}{i j k:Nat} (h:Srt key (po++l.drop i)) (hj:i≤j) (hjk:j≤k) (hk:k<l.length):key (l.getD j 0)≤key (l.getD k 0):=by
 have:=eV (mV h) (i:=j - i) (j:=k - i) (by lia) (by rw[List.length_drop];lia)
 simpa [List.getD,List.getElem?_drop,show i+(j - i)=j by lia,show i+(k - i)=k by lia] using this
noncomputable def Mrg (key:Nat→Int) (it:Array Keyed) (la lb:List Nat) (out:Array Keyed):Prop:=∃ po:List Nat,out=(po.map (kas_item it)).toArray∧po.Perm (la++lb)∧Srt key po
theorem eZ {it:Array Keyed}{la lb po:List Nat}{ia ib:Nat} (perm:po.Perm (la.take ia++lb.take ib)) (sa:Srt key (po++la.drop ia)) (sb:Srt key (po++lb.drop ib)) (hib:ib=lb.length∨ia=la.length):
  Mrg key it la lb ((po.map (kas_item it)).toArray++(la.map (kas_item it)).toArray.extract ia la.length++(lb.map (kas_item it)).toArray.extract ib lb.length):=by
 refine⟨po++la.drop ia++lb.drop ib,?_,?_,?_⟩
 ·apply Array.ext'
  simp[List.map_drop,List.take_of_length_le]
 ·rw[List.append_assoc]
  refine (perm.append_right _).trans ?_
  have:(la.take ia++lb.take ib++(la.drop ia++lb.drop ib)).Perm ((la.take ia++la.drop ia)++(lb.take ib++lb.drop ib)):=by
   rw[List.append_assoc,List.append_assoc]
   refine List.Perm.append_left _ ?_
   rw[← List.append_assoc,← List.append_assoc]
   exact List.Perm.append_right _ List.perm_append_comm
  rw[List.take_append_drop,List.take_append_drop] at this
  exact this
 ·rcases hib with e | e
  ·rw[e,List.drop_length,List.append_nil]
   exact sa
  ·rw[e,List.drop_length,List.append_nil]
   exact sb
theorem e8 {it:Array Keyed}{la lb po:List Nat}{ia ib:Nat} (perm:po.Perm (la.take ia++lb.take ib)) (sa:Srt key (po++la.drop ia)) (sb:Srt key (po++lb.drop ib)) (hia:ia+1=la.length) (top:∀ x∈lb,key x≤key (la.getD (la.length - 1) 0)):
  Mrg key it la lb ((po.map (kas_item it)).toArray++(lb.map (kas_item it)).toArray.extract ib lb.length++(la.map (kas_item it)).toArray.extract ia la.length):=by
 refine⟨po++lb.drop ib++la.drop ia,?_,?_,?_⟩
 ·apply Array.ext'
  simp[List.map_drop,List.take_of_length_le]
 ·rw[List.append_assoc]
  refine (perm.append_right _).trans ?_
  have:(la.take ia++lb.take ib++(lb.drop ib++la.drop ia)).Perm ((la.take ia++la.drop ia)++(lb.take ib++lb.drop ib)):=by
   rw[List.append_assoc,List.append_assoc]
   refine List.Perm.append_left _ ?_
   rw[← List.append_assoc]
   exact List.perm_append_comm
  rw[List.take_append_drop,List.take_append_drop] at this
  exact this
 ·refine bu.mpr ⟨sb,mV sa,fun x hx y hy=>?_⟩
  rcases List.mem_append.mp hx with hx | hx
  ·exact (bu.mp sa).2.2 x hx y hy
  ·obtain⟨j,h1,h2,rfl⟩:=bZ hy
   have:j=la.length - 1:=by lia
   rw[this]
   exact top x (List.mem_of_mem_drop hx)
end
section
variable {prog:Program}{w:World}{A:Around}{E:Value→Shared→Prop}{κ:SortKind}{it:Array Keyed}{key:Nat→Int}{n:Nat}{s:Shared}
noncomputable def mW:Array Keyed→Array Keyed→StateT SortSt Sem (Array Keyed):=sortPriv% PySem.Builtin.mergeLo
structure SameSt (st0 st:SortSt):Prop where
 k:kindOf st=kindOf st0
 a:arrOf st=arrOf st0
 p:pendingOf st=pendingOf st0
 f:failedOf st=failedOf st0
theorem SameSt.refl (st:SortSt):SameSt st st:=⟨rfl,rfl,rfl,rfl⟩
theorem b6 {σ α:Type}{M:Model}{m:StateT σ Sem α}{Q Q':α→σ→Shared→Prop}{st:σ}{s':Shared} (h:kasC M A E m Q' st s') (g:∀ a st s',Q' a st s'→Q a st s'):kasC M A E m Q st s':=
 wpAny_mono h (fun r s' x=>g r.1 r.2 s' x) fun _ _ e=>e
theorem aS {l:List Nat}{i:Nat} (hi:i<l.length) {st:SortSt}{Q:Keyed→SortSt→Shared→Prop} (h:Q (kas_item it (l.getD i 0)) st s):kasC (model prog w) A E (elem' (l.map (kas_item it)).toArray i) Q st s:=by
 rw[elem'_eq,show ((l.map (kas_item it)).toArray)[i]?=some (kas_item it (l.getD i 0)) by simp[List.getD,hi]]
 exact kasC_pure h
theorem cv {l:List Nat} (hl:∀ x∈l,x<n) {i:Nat} (hi:i<l.length):l.getD i 0<n:=by
 rw[List.getD_eq_getElem?_getD,List.getElem?_eq_getElem hi]
 exact hl _ (List.getElem_mem hi)
theorem dH (l:List Nat) (i:Nat):l.toArray.getD i 0=l.getD i 0:=by simp[Array.getD,List.getD];split<;>simp_all
theorem jL (hc:bj n key (kas_cmp prog w A κ it) s) {k:Nat} (hk:k<n) {l:List Nat} (hl:∀ x∈l,x<n) {base m hint:Nat} (hb:base+m≤l.length) (hh:hint<m)
  (mono:∀ i j,base≤i→i≤j→j<base+m→key (l.getD i 0)≤key (l.getD j 0)) {st:SortSt} (hkind:kindOf st=κ) {Q:Option Nat→SortSt→Shared→Prop}
  (h:∀ r,r≤m→(∀ i,base≤i→i<base+r→key (l.getD i 0)≤key k)→(∀ i,base+r≤i→i<base+m→key k<key (l.getD i 0))→Q (some r) st s):
  kasC (model prog w) A E (iK false (kas_item it k) (l.map (kas_item it)).toArray base m hint) Q st s:=by
 rw[← List.map_toArray]
 refine mU hc hk (fun i hi=>by rw[dH];exact cv hl (by simpa using hi)) (by simpa using hb) hh (fun i j hij hj hB=>?_) hkind fun r hr a b=>h r hr (fun i h1 h2=>?_) (fun i h1 h2=>?_)
 ·simp only[bey,dH,Bool.false_eq_true,if_false,Bool.not_eq_true',decide_eq_false_iff_not,Int.not_lt] at hB ⊢
  have:=mono (base+i) (base+j) (by lia) (by lia) (by lia)
  lia
 ·have:=a (i - base) (by lia)
  simp only[bey,dH,Bool.false_eq_true,if_false,Bool.not_eq_true',decide_eq_false_iff_not,Int.not_lt] at this
  rwa [show base+(i - base)=i by lia] at this
 ·have:=b (i - base) (by lia) (by lia)
  simp only[bey,dH,Bool.false_eq_true,if_false,Bool.not_eq_false',decide_eq_true_eq] at this
  rwa [show base+(i - base)=i by lia] at this
theorem gQ (hc:bj n key (kas_cmp prog w A κ it) s) {k:Nat} (hk:k<n) {l:List Nat} (hl:∀ x∈l,x<n) {base m hint:Nat} (hb:base+m≤l.length) (hh:hint<m)
  (mono:∀ i j,base≤i→i≤j→j<base+m→key (l.getD i 0)≤key (l.getD j 0)) {st:SortSt} (hkind:kindOf st=κ) {Q:Option Nat→SortSt→Shared→Prop}
  (h:∀ r,r≤m→(∀ i,base≤i→i<base+r→key (l.getD i 0)<key k)→(∀ i,base+r≤i→i<base+m→key k≤key (l.getD i 0))→Q (some r) st s):
  kasC (model prog w) A E (iK true (kas_item it k) (l.map (kas_item it)).toArray base m hint) Q st s:=by
 rw[← List.map_toArray]
 refine mU hc hk (fun i hi=>by rw[dH];exact cv hl (by simpa using hi)) (by simpa using hb) hh (fun i j hij hj hB=>?_) hkind fun r hr a b=>h r hr (fun i h1 h2=>?_) (fun i h1 h2=>?_)
 ·simp only[bey,dH,if_true,decide_eq_true_eq] at hB ⊢
  have:=mono (base+i) (base+j) (by lia) (by lia) (by lia)
  lia
 ·have:=a (i - base) (by lia)
  simp only[bey,dH,if_true,decide_eq_true_eq] at this
  rwa [show base+(i - base)=i by lia] at this
 ·have:=b (i - base) (by lia) (by lia)
  simp only[bey,dH,if_true,decide_eq_false_iff_not,Int.not_lt] at this
  rwa [show base+(i - base)=i by lia] at this
theorem aT (po:List Nat) (y:Nat):(po.map (kas_item it)).toArray.push (kas_item it y)=((po++[y]).map (kas_item it)).toArray:=by simp
theorem bS (po l:List Nat) (i k:Nat):(po.map (kas_item it)).toArray++(l.map (kas_item it)).toArray.extract i (i+k)=((po++(l.drop i).take k).map (kas_item it)).toArray:=by
 apply Array.ext'
 simp[List.map_drop,List.map_take,List.drop_take]
end
section
variable {prog:Program}{w:World}{A:Around}{E:Value→Shared→Prop}{κ:SortKind}{it:Array Keyed}{key:Nat→Int}{n:Nat}{s:Shared}
noncomputable def JLo (key:Nat→Int) (it:Array Keyed) (la lb:List Nat) (out:Array Keyed) (ia ib:Nat):Prop:=∃ po:List Nat,out=(po.map (kas_item it)).toArray∧MLo key la lb po ia ib
theorem mX {M:Model}{A:Around}{E:Value→Shared→Prop}{σ α:Type}{c:Nat→Prop}{dc:∀ g,Decidable (c g)}{a P:Nat→StateT σ Sem α}{Q:α→σ→Shared→Prop}{st:σ}{s:Shared} (x:Nat→Nat) (ha:∀ g,a g=P (x g)) (H:∀ g,kasC M A E (P g) Q st s):∀ g,kasC M A E (if c g then a g else P g) Q st s:=by
 intro g
 rw[ha]
 split
 ·exact H _
 ·exact H _
noncomputable def LoA (key:Nat→Int) (it:Array Keyed) (la lb:List Nat) (st:SortSt) (s:Shared)  : Option (Array Keyed)×Array Keyed×Nat×Nat×Nat→SortSt→Shared→Prop:=fun c st' s'=>s=s'∧SameSt st st'∧∃ out' p q r g,c=(some out',p,q,r,g)∧Mrg key it la lb out'
noncomputable def LoI (key:Nat→Int) (it:Array Keyed) (la lb:List Nat) (st:SortSt) (s:Shared) (x:Nat):Option (Array Keyed)×Array Keyed×Nat×Nat×Nat→SortSt→Shared→Prop:=fun c st' s'=>s=s'∧SameSt st st'∧∃ o ia ib g,c=(none,o,ia,ib,g)∧JLo key it la lb o ia ib∧x+1≤ia+ib
noncomputable def LoB (key:Nat→Int) (it:Array Keyed) (la lb:List Nat) (st:SortSt) (s:Shared) (x:Nat):Option (Array Keyed)×Array Keyed×Nat×Nat×Nat×Nat→SortSt→Shared→Prop:=fun c st' s'=>s=s'∧SameSt st st'∧((∃ out' p q r ac bc,c=(some out',p,q,r,ac,bc)∧Mrg key it la lb out')∨∃ o ia ib ac bc,c=(none,o,ia,ib,ac,bc)∧JLo key it la lb o ia ib∧x+2≤ia+ib)
noncomputable def LoJ (key:Nat→Int) (it:Array Keyed) (la lb:List Nat) (st:SortSt) (s:Shared) (x y:Nat):Option (Array Keyed)×Array Keyed×Nat×Nat×Nat×Nat→SortSt→Shared→Prop:=fun c st' s'=>s=s'∧SameSt st st'∧∃ o ia ib ac bc,c=(none,o,ia,ib,ac,bc)∧JLo key it la lb o ia ib∧x+1+y≤ia+ib
noncomputable def LoC (key:Nat→Int) (it:Array Keyed) (la lb:List Nat) (st:SortSt) (s:Shared) (x:Nat):Option (Array Keyed)×Array Keyed×Nat×Nat×Nat×Nat×Nat→SortSt→Shared→Prop:=fun c st' s'=>s=s'∧SameSt st st'∧((∃ out' p q r g ac bc,c=(some out',p,q,r,g,ac,bc)∧Mrg key it la lb out')∨∃ o ia ib g ac bc,c=(none,o,ia,ib,g,ac,bc)∧JLo key it la lb o ia ib∧x+2≤ia+ib)
noncomputable def LoK (key:Nat→Int) (it:Array Keyed) (la lb:List Nat) (st:SortSt) (s:Shared) (x y:Nat):Option (Array Keyed)×Array Keyed×Nat×Nat×Nat×Nat×Nat→SortSt→Shared→Prop:=fun c st' s'=>s=s'∧SameSt st st'∧∃ o ia ib g ac bc,c=(none,o,ia,ib,g,ac,bc)∧JLo key it la lb o ia ib∧x+2≤ia+ib
theorem LoA.a {key:Nat→Int}{it:Array Keyed}{la lb:List Nat}{st st':SortSt}{s:Shared}{out:Array Keyed}{p:Array Keyed}{q r:Nat}{g:Nat} (h:SameSt st st') (m:Mrg key it la lb out):LoA key it la lb st s (some out,p,q,r,g) st' s:=⟨rfl,h,_,_,_,_,_,rfl,m⟩
theorem LoI.k {key:Nat→Int}{it:Array Keyed}{la lb:List Nat}{st st':SortSt}{s:Shared}{x:Nat}{o:Array Keyed}{ia ib:Nat}{g:Nat} (h:SameSt st st') (j:JLo key it la lb o ia ib) (e:x+1≤ia+ib):LoI key it la lb st s x (none,o,ia,ib,g) st' s:=⟨rfl,h,_,_,_,_,rfl,j,e⟩
theorem LoB.a {key:Nat→Int}{it:Array Keyed}{la lb:List Nat}{st st':SortSt}{s:Shared}{x:Nat}{out:Array Keyed}{p:Array Keyed}{q r:Nat}{g g2:Nat} (h:SameSt st st') (m:Mrg key it la lb out):LoB key it la lb st s x (some out,p,q,r,g,g2) st' s:=⟨rfl,h,.inl ⟨_,_,_,_,_,_,rfl,m⟩⟩
theorem LoB.b {key:Nat→Int}{it:Array Keyed}{la lb:List Nat}{st st':SortSt}{s:Shared}{x:Nat}{o:Array Keyed}{ia ib:Nat}{g g2:Nat} (h:SameSt st st') (j:JLo key it la lb o ia ib) (e:x+2≤ia+ib):LoB key it la lb st s x (none,o,ia,ib,g,g2) st' s:=⟨rfl,h,.inr ⟨_,_,_,_,_,rfl,j,e⟩⟩
theorem LoJ.k {key:Nat→Int}{it:Array Keyed}{la lb:List Nat}{st st':SortSt}{s:Shared}{x y:Nat}{o:Array Keyed}{ia ib:Nat}{g g2:Nat} (h:SameSt st st') (j:JLo key it la lb o ia ib) (e:x+1+y≤ia+ib):LoJ key it la lb st s x y (none,o,ia,ib,g,g2) st' s:=⟨rfl,h,_,_,_,_,_,rfl,j,e⟩
theorem LoC.a {key:Nat→Int}{it:Array Keyed}{la lb:List Nat}{st st':SortSt}{s:Shared}{x:Nat}{out:Array Keyed}{p:Array Keyed}{q r:Nat}{g g2 g3:Nat} (h:SameSt st st') (m:Mrg key it la lb out):LoC key it la lb st s x (some out,p,q,r,g,g2,g3) st' s:=⟨rfl,h,.inl ⟨_,_,_,_,_,_,_,rfl,m⟩⟩
theorem LoC.b {key:Nat→Int}{it:Array Keyed}{la lb:List Nat}{st st':SortSt}{s:Shared}{x:Nat}{o:Array Keyed}{ia ib:Nat}{g g2 g3:Nat} (h:SameSt st st') (j:JLo key it la lb o ia ib) (e:x+2≤ia+ib):LoC key it la lb st s x (none,o,ia,ib,g,g2,g3) st' s:=⟨rfl,h,.inr ⟨_,_,_,_,_,_,rfl,j,e⟩⟩
theorem LoK.k {key:Nat→Int}{it:Array Keyed}{la lb:List Nat}{st st':SortSt}{s:Shared}{x y:Nat}{o:Array Keyed}{ia ib:Nat}{g g2 g3:Nat} (h:SameSt st st') (j:JLo key it la lb o ia ib) (e:x+2≤ia+ib):LoK key it la lb st s x y (none,o,ia,ib,g,g2,g3) st' s:=⟨rfl,h,_,_,_,_,_,_,rfl,j,e⟩
theorem bq {a b:Nat} (h:a=b):(a == b)=true:=by simp[h]
theorem nbq {a b:Nat} (h:¬ a=b):¬ (a == b)=true:=by simp[h]
theorem vD (hc:bj n key (kas_cmp prog w A κ it) s) {la lb:List Nat} (hla:∀ x∈la,x<n) (hlb:∀ x∈lb,x<n) (sla:Srt key la) (slb:Srt key lb) (h0:0<la.length) (h1:0<lb.length)
  (first:∀ x∈la,key (lb.getD 0 0)≤key x) (top:∀ x∈lb,key x≤key (la.getD (la.length - 1) 0)) {st:SortSt} (hkind:kindOf st=κ) {Q:Array Keyed→SortSt→Shared→Prop}
  (h:∀ out st',Mrg key it la lb out→SameSt st st'→Q out st' s):
  kasC (model prog w) A E (mW (la.map (kas_item it)).toArray (lb.map (kas_item it)).toArray) Q st s:=by
 unfold mW
 with_unfolding_all refine kasC_bind (kasC_lift (wpAny_rule ?_))
 refine kasC_bind (aS h1 ?_)
 dsimp only
 generalize hza:(List.map (kas_item it) la).toArray.size=za
 obtain rfl:la.length=za:=by rw[← hza];simp
 generalize hzb:(List.map (kas_item it) lb).toArray.size=zb
 obtain rfl:lb.length=zb:=by rw[← hzb];simp
 have perm0:[lb.getD 0 0].Perm (la.take 0++lb.take 1):=by
  have:=bJ (l:=lb) (i:=0) h1
  simp only[List.drop_zero] at this
  rw[this]
  exact List.Perm.refl _
 have sb0:Srt key ([lb.getD 0 0]++lb.drop 1):=by
  have:=bJ (l:=lb) (i:=0) h1
  simp only[List.drop_zero] at this
  rw[← this,List.take_append_drop]
  exact slb
 have sa0:Srt key ([lb.getD 0 0]++la.drop 0):=bu.mpr ⟨List.pairwise_singleton _ _,by rw[List.drop_zero];exact sla,fun x hx y hy=>by
  rw[List.mem_singleton.mp hx]
  exact first y (by rwa [List.drop_zero] at hy)⟩
 have e0:#[kas_item it (lb.getD 0 0)]=([lb.getD 0 0].map (kas_item it)).toArray:=rfl
 rw[e0]
 by_cases c1:1=lb.length
 ·rw[if_pos (bq c1)]
  exact kasC_pure (h _ _ (eZ perm0 sa0 sb0 (.inl c1)) (SameSt.refl st))
 rw[if_neg (nbq c1)]
 by_cases c2:0+1=la.length
 ·rw[if_pos (bq c2)]
  exact kasC_pure (h _ _ (e8 perm0 sa0 sb0 c2 top) (SameSt.refl st))
 rw[if_neg (nbq c2)]
 refine kasC_bind (kasC_get ?_)
 refine kasC_bind (b6 (Q':=LoA key it la lb st s) (kasC_range (bI (LoI key it la lb st s) ?step _ 0 _ _ _ ?fin (LoI.k (SameSt.refl st) ⟨_,rfl,perm0,sa0,sb0,by lia,by lia⟩ (by lia)))) ?after)
 case after=>
  rintro c st' s' ⟨rfl,hs,out',o,ia,ib,g,rfl,hm⟩
  exact kasC_pure (h _ _ hm hs)
 case fin=>
  rintro c st' s' ⟨rfl,hs,o,ia,ib,g,rfl,⟨po,rfl,m⟩,hx⟩
  have:=m.pa
  have:=m.pb
  lia
 case step=>
  rintro x c st' s' ⟨rfl,hs,o,ia,ib,g,rfl,hJ,hx⟩
  dsimp only
  refine kasC_bind (b6 (Q':=LoB key it la lb st s x)
   (kasC_range (bI (LoJ key it la lb st s x) ?step1 _ 0 _ _ _ ?fin1 (LoJ.k hs hJ (by lia)))) ?after1)
  case fin1=>
   rintro c st' s' ⟨rfl,hs,o,ia,ib,ac,bc,rfl,hJ,hx⟩
   exact LoB.b hs hJ (by lia)
  case step1=>
   rintro y c st' s' ⟨rfl,hs,o,ia,ib,ac,bc,rfl,⟨po,rfl,m⟩,hx⟩
   have m1:=m.pa
   have m2:=m.pb
   have hk':kindOf st'=κ:=hs.k.trans hkind
   dsimp only
   refine kasC_bind (aS m2 ?_)
   refine kasC_bind (aS (show ia<la.length by lia) ?_)
   refine kasC_bind (gO hc (cv hlb m2) (cv hla (show ia<la.length by lia)) hk' ?_)
   dsimp only
   by_cases hw:key (lb.getD ib 0)<key (la.getD ia 0)
   ·rw[if_pos (by simpa using hw)]
    refine kasC_bind (aS m2 ?_)
    have b1:=gP 1 m.perm m.sa m.sb (fun x hx y hy=>by
     rw[bJ m2,List.mem_singleton] at hx
     obtain⟨j,j1,j2,rfl⟩:=bZ hy
     have:=d5 m.sa (Nat.le_refl _) j1 j2
     rw[hx]
     lia)
    rw[bJ m2] at b1
    rw[aT]
    try dsimp only
    by_cases hz:ib+1=lb.length
    ·rw[if_pos (bq hz)]
     exact kasC_pure (LoB.a hs (eZ b1.1 b1.2.1 b1.2.2 (.inl hz)))
    ·rw[if_neg (nbq hz)]
     have J':JLo key it la lb ((po++[lb.getD ib 0]).map (kas_item it)).toArray ia (ib+1):=⟨_,rfl,b1.1,b1.2.1,b1.2.2,m1,by lia⟩
     by_cases hg:bc+1 ≥ g
     ·rw[if_pos hg]
      exact kasC_pure (LoB.b hs J' (by lia))
     ·rw[if_neg hg]
      exact kasC_pure (LoJ.k hs J' (by lia))
   ·rw[if_neg (by simpa using hw)]
    refine kasC_bind (aS (show ia<la.length by lia) ?_)
    have b1:=eS 1 m.perm m.sa m.sb (fun x hx y hy=>by
     rw[bJ (show ia<la.length by lia),List.mem_singleton] at hx
     obtain⟨j,j1,j2,rfl⟩:=bZ hy
     have:=d5 m.sb (Nat.le_refl _) j1 j2
     rw[hx]
     lia)
    rw[bJ (show ia<la.length by lia)] at b1
    rw[aT]
    try dsimp only
    by_cases hz:ia+1+1=la.length
    ·rw[if_pos (bq hz)]
     exact kasC_pure (LoB.a hs (e8 b1.1 b1.2.1 b1.2.2 hz top))
    ·rw[if_neg (nbq hz)]
     have J':JLo key it la lb ((po++[la.getD ia 0]).map (kas_item it)).toArray (ia+1) ib:=⟨_,rfl,b1.1,b1.2.1,b1.2.2,by lia,m2⟩
     by_cases hg:ac+1 ≥ g
     ·rw[if_pos hg]
      exact kasC_pure (LoB.b hs J' (by lia))
     ·rw[if_neg hg]
      exact kasC_pure (LoJ.k hs J' (by lia))
  case after1=>
   rintro c st' s' ⟨rfl,hs,⟨out',o,ia,ib,ac,bc,rfl,hm⟩ | ⟨o,ia,ib,ac,bc,rfl,hJ,hx⟩⟩
   ·exact kasC_pure (LoA.a hs hm)
   ·dsimp only
    refine kasC_bind (kasC_lift (wpAny_rule ?_))
    try dsimp only
    refine kasC_bind (b6 (Q':=LoC key it la lb st s x)
     (kasC_range (bI (LoK key it la lb st s x) ?step2 _ 0 _ _ _ ?fin2 (LoK.k hs hJ (by lia)))) ?after2)
    case fin2=>
     rintro c st' s' ⟨rfl,hs,o,ia,ib,g,ac,bc,rfl,hJ,hx⟩
     exact LoC.b hs hJ (by lia)
    case after2=>
     rintro c st' s' ⟨rfl,hs,⟨out',o,ia,ib,g,ac,bc,rfl,hm⟩ | ⟨o,ia,ib,g,ac,bc,rfl,hJ,hx⟩⟩
     ·exact kasC_pure (LoA.a hs hm)
     ·dsimp only
      refine kasC_bind (kasC_modify ?_)
      exact kasC_pure (LoI.k ⟨hs.k,hs.a,hs.p,hs.f⟩ hJ (by lia))
    case step2=>
     rintro y c st' s' ⟨rfl,hs,o,ia,ib,g,ac,bc,rfl,⟨po,rfl,m⟩,hx⟩
     have m1:=m.pa
     have m2:=m.pb
     dsimp only
     revert g
     refine mX (fun g=>g - 1) ?ha ?_
     case ha=>exact fun g=>rfl
     intro g
     refine kasC_bind (kasC_modify ?_)
     refine kasC_bind (aS m2 ?_)
     refine kasC_bind (jL hc (cv hlb m2) hla (base:=ia) (m:=la.length - ia) (hint:=0) (by lia) (by lia) (fun i j a b c=>d5 m.sa a b (by lia)) (by exact hs.k.trans hkind) ?_)
     intro k hk1 lo1 hi1
     dsimp only
     by_cases hk0:k > 0
     ·rw[if_pos hk0]
      have p1:=eS k m.perm m.sa m.sb (fun x hx y hy=>by
       obtain⟨j,j0,j1,rfl⟩:=eU hx
       obtain⟨j',a1,a2,rfl⟩:=bZ hy
       have:=lo1 (ia+j) (by lia) (by lia)
       have:=d5 m.sb (Nat.le_refl _) a1 a2
       lia)
      by_cases hz:ia+k+1=la.length
      ·rw[if_pos (bq hz)]
       exact kasC_pure (LoC.a ⟨hs.k,hs.a,hs.p,hs.f⟩ (by rw[bS];exact e8 p1.1 p1.2.1 p1.2.2 hz top))
      rw[if_neg (nbq hz)]
      by_cases hz2:ia+k=la.length
      ·rw[if_pos (bq hz2)]
       exact kasC_pure (LoC.a ⟨hs.k,hs.a,hs.p,hs.f⟩ (by rw[bS];exact eZ p1.1 p1.2.1 p1.2.2 (.inr hz2)))
      rw[if_neg (nbq hz2)]
      have hiA:∀ i,ia+k≤i→i<la.length→key (lb.getD ib 0)<key (la.getD i 0):=fun i a b=>hi1 i a (by lia)
      refine kasC_bind (aS m2 ?_)
      have p2:=gP 1 p1.1 p1.2.1 p1.2.2 (fun x hx y hy=>by
       rw[bJ m2,List.mem_singleton] at hx
       obtain⟨j,j1,j2,rfl⟩:=bZ hy
       have:=hiA j j1 j2
       rw[hx]
       lia)
      rw[bJ m2] at p2
      by_cases hz3:ib+1=lb.length
      ·rw[if_pos (bq hz3)]
       exact kasC_pure (LoC.a ⟨hs.k,hs.a,hs.p,hs.f⟩ (by rw[bS,aT];exact eZ p2.1 p2.2.1 p2.2.2 (.inl hz3)))
      rw[if_neg (nbq hz3)]
      refine kasC_bind (aS (show ia+k<la.length by lia) ?_)
      refine kasC_bind (gQ hc (cv hla (show ia+k<la.length by lia)) hlb (base:=ib+1) (m:=lb.length - (ib+1)) (hint:=0) (by lia) (by lia) (fun i j a b c=>d5 p2.2.2 a b (by lia)) (by exact hs.k.trans hkind) ?_)
      intro k2 hk2 lo2 hi2
      dsimp only
      by_cases hk3:k2 > 0
      ·rw[if_pos hk3]
       have p3:=gP k2 p2.1 p2.2.1 p2.2.2 (fun x hx y hy=>by
        obtain⟨j,j0,j1,rfl⟩:=eU hx
        obtain⟨j',a1,a2,rfl⟩:=bZ hy
        have:=lo2 (ib+1+j) (by lia) (by lia)
        have:=d5 p2.2.1 (Nat.le_refl _) a1 a2
        lia)
       by_cases hz4:ib+1+k2=lb.length
       ·rw[if_pos (bq hz4)]
        exact kasC_pure (LoC.a ⟨hs.k,hs.a,hs.p,hs.f⟩ (by rw[bS,aT,bS];exact eZ p3.1 p3.2.1 p3.2.2 (.inl hz4)))
       rw[if_neg (nbq hz4)]
       have hiB:∀ i,ib+1+k2≤i→i<lb.length→key (la.getD (ia+k) 0)≤key (lb.getD i 0):=fun i a b=>hi2 i a (by lia)
       refine kasC_bind (aS (show ia+k<la.length by lia) ?_)
       have p4:=eS 1 p3.1 p3.2.1 p3.2.2 (fun x hx y hy=>by
        rw[bJ (show ia+k<la.length by lia),List.mem_singleton] at hx
        obtain⟨j,j1,j2,rfl⟩:=bZ hy
        have:=hiB j j1 j2
        rw[hx]
        exact this)
       rw[bJ (show ia+k<la.length by lia)] at p4
       by_cases hz5:ia+k+1+1=la.length
       ·rw[if_pos (bq hz5)]
        exact kasC_pure (LoC.a ⟨hs.k,hs.a,hs.p,hs.f⟩ (by rw[bS,aT,bS,aT];exact e8 p4.1 p4.2.1 p4.2.2 hz5 top))
       rw[if_neg (nbq hz5)]
       by_cases hb:(decide (k<7) && decide (k2<7))=true
       ·rw[if_pos hb]
        exact kasC_pure (LoC.b ⟨hs.k,hs.a,hs.p,hs.f⟩ ⟨_,by rw[bS,aT,bS,aT],p4.1,p4.2.1,p4.2.2,by lia,by lia⟩ (by lia))
       ·rw[if_neg hb]
        exact kasC_pure (LoK.k ⟨hs.k,hs.a,hs.p,hs.f⟩ ⟨_,by rw[bS,aT,bS,aT],p4.1,p4.2.1,p4.2.2,by lia,by lia⟩ (by lia))
      ·rw[if_neg hk3]
       have p3:=p2
       have hiB:∀ i,ib+1≤i→i<lb.length→key (la.getD (ia+k) 0)≤key (lb.getD i 0):=fun i a b=>hi2 i (by lia) (by lia)
       refine kasC_bind (aS (show ia+k<la.length by lia) ?_)
       have p4:=eS 1 p3.1 p3.2.1 p3.2.2 (fun x hx y hy=>by
        rw[bJ (show ia+k<la.length by lia),List.mem_singleton] at hx
        obtain⟨j,j1,j2,rfl⟩:=bZ hy
        have:=hiB j j1 j2
        rw[hx]
        exact this)
       rw[bJ (show ia+k<la.length by lia)] at p4
       by_cases hz5:ia+k+1+1=la.length
       ·rw[if_pos (bq hz5)]
        exact kasC_pure (LoC.a ⟨hs.k,hs.a,hs.p,hs.f⟩ (by rw[bS,aT,aT];exact e8 p4.1 p4.2.1 p4.2.2 hz5 top))
       rw[if_neg (nbq hz5)]
       by_cases hb:(decide (k<7) && decide (k2<7))=true
       ·rw[if_pos hb]
        exact kasC_pure (LoC.b ⟨hs.k,hs.a,hs.p,hs.f⟩ ⟨_,by rw[bS,aT,aT],p4.1,p4.2.1,p4.2.2,by lia,by lia⟩ (by lia))
       ·rw[if_neg hb]
        exact kasC_pure (LoK.k ⟨hs.k,hs.a,hs.p,hs.f⟩ ⟨_,by rw[bS,aT,aT],p4.1,p4.2.1,p4.2.2,by lia,by lia⟩ (by lia))
     ·rw[if_neg hk0]
      have p1:po.Perm (la.take ia++lb.take ib)∧Srt key (po++la.drop ia)∧Srt key (po++lb.drop ib):=⟨m.perm,m.sa,m.sb⟩
      have hiA:∀ i,ia≤i→i<la.length→key (lb.getD ib 0)<key (la.getD i 0):=fun i a b=>hi1 i (by lia) (by lia)
      refine kasC_bind (aS m2 ?_)
      have p2:=gP 1 p1.1 p1.2.1 p1.2.2 (fun x hx y hy=>by
       rw[bJ m2,List.mem_singleton] at hx
       obtain⟨j,j1,j2,rfl⟩:=bZ hy
       have:=hiA j j1 j2
       rw[hx]
       lia)
      rw[bJ m2] at p2
      by_cases hz3:ib+1=lb.length
      ·rw[if_pos (bq hz3)]
       exact kasC_pure (LoC.a ⟨hs.k,hs.a,hs.p,hs.f⟩ (by rw[aT];exact eZ p2.1 p2.2.1 p2.2.2 (.inl hz3)))
      rw[if_neg (nbq hz3)]
      refine kasC_bind (aS (show ia<la.length by lia) ?_)
      refine kasC_bind (gQ hc (cv hla (show ia<la.length by lia)) hlb (base:=ib+1) (m:=lb.length - (ib+1)) (hint:=0) (by lia) (by lia) (fun i j a b c=>d5 p2.2.2 a b (by lia)) (by exact hs.k.trans hkind) ?_)
      intro k2 hk2 lo2 hi2
      dsimp only
      by_cases hk3:k2 > 0
      ·rw[if_pos hk3]
       have p3:=gP k2 p2.1 p2.2.1 p2.2.2 (fun x hx y hy=>by
        obtain⟨j,j0,j1,rfl⟩:=eU hx
        obtain⟨j',a1,a2,rfl⟩:=bZ hy
        have:=lo2 (ib+1+j) (by lia) (by lia)
        have:=d5 p2.2.1 (Nat.le_refl _) a1 a2
        lia)
       by_cases hz4:ib+1+k2=lb.length
       ·rw[if_pos (bq hz4)]
        exact kasC_pure (LoC.a ⟨hs.k,hs.a,hs.p,hs.f⟩ (by rw[aT,bS];exact eZ p3.1 p3.2.1 p3.2.2 (.inl hz4)))
       rw[if_neg (nbq hz4)]
       have hiB:∀ i,ib+1+k2≤i→i<lb.length→key (la.getD (ia) 0)≤key (lb.getD i 0):=fun i a b=>hi2 i a (by lia)
       refine kasC_bind (aS (show ia<la.length by lia) ?_)
       have p4:=eS 1 p3.1 p3.2.1 p3.2.2 (fun x hx y hy=>by
        rw[bJ (show ia<la.length by lia),List.mem_singleton] at hx
        obtain⟨j,j1,j2,rfl⟩:=bZ hy
        have:=hiB j j1 j2
        rw[hx]
        exact this)
       rw[bJ (show ia<la.length by lia)] at p4
       by_cases hz5:ia+1+1=la.length
       ·rw[if_pos (bq hz5)]
        exact kasC_pure (LoC.a ⟨hs.k,hs.a,hs.p,hs.f⟩ (by rw[aT,bS,aT];exact e8 p4.1 p4.2.1 p4.2.2 hz5 top))
       rw[if_neg (nbq hz5)]
       by_cases hb:(decide (k<7) && decide (k2<7))=true
       ·rw[if_pos hb]
        exact kasC_pure (LoC.b ⟨hs.k,hs.a,hs.p,hs.f⟩ ⟨_,by rw[aT,bS,aT],p4.1,p4.2.1,p4.2.2,by lia,by lia⟩ (by lia))
       ·rw[if_neg hb]
        exact kasC_pure (LoK.k ⟨hs.k,hs.a,hs.p,hs.f⟩ ⟨_,by rw[aT,bS,aT],p4.1,p4.2.1,p4.2.2,by lia,by lia⟩ (by lia))
      ·rw[if_neg hk3]
       have p3:=p2
       have hiB:∀ i,ib+1≤i→i<lb.length→key (la.getD (ia) 0)≤key (lb.getD i 0):=fun i a b=>hi2 i (by lia) (by lia)
       refine kasC_bind (aS (show ia<la.length by lia) ?_)
       have p4:=eS 1 p3.1 p3.2.1 p3.2.2 (fun x hx y hy=>by
        rw[bJ (show ia<la.length by lia),List.mem_singleton] at hx
        obtain⟨j,j1,j2,rfl⟩:=bZ hy
        have:=hiB j j1 j2
        rw[hx]
        exact this)
       rw[bJ (show ia<la.length by lia)] at p4
       by_cases hz5:ia+1+1=la.length
       ·rw[if_pos (bq hz5)]
        exact kasC_pure (LoC.a ⟨hs.k,hs.a,hs.p,hs.f⟩ (by rw[aT,aT];exact e8 p4.1 p4.2.1 p4.2.2 hz5 top))
       rw[if_neg (nbq hz5)]
       by_cases hb:(decide (k<7) && decide (k2<7))=true
       ·rw[if_pos hb]
        exact kasC_pure (LoC.b ⟨hs.k,hs.a,hs.p,hs.f⟩ ⟨_,by rw[aT,aT],p4.1,p4.2.1,p4.2.2,by lia,by lia⟩ (by lia))
       ·rw[if_neg hb]
        exact kasC_pure (LoK.k ⟨hs.k,hs.a,hs.p,hs.f⟩ ⟨_,by rw[aT,aT],p4.1,p4.2.1,p4.2.2,by lia,by lia⟩ (by lia))
end
section
variable {prog:Program}{w:World}{A:Around}{E:Value→Shared→Prop}{κ:SortKind}{it:Array Keyed}{key:Nat→Int}{n:Nat}{s:Shared}
noncomputable def mY:Array Keyed→Array Keyed→StateT SortSt Sem (Array Keyed):=sortPriv% PySem.Builtin.mergeHi
theorem jM {l:List Nat}{i j:Nat} (hij:i≤j) (hj:j≤l.length):l.drop i=(l.take j).drop i++l.drop j:=by
 have e:l.drop i=(l.take j++l.drop j).drop i:=by rw[List.take_append_drop]
 rw[e,List.drop_append_of_le_length (by rw[List.length_take];lia)]
theorem vE {l:List Nat}{i j:Nat} (hij:i≤j):l.take i++(l.take j).drop i=l.take j:=by
 have:=List.take_append_drop i (l.take j)
 rwa [List.take_take,Nat.min_eq_left hij] at this
theorem fb {la lb ro:List Nat}{na nb:Nat} (k:Nat) (hk:k≤na) (hna:na≤la.length) (perm:ro.Perm (la.drop na++lb.drop nb)) (sa:Srt key (la.take na++ro)) (sb:Srt key (lb.take nb++ro)) (h:∀ x∈(la.take na).drop k,∀ y∈lb.take nb,key y≤key x):
  ((la.take na).drop k++ro).Perm (la.drop k++lb.drop nb)∧Srt key (la.take k++((la.take na).drop k++ro))∧Srt key (lb.take nb++((la.take na).drop k++ro)):=by
 refine⟨?_,?_,?_⟩
 ·rw[jM hk hna,List.append_assoc]
  exact List.Perm.append_left _ perm
 ·rw[← List.append_assoc,vE hk]
  exact sa
 ·have s1:=bu.mp sa
  have s2:=bu.mp sb
  refine bu.mpr ⟨s2.1,bu.mpr ⟨s1.1.sublist (List.drop_sublist _ _),s2.2.1,fun x hx y hy=>s1.2.2 x (List.mem_of_mem_drop hx) y hy⟩,fun x hx y hy=>?_⟩
  rcases List.mem_append.mp hy with hy | hy
  ·exact h y hy x hx
  ·exact s2.2.2 x hx y hy
theorem gR {la lb ro:List Nat}{na nb:Nat} (k:Nat) (hk:k≤nb) (hnb:nb≤lb.length) (perm:ro.Perm (la.drop na++lb.drop nb)) (sa:Srt key (la.take na++ro)) (sb:Srt key (lb.take nb++ro)) (h:∀ x∈(lb.take nb).drop k,∀ y∈la.take na,key y≤key x):
  ((lb.take nb).drop k++ro).Perm (la.drop na++lb.drop k)∧Srt key (la.take na++((lb.take nb).drop k++ro))∧Srt key (lb.take k++((lb.take nb).drop k++ro)):=by
 have:=fb (la:=lb) (lb:=la) k hk hnb (perm.trans List.perm_append_comm) sb sa h
 exact⟨this.1.trans List.perm_append_comm,this.2.2,this.2.1⟩
theorem bU {l:List Nat}{i:Nat} (h0:0<i) (h:i≤l.length):(l.take i).drop (i - 1)=[l.getD (i - 1) 0]:=by
 rw[List.drop_take,show i - (i - 1)=1 by lia]
 exact bJ (by lia)
theorem cx {l:List Nat}{i y:Nat} (h:y∈l.take i):∃ j,j<i∧j<l.length∧y=l.getD j 0:=by
 have:=eU (i:=0) (k:=i) (y:=y) (l:=l) (by rwa [List.drop_zero])
 obtain⟨j,a,b,e⟩:=this
 exact⟨j,a,by lia,by rw[e];congr 1;lia⟩
theorem jN {l:List Nat}{i k y:Nat} (h:y∈(l.take k).drop i):∃ j,i≤j∧j<k∧j<l.length∧y=l.getD j 0:=by
 rw[List.drop_take] at h
 obtain⟨j,a,b,e⟩:=eU h
 exact⟨i+j,by lia,by lia,b,e⟩
theorem d6 {l ro:List Nat}{i j k:Nat} (h:Srt key (l.take i++ro)) (hjk:j≤k) (hk:k<i) (hl:k<l.length):key (l.getD j 0)≤key (l.getD k 0):=by
 have:=eV (bu.mp h).1 (i:=j) (j:=k) hjk (by rw[List.length_take];lia)
 simpa [List.getD,List.getElem?_take,show j<i by lia,hk] using this
theorem dI {la lb ro:List Nat}{na nb:Nat} (perm:ro.Perm (la.drop na++lb.drop nb)) (sa:Srt key (la.take na++ro)) (sb:Srt key (lb.take nb++ro)) (hz:na=0∨nb=0):
  Mrg key it la lb ((la.map (kas_item it)).toArray.extract 0 na++(lb.map (kas_item it)).toArray.extract 0 nb++(ro.reverse.map (kas_item it)).toArray.reverse):=by
 refine⟨la.take na++lb.take nb++ro,?_,?_,?_⟩
 ·apply Array.ext'
  simp[List.map_take]
 ·refine (List.Perm.append_left _ perm).trans ?_
  have:(la.take na++lb.take nb++(la.drop na++lb.drop nb)).Perm ((la.take na++la.drop na)++(lb.take nb++lb.drop nb)):=by
   rw[List.append_assoc,List.append_assoc]
   refine List.Perm.append_left _ ?_
   rw[← List.append_assoc,← List.append_assoc]
   exact List.Perm.append_right _ List.perm_append_comm
  rw[List.take_append_drop,List.take_append_drop] at this
  exact this
 ·rcases hz with e | e
  ·rw[e,List.take_zero,List.nil_append]
   exact sb
  ·rw[e,List.take_zero,List.append_nil]
   exact sa
theorem fY {la lb ro:List Nat}{na nb:Nat} (perm:ro.Perm (la.drop na++lb.drop nb)) (sa:Srt key (la.take na++ro)) (sb:Srt key (lb.take nb++ro)) (hz:nb=1) (first:∀ x∈la,key (lb.getD 0 0)≤key x):
  Mrg key it la lb ((lb.map (kas_item it)).toArray.extract 0 nb++(la.map (kas_item it)).toArray.extract 0 na++(ro.reverse.map (kas_item it)).toArray.reverse):=by
 refine⟨lb.take nb++la.take na++ro,?_,?_,?_⟩
 ·apply Array.ext'
  simp[List.map_take]
 ·refine (List.Perm.append_left _ perm).trans ?_
  have:(lb.take nb++la.take na++(la.drop na++lb.drop nb)).Perm ((la.take na++la.drop na)++(lb.take nb++lb.drop nb)):=by
   rw[List.append_assoc,← List.append_assoc (la.take na),← List.append_assoc (la.take na++la.drop na)]
   rw[← List.append_assoc (lb.take nb)]
   exact List.Perm.append_right _ List.perm_append_comm
  rw[List.take_append_drop,List.take_append_drop] at this
  exact this
 ·rw[List.append_assoc]
  refine bu.mpr ⟨(bu.mp sb).1,sa,fun x hx y hy=>?_⟩
  rcases List.mem_append.mp hy with hy | hy
  ·obtain⟨j,h1,h2,rfl⟩:=cx hx
   have:j=0:=by lia
   rw[this]
   exact first y (List.mem_of_mem_take hy)
  ·exact (bu.mp sb).2.2 x hx y hy
theorem aQ (ro:List Nat) (y:Nat):(ro.reverse.map (kas_item it)).toArray.push (kas_item it y)=(([y]++ro).reverse.map (kas_item it)).toArray:=by simp
theorem bE (ro l:List Nat) (i k:Nat):(ro.reverse.map (kas_item it)).toArray++((l.map (kas_item it)).toArray.extract i k).reverse=(((l.take k).drop i++ro).reverse.map (kas_item it)).toArray:=by
 apply Array.ext'
 simp[List.map_drop,List.map_take,List.drop_take]
structure MHi (key:Nat→Int) (la lb:List Nat) (ro:List Nat) (na nb:Nat):Prop where
 perm:ro.Perm (la.drop na++lb.drop nb)
 sa:Srt key (la.take na++ro)
 sb:Srt key (lb.take nb++ro)
 pa:0<na
 pb:1<nb
 qa:na≤la.length
 qb:nb≤lb.length
noncomputable def JHi (key:Nat→Int) (it:Array Keyed) (la lb:List Nat) (out:Array Keyed) (na nb:Nat):Prop:=∃ ro:List Nat,out=(ro.reverse.map (kas_item it)).toArray∧MHi key la lb ro na nb
end
section
variable {prog:Program}{w:World}{A:Around}{E:Value→Shared→Prop}{κ:SortKind}{it:Array Keyed}{key:Nat→Int}{n:Nat}{s:Shared}
noncomputable def HiA (key:Nat→Int) (it:Array Keyed) (la lb:List Nat) (st:SortSt) (s:Shared)  : Option (Array Keyed)×Nat×Nat×Array Keyed×Nat→SortSt→Shared→Prop:=fun c st' s'=>s=s'∧SameSt st st'∧∃ out' p q r g,c=(some out',p,q,r,g)∧Mrg key it la lb out'
noncomputable def HiI (key:Nat→Int) (it:Array Keyed) (la lb:List Nat) (st:SortSt) (s:Shared) (x:Nat):Option (Array Keyed)×Nat×Nat×Array Keyed×Nat→SortSt→Shared→Prop:=fun c st' s'=>s=s'∧SameSt st st'∧∃ na nb o g,c=(none,na,nb,o,g)∧JHi key it la lb o na nb∧na+nb+x+1≤la.length+lb.length
noncomputable def HiB (key:Nat→Int) (it:Array Keyed) (la lb:List Nat) (st:SortSt) (s:Shared) (x:Nat):Option (Array Keyed)×Nat×Nat×Array Keyed×Nat×Nat→SortSt→Shared→Prop:=fun c st' s'=>s=s'∧SameSt st st'∧((∃ out' p q r ac bc,c=(some out',p,q,r,ac,bc)∧Mrg key it la lb out')∨∃ na nb o ac bc,c=(none,na,nb,o,ac,bc)∧JHi key it la lb o na nb∧na+nb+x+2≤la.length+lb.length)
noncomputable def HiJ (key:Nat→Int) (it:Array Keyed) (la lb:List Nat) (st:SortSt) (s:Shared) (x y:Nat):Option (Array Keyed)×Nat×Nat×Array Keyed×Nat×Nat→SortSt→Shared→Prop:=fun c st' s'=>s=s'∧SameSt st st'∧∃ na nb o ac bc,c=(none,na,nb,o,ac,bc)∧JHi key it la lb o na nb∧na+nb+x+1+y≤la.length+lb.length
noncomputable def HiC (key:Nat→Int) (it:Array Keyed) (la lb:List Nat) (st:SortSt) (s:Shared) (x:Nat):Option (Array Keyed)×Nat×Nat×Array Keyed×Nat×Nat×Nat→SortSt→Shared→Prop:=fun c st' s'=>s=s'∧SameSt st st'∧((∃ out' p q r g ac bc,c=(some out',p,q,r,g,ac,bc)∧Mrg key it la lb out')∨∃ na nb o g ac bc,c=(none,na,nb,o,g,ac,bc)∧JHi key it la lb o na nb∧na+nb+x+2≤la.length+lb.length)
noncomputable def HiK (key:Nat→Int) (it:Array Keyed) (la lb:List Nat) (st:SortSt) (s:Shared) (x y:Nat):Option (Array Keyed)×Nat×Nat×Array Keyed×Nat×Nat×Nat→SortSt→Shared→Prop:=fun c st' s'=>s=s'∧SameSt st st'∧∃ na nb o g ac bc,c=(none,na,nb,o,g,ac,bc)∧JHi key it la lb o na nb∧na+nb+x+2≤la.length+lb.length
theorem HiA.a {key:Nat→Int}{it:Array Keyed}{la lb:List Nat}{st st':SortSt}{s:Shared}{out:Array Keyed}{p q:Nat}{r:Array Keyed}{g:Nat} (h:SameSt st st') (m:Mrg key it la lb out):HiA key it la lb st s (some out,p,q,r,g) st' s:=⟨rfl,h,_,_,_,_,_,rfl,m⟩
theorem HiI.k {key:Nat→Int}{it:Array Keyed}{la lb:List Nat}{st st':SortSt}{s:Shared}{x:Nat}{na nb:Nat}{o:Array Keyed}{g:Nat} (h:SameSt st st') (j:JHi key it la lb o na nb) (e:na+nb+x+1≤la.length+lb.length):HiI key it la lb st s x (none,na,nb,o,g) st' s:=⟨rfl,h,_,_,_,_,rfl,j,e⟩
theorem HiB.a {key:Nat→Int}{it:Array Keyed}{la lb:List Nat}{st st':SortSt}{s:Shared}{x:Nat}{out:Array Keyed}{p q:Nat}{r:Array Keyed}{g g2:Nat} (h:SameSt st st') (m:Mrg key it la lb out):HiB key it la lb st s x (some out,p,q,r,g,g2) st' s:=⟨rfl,h,.inl ⟨_,_,_,_,_,_,rfl,m⟩⟩
theorem HiB.b {key:Nat→Int}{it:Array Keyed}{la lb:List Nat}{st st':SortSt}{s:Shared}{x:Nat}{na nb:Nat}{o:Array Keyed}{g g2:Nat} (h:SameSt st st') (j:JHi key it la lb o na nb) (e:na+nb+x+2≤la.length+lb.length):HiB key it la lb st s x (none,na,nb,o,g,g2) st' s:=⟨rfl,h,.inr ⟨_,_,_,_,_,rfl,j,e⟩⟩
theorem HiJ.k {key:Nat→Int}{it:Array Keyed}{la lb:List Nat}{st st':SortSt}{s:Shared}{x y:Nat}{na nb:Nat}{o:Array Keyed}{g g2:Nat} (h:SameSt st st') (j:JHi key it la lb o na nb) (e:na+nb+x+1+y≤la.length+lb.length):HiJ key it la lb st s x y (none,na,nb,o,g,g2) st' s:=⟨rfl,h,_,_,_,_,_,rfl,j,e⟩
theorem HiC.a {key:Nat→Int}{it:Array Keyed}{la lb:List Nat}{st st':SortSt}{s:Shared}{x:Nat}{out:Array Keyed}{p q:Nat}{r:Array Keyed}{g g2 g3:Nat} (h:SameSt st st') (m:Mrg key it la lb out):HiC key it la lb st s x (some out,p,q,r,g,g2,g3) st' s:=⟨rfl,h,.inl ⟨_,_,_,_,_,_,_,rfl,m⟩⟩
theorem HiC.b {key:Nat→Int}{it:Array Keyed}{la lb:List Nat}{st st':SortSt}{s:Shared}{x:Nat}{na nb:Nat}{o:Array Keyed}{g g2 g3:Nat} (h:SameSt st st') (j:JHi key it la lb o na nb) (e:na+nb+x+2≤la.length+lb.length):HiC key it la lb st s x (none,na,nb,o,g,g2,g3) st' s:=⟨rfl,h,.inr ⟨_,_,_,_,_,_,rfl,j,e⟩⟩
theorem HiK.k {key:Nat→Int}{it:Array Keyed}{la lb:List Nat}{st st':SortSt}{s:Shared}{x y:Nat}{na nb:Nat}{o:Array Keyed}{g g2 g3:Nat} (h:SameSt st st') (j:JHi key it la lb o na nb) (e:na+nb+x+2≤la.length+lb.length):HiK key it la lb st s x y (none,na,nb,o,g,g2,g3) st' s:=⟨rfl,h,_,_,_,_,_,_,rfl,j,e⟩
theorem vF (hc:bj n key (kas_cmp prog w A κ it) s) {la lb:List Nat} (hla:∀ x∈la,x<n) (hlb:∀ x∈lb,x<n) (sla:Srt key la) (slb:Srt key lb) (h0:0<la.length) (h1:0<lb.length)
  (first:∀ x∈la,key (lb.getD 0 0)≤key x) (top:∀ x∈lb,key x≤key (la.getD (la.length - 1) 0)) {st:SortSt} (hkind:kindOf st=κ) {Q:Array Keyed→SortSt→Shared→Prop}
  (h:∀ out st',Mrg key it la lb out→SameSt st st'→Q out st' s):
  kasC (model prog w) A E (mY (la.map (kas_item it)).toArray (lb.map (kas_item it)).toArray) Q st s:=by
 unfold mY
 with_unfolding_all refine kasC_bind (kasC_lift (wpAny_rule ?_))
 dsimp only
 generalize hza:(List.map (kas_item it) la).toArray.size=za
 obtain rfl:la.length=za:=by rw[← hza];simp
 generalize hzb:(List.map (kas_item it) lb).toArray.size=zb
 obtain rfl:lb.length=zb:=by rw[← hzb];simp
 refine kasC_bind (aS (show la.length - 1<la.length by lia) ?_)
 try dsimp only
 have l1:=bU h0 (Nat.le_refl _)
 rw[List.take_length] at l1
 have perm0:[la.getD (la.length - 1) 0].Perm (la.drop (la.length - 1)++lb.drop lb.length):=by
  rw[l1,List.drop_length]
  exact List.Perm.refl _
 have sa0:Srt key (la.take (la.length - 1)++[la.getD (la.length - 1) 0]):=by
  rw[← l1,List.take_append_drop]
  exact sla
 have sb0:Srt key (lb.take lb.length++[la.getD (la.length - 1) 0]):=bu.mpr ⟨by rw[List.take_length];exact slb,List.pairwise_singleton _ _,fun x hx y hy=>by
  rw[List.mem_singleton.mp hy]
  exact top x (by rwa [List.take_length] at hx)⟩
 have e0:#[kas_item it (la.getD (la.length - 1) 0)]=([la.getD (la.length - 1) 0].reverse.map (kas_item it)).toArray:=rfl
 rw[e0]
 by_cases c1:la.length - 1=0
 ·rw[if_pos (bq c1)]
  exact kasC_pure (h _ _ (dI perm0 sa0 sb0 (.inl c1)) (SameSt.refl st))
 rw[if_neg (nbq c1)]
 by_cases c2:lb.length=1
 ·rw[if_pos (bq c2)]
  exact kasC_pure (h _ _ (fY perm0 sa0 sb0 c2 first) (SameSt.refl st))
 rw[if_neg (nbq c2)]
 refine kasC_bind (kasC_get ?_)
 refine kasC_bind (b6 (Q':=HiA key it la lb st s) (kasC_range (bI (HiI key it la lb st s) ?step _ 0 _ _ _ ?fin (HiI.k (SameSt.refl st) ⟨_,rfl,perm0,sa0,sb0,by lia,by lia,by lia,by lia⟩ (by lia)))) ?after)
 case after=>
  rintro c st' s' ⟨rfl,hs,out',o,ia,ib,g,rfl,hm⟩
  exact kasC_pure (h _ _ hm hs)
 case fin=>
  rintro c st' s' ⟨rfl,hs,na,nb,o,g,rfl,⟨po,rfl,m⟩,hx⟩
  have:=m.pa
  have:=m.pb
  lia
 case step=>
  rintro x c st' s' ⟨rfl,hs,na,nb,o,g,rfl,hJ,hx⟩
  dsimp only
  refine kasC_bind (b6 (Q':=HiB key it la lb st s x)
   (kasC_range (bI (HiJ key it la lb st s x) ?step1 _ 0 _ _ _ ?fin1 (HiJ.k hs hJ (by lia)))) ?after1)
  case fin1=>
   rintro c st' s' ⟨rfl,hs,na,nb,o,ac,bc,rfl,hJ,hx⟩
   exact HiB.b hs hJ (by lia)
  case step1=>
   rintro y c st' s' ⟨rfl,hs,na,nb,o,ac,bc,rfl,⟨po,rfl,m⟩,hx⟩
   have m1:=m.pa
   have m2:=m.pb
   have m3:=m.qa
   have m4:=m.qb
   have hk':kindOf st'=κ:=hs.k.trans hkind
   dsimp only
   refine kasC_bind (aS (show nb - 1<lb.length by lia) ?_)
   refine kasC_bind (aS (show na - 1<la.length by lia) ?_)
   refine kasC_bind (gO hc (cv hlb (show nb - 1<lb.length by lia)) (cv hla (show na - 1<la.length by lia)) hk' ?_)
   dsimp only
   by_cases hw:key (lb.getD (nb - 1) 0)<key (la.getD (na - 1) 0)
   ·rw[if_pos (by simpa using hw)]
    refine kasC_bind (aS (show na - 1<la.length by lia) ?_)
    have b1:=fb (na - 1) (by lia) m3 m.perm m.sa m.sb (fun x hx y hy=>by
     rw[bU m1 m3,List.mem_singleton] at hx
     obtain⟨j,j1,j2,rfl⟩:=cx hy
     have:=d6 m.sb (show j≤nb - 1 by lia) (by lia) (by lia)
     rw[hx]
     lia)
    rw[bU m1 m3] at b1
    rw[aQ]
    try dsimp only
    by_cases hz:na - 1=0
    ·rw[if_pos (bq hz)]
     exact kasC_pure (HiB.a hs (dI b1.1 b1.2.1 b1.2.2 (.inl hz)))
    ·rw[if_neg (nbq hz)]
     have J':JHi key it la lb (([la.getD (na - 1) 0]++po).reverse.map (kas_item it)).toArray (na - 1) nb:=⟨_,rfl,b1.1,b1.2.1,b1.2.2,by lia,m2,by lia,m4⟩
     by_cases hg:ac+1 ≥ g
     ·rw[if_pos hg]
      exact kasC_pure (HiB.b hs J' (by lia))
     ·rw[if_neg hg]
      exact kasC_pure (HiJ.k hs J' (by lia))
   ·rw[if_neg (by simpa using hw)]
    refine kasC_bind (aS (show nb - 1<lb.length by lia) ?_)
    have b1:=gR (nb - 1) (by lia) m4 m.perm m.sa m.sb (fun x hx y hy=>by
     rw[bU (by lia) m4,List.mem_singleton] at hx
     obtain⟨j,j1,j2,rfl⟩:=cx hy
     have:=d6 m.sa (show j≤na - 1 by lia) (by lia) (by lia)
     rw[hx]
     lia)
    rw[bU (by lia) m4] at b1
    rw[aQ]
    try dsimp only
    by_cases hz:nb - 1=1
    ·rw[if_pos (bq hz)]
     exact kasC_pure (HiB.a hs (fY b1.1 b1.2.1 b1.2.2 hz first))
    ·rw[if_neg (nbq hz)]
     have J':JHi key it la lb (([lb.getD (nb - 1) 0]++po).reverse.map (kas_item it)).toArray na (nb - 1):=⟨_,rfl,b1.1,b1.2.1,b1.2.2,m1,by lia,m3,by lia⟩
     by_cases hg:bc+1 ≥ g
     ·rw[if_pos hg]
      exact kasC_pure (HiB.b hs J' (by lia))
     ·rw[if_neg hg]
      exact kasC_pure (HiJ.k hs J' (by lia))
  case after1=>
   rintro c st' s' ⟨rfl,hs,⟨out',o,ia,ib,ac,bc,rfl,hm⟩ | ⟨na,nb,o,ac,bc,rfl,hJ,hx⟩⟩
   ·exact kasC_pure (HiA.a hs hm)
   ·try dsimp only
    refine kasC_bind (kasC_lift (wpAny_rule ?_))
    try dsimp only
    refine kasC_bind (b6 (Q':=HiC key it la lb st s x)
     (kasC_range (bI (HiK key it la lb st s x) ?step2 _ 0 _ _ _ ?fin2 (HiK.k hs hJ (by lia)))) ?after2)
    case fin2=>
     rintro c st' s' ⟨rfl,hs,na,nb,o,g,ac,bc,rfl,hJ,hx⟩
     exact HiC.b hs hJ (by lia)
    case after2=>
     rintro c st' s' ⟨rfl,hs,⟨out',o,ia,ib,g,ac,bc,rfl,hm⟩ | ⟨na,nb,o,g,ac,bc,rfl,hJ,hx⟩⟩
     ·exact kasC_pure (HiA.a hs hm)
     ·try dsimp only
      refine kasC_bind (kasC_modify ?_)
      exact kasC_pure (HiI.k ⟨hs.k,hs.a,hs.p,hs.f⟩ hJ (by lia))
    case step2=>
     rintro y c st' s' ⟨rfl,hs,na,nb,o,g,ac,bc,rfl,⟨po,rfl,m⟩,hx⟩
     have m1:=m.pa
     have m2:=m.pb
     have m3:=m.qa
     have m4:=m.qb
     dsimp only
     revert g
     refine mX (fun g=>g - 1) ?ha ?_
     case ha=>exact fun g=>rfl
     intro g
     refine kasC_bind (kasC_modify ?_)
     refine kasC_bind (aS (show nb - 1<lb.length by lia) ?_)
     refine kasC_bind (jL hc (cv hlb (show nb - 1<lb.length by lia)) hla (base:=0) (m:=na) (hint:=na - 1) (by lia) (by lia) (fun i j a b c=>d6 m.sa b (by lia) (by lia)) (by exact hs.k.trans hkind) ?_)
     intro k hk1 lo1 hi1
     dsimp only
     by_cases hk0:na - k > 0
     ·rw[if_pos hk0]
      have p1:=fb k (by lia) m3 m.perm m.sa m.sb (fun x hx y hy=>by
       obtain⟨j,j0,j1,j2,rfl⟩:=jN hx
       obtain⟨j',a1,a2,rfl⟩:=cx hy
       have:=hi1 j (by lia) (by lia)
       have:=d6 m.sb (show j'≤nb - 1 by lia) (by lia) (by lia)
       lia)
      by_cases hz:k=0
      ·rw[if_pos (bq hz)]
       exact kasC_pure (HiC.a ⟨hs.k,hs.a,hs.p,hs.f⟩ (by rw[bE];exact dI p1.1 p1.2.1 p1.2.2 (.inl hz)))
      rw[if_neg (nbq hz)]
      have hiA:∀ i,i<k→key (la.getD i 0)≤key (lb.getD (nb - 1) 0):=fun i a=>lo1 i (by lia) (by lia)
      refine kasC_bind (aS (show nb - 1<lb.length by lia) ?_)
      have p2:=gR (nb - 1) (by lia) m4 p1.1 p1.2.1 p1.2.2 (fun x hx y hy=>by
       rw[bU (by lia) m4,List.mem_singleton] at hx
       obtain⟨j,j1,j2,rfl⟩:=cx hy
       have:=hiA j j1
       rw[hx]
       lia)
      rw[bU (by lia) m4] at p2
      by_cases hz3:nb - 1=1
      ·rw[if_pos (bq hz3)]
       exact kasC_pure (HiC.a ⟨hs.k,hs.a,hs.p,hs.f⟩ (by rw[bE,aQ];exact fY p2.1 p2.2.1 p2.2.2 hz3 first))
      rw[if_neg (nbq hz3)]
      refine kasC_bind (aS (show k - 1<la.length by lia) ?_)
      refine kasC_bind (gQ hc (cv hla (show k - 1<la.length by lia)) hlb (base:=0) (m:=nb - 1) (hint:=nb - 1 - 1) (by lia) (by lia) (fun i j a b c=>d6 p2.2.2 b (by lia) (by lia)) (by exact hs.k.trans hkind) ?_)
      intro k2 hk2 lo2 hi2
      dsimp only
      by_cases hk3:nb - 1 - k2 > 0
      ·rw[if_pos hk3]
       have p3:=gR k2 (by lia) (show nb - 1≤lb.length by lia) p2.1 p2.2.1 p2.2.2 (fun x hx y hy=>by
        obtain⟨j,j0,j1,j2,rfl⟩:=jN hx
        obtain⟨j',a1,a2,rfl⟩:=cx hy
        have:=hi2 j (by lia) (by lia)
        have:=d6 p2.2.1 (show j'≤k - 1 by lia) (by lia) (by lia)
        lia)
       by_cases hz4:k2=1
       ·rw[if_pos (bq hz4)]
        exact kasC_pure (HiC.a ⟨hs.k,hs.a,hs.p,hs.f⟩ (by rw[bE,aQ,bE];exact fY p3.1 p3.2.1 p3.2.2 hz4 first))
       rw[if_neg (nbq hz4)]
       by_cases hz6:k2=0
       ·rw[if_pos (bq hz6)]
        exact kasC_pure (HiC.a ⟨hs.k,hs.a,hs.p,hs.f⟩ (by rw[bE,aQ,bE];exact dI p3.1 p3.2.1 p3.2.2 (.inr hz6)))
       rw[if_neg (nbq hz6)]
       have hiB:∀ i,i<k2→key (lb.getD i 0)<key (la.getD (k - 1) 0):=fun i a=>lo2 i (by lia) (by lia)
       refine kasC_bind (aS (show k - 1<la.length by lia) ?_)
       have p4:=fb (k - 1) (by lia) (show k≤la.length by lia) p3.1 p3.2.1 p3.2.2 (fun x hx y hy=>by
        rw[bU (by lia) (show k≤la.length by lia),List.mem_singleton] at hx
        obtain⟨j,j1,j2,rfl⟩:=cx hy
        have:=hiB j j1
        rw[hx]
        lia)
       rw[bU (by lia) (show k≤la.length by lia)] at p4
       by_cases hz5:k - 1=0
       ·rw[if_pos (bq hz5)]
        exact kasC_pure (HiC.a ⟨hs.k,hs.a,hs.p,hs.f⟩ (by rw[bE,aQ,bE,aQ];exact dI p4.1 p4.2.1 p4.2.2 (.inl hz5)))
       rw[if_neg (nbq hz5)]
       by_cases hb:(decide (na - k<7) && decide (nb - 1 - k2<7))=true
       ·rw[if_pos hb]
        exact kasC_pure (HiC.b ⟨hs.k,hs.a,hs.p,hs.f⟩ ⟨_,by rw[bE,aQ,bE,aQ],p4.1,p4.2.1,p4.2.2,by lia,by lia,by lia,by lia⟩ (by lia))
       ·rw[if_neg hb]
        exact kasC_pure (HiK.k ⟨hs.k,hs.a,hs.p,hs.f⟩ ⟨_,by rw[bE,aQ,bE,aQ],p4.1,p4.2.1,p4.2.2,by lia,by lia,by lia,by lia⟩ (by lia))
      ·rw[if_neg hk3]
       have p3:=p2
       have hiB:∀ i,i<nb - 1→key (lb.getD i 0)<key (la.getD (k - 1) 0):=fun i a=>lo2 i (by lia) (by lia)
       refine kasC_bind (aS (show k - 1<la.length by lia) ?_)
       have p4:=fb (k - 1) (by lia) (show k≤la.length by lia) p3.1 p3.2.1 p3.2.2 (fun x hx y hy=>by
        rw[bU (by lia) (show k≤la.length by lia),List.mem_singleton] at hx
        obtain⟨j,j1,j2,rfl⟩:=cx hy
        have:=hiB j j1
        rw[hx]
        lia)
       rw[bU (by lia) (show k≤la.length by lia)] at p4
       by_cases hz5:k - 1=0
       ·rw[if_pos (bq hz5)]
        exact kasC_pure (HiC.a ⟨hs.k,hs.a,hs.p,hs.f⟩ (by rw[bE,aQ,aQ];exact dI p4.1 p4.2.1 p4.2.2 (.inl hz5)))
       rw[if_neg (nbq hz5)]
       by_cases hb:(decide (na - k<7) && decide (nb - 1 - k2<7))=true
       ·rw[if_pos hb]
        exact kasC_pure (HiC.b ⟨hs.k,hs.a,hs.p,hs.f⟩ ⟨_,by rw[bE,aQ,aQ],p4.1,p4.2.1,p4.2.2,by lia,by lia,by lia,by lia⟩ (by lia))
       ·rw[if_neg hb]
        exact kasC_pure (HiK.k ⟨hs.k,hs.a,hs.p,hs.f⟩ ⟨_,by rw[bE,aQ,aQ],p4.1,p4.2.1,p4.2.2,by lia,by lia,by lia,by lia⟩ (by lia))
     ·rw[if_neg hk0]
      have p1:po.Perm (la.drop na++lb.drop nb)∧Srt key (la.take na++po)∧Srt key (lb.take nb++po):=⟨m.perm,m.sa,m.sb⟩
      have hiA:∀ i,i<na→key (la.getD i 0)≤key (lb.getD (nb - 1) 0):=fun i a=>lo1 i (by lia) (by lia)
      refine kasC_bind (aS (show nb - 1<lb.length by lia) ?_)
      have p2:=gR (nb - 1) (by lia) m4 p1.1 p1.2.1 p1.2.2 (fun x hx y hy=>by
       rw[bU (by lia) m4,List.mem_singleton] at hx
       obtain⟨j,j1,j2,rfl⟩:=cx hy
       have:=hiA j j1
       rw[hx]
       lia)
      rw[bU (by lia) m4] at p2
      by_cases hz3:nb - 1=1
      ·rw[if_pos (bq hz3)]
       exact kasC_pure (HiC.a ⟨hs.k,hs.a,hs.p,hs.f⟩ (by rw[aQ];exact fY p2.1 p2.2.1 p2.2.2 hz3 first))
      rw[if_neg (nbq hz3)]
      refine kasC_bind (aS (show na - 1<la.length by lia) ?_)
      refine kasC_bind (gQ hc (cv hla (show na - 1<la.length by lia)) hlb (base:=0) (m:=nb - 1) (hint:=nb - 1 - 1) (by lia) (by lia) (fun i j a b c=>d6 p2.2.2 b (by lia) (by lia)) (by exact hs.k.trans hkind) ?_)
      intro k2 hk2 lo2 hi2
      dsimp only
      by_cases hk3:nb - 1 - k2 > 0
      ·rw[if_pos hk3]
       have p3:=gR k2 (by lia) (show nb - 1≤lb.length by lia) p2.1 p2.2.1 p2.2.2 (fun x hx y hy=>by
        obtain⟨j,j0,j1,j2,rfl⟩:=jN hx
        obtain⟨j',a1,a2,rfl⟩:=cx hy
        have:=hi2 j (by lia) (by lia)
        have:=d6 p2.2.1 (show j'≤na - 1 by lia) (by lia) (by lia)
        lia)
       by_cases hz4:k2=1
       ·rw[if_pos (bq hz4)]
        exact kasC_pure (HiC.a ⟨hs.k,hs.a,hs.p,hs.f⟩ (by rw[aQ,bE];exact fY p3.1 p3.2.1 p3.2.2 hz4 first))
       rw[if_neg (nbq hz4)]
       by_cases hz6:k2=0
       ·rw[if_pos (bq hz6)]
        exact kasC_pure (HiC.a ⟨hs.k,hs.a,hs.p,hs.f⟩ (by rw[aQ,bE];exact dI p3.1 p3.2.1 p3.2.2 (.inr hz6)))
       rw[if_neg (nbq hz6)]
       have hiB:∀ i,i<k2→key (lb.getD i 0)<key (la.getD (na - 1) 0):=fun i a=>lo2 i (by lia) (by lia)
       refine kasC_bind (aS (show na - 1<la.length by lia) ?_)
       have p4:=fb (na - 1) (by lia) (show na≤la.length by lia) p3.1 p3.2.1 p3.2.2 (fun x hx y hy=>by
        rw[bU (by lia) (show na≤la.length by lia),List.mem_singleton] at hx
        obtain⟨j,j1,j2,rfl⟩:=cx hy
        have:=hiB j j1
        rw[hx]
        lia)
       rw[bU (by lia) (show na≤la.length by lia)] at p4
       by_cases hz5:na - 1=0
       ·rw[if_pos (bq hz5)]
        exact kasC_pure (HiC.a ⟨hs.k,hs.a,hs.p,hs.f⟩ (by rw[aQ,bE,aQ];exact dI p4.1 p4.2.1 p4.2.2 (.inl hz5)))
       rw[if_neg (nbq hz5)]
       by_cases hb:(decide (na - k<7) && decide (nb - 1 - k2<7))=true
       ·rw[if_pos hb]
        exact kasC_pure (HiC.b ⟨hs.k,hs.a,hs.p,hs.f⟩ ⟨_,by rw[aQ,bE,aQ],p4.1,p4.2.1,p4.2.2,by lia,by lia,by lia,by lia⟩ (by lia))
       ·rw[if_neg hb]
        exact kasC_pure (HiK.k ⟨hs.k,hs.a,hs.p,hs.f⟩ ⟨_,by rw[aQ,bE,aQ],p4.1,p4.2.1,p4.2.2,by lia,by lia,by lia,by lia⟩ (by lia))
      ·rw[if_neg hk3]
       have p3:=p2
       have hiB:∀ i,i<nb - 1→key (lb.getD i 0)<key (la.getD (na - 1) 0):=fun i a=>lo2 i (by lia) (by lia)
       refine kasC_bind (aS (show na - 1<la.length by lia) ?_)
       have p4:=fb (na - 1) (by lia) (show na≤la.length by lia) p3.1 p3.2.1 p3.2.2 (fun x hx y hy=>by
        rw[bU (by lia) (show na≤la.length by lia),List.mem_singleton] at hx
        obtain⟨j,j1,j2,rfl⟩:=cx hy
        have:=hiB j j1
        rw[hx]
        lia)
       rw[bU (by lia) (show na≤la.length by lia)] at p4
       by_cases hz5:na - 1=0
       ·rw[if_pos (bq hz5)]
        exact kasC_pure (HiC.a ⟨hs.k,hs.a,hs.p,hs.f⟩ (by rw[aQ,aQ];exact dI p4.1 p4.2.1 p4.2.2 (.inl hz5)))
       rw[if_neg (nbq hz5)]
       by_cases hb:(decide (na - k<7) && decide (nb - 1 - k2<7))=true
       ·rw[if_pos hb]
        exact kasC_pure (HiC.b ⟨hs.k,hs.a,hs.p,hs.f⟩ ⟨_,by rw[aQ,aQ],p4.1,p4.2.1,p4.2.2,by lia,by lia,by lia,by lia⟩ (by lia))
       ·rw[if_neg hb]
        exact kasC_pure (HiK.k ⟨hs.k,hs.a,hs.p,hs.f⟩ ⟨_,by rw[aQ,aQ],p4.1,p4.2.1,p4.2.2,by lia,by lia,by lia,by lia⟩ (by lia))
end
section
variable {prog:Program}{w:World}{A:Around}{E:Value→Shared→Prop}{κ:SortKind}{it:Array Keyed}{key:Nat→Int}{n:Nat}{s:Shared}
theorem vG {σ:Type}{M:Model}{Q:PUnit→σ→Shared→Prop}{st st2:σ}{s:Shared} (h:Q ⟨⟩ st2 s):kasC M A E (set st2:StateT σ Sem PUnit) Q st s:=by
 unfold kasC;rw[StateT.run_set];exact wpAny_pure h
theorem jO {α:Type}:∀ (l:List α) (arr:List α) (q j0 s0:Nat),q+l.length≤arr.length→q=s0+j0→((l.zipIdx j0).foldl (fun (a:Array α) (x:α×Nat)=>a.setIfInBounds (s0+x.2) x.1) arr.toArray)=(arr.take q++l++arr.drop (q+l.length)).toArray
 | [],arr,q,j0,s0,h,e=>by simp
 | x::l,arr,q,j0,s0,h,e=>by
  rw[List.length_cons] at h
  rw[List.zipIdx_cons,List.foldl_cons]
  dsimp only
  rw[← e,List.setIfInBounds_toArray,jO l (arr.set q x) (q+1) (j0+1) s0 (by rw[List.length_set];lia) (by lia)]
  congr 1
  have e1:(arr.set q x).take (q+1)=arr.take q++[x]:=by
   apply List.ext_getElem?
   intro i
   rw[List.getElem?_take,List.getElem?_append,List.length_take,List.getElem?_take,List.getElem?_set]
   by_cases h1:i<q
   ·rw[if_pos (by lia),if_neg (by lia),if_pos (by lia),if_pos h1]
   ·by_cases h2:i=q
    ·subst h2
     rw[if_pos (by lia),if_pos rfl,if_pos (by lia),if_neg (by lia)]
     simp[show i - min i arr.length=0 by lia]
    ·rw[if_neg (by lia),if_neg (by lia)]
     rw[List.getElem?_eq_none]
     rw[List.length_singleton]
     lia
  have e2:(arr.set q x).drop (q+1+l.length)=arr.drop (q+(l.length+1)):=by
   apply List.ext_getElem?
   intro i
   rw[List.getElem?_drop,List.getElem?_drop,List.getElem?_set,if_neg (by lia)]
   congr 1
   lia
  rw[e1,e2,List.length_cons,List.append_assoc,List.append_assoc,List.append_assoc]
  rfl
theorem mZ {LA LB po:List Nat}{k m:Nat} (sA:Srt key LA) (sB:Srt key LB) (hb:0<LB.length) (ha:0<LA.length) (h1:∀ x∈LA.take k,key x≤key (LB.getD 0 0)) (h4:∀ x∈LB.drop m,key (LA.getD (LA.length - 1) 0)≤key x)
  (hp:po.Perm (LA.drop k++LB.take m)) (sp:Srt key po):Srt key (LA.take k++po++LB.drop m)∧(LA.take k++po++LB.drop m).Perm (LA++LB):=by
 have b0:∀ y∈LB,key (LB.getD 0 0)≤key y:=fun y hy=>by
  obtain⟨j,_,hj,rfl⟩:=bZ (i:=0) (l:=LB) (by rwa [List.drop_zero])
  exact eV sB (Nat.zero_le _) hj
 have aL:∀ x∈LA,key x≤key (LA.getD (LA.length - 1) 0):=fun x hx=>by
  obtain⟨j,_,hj,rfl⟩:=bZ (i:=0) (l:=LA) (by rwa [List.drop_zero])
  exact eV sA (by lia) (by lia)
 have cA:Srt key (LA.take k++LA.drop k):=by rwa [List.take_append_drop]
 have cB:Srt key (LB.take m++LB.drop m):=by rwa [List.take_append_drop]
 have cA:=bu.mp cA
 have cB:=bu.mp cB
 refine⟨bu.mpr ⟨bu.mpr ⟨cA.1,sp,fun x hx y hy=>?_⟩,cB.2.1,fun x hx y hy=>?_⟩,?_⟩
 ·rcases List.mem_append.mp (hp.mem_iff.mp hy) with hy | hy
  ·exact cA.2.2 x hx y hy
  ·exact Int.le_trans (h1 x hx) (b0 y (List.mem_of_mem_take hy))
 ·rcases List.mem_append.mp hx with hx | hx
  ·exact Int.le_trans (h1 x hx) (b0 y (List.mem_of_mem_drop hy))
  ·rcases List.mem_append.mp (hp.mem_iff.mp hx) with hx | hx
   ·exact Int.le_trans (aL x (List.mem_of_mem_drop hx)) (h4 y hy)
   ·exact cB.2.2 x hx y hy
 ·refine (List.Perm.append_right _ (List.Perm.append_left _ hp)).trans ?_
  rw[← List.append_assoc,List.take_append_drop,List.append_assoc,List.take_append_drop]
theorem vH (hc:bj n key (kas_cmp prog w A κ it) s) {lp:List Nat} (hlp:∀ x∈lp,x<n) {i sa na nb pw pw2:Nat}{st:SortSt} (hkind:PyProof.Rows.kindOf st=κ) (harr:arrOf st=(lp.map (kas_item it)).toArray) (hf:failedOf st=none)
  (hi:(pendingOf st)[i]?=some (sa,na,pw)) (hj:(pendingOf st)[i+1]?=some (sa+na,nb,pw2)) (ha:0<na) (hb:0<nb) (hz:sa+na+nb≤lp.length)
  (sA:Srt key ((lp.drop sa).take na)) (sB:Srt key ((lp.drop (sa+na)).take nb)) {Q:Bool→SortSt→Shared→Prop}
  (h:∀ mid st',PyProof.Rows.kindOf st'=κ→failedOf st'=none→pendingOf st'=((pendingOf st).setIfInBounds i (sa,na+nb,pw)).eraseIdxIfInBounds (i+1)→mid.Perm ((lp.drop sa).take (na+nb))→Srt key mid→
   arrOf st'=((lp.take sa++mid++lp.drop (sa+(na+nb))).map (kas_item it)).toArray→Q true st' s):
  kasC (model prog w) A E (mergeAt' i) Q st s:=by
 have lA:((lp.drop sa).take na).length=na:=by rw[List.length_take,List.length_drop];lia
 have lB:((lp.drop (sa+na)).take nb).length=nb:=by rw[List.length_take,List.length_drop];lia
 have gtA:∀ j,j<na→((lp.drop sa).take na).getD j 0=lp.getD (sa+j) 0:=fun j hj=>by simp[List.getD,List.getElem?_take,List.getElem?_drop,hj]
 have gtB:∀ j,j<nb→((lp.drop (sa+na)).take nb).getD j 0=lp.getD (sa+na+j) 0:=fun j hj=>by simp[List.getD,List.getElem?_take,List.getElem?_drop,hj]
 have eW:(lp.drop sa).take na++(lp.drop (sa+na)).take nb=(lp.drop sa).take (na+nb):=by rw[← List.drop_drop,fX]
 have eAll:lp.take sa++(lp.drop sa).take (na+nb)++lp.drop (sa+(na+nb))=lp:=by rw[fX,List.take_append_drop]
 have gA:∀ i j,sa≤i→i≤j→j<sa+na→key (lp.getD i 0)≤key (lp.getD j 0):=fun i j a b c=>by
  have:=eV sA (i:=i - sa) (j:=j - sa) (by lia) (by lia)
  rwa [gtA _ (by lia),gtA _ (by lia),show sa+(i - sa)=i by lia,show sa+(j - sa)=j by lia] at this
 have gB:∀ i j,sa+na≤i→i≤j→j<sa+na+nb→key (lp.getD i 0)≤key (lp.getD j 0):=fun i j a b c=>by
  have:=eV sB (i:=i - (sa+na)) (j:=j - (sa+na)) (by lia) (by lia)
  rwa [gtB _ (by lia),gtB _ (by lia),show sa+na+(i - (sa+na))=i by lia,show sa+na+(j - (sa+na))=j by lia] at this
 have mA:∀ x∈(lp.drop sa).take na,∃ j,sa≤j∧j<sa+na∧x=lp.getD j 0:=fun x hx=>by
  obtain⟨j,j0,j1,rfl⟩:=eU hx
  exact⟨sa+j,by lia,by lia,rfl⟩
 have mB:∀ x∈(lp.drop (sa+na)).take nb,∃ j,sa+na≤j∧j<sa+na+nb∧x=lp.getD j 0:=fun x hx=>by
  obtain⟨j,j0,j1,rfl⟩:=eU hx
  exact⟨sa+na+j,by lia,by lia,rfl⟩
 unfold mergeAt'
 with_unfolding_all refine kasC_bind (kasC_get ?_)
 simp only[hi,hj,harr]
 refine kasC_bind (vG ?_)
 refine kasC_bind (aS (show sa+na<lp.length by lia) ?_)
 refine kasC_bind (jL hc (cv hlp (show sa+na<lp.length by lia)) hlp (base:=sa) (m:=na) (hint:=0) (by lia) ha gA (by exact hkind) ?_)
 intro k hk1 lo1 hi1
 dsimp only
 by_cases c1:na - k=0
 ·rw[if_pos (by simpa using c1)]
  refine kasC_pure (h _ _ (by exact hkind) (by exact hf) rfl (List.Perm.refl _) ?_ ?_)
  ·rw[← eW]
   refine bu.mpr ⟨sA,sB,fun x hx y hy=>?_⟩
   obtain⟨j,j1,j2,rfl⟩:=mA x hx
   obtain⟨j',j3,j4,rfl⟩:=mB y hy
   have:=lo1 j j1 (by lia)
   have:=gB (sa+na) j' (by lia) j3 j4
   lia
  ·rw[eAll]
 rw[if_neg (by simpa using c1)]
 rw[show sa+k+(na - k) - 1=sa+na - 1 by lia]
 refine kasC_bind (aS (show sa+na - 1<lp.length by lia) ?_)
 refine kasC_bind (gQ hc (cv hlp (show sa+na - 1<lp.length by lia)) hlp (base:=sa+na) (m:=nb) (hint:=nb - 1) (by lia) (by lia) gB (by exact hkind) ?_)
 intro nb' hk2 lo2 hi2
 dsimp only
 by_cases c2:nb'=0
 ·rw[if_pos (by simpa using c2)]
  refine kasC_pure (h _ _ (by exact hkind) (by exact hf) rfl (List.Perm.refl _) ?_ ?_)
  ·rw[← eW]
   refine bu.mpr ⟨sA,sB,fun x hx y hy=>?_⟩
   obtain⟨j,j1,j2,rfl⟩:=mA x hx
   obtain⟨j',j3,j4,rfl⟩:=mB y hy
   have:=hi2 j' (by lia) j4
   have:=gA j (sa+na - 1) j1 (by lia) (by lia)
   lia
  ·rw[eAll]
 rw[if_neg (by simpa using c2)]
 have eX:(lp.map (kas_item it)).toArray.extract (sa+k) (sa+na)=((((lp.drop sa).take na).drop k).map (kas_item it)).toArray:=by
  apply Array.ext'
  simp only[List.extract_toArray,List.extract_eq_drop_take,List.map_drop,List.map_take]
  rw[List.drop_take,List.drop_drop,show sa+na - (sa+k)=na - k by lia]
 have eY:(lp.map (kas_item it)).toArray.extract (sa+na) (sa+na+nb')=((((lp.drop (sa+na)).take nb).take nb').map (kas_item it)).toArray:=by
  apply Array.ext'
  simp only[List.extract_toArray,List.extract_eq_drop_take,List.map_drop,List.map_take]
  rw[List.take_take,Nat.min_eq_left hk2,show sa+na+nb' - (sa+na)=nb' by lia]
 rw[eX,eY]
 have h1:∀ x∈((lp.drop sa).take na).take k,key x≤key (((lp.drop (sa+na)).take nb).getD 0 0):=fun x hx=>by
  rw[gtB 0 hb]
  obtain⟨j,j0,j1,rfl⟩:=cx hx
  rw[gtA j (by lia)]
  exact lo1 _ (by lia) (by lia)
 have h4:∀ x∈((lp.drop (sa+na)).take nb).drop nb',key (((lp.drop sa).take na).getD (((lp.drop sa).take na).length - 1) 0)≤key x:=fun x hx=>by
  rw[lA,gtA _ (by lia)]
  obtain⟨j,j0,j1,rfl⟩:=bZ hx
  rw[gtB j (by lia),show sa+(na - 1)=sa+na - 1 by lia]
  exact hi2 _ (by lia) (by lia)
 have f1:∀ x∈((lp.drop sa).take na).drop k,key ((((lp.drop (sa+na)).take nb).take nb').getD 0 0)≤key x:=fun x hx=>by
  rw[show (((lp.drop (sa+na)).take nb).take nb').getD 0 0=((lp.drop (sa+na)).take nb).getD 0 0 by simp only[List.getD,List.getElem?_take,if_pos (show 0<nb' by lia)],gtB 0 hb]
  obtain⟨j,j0,j1,rfl⟩:=bZ hx
  rw[gtA j (by lia)]
  have:=hi1 (sa+j) (by lia) (by lia)
  rw[Nat.add_zero]
  lia
 have l2:(((lp.drop sa).take na).drop k).length=na - k:=by rw[List.length_drop,lA]
 have l3:(((lp.drop (sa+na)).take nb).take nb').length=nb':=by rw[List.length_take,lB];lia
 have f2:∀ x∈((lp.drop (sa+na)).take nb).take nb',key x≤key ((((lp.drop sa).take na).drop k).getD ((((lp.drop sa).take na).drop k).length - 1) 0):=fun x hx=>by
  rw[l2,show (((lp.drop sa).take na).drop k).getD (na - k - 1) 0=((lp.drop sa).take na).getD (na - 1) 0 by simp only[List.getD,List.getElem?_drop,show k+(na - k - 1)=na - 1 by lia],gtA _ (by lia),show sa+(na - 1)=sa+na - 1 by lia]
  obtain⟨j,j0,j1,rfl⟩:=cx hx
  rw[gtB j (by lia)]
  have:=lo2 (sa+na+j) (by lia) (by lia)
  lia
 have u1:∀ x∈((lp.drop sa).take na).drop k,x<n:=fun x hx=>hlp x (List.mem_of_mem_drop (List.mem_of_mem_take (List.mem_of_mem_drop hx)))
 have u2:∀ x∈((lp.drop (sa+na)).take nb).take nb',x<n:=fun x hx=>hlp x (List.mem_of_mem_drop (List.mem_of_mem_take (List.mem_of_mem_take hx)))
 by_cases c3:na - k≤nb'
 ·rw[if_pos c3]
  refine kasC_bind (vD hc u1 u2 (sA.sublist (List.drop_sublist _ _)) (sB.sublist (List.take_sublist _ _)) (by lia) (by lia) f1 f2 (by exact hkind) ?_)
  intro out st' hM hss
  obtain⟨po,rfl,hperm,hsrt⟩:=hM
  have hmid:=mZ (key:=key) sA sB (by lia) (by lia) h1 h4 hperm hsrt
  refine kasC_bind (kasC_modify ?_)
  refine kasC_bind (kasC_get ?_)
  refine kasC_pure ?_
  have e:failedOf st'=none:=hss.f.trans hf
  show Q (failedOf st').isNone _ s
  rw[e]
  refine h (((lp.drop sa).take na).take k++po++((lp.drop (sa+na)).take nb).drop nb') _ (hss.k.trans hkind) (by first | rfl | exact e) (by exact hss.p) (by rw[← eW];exact hmid.2) hmid.1 ?_
  have ea:arrOf st'=(lp.map (kas_item it)).toArray:=hss.a
  have pl:po.length=na - k+nb':=by rw[hperm.length_eq,List.length_append,l2,l3]
  have sA':=jO (po.map (kas_item it)) (lp.map (kas_item it)) (sa+k) 0 (sa+k) (by rw[List.length_map,List.length_map,pl];lia) rfl
  show List.foldl (fun a x=>a.setIfInBounds (sa+k+x.2) x.1) (arrOf st') (po.map (kas_item it)).toArray.toList.zipIdx=_
  rw[ea]
  refine sA'.trans ?_
  rw[List.length_map,pl,← List.map_take,← List.map_drop,← List.map_append,← List.map_append]
  congr 2
  have q1:lp.take (sa+k)=lp.take sa++((lp.drop sa).take na).take k:=by
   rw[List.take_take,Nat.min_eq_left hk1,fX]
  have q2:lp.drop (sa+k+(na - k+nb'))=((lp.drop (sa+na)).take nb).drop nb'++lp.drop (sa+(na+nb)):=by
   have:=jM (l:=lp.drop (sa+na)) (i:=nb') (j:=nb) hk2 (by rw[List.length_drop];lia)
   rw[List.drop_drop,List.drop_drop] at this
   rw[show sa+k+(na - k+nb')=sa+na+nb' by lia,this,show sa+na+nb=sa+(na+nb) by lia]
  rw[q1,q2]
  simp only[List.append_assoc]
 ·rw[if_neg c3]
  refine kasC_bind (vF hc u1 u2 (sA.sublist (List.drop_sublist _ _)) (sB.sublist (List.take_sublist _ _)) (by lia) (by lia) f1 f2 (by exact hkind) ?_)
  intro out st' hM hss
  obtain⟨po,rfl,hperm,hsrt⟩:=hM
  have hmid:=mZ (key:=key) sA sB (by lia) (by lia) h1 h4 hperm hsrt
  refine kasC_bind (kasC_modify ?_)
  refine kasC_bind (kasC_get ?_)
  refine kasC_pure ?_
  have e:failedOf st'=none:=hss.f.trans hf
  show Q (failedOf st').isNone _ s
  rw[e]
  refine h (((lp.drop sa).take na).take k++po++((lp.drop (sa+na)).take nb).drop nb') _ (hss.k.trans hkind) (by first | rfl | exact e) (by exact hss.p) (by rw[← eW];exact hmid.2) hmid.1 ?_
  have ea:arrOf st'=(lp.map (kas_item it)).toArray:=hss.a
  have pl:po.length=na - k+nb':=by rw[hperm.length_eq,List.length_append,l2,l3]
  have sA':=jO (po.map (kas_item it)) (lp.map (kas_item it)) (sa+k) 0 (sa+k) (by rw[List.length_map,List.length_map,pl];lia) rfl
  show List.foldl (fun a x=>a.setIfInBounds (sa+k+x.2) x.1) (arrOf st') (po.map (kas_item it)).toArray.toList.zipIdx=_
  rw[ea]
  refine sA'.trans ?_
  rw[List.length_map,pl,← List.map_take,← List.map_drop,← List.map_append,← List.map_append]
  congr 2
  have q1:lp.take (sa+k)=lp.take sa++((lp.drop sa).take na).take k:=by
   rw[List.take_take,Nat.min_eq_left hk1,fX]
  have q2:lp.drop (sa+k+(na - k+nb'))=((lp.drop (sa+na)).take nb).drop nb'++lp.drop (sa+(na+nb)):=by
   have:=jM (l:=lp.drop (sa+na)) (i:=nb') (j:=nb) hk2 (by rw[List.length_drop];lia)
   rw[List.drop_drop,List.drop_drop] at this
   rw[show sa+k+(na - k+nb')=sa+na+nb' by lia,this,show sa+na+nb=sa+(na+nb) by lia]
  rw[q1,q2]
  simp only[List.append_assoc]
end
section
variable {prog:Program}{w:World}{A:Around}{E:Value→Shared→Prop}{κ:SortKind}{it:Array Keyed}{key:Nat→Int}{n:Nat}{s:Shared}{pend:Array (Nat×Nat×Nat)}
structure Hd (κ:SortKind) (it:Array Keyed) (pend:Array (Nat×Nat×Nat)) (st:SortSt) (p:Array Nat):Prop where
 k:PyProof.Rows.kindOf st=κ
 a:arrOf st=p.map (kas_item it)
 p:pendingOf st=pend
 f:failedOf st=none
theorem gS (hc:bj n key (kas_cmp prog w A κ it) s) {p:Array Nat} (hp:Rg n p) {i j:Nat} (hi:i<n) (hj:j<n) {st:SortSt} (H:Hd κ it pend st p) {Q:Option Bool→SortSt→Shared→Prop} (h:Q (some (decide (kyA key p i<kyA key p j))) st s):
  kasC (model prog w) A E (ltAt' i j) Q st s:=by
 have el:∀ i,i<n→(p.map (kas_item it))[i]?=some (kas_item it (p.getD i 0)):=fun i hi=>by
  have:i<p.size:=by rw[hp.size];exact hi
  simp[Array.getD,this]
 rw[ltAt'_eq]
 refine kasC_bind (kasC_get ?_)
 rw[H.a]
 dsimp only
 rw[elem'_eq,elem'_eq,el i hi,el j hj]
 refine kasC_bind (kasC_pure ?_)
 refine kasC_bind (kasC_pure ?_)
 exact gO hc (hp.lt hi) (hp.lt hj) H.k h
theorem vI {p:Array Nat}{st:SortSt} (H:Hd κ it pend st p) {i j:Nat}{Q:Unit→SortSt→Shared→Prop} (h:∀ st',Hd κ it pend st' (kas_rev p i j)→Q () st' s):kasC (model prog w) A E (reverseSlice' i j) Q st s:=by
 rw[reverseSlice'_eq]
 refine kasC_modify (h _ ⟨H.k,?_,H.p,H.f⟩)
 show mirror (arrOf st) i j ((j - i) / 2)=_
 rw[H.a]
 exact kas_swaps_map (kas_item it) (fun k=>i+k) (fun k=>j - 1 - k) _ p
theorem vJ {p:Array Nat}{st:SortSt} (H:Hd κ it pend st p) {i j:Nat}{Q:Unit→SortSt→Shared→Prop} (h:∀ st',Hd κ it pend st' (bubble p i (i - j))→Q () st' s):kasC (model prog w) A E (moveDown' i j) Q st s:=by
 rw[moveDown'_eq]
 refine kasC_modify (h _ ⟨H.k,?_,H.p,H.f⟩)
 show bubble (arrOf st) i (i - j)=_
 rw[H.a]
 exact kas_swaps_map (kas_item it) (fun k=>i - k) (fun k=>i - k - 1) _ p
theorem gU {σ β:Type}{M:Model}{f:Nat→β→StateT σ Sem (ForInStep β)}{Q:β→σ→Shared→Prop} (I:Nat→β→σ→Shared→Prop) (B:Nat)
  (step:∀ x c st s',x<B→I x c st s'→kasC M A E (f x c) (fun r st2 s2=>match r with | .yield c'=>I (x+1) c' st2 s2 | .done c'=>Q c' st2 s2) st s'):∀ (m a:Nat) (c:β) (st:σ) (s':Shared),a+m≤B→(∀ c st s',I (a+m) c st s'→Q c st s')→I a c st s'→
   kasC M A E (forIn (List.range' a m) c f) Q st s'
 | 0,a,c,st,s',hB,fin,h=>by
  show kasC M A E (forIn ([]:List Nat) c f) Q st s'
  exact kasC_nil (fin c st s' h)
 | m+1,a,c,st,s',hB,fin,h=>by
  show kasC M A E (forIn (a::List.range' (a+1) m) c f) Q st s'
  refine kasC_cons (wpAny_mono (step a c st s' (by lia) h) (fun r s2 h'=>?_) fun _ _ e=>e)
  obtain⟨r,st2⟩:=r
  cases r with
  | done c'=>exact h'
  | yield c'=>exact gU I B step m (a+1) c' st2 s2 (by lia) (fun c st s' hi=>fin c st s' (by rw[show a+(m+1)=a+1+m by lia];exact hi)) h'
theorem vK (hc:bj n key (kas_cmp prog w A κ it) s) (inj:∀ i j,i<n→j<n→key i=key j→i=j) {p:Array Nat} (hp:Rg n p) {lo nrem:Nat} (h1:1≤nrem) (hz:lo+nrem≤n) {st:SortSt} (H:Hd κ it pend st p) {Q:Option Nat→SortSt→Shared→Prop}
  (h:∀ m p' st',1≤m→m≤nrem→Rg n p'→Hd κ it pend st' p'→(∀ i,i<lo→p'[i]?=p[i]?)→(∀ j,lo+1≤j→j<lo+m→kyA key p' (j - 1)≤kyA key p' j)→Q (some m) st' s):
  kasC (model prog w) A E (countRun' lo nrem) Q st s:=by
 unfold countRun'
 have asc:∀ (q:Array Nat) (st1:SortSt) (a:Nat),Rg n q→Hd κ it pend st1 q→1≤a→a≤nrem→(∀ j,lo+1≤j→j<lo+a→kyA key q (j - 1)≤kyA key q j)→
   kasC (model prog w) A E (forIn [a:nrem] ((none:Option (Option Nat)),a) fun x c=>do
    let r ← ltAt' (lo+c.2) (lo+c.2 - 1)
    match r with
    | some smaller=>if smaller=true then pure (ForInStep.done (none,c.2)) else pure (ForInStep.yield (none,c.2+1))
    | x=>pure (ForInStep.done (some none,c.2)))
    (fun c st' s'=>s=s'∧st1=st'∧∃ m,c=(none,m)∧a≤m∧m≤nrem∧(∀ j,lo+1≤j→j<lo+m→kyA key q (j - 1)≤kyA key q j)∧(m=nrem∨kyA key q (lo+m)<kyA key q (lo+m - 1))) st1 s:=fun q st1 a hq H1 a1 a2 a3=>by
  refine kasC_range (gU (fun x c st' s'=>s=s'∧st1=st'∧c=(none,x)∧a≤x∧∀ j,lo+1≤j→j<lo+x→kyA key q (j - 1)≤kyA key q j) nrem ?_ _ _ _ _ _ (by lia) ?_ ⟨rfl,rfl,rfl,Nat.le_refl _,a3⟩)
  ·rintro x c st' s' hx ⟨rfl,rfl,rfl,x1,x2⟩
   dsimp only
   refine kasC_bind (gS hc hq (by lia) (by lia) H1 ?_)
   dsimp only
   by_cases hk:kyA key q (lo+x)<kyA key q (lo+x - 1)
   ·rw[if_pos (by simpa using hk)]
    exact kasC_pure ⟨rfl,rfl,x,rfl,x1,by lia,x2,.inr hk⟩
   ·rw[if_neg (by simpa using hk)]
    refine kasC_pure ⟨rfl,rfl,rfl,by lia,fun j j1 j2=>?_⟩
    by_cases e:j=lo+x
    ·subst e
     lia
    ·exact x2 j j1 (by lia)
  ·rintro c st' s' ⟨rfl,rfl,rfl,x1,x2⟩
   rw[show a+(nrem - a)=nrem by lia] at x2 ⊢
   exact⟨rfl,rfl,nrem,rfl,by lia,Nat.le_refl _,x2,.inl rfl⟩
 with_unfolding_all refine kasC_bind (b6 (asc p st 1 hp H (Nat.le_refl _) h1 fun j a b=>by lia) ?_)
 rintro c st' s' ⟨rfl,rfl,m,rfl,m1,m2,m3,m4⟩
 dsimp only
 by_cases e:m=nrem
 ·rw[if_pos (by simpa using e)]
  exact kasC_pure (h m p _ m1 m2 hp H (fun _ _=>rfl) m3)
 rw[if_neg (by simpa using e)]
 have lt1:kyA key p (lo+m)<kyA key p (lo+m - 1):=m4.resolve_left e
 by_cases e1:m > 1
 ·rw[if_pos e1]
  refine kasC_bind (gS hc hp (by lia) (by lia) H ?_)
  dsimp only
  have:∀ d,1≤d→d<m→kyA key p lo<kyA key p (lo+d):=fun d=>by
   induction d with
   | zero=>intro x;lia
   | succ d ih=>
    intro _ hd
    have a:=m3 (lo+(d+1)) (by lia) (by lia)
    rw[show lo+(d+1) - 1=lo+d by lia] at a
    have b:=hp.ne inj (show lo+d<lo+(d+1) by lia) (by lia)
    by_cases z:d=0
    ·subst z
     rw[Nat.add_zero] at a b
     lia
    ·have:=ih (by lia) (by lia)
     lia
  have hr:=this (m - 1) (by lia) (by lia)
  rw[show lo+(m - 1)=lo+m - 1 by lia] at hr
  rw[if_pos (by simpa using hr)]
  exact kasC_pure (h m p _ m1 m2 hp H (fun _ _=>rfl) m3)
 rw[if_neg e1]
 obtain rfl:m=1:=by lia
 refine kasC_bind (kasC_lift (wpAny_rule ?_))
 refine kasC_bind (b6 (Q':=fun c st' s'=>s=s'∧st=st'∧∃ m,c=(none,m,0)∧2≤m∧m≤nrem∧∀ j,lo+1≤j→j<lo+m→kyA key p j<kyA key p (j - 1))
  (kasC_range (gU (fun x c st' s'=>s=s'∧st=st'∧c=(none,x,0)∧2≤x∧∀ j,lo+1≤j→j<lo+x→kyA key p j<kyA key p (j - 1)) nrem ?d1 _ _ _ _ _ (by lia) ?d2 ⟨rfl,rfl,rfl,Nat.le_refl _,fun j j1 j2=>by
   obtain rfl:j=lo+1:=by lia
   exact lt1⟩)) ?d3)
 case d1=>
  rintro x c st' s' hx ⟨rfl,rfl,rfl,x1,x2⟩
  dsimp only
  refine kasC_bind (gS hc hp (by lia) (by lia) H ?_)
  dsimp only
  by_cases hk:kyA key p (lo+x)<kyA key p (lo+x - 1)
  ·rw[if_pos (by simpa using hk),if_neg (by lia)]
   refine kasC_pure ⟨rfl,rfl,rfl,by lia,fun j j1 j2=>?_⟩
   by_cases e:j=lo+x
   ·subst e
    exact hk
   ·exact x2 j j1 (by lia)
  ·rw[if_neg (by simpa using hk)]
   refine kasC_bind (gS hc hp (by lia) (by lia) H ?_)
   dsimp only
   have b:=hp.ne inj (show lo+x - 1<lo+x by lia) (by lia)
   rw[if_pos (by rw[decide_eq_true_eq];lia)]
   exact kasC_pure ⟨rfl,rfl,x,rfl,x1,by lia,x2⟩
 case d2=>
  rintro c st' s' ⟨rfl,rfl,rfl,x1,x2⟩
  rw[show 1+1+(nrem - (1+1))=nrem by lia] at x2 ⊢
  exact⟨rfl,rfl,nrem,rfl,by lia,Nat.le_refl _,x2⟩
 case d3=>
  rintro c st' s' ⟨rfl,rfl,k,rfl,k1,k2,k3⟩
  dsimp only
  rw[if_neg (by lia)]
  refine kasC_bind (vI H ?_)
  intro st2 H2
  have hp':=hp.rev lo (lo+k)
  have g:∀ i,(kas_rev p lo (lo+k))[i]?=if lo≤i∧i<lo+k then p[lo+(lo+k) - 1 - i]? else p[i]?:=fun i=>by
   unfold kas_rev
   rw[getElem?_mirror_all (by rw[hp.size];lia)]
  have ky:∀ i,lo≤i→i<lo+k→kyA key (kas_rev p lo (lo+k)) i=kyA key p (lo+(lo+k) - 1 - i):=fun i a b=>db (by rw[g,if_pos ⟨a,b⟩])
  refine kasC_bind (b6 (asc (kas_rev p lo (lo+k)) st2 k hp' H2 (by lia) k2 fun j j1 j2=>?_) ?_)
  ·rw[ky _ (by lia) (by lia),ky _ (by lia) (by lia)]
   have:=k3 (lo+(lo+k) - 1 - (j - 1)) (by lia) (by lia)
   rw[show lo+(lo+k) - 1 - (j - 1) - 1=lo+(lo+k) - 1 - j by lia] at this
   lia
  ·rintro c st' s' ⟨rfl,rfl,m',rfl,q1,q2,q3,q4⟩
   dsimp only
   exact kasC_pure (h m' _ _ (by lia) q2 hp' H2 (fun i hi=>by rw[g,if_neg (by lia)]) q3)
end
section
variable {prog:Program}{w:World}{A:Around}{E:Value→Shared→Prop}{κ:SortKind}{it:Array Keyed}{key:Nat→Int}{n:Nat}{s:Shared}{pend:Array (Nat×Nat×Nat)}
noncomputable def cg (key:Nat→Int) (p:Array Nat) (lo m:Nat):Prop:=∀ i j,lo≤i→i≤j→j<lo+m→kyA key p i≤kyA key p j
theorem m5 {p:Array Nat}{lo m:Nat} (h:∀ j,lo+1≤j→j<lo+m→kyA key p (j - 1)≤kyA key p j):cg key p lo m:=by
 intro i j hi hij hj
 obtain⟨d,rfl⟩:∃ d,j=i+d:=⟨j - i,by lia⟩
 clear hij
 induction d with
 | zero=>exact Int.le_refl _
 | succ d ih=>
  have a:=ih (by lia)
  have b:=h (i+(d+1)) (by lia) hj
  rw[show i+(d+1) - 1=i+d by lia] at b
  lia
theorem vL (hc:bj n key (kas_cmp prog w A κ it) s) {p:Array Nat} (hp:Rg n p) {lo m okk:Nat} (hz:lo+m≤n) (h1:1≤okk) (hm:okk≤m) (up:cg key p lo okk) {st:SortSt} (H:Hd κ it pend st p) {Q:Bool→SortSt→Shared→Prop}
  (h:∀ p' st',Rg n p'→Hd κ it pend st' p'→(∀ i,i<lo→p'[i]?=p[i]?)→cg key p' lo m→Q true st' s):
  kasC (model prog w) A E (binarySort' lo m okk) Q st s:=by
 rw[binarySort'_eq]
 rw[show max okk 1=okk by lia]
 with_unfolding_all refine kasC_bind (b6 (Q':=fun c st' s'=>s=s'∧c=(none,())∧∃ q,Rg n q∧Hd κ it pend st' q∧(∀ i,i<lo→q[i]?=p[i]?)∧cg key q lo m)
  (kasC_range (gU (fun x c st' s'=>s=s'∧c=(none,())∧1≤x∧∃ q,Rg n q∧Hd κ it pend st' q∧(∀ i,i<lo→q[i]?=p[i]?)∧cg key q lo x) m ?step _ _ _ _ _ (by lia) ?fin ⟨rfl,rfl,h1,p,hp,H,fun _ _=>rfl,up⟩)) ?after)
 case after=>
  rintro c st' s' ⟨rfl,rfl,q,q1,q2,q3,q4⟩
  exact kasC_pure (h q _ q1 q2 q3 q4)
 case fin=>
  rintro c st' s' ⟨rfl,rfl,x1,q,q1,q2,q3,q4⟩
  rw[show okk+(m - okk)=m by lia] at q4
  exact⟨rfl,rfl,q,q1,q2,q3,q4⟩
 case step=>
  rintro k c st' s' hk ⟨rfl,rfl,k1,q,hq,H',fr,up⟩
  dsimp only
  have L0:∀ i,lo≤i→i<lo+0→kyA key q i≤kyA key q (lo+k):=fun i a b=>by lia
  have R0:∀ i,lo+k≤i→i<lo+k→kyA key q (lo+k)≤kyA key q i:=fun i a b=>by lia
  refine kasC_bind (b6 (Q':=fun c st2 s'=>s=s'∧st'=st2∧∃ l r,c=(none,l,r)∧l≤k∧(∀ i,lo≤i→i<lo+l→kyA key q i≤kyA key q (lo+k))∧(∀ i,lo+l≤i→i<lo+k→kyA key q (lo+k)≤kyA key q i))
   (kasC_range (gU (fun x c st2 s'=>s=s'∧st'=st2∧∃ l r,c=(none,l,r)∧l≤r∧r≤k∧r - l≤k - x∧(∀ i,lo≤i→i<lo+l→kyA key q i≤kyA key q (lo+k))∧(∀ i,lo+r≤i→i<lo+k→kyA key q (lo+k)≤kyA key q i)) k ?s2 _ _ _ _ _ (by lia) ?f2 ⟨rfl,rfl,0,k,rfl,by lia,by lia,by lia,L0,R0⟩)) ?a2)
  case f2=>
   rintro c st2 s' ⟨rfl,rfl,l,r,rfl,b1,b2,b3,b4,b5⟩
   exact⟨rfl,rfl,l,r,rfl,by lia,b4,fun i x y=>b5 i (by lia) y⟩
  case s2=>
   rintro x c st2 s' hx ⟨rfl,rfl,l,r,rfl,b1,b2,b3,b4,b5⟩
   dsimp only
   by_cases e:l ≥ r
   ·rw[if_pos e]
    exact kasC_pure ⟨rfl,rfl,l,r,rfl,by lia,b4,fun i x y=>b5 i (by lia) y⟩
   rw[if_neg e]
   have m1:l≤(l+r) / 2:=by lia
   have m2:(l+r) / 2<r:=by lia
   have m3:(l+r) / 2 - l≤k - (x+1):=by lia
   have m4:r - ((l+r) / 2+1)≤k - (x+1):=by lia
   generalize (l+r) / 2=mid at m1 m2 m3 m4 ⊢
   refine kasC_bind (gS hc hq (by lia) (by lia) H' ?_)
   dsimp only
   by_cases hk2:kyA key q (lo+k)<kyA key q (lo+mid)
   ·rw[if_pos (by simpa using hk2)]
    refine kasC_pure ⟨rfl,rfl,l,mid,rfl,m1,by lia,m3,b4,fun i x y=>?_⟩
    have:=up (lo+mid) i (by lia) x y
    lia
   ·rw[if_neg (by simpa using hk2)]
    refine kasC_pure ⟨rfl,rfl,mid+1,r,rfl,by lia,b2,m4,fun i x y=>?_,b5⟩
    have:=up i (lo+mid) x (by lia) (by lia)
    lia
  case a2=>
   rintro c st2 s' ⟨rfl,rfl,l,r,rfl,b1,b4,b5⟩
   dsimp only
   refine kasC_bind (vJ H' ?_)
   intro st3 H3
   have g:∀ i,(bubble q (lo+k) (lo+k - (lo+l)))[i]?=if i=lo+l then q[lo+k]? else if lo+l<i∧i≤lo+k then q[i - 1]? else q[i]?:=fun i=>by
    have:=getElem?_bubble (xs:=q) (src:=lo+k) (by rw[hq.size];lia) (lo+k - (lo+l)) (by lia) i
    rwa [show lo+k - (lo+k - (lo+l))=lo+l by lia] at this
   have ky:∀ i,kyA key (bubble q (lo+k) (lo+k - (lo+l))) i=if i=lo+l then kyA key q (lo+k) else if lo+l<i∧i≤lo+k then kyA key q (i - 1) else kyA key q i:=fun i=>by
    have g:=g i
    by_cases e:i=lo+l
    ·rw[if_pos e] at g ⊢;exact db g
    ·rw[if_neg e] at g ⊢
     by_cases e2:lo+l<i∧i≤lo+k
     ·rw[if_pos e2] at g ⊢;exact db g
     ·rw[if_neg e2] at g ⊢;exact db g
   refine kasC_pure ⟨rfl,rfl,by lia,_,hq.bub _ _,H3,fun i hi=>by rw[g,if_neg (by lia),if_neg (by lia)];exact fr i hi,m5 fun j x y=>?_⟩
   rw[ky,ky]
   by_cases c1:j - 1=lo+l
   ·rw[if_pos c1,if_neg (by lia),if_pos (by lia)]
    exact b5 (j - 1) (by lia) (by lia)
   ·rw[if_neg c1]
    by_cases c2:j=lo+l
    ·rw[if_pos c2,if_neg (by lia)]
     exact b4 (j - 1) (by lia) (by lia)
    ·rw[if_neg c2]
     by_cases c3:lo+l<j - 1
     ·rw[if_pos (by lia),if_pos (by lia)]
      exact up _ _ (by lia) (by lia) (by lia)
     ·rw[if_neg (by lia),if_neg (by lia)]
      exact up _ _ (by lia) (by lia) (by lia)
end
section
variable {prog:Program}{w:World}{A:Around}{E:Value→Shared→Prop}{κ:SortKind}{it:Array Keyed}{key:Nat→Int}{n:Nat}{s:Shared}{pend:Array (Nat×Nat×Nat)}
noncomputable def aO (key:Nat→Int) (p:Array Nat):Nat→List (Nat×Nat×Nat)→Nat→Prop
 | a,[],b=>a=b
 | a,(x,l,_)::t,b=>x=a∧0<l∧cg key p x l∧aO key p (a+l) t b
theorem aO.le {p:Array Nat}:∀ {t:List (Nat×Nat×Nat)}{a b:Nat},aO key p a t b→a+t.length≤b
 | [],a,b,h=>by rw[show b=a from h.symm];exact Nat.le_refl _
 | (x,l,_)::t,a,b,h=>by
  have:=h.2.2.2.le
  have:=h.2.1
  rw[List.length_cons]
  lia
theorem aO.congr {p q:Array Nat}:∀ {t:List (Nat×Nat×Nat)}{a b:Nat},aO key p a t b→(∀ i,a≤i→i<b→kyA key q i=kyA key p i)→aO key q a t b
 | [],a,b,h,_=>h
 | (x,l,_)::t,a,b,h,g=>by
  have:=h.2.2.2.le
  obtain⟨rfl,h2,h3,h4⟩:=h
  refine⟨rfl,h2,fun i j hi hij hj=>?_,h4.congr fun i a b=>g i (by lia) b⟩
  rw[g i hi (by lia),g j (by lia) (by lia)]
  exact h3 i j hi hij hj
theorem aO.app {p:Array Nat}:∀ {t u:List (Nat×Nat×Nat)}{a b:Nat},aO key p a (t++u) b↔∃ c,aO key p a t c∧aO key p c u b
 | [],u,a,b=>⟨fun h=>⟨a,rfl,h⟩,fun ⟨c,e,h⟩=>by rw[show a=c from e];exact h⟩
 | (x,l,z)::t,u,a,b=>by
  show (x=a∧0<l∧cg key p x l∧aO key p (a+l) (t++u) b)↔_
  rw[aO.app]
  constructor
  ·rintro⟨h1,h2,h3,c,h4,h5⟩
   exact⟨c,⟨h1,h2,h3,h4⟩,h5⟩
  ·rintro⟨c,⟨h1,h2,h3,h4⟩,h5⟩
   exact⟨h1,h2,h3,c,h4,h5⟩
theorem vM {α:Type}{l:List α}{i:Nat} (h:i+1<l.length):∃ l1 x y l2,l=l1++x::y::l2∧l1.length=i:=by
 refine⟨l.take i,l[i]'(by lia),l[i+1],l.drop (i+2),?_,by rw[List.length_take];lia⟩
 have e1:=List.drop_eq_getElem_cons (l:=l) (i:=i) (by lia)
 have e2:=List.drop_eq_getElem_cons (l:=l) (i:=i+1) h
 rw[← e2,← e1,List.take_append_drop]
theorem kyT (l:List Nat) (i:Nat):kyA key l.toArray i=key (l.getD i 0):=by unfold kyA;rw[dH]
theorem jP (hc:bj n key (kas_cmp prog w A κ it) s) {p:Array Nat} (hp:Rg n p) {st:SortSt} (H:Hd κ it pend st p) {lo i:Nat} (hi:i+1<pend.size) (R:aO key p 0 pend.toList lo) (hlo:lo≤n) {Q:Bool→SortSt→Shared→Prop}
  (h:∀ pend' p' st',Rg n p'→Hd κ it pend' st' p'→pend'.size+1=pend.size→aO key p' 0 pend'.toList lo→(∀ i,lo≤i→kyA key p' i=kyA key p i)→Q true st' s):kasC (model prog w) A E (mergeAt' i) Q st s:=by
 obtain⟨l1,⟨sa,na,pw⟩,⟨sb,nb,pw2⟩,l2,e,rfl⟩:=vM (l:=pend.toList) (i:=i) (by simpa using hi)
 rw[e] at R
 obtain⟨c,R1,rfl,na0,A1,rfl,nb0,A2,R2⟩:=aO.app.mp R
 have b2:=R2.le
 have pe:pend=(l1++(sa,na,pw)::(sa+na,nb,pw2)::l2).toArray:=by rw[← e]
 have psz:p.size=n:=hp.size
 have plt:∀ x∈p.toList,x<n:=fun x hx=>List.mem_range.mp (hp.mem_iff.mp hx)
 have gk:∀ i,kyA key p i=key (p.toList.getD i 0):=fun i=>kyT p.toList i
 have pl:p.toList.length=n:=by rw[Array.length_toList,psz]
 have srtOf:∀ a m,a+m≤n→cg key p a m→Srt key ((p.toList.drop a).take m):=fun a m hz h=>by
  refine List.pairwise_iff_getElem.mpr fun i j hi hj hij=>?_
  have hi':=hi
  have hj':=hj
  rw[List.length_take,List.length_drop,pl] at hi' hj'
  have:=h (a+i) (a+j) (by lia) (by lia) (by lia)
  rw[gk,gk] at this
  rw[List.getElem_take,List.getElem_drop,List.getElem_take,List.getElem_drop]
  rw[List.getD_eq_getElem?_getD,List.getD_eq_getElem?_getD,List.getElem?_eq_getElem (by lia),List.getElem?_eq_getElem (by lia)] at this
  exact this
 refine vH hc (lp:=p.toList) plt (i:=l1.length) (sa:=sa) (na:=na) (nb:=nb) (pw:=pw) (pw2:=pw2) H.k (by rw[H.a];apply Array.ext';simp) H.f (by rw[H.p,pe];simp) (by rw[H.p,pe];simp) na0 nb0 (by lia) (srtOf _ _ (by lia) A1) (srtOf _ _ (by lia) A2) ?_
 intro mid st' k1 f1 p1 m1 m2 a1
 have ml:mid.length=na+nb:=by rw[m1.length_eq,List.length_take,List.length_drop,pl];lia
 have eAll:p.toList.take sa++(p.toList.drop sa).take (na+nb)++p.toList.drop (sa+(na+nb))=p.toList:=by rw[fX,List.take_append_drop]
 have hp':Rg n (p.toList.take sa++mid++p.toList.drop (sa+(na+nb))).toArray:=by
  show (p.toList.take sa++mid++p.toList.drop (sa+(na+nb))).Perm (List.range n)
  refine List.Perm.trans (List.Perm.append_right _ (List.Perm.append_left _ m1)) ?_
  rw[eAll]
  exact hp
 have tl:(p.toList.take sa).length=sa:=by rw[List.length_take,pl];lia
 have k1':∀ i,i<sa→kyA key (p.toList.take sa++mid++p.toList.drop (sa+(na+nb))).toArray i=kyA key p i:=fun i hi=>by
  rw[kyT,gk]
  congr 1
  rw[List.getD_eq_getElem?_getD,List.getD_eq_getElem?_getD,List.append_assoc,List.getElem?_append_left (by lia),List.getElem?_take,if_pos hi]
 have k2':∀ i,sa+(na+nb)≤i→kyA key (p.toList.take sa++mid++p.toList.drop (sa+(na+nb))).toArray i=kyA key p i:=fun i hi=>by
  rw[kyT,gk]
  congr 1
  rw[List.getD_eq_getElem?_getD,List.getD_eq_getElem?_getD,List.getElem?_append_right (by rw[List.length_append];lia),List.getElem?_drop,List.length_append,tl,ml]
  congr 2
  lia
 have k3':∀ i,sa≤i→i<sa+(na+nb)→kyA key (p.toList.take sa++mid++p.toList.drop (sa+(na+nb))).toArray i=key (mid.getD (i - sa) 0):=fun i h1 h2=>by
  rw[kyT]
  congr 1
  rw[List.getD_eq_getElem?_getD,List.getD_eq_getElem?_getD,List.append_assoc,List.getElem?_append_right (by lia),tl,List.getElem?_append_left (by lia)]
 have pe':((l1++(sa,na,pw)::(sa+na,nb,pw2)::l2).toArray.setIfInBounds l1.length (sa,na+nb,pw)).eraseIdxIfInBounds (l1.length+1)=(l1++(sa,na+nb,pw)::l2).toArray:=by
  rw[List.setIfInBounds_toArray,List.set_append_right _ _ (Nat.le_refl _),Nat.sub_self,List.set_cons_zero]
  rw[List.eraseIdxIfInBounds_toArray,List.eraseIdx_append_of_length_le (by lia),show l1.length+1 - l1.length=1 by lia]
  rfl
 refine h ((l1++(sa,na+nb,pw)::l2).toArray) _ st' hp' ⟨k1,by rw[a1];apply Array.ext';simp,by rw[p1,H.p,pe,pe'],f1⟩ (by rw[pe];simp;lia) ?_ (fun i hi=>k2' i (by lia))
 have R2':aO key p (sa+(na+nb)) l2 lo:=by rw[← Nat.add_assoc];exact R2
 refine aO.app.mpr ⟨sa,R1.congr fun i _ b=>k1' i b,rfl,by lia,fun i j h1 h2 h3=>?_,R2'.congr fun i a b=>k2' i a⟩
 ·rw[k3' i h1 (by lia),k3' j (by lia) h3]
  exact eV m2 (by lia) (by lia)
end
section
variable {prog:Program}{w:World}{A:Around}{E:Value→Shared→Prop}{κ:SortKind}{it:Array Keyed}{key:Nat→Int}{n:Nat}{s:Shared}{pend:Array (Nat×Nat×Nat)}
theorem aO.same {p:Array Nat}:∀ {t u:List (Nat×Nat×Nat)}{a b:Nat},aO key p a t b→(t.map fun x=>(x.1,x.2.1))=(u.map fun x=>(x.1,x.2.1))→aO key p a u b
 | [],[],a,b,h,_=>h
 | [],_::_,a,b,h,e=>by cases e
 | _::_,[],a,b,h,e=>by cases e
 | (x,l,z)::t,(x',l',z')::u,a,b,h,e=>by
  rw[List.map_cons,List.map_cons] at e
  injection e with e1 e2
  injection e1 with e3 e4
  dsimp only at e3 e4
  subst e3
  subst e4
  exact⟨h.1,h.2.1,h.2.2.1,h.2.2.2.same e2⟩
theorem m6 (xs:Array (Nat×Nat×Nat)) (i z:Nat):(xs.toList.map fun x=>(x.1,x.2.1))=((xs.modify i fun x=>(x.1,x.2.1,z)).toList.map fun x=>(x.1,x.2.1)):=by
 apply List.ext_getElem?
 intro j
 rw[List.getElem?_map,List.getElem?_map,Array.getElem?_toList,Array.getElem?_toList,Array.getElem?_modify]
 split
 ·rw[Option.map_map]
  rfl
 ·rfl
theorem cg.congr {p q:Array Nat}{lo m:Nat} (h:cg key p lo m) (g:∀ i,lo≤i→kyA key q i=kyA key p i):cg key q lo m:=fun i j a b c=>by
 rw[g i a,g j (by lia)]
 exact h i j a b c
theorem vN {Q:Unit→SortSt→Shared→Prop} (hc:bj n key (kas_cmp prog w A κ it) s) (inj:∀ i j,i<n→j<n→key i=key j→i=j) (h2:2≤n)
  (hG:∀ p' st',Rg n p'→Up key p' n→arrOf st'=p'.map (kas_item it)→failedOf st'=none→Q () st' s):kasC (model prog w) A E sortRuns' Q (kas_st κ it (List.range n).toArray) s:=by
 rw[sortRuns'_eq]
 refine kasC_bind (kasC_get ?_)
 dsimp only
 have hsz:(arrOf (kas_st κ it (List.range n).toArray)).size=n:=by
  show ((List.range n).toArray.map (kas_item it)).size=n
  simp
 simp only[hsz]
 refine kasC_bind (b6 (Q':=fun c st' s'=>s=s'∧c=(none,n)∧∃ pend p,Rg n p∧Hd κ it pend st' p∧aO key p 0 pend.toList n)
  (kasC_range (bI (fun x c st' s'=>s=s'∧∃ lo pend p,c=(none,lo)∧x≤lo∧lo≤n∧Rg n p∧Hd κ it pend st' p∧aO key p 0 pend.toList lo) ?step _ 0 _ _ _ ?fin ⟨rfl,0,#[],(List.range n).toArray,rfl,Nat.le_refl _,by lia,List.Perm.refl _,⟨rfl,rfl,rfl,rfl⟩,rfl⟩)) ?after)
 case fin=>
  rintro c st' s' ⟨rfl,lo,pend,p,rfl,a,b,d,e,f⟩
  have:lo=n:=by lia
  subst this
  exact⟨rfl,rfl,pend,p,d,e,f⟩
 case after=>
  rintro c st' s' ⟨rfl,rfl,pend,p,hp,H,R⟩
  dsimp only
  refine kasC_bind (b6 (Q':=fun c st' s'=>s=s'∧c=(none,())∧∃ p,Rg n p∧Up key p n∧arrOf st'=p.map (kas_item it)∧failedOf st'=none)
   (kasC_range (bI (fun x c st' s'=>s=s'∧c=(none,())∧∃ pend p,Rg n p∧Hd κ it pend st' p∧aO key p 0 pend.toList n∧pend.size+x≤n) ?s2 _ 0 _ _ _ ?f2 ⟨rfl,rfl,pend,p,hp,H,R,by have:=R.le;rw[Array.length_toList] at this;lia⟩)) ?a2)
  case a2=>
   rintro c st' s' ⟨rfl,rfl,p,a,b,c,d⟩
   exact kasC_pure (hG p _ a b c d)
  case f2=>
   rintro c st' s' ⟨rfl,rfl,pend,p,hp,H,R,hx⟩
   have e:pend.toList=[]:=List.eq_nil_of_length_eq_zero (by rw[Array.length_toList];lia)
   rw[e] at R
   have:0=n:=R
   lia
  case s2=>
   rintro x c st' s' ⟨rfl,rfl,pend,p,hp,H,R,hx⟩
   refine kasC_bind (kasC_get ?_)
   by_cases e:(pendingOf st').size≤1
   ·rw[if_pos e]
    refine kasC_pure ⟨rfl,rfl,p,hp,?_,H.a,H.f⟩
    rw[H.p] at e
    have el:pend.toList.length≤1:=by rw[Array.length_toList];exact e
    match hl:pend.toList,el with
    | [],_=>
     rw[hl] at R
     have:0=n:=R
     lia
    | [(x,l,z)],_=>
     rw[hl] at R
     obtain⟨rfl,_,a3,a4⟩:=R
     have:0+l=n:=a4
     exact fun i j hij hj=>a3 i j (Nat.zero_le _) hij (by lia)
    | _::_::_,h=>exact absurd h (by simp)
   ·rw[if_neg e]
    rw[H.p] at e
    have stp:∀ idx,idx+1<pend.size→kasC (model prog w) A E (mergeAt' idx) (fun b st2 s2=>b=true∧s=s2∧∃ pend p,Rg n p∧Hd κ it pend st2 p∧aO key p 0 pend.toList n∧pend.size+(x+1)≤n) st' s:=fun idx hidx=>
     jP hc hp H hidx R (Nat.le_refl _) fun pend' p' st'' a b c d fr=>⟨rfl,rfl,pend',p',a,b,d,by lia⟩
    refine kasC_bind (b6 (stp _ ?_) ?_)
    ·rw[H.p]
     have:∀ (c:Prop) [Decidable c],(if c then pend.size - 2 - 1 else pend.size - 2)+1<pend.size:=fun c _=>by split<;>lia
     exact this _
    ·rintro b st2 s2 ⟨rfl,rfl,hh⟩
     rw[if_neg (by decide)]
     exact kasC_pure ⟨rfl,rfl,hh⟩
 case step=>
  rintro x c st' s' ⟨rfl,lo,pend,p,rfl,x1,x2,hp,H,R⟩
  dsimp only
  by_cases c1:lo ≥ n
  ·rw[if_pos c1]
   have:lo=n:=by lia
   subst this
   exact kasC_pure ⟨rfl,rfl,pend,p,hp,H,R⟩
  rw[if_neg c1]
  refine kasC_bind (vK hc inj hp (by lia) (by lia) H ?_)
  intro m p1 st1 m1 m2 hp1 H1 fr1 A1
  have A1:=m5 A1
  have R1:aO key p1 0 pend.toList lo:=R.congr fun i _ b=>db (fr1 i b)
  dsimp only
  by_cases c2:m<minRun' n n 0
  ·rw[if_pos c2]
   refine kasC_bind (kasC_lift (wpAny_rule ?_))
   have mm:m≤min (n - lo) (minRun' n n 0):=by lia
   have mn:min (n - lo) (minRun' n n 0)≤n - lo:=by lia
   generalize min (n - lo) (minRun' n n 0)=force at mm mn ⊢
   refine kasC_bind (vL hc hp1 (by lia) m1 mm A1 H1 ?_)
   intro p2 st2 hp2 H2 fr2 A2
   have R2:aO key p2 0 pend.toList lo:=R1.congr fun i _ b=>db (fr2 i b)
   rw[if_neg (by decide)]
   refine kasC_bind (kasC_get ?_)
   rcases hbk:(pendingOf st2).back? with _ | ⟨s1,n1,z1⟩
   ·dsimp only
    refine kasC_bind (kasC_modify ?_)
    refine kasC_pure ⟨rfl,lo+force,pend.push (lo,force,0),p2,rfl,by lia,by lia,hp2,⟨H2.k,H2.a,by show (pendingOf st2).push _=_;rw[H2.p],H2.f⟩,?_⟩
    rw[Array.toList_push]
    exact aO.app.mpr ⟨lo,R2,rfl,by lia,A2,rfl⟩
   ·dsimp only
    refine kasC_bind (b6 (Q':=fun c st' s'=>s=s'∧c=(none,())∧∃ pend p,Rg n p∧Hd κ it pend st' p∧aO key p 0 pend.toList lo∧cg key p lo (force))
     (kasC_range (bI (fun x c st' s'=>s=s'∧c=(none,())∧∃ pend p,Rg n p∧Hd κ it pend st' p∧aO key p 0 pend.toList lo∧cg key p lo (force)) ?_ _ 0 _ _ _ (fun _ _ _ z=>z) ⟨rfl,rfl,pend,p2,hp2,H2,R2,A2⟩)) ?_)
    ·rintro y c st' s' ⟨rfl,rfl,pend,p,hp,H,R,A⟩
     refine kasC_bind (kasC_get ?_)
     by_cases e:(pendingOf st').size > 1
     ·rw[if_pos e]
      rcases hg:(pendingOf st')[(pendingOf st').size - 2]? with _ | ⟨a,b,older⟩
      ·dsimp only
       exact kasC_pure ⟨rfl,rfl,pend,p,hp,H,R,A⟩
      ·dsimp only
       split
       ·exact kasC_pure ⟨rfl,rfl,pend,p,hp,H,R,A⟩
       ·refine kasC_bind (jP hc hp H (by rw[H.p] at e ⊢;lia) R (by lia) ?_)
        intro pend' p' st'' a b c d fr
        rw[if_neg (by decide)]
        exact kasC_pure ⟨rfl,rfl,pend',p',a,b,d,A.congr fr⟩
     ·rw[if_neg e]
      dsimp only
      exact kasC_pure ⟨rfl,rfl,pend,p,hp,H,R,A⟩
    ·rintro c st' s' ⟨rfl,rfl,pend,p,hp,H,R,A⟩
     dsimp only
     refine kasC_bind (kasC_modify ?_)
     refine kasC_bind (kasC_modify ?_)
     refine kasC_pure ⟨rfl,lo+force,(pend.modify (pend.size - 1) _).push (lo,force,0),p,rfl,by lia,by lia,hp,⟨H.k,H.a,by show ((pendingOf st').modify ((pendingOf st').size - 1) _).push _=_;rw[H.p],H.f⟩,?_⟩
     rw[Array.toList_push]
     exact aO.app.mpr ⟨lo,R.same (m6 _ _ _),rfl,by lia,A,rfl⟩
  ·rw[if_neg c2]
   have hp2:=hp1
   have H2:=H1
   have R2:=R1
   have A2:=A1
   revert hp2 H2 R2 A2
   generalize p1=p2
   generalize st1=st2
   intro hp2 H2 R2 A2
   refine kasC_bind (kasC_get ?_)
   rcases hbk:(pendingOf st2).back? with _ | ⟨s1,n1,z1⟩
   ·dsimp only
    refine kasC_bind (kasC_modify ?_)
    refine kasC_pure ⟨rfl,lo+m,pend.push (lo,m,0),p2,rfl,by lia,by lia,hp2,⟨H2.k,H2.a,by show (pendingOf st2).push _=_;rw[H2.p],H2.f⟩,?_⟩
    rw[Array.toList_push]
    exact aO.app.mpr ⟨lo,R2,rfl,by lia,A2,rfl⟩
   ·dsimp only
    refine kasC_bind (b6 (Q':=fun c st' s'=>s=s'∧c=(none,())∧∃ pend p,Rg n p∧Hd κ it pend st' p∧aO key p 0 pend.toList lo∧cg key p lo (m))
     (kasC_range (bI (fun x c st' s'=>s=s'∧c=(none,())∧∃ pend p,Rg n p∧Hd κ it pend st' p∧aO key p 0 pend.toList lo∧cg key p lo (m)) ?_ _ 0 _ _ _ (fun _ _ _ z=>z) ⟨rfl,rfl,pend,p2,hp2,H2,R2,A2⟩)) ?_)
    ·rintro y c st' s' ⟨rfl,rfl,pend,p,hp,H,R,A⟩
     refine kasC_bind (kasC_get ?_)
     by_cases e:(pendingOf st').size > 1
     ·rw[if_pos e]
      rcases hg:(pendingOf st')[(pendingOf st').size - 2]? with _ | ⟨a,b,older⟩
      ·dsimp only
       exact kasC_pure ⟨rfl,rfl,pend,p,hp,H,R,A⟩
      ·dsimp only
       split
       ·exact kasC_pure ⟨rfl,rfl,pend,p,hp,H,R,A⟩
       ·refine kasC_bind (jP hc hp H (by rw[H.p] at e ⊢;lia) R (by lia) ?_)
        intro pend' p' st'' a b c d fr
        rw[if_neg (by decide)]
        exact kasC_pure ⟨rfl,rfl,pend',p',a,b,d,A.congr fr⟩
     ·rw[if_neg e]
      dsimp only
      exact kasC_pure ⟨rfl,rfl,pend,p,hp,H,R,A⟩
    ·rintro c st' s' ⟨rfl,rfl,pend,p,hp,H,R,A⟩
     dsimp only
     refine kasC_bind (kasC_modify ?_)
     refine kasC_bind (kasC_modify ?_)
     refine kasC_pure ⟨rfl,lo+m,(pend.modify (pend.size - 1) _).push (lo,m,0),p,rfl,by lia,by lia,hp,⟨H.k,H.a,by show ((pendingOf st').modify ((pendingOf st').size - 1) _).push _=_;rw[H.p],H.f⟩,?_⟩
     rw[Array.toList_push]
     exact aO.app.mpr ⟨lo,R.same (m6 _ _ _),rfl,by lia,A,rfl⟩
theorem vO {Q:Unit→SortSt→Shared→Prop} (hc:bj n key (kas_cmp prog w A κ it) s) (inj:∀ i j,i<n→j<n→key i=key j→i=j) (h2:2≤n) (up:n<1001∨∀ j,1≤j→j<n→key (j - 1)≤key j)
  (hG:∀ p' st',Rg n p'→Up key p' n→arrOf st'=p'.map (kas_item it)→failedOf st'=none→Q () st' s):kasC (model prog w) A E sortRuns' Q (kas_st κ it (List.range n).toArray) s:=vN hc inj h2 hG
end
end L2
namespace L2
open PySem PySem.Spec PyProof.Rows
section
variable {X:Cx}{pins:List (Addr×Obj)}{σ:St}{H:Hp}{s:Shared}{h':Heap}
end
section
variable {prog:Program}{w:World}{A:Around}{E:Value→Shared→Prop}{s:Shared}
end
section
variable {prog:Program}{w:World}{A:Around}{E:Value→Shared→Prop}{s:Shared}
end
section
variable {X:Cx}
end
section
variable {prog:Program}{w:World}{A:Around}{E:Value→Shared→Prop}{s:Shared}
end
section
variable {X:Cx}
end
end L2
namespace L2
open PySem PySem.Spec PyProof.Rows PySem.W
theorem vP {α:Type} (l:List α) (d:α):(List.range l.length).map (fun i=>l.getD i d)=l:=by
 apply List.ext_getElem
 ·simp
 ·intro i h1 h2
  simp[List.getD,h2]
theorem jQ {α:Type}{l:List α}{d:α}{p:Array Nat} (h:Rg l.length p):(p.toList.map fun i=>l.getD i d).Perm l:=by
 have:=List.Perm.map (fun i=>l.getD i d) h
 rw[vP] at this
 exact this
theorem jR {α β:Type}{F:α→β→Prop}:∀ {l₁:List α}{l₂:List β},l₁.length=l₂.length→(∀ (i:Nat) a b,l₁[i]?=some a→l₂[i]?=some b→F a b)→Paired F l₁ l₂
 | [],[],_,_=>.nil
 | a::l,b::m,h,f=>.cons (f 0 a b rfl rfl) (jR (by simpa using h) fun i x y h1 h2=>f (i+1) x y (by simpa using h1) (by simpa using h2))
 | [],_::_,h,_=>by simp at h
 | _::_,[],h,_=>by simp at h
section
variable {prog:Program}{w:World}{A:Around}{E:Value→Shared→Prop}{s:Shared}{vs:List Value}
theorem m7 {B:Addr}{n0:Nat}{P:PySem.Fin→Shared→Prop} (key:Nat→Int) (κ:SortKind) (ho:s.heap.get? B=some (seqObj "list" vs.toArray n0))
  (hkind:2≤vs.length→∀ h6:Heap,(∀ b o,b≠B→s.heap.get? b=some o→h6.get? b=some o)→∀ Q:SortKind→Shared→Prop,Q κ { s with heap:=h6 }→wpAny (model prog w) A (keyKind' vs.toArray) Q E { s with heap:=h6 })
  (hcmp:∀ h6:Heap,(∀ b o,b≠B→s.heap.get? b=some o→h6.get? b=some o)→bj vs.length key (kas_cmp prog w A κ (vs.toArray.zip vs.toArray)) { s with heap:=h6 })
  (inj:∀ i j,i<vs.length→j<vs.length→key i=key j→i=j) (up:vs.length<1001∨∀ j,1≤j→j<vs.length→key (j - 1)≤key j) (hz:vs.length≤1000)
  (h:∀ (p:Array Nat) (h':Heap),Rg vs.length p→Up key p vs.length→(∀ b o,b≠B→s.heap.get? b=some o→h'.get? b=some o)→(∃ e,h'.get? B=some (seqObj "list" (p.toList.map fun i=>vs.getD i Value.none).toArray e))→
   P (.done (.ret .none)) { s with heap:=h' }):wpAny (model prog w) A (Builtin.«list.sort» ⟨[.ref B],[]⟩) P E s:=by
 have hzl:vs.length≤sizeLine:=Nat.le_trans hz (by decide)
 rw[list_sort_plain]
 have hB:B<s.heap.objs.size:=Heap.lt_size ho
 refine wpAny_bind (listItems_at ho rfl (wpAny_bind (listUpdate_at ho rfl ?_ (hsz:=by rw[List.size_toArray];exact hzl) (hsz2:=by show 0≤_;exact Nat.zero_le _))))
 have ho1:=get?_update_seq ho (fun _=>#[])
 generalize he1:(if (#[]:Array Value).size == vs.toArray.size then n0 else n0+1)=e1 at ho1
 refine wpAny_bind (seqEpoch_at ho1 rfl (wpAny_bind (wpAny_newTuple (wpAny_bind (wpAny_newList (wpAny_holding ?_))) (by simpa using hzl))))
 have k6:∀ b o,b≠B→s.heap.get? b=some o→(((s.heap.update B (Obj.mapSeq fun _=>#[])).push (seqObj "tuple" vs.toArray.toList.toArray 0)).push (seqObj "list" ([]:List Value).toArray 0)).get? b=some o:=fun b o hb e=>
  Heap.get?_push_of_some _ (Heap.get?_push_of_some _ ((Heap.get?_update_other _ _ (Ne.symm hb)).trans e))
 have o6:(((s.heap.update B (Obj.mapSeq fun _=>#[])).push (seqObj "tuple" vs.toArray.toList.toArray 0)).push (seqObj "list" ([]:List Value).toArray 0)).get? B=some (seqObj "list" #[] e1):=
  Heap.get?_push_of_some _ (Heap.get?_push_of_some _ ho1)
 show wpAny (model prog w) A _ P E { s with heap:=((s.heap.update B (Obj.mapSeq fun _=>#[])).push (seqObj "tuple" vs.toArray.toList.toArray 0)).push (seqObj "list" ([]:List Value).toArray 0) }
 generalize ((s.heap.update B (Obj.mapSeq fun _=>#[])).push (seqObj "tuple" vs.toArray.toList.toArray 0)).push (seqObj "list" ([]:List Value).toArray 0)=h6 at k6 o6 ⊢
 -- the end,whatever the order found
 have fin:∀ (st:SortSt) (p:Array Nat),Rg vs.length p→Up key p vs.length→arrOf st=p.map (kas_item (vs.toArray.zip vs.toArray))→failedOf st=none→
   wpAny (model prog w) A (do
    let touched:=(← seqEpoch B) != e1
    Builtin.List.listUpdate (.ref B) fun _=>(arrOf st).map (·.2)
    if let some e:=failedOf st then rule "list.sort.comparison-raised";throw e
    if touched then rule "list.sort.modified";raiseError "ValueError" "list modified during sort"
    ret .none) P E { s with heap:=h6 }:=fun st p r1 r2 r3 r4=>by
  have out:=kat_snds (ks:=vs) (vs:=vs) rfl r3
  rw[out,r4]
  refine wpAny_bind (seqEpoch_at (s:={ s with heap:=h6 }) o6 rfl (wpAny_bind (listUpdate_at (s:={ s with heap:=h6 }) o6 rfl ?_ (hsz:=Nat.zero_le _) (hsz2:=by
   show (List.toArray (p.toList.map fun i=>vs.getD i Value.none)).size≤_
   rw[List.size_toArray,List.length_map,Array.length_toList,r1.size]
   lia))))
  simp only[bne_self_eq_false,Bool.false_eq_true,if_false]
  refine wpAny_pure (h p _ r1 r2 (fun b o hb e=>(Heap.get?_update_other _ _ (Ne.symm hb)).trans (k6 b o hb e)) ⟨_,get?_update_seq o6 fun _=>_⟩)
 dsimp only
 by_cases h2:vs.toArray.size<2
 ·rw[if_pos h2,if_pos h2]
  refine wpAny_bind (wpAny_pure ?_)
  rw[StateT.run_pure]
  apply wpAny_bind
  apply wpAny_pure
  have h2':vs.length<2:=by simpa using h2
  refine fin (SortSt.mk' general' (vs.toArray.zip vs.toArray) #[] 7 none) (List.range vs.length).toArray (List.Perm.refl _) (fun i j hij hj=>?_) ?_ rfl
  ·have:i=j:=by lia
   subst this
   exact Int.le_refl _
  ·have:=kas_range (vs.toArray.zip vs.toArray)
   rw[show (vs.toArray.zip vs.toArray).size=vs.length by simp] at this
   exact this.symm
 ·rw[if_neg h2,if_neg h2]
  have h2':2≤vs.length:=by simpa using h2
  refine wpAny_bind (hkind h2' h6 k6 _ ?_)
  ·have cm:=hcmp h6 k6
   have kr:=kas_range (vs.toArray.zip vs.toArray)
   rw[show (vs.toArray.zip vs.toArray).size=vs.length by simp] at kr
   have run:=vO (E:=E) (Q:=fun _ st s'=>s'={ s with heap:=h6 }∧∃ p,Rg vs.length p∧Up key p vs.length∧arrOf st=p.map (kas_item (vs.toArray.zip vs.toArray))∧failedOf st=none) cm
    inj h2' up fun p' st' a b c d=>⟨rfl,p',a,b,c,d⟩
   unfold kas_st at run
   rw[kr] at run
   refine wpAny_bind (wpAny_mono run (fun r s' hr=>?_) fun _ _ e=>e)
   obtain⟨u,st⟩:=r
   obtain⟨rfl,p,r1,r2,r3,r4⟩:=hr
   exact fin st p r1 r2 r3 r4
end
section
variable {X:Cx}{pins:List (Addr×Obj)}{σ:L2.St}{H:Hp}{s:Shared}
theorem m8 (hc:X.calm=true) {a:Addr}{ys:List V}{its:List Value}{n:Nat}{T:String}{o:Obj}{Q:VK} (key:Nat→Int) (κ:SortKind) (I:Inv X pins σ H s) (rv:ao ys its) (hT:T = "list" ∨ T = "tuple") (e:s.heap.get? a=some o) (eC:o.cls=.type T) (eD:o.data=.seq its.toArray n) (hz:ys.length≤1000)
  (hkind:2≤its.length→∀ (h6:Heap) (tk:Nat),(∀ b o,s.heap.get? b=some o→h6.get? b=some o)→∀ (A:Around) (E:Value→Shared→Prop) (Q:SortKind→Shared→Prop),Q κ { s with heap:=h6,toks:=tk }→wpAny (model X.prog X.w) A (keyKind' its.toArray) Q E { s with heap:=h6,toks:=tk })
  (hcmp:∀ (h6:Heap) (tk:Nat),(∀ b o,s.heap.get? b=some o→h6.get? b=some o)→bj its.length key (kas_cmp X.prog X.w X.A.in1.in1 κ (its.toArray.zip its.toArray)) { s with heap:=h6,toks:=tk })
  (inj:∀ i j,i<its.length→j<its.length→key i=key j→i=j) (up:its.length<1001∨∀ j,1≤j→j<its.length→key (j - 1)≤key j)
  (q:∀ (p:Array Nat) l,Rg its.length p→Up key p its.length→H l=none→Q (.ref l) (upd H l (.lst (p.toList.map fun i=>ys.getD i .non)))):
  wpAny (model X.prog X.w) X.A (call (.builtin "sorted") [.ref a]) (EP X pins σ Q) X.xe s:=by
 have hl:ys.length=its.length:=rv.length
 have hsl:its.length≤sizeLine:=Nat.le_trans (by lia) (show 1000≤sizeLine by decide)
 refine Calls.call_function_entry kind_sorted plain_sorted entry_sorted (args_sorted1 _) ?z
 case z=>
  unfold Builtin.«sorted»
  refine wpAny_bind (m:=checkCount "sorted" 1 1 _) (wpAny_pure (wpAny_bind (wpAny_collect_seq a hT e eC eD (fun h' hkp=>?_) (by rw[List.size_toArray];exact hsl))))
  show wpAny _ _ (newList its >>= _) _ _ _
  refine wpAny_bind (wpAny_newList ?_ hsl)
  have oB:(h'.push (seqObj "list" its.toArray 0)).get? h'.objs.size=some (seqObj "list" its.toArray 0):=Heap.get?_push_size _ rfl
  have kB:∀ b o,s.heap.get? b=some o→(h'.push (seqObj "list" its.toArray 0)).get? b=some o:=fun b o e=>Heap.get?_push_of_some _ (hkp b o e)
  have I1:Inv X pins σ H { s with heap:=h' }:=I.kept (t':=s.toks) hkp
  have nB:∀ b o,s.heap.get? b=some o→b≠h'.objs.size:=fun b o e=>Nat.ne_of_lt (Heap.lt_size (hkp b o e))
  refine wpAny_bind (wpAny_holding (wpAny_call_entry slot_list_sort ⟨_,oB,rfl⟩ entry_list_sort ?y (args_list_sort _)))
  case y=>
   refine m7 (s:={ s with heap:=h'.push (seqObj "list" its.toArray 0) }) key κ oB (fun h2 h6 k6 Q hq=>hkind h2 h6 s.toks (fun b o eb=>k6 b o (nB b o eb) (kB b o eb)) _ _ Q hq) (fun h6 k6=>hcmp h6 s.toks fun b o eb=>k6 b o (nB b o eb) (kB b o eb)) inj up (by lia) fun p h2 r1 r2 k2 ⟨e9,oB2⟩=>⟨_,rfl,wpAny_pure ⟨_,rfl,?_⟩⟩
   have fB:H h'.objs.size=none:=I1.hok.fresh (Nat.le_refl _)
   have neB:∀ b o,h'.get? b=some o→b≠h'.objs.size:=fun b o e=>Nat.ne_of_lt (Heap.lt_size e)
   refine⟨.ref h'.objs.size,upd H h'.objs.size (.lst (p.toList.map fun i=>ys.getD i .non)),?_,rfl,q p _ r1 r2 fB⟩
   refine I1.laid (t':=s.toks) (fun b u e=>k2 b u (neB b u e) (Heap.get?_push_of_some _ e)) (Nat.le_refl _) ⟨?_,_,e9,?_,oB2⟩
   ·rw[List.length_map,Array.length_toList,r1.size]
    lia
   ·refine jR (by simp) fun i v u h1 h2=>?_
    rw[List.getElem?_map] at h1 h2
    cases hpi:p.toList[i]? with
    | none=>rw[hpi] at h1;cases h1
    | some k=>
     rw[hpi] at h1 h2
     cases h1
     cases h2
     have hk:k<its.length:=List.mem_range.mp (r1.mem_iff.mp (List.mem_of_getElem? hpi))
     obtain⟨u,h3,h4⟩:=rv.get (i:=k) (x:=ys[k]'(by lia)) (by simp[show k<ys.length by lia])
     rw[List.getElem?_eq_getElem hk] at h3
     have h3:=Option.some.inj h3
     simp only[List.getD,List.getElem?_eq_getElem hk,List.getElem?_eq_getElem (show k<ys.length by lia),Option.getD_some]
     rw[h3]
     exact h4
end
noncomputable def fZ (ns:List Int) (i:Nat):Int:=ns.getD i 0
theorem m9 {ns:List Int} (nd:ns.Nodup):∀ i j,i<ns.length→j<ns.length→fZ ns i=fZ ns j→i=j:=fun i j hi hj e=>by
 unfold fZ at e
 rw[List.getD_eq_getElem?_getD,List.getD_eq_getElem?_getD,List.getElem?_eq_getElem hi,List.getElem?_eq_getElem hj] at e
 have e':ns[i]=ns[j]:=e
 rcases Nat.lt_trichotomy i j with h | h | h
 ·exact absurd e' ((List.pairwise_iff_getElem.mp nd) i j hi hj h)
 ·exact h
 ·exact absurd e'.symm ((List.pairwise_iff_getElem.mp nd) j i hj hi h)
theorem upZ {ns:List Int}{p:Array Nat} (hp:Rg ns.length p) (up:Up (fZ ns) p ns.length) (nd:ns.Nodup):(p.toList.map fun i=>ns.getD i 0).Pairwise (· < ·):=by
 rw[List.pairwise_iff_getElem]
 intro i j hi hj hij
 have hs:=hp.size
 have hi':i<ns.length:=by simpa [hs] using hi
 have hj':j<ns.length:=by simpa [hs] using hj
 have ne:=hp.ne (m9 nd) hij hj'
 have le:=up i j (by lia) hj'
 have g:∀ k (hk:k<(p.toList.map fun i=>ns.getD i 0).length),(p.toList.map fun i=>ns.getD i 0)[k]=kyA (fZ ns) p k:=fun k hk=>by
  have hk':k<p.size:=by simpa using hk
  rw[List.getElem_map,Array.getElem_toList]
  show _=ns.getD (p.getD k 0) 0
  simp[Array.getD,hk']
 rw[g i hi,g j hj]
 lia
section
variable {X:Cx}
theorem iL {H:Hp}:∀ {ns:List Int}{its:List Value},ao (ns.map V.int) its→∀ (i:Nat),i<ns.length→∃ t,its[i]?=some (.int (ns.getD i 0) t)
 | n::r,_,.cons a b,0,h=>by obtain⟨t,rfl⟩:=a;exact⟨t,rfl⟩
 | n::r,_,.cons a b,i+1,h=>by
  obtain⟨t,e⟩:=iL (H:=H) b i (by simpa using h)
  exact⟨t,by simpa using e⟩
theorem vQ (hc:X.calm=true):bg X (.builtin "sorted") (fun xs H Q=>∃ (a:Addr) (ns:List Int),xs=[.ref a]∧H a=some (.lst (ns.map V.int))∧ns.Nodup∧ns.length≤1000∧
  ∀ l (ns':List Int),H l=none→ns'.Perm ns→ns'.Pairwise (· < ·)→Q (.ref l) (upd H l (.lst (ns'.map V.int)))):=by
 intro pins s σ H xs us Q I r h
 obtain⟨a,ns,rfl,ha,nd,hz,q⟩:=h
 obtain⟨u,rfl,ru⟩:=cP r
 cases ru
 obtain⟨z,its,n,rv,e⟩:=I.hok a _ ha
 have li:its.length=ns.length:=by rw[← rv.length,List.length_map]
 refine m8 hc (fZ ns) oneType' I rv (.inl rfl) e rfl rfl (by rw[List.length_map];exact hz) (fun h2 h6 tk k A E Q hq=>?_) (fun h6 tk k=>?_) (by rw[li];exact m9 nd) (.inl (by lia)) fun p l r1 r2 fl=>?_
 ·refine kas_kind (T:=Value.type "int") h2 (fun v hv=>?_) (by decide) (by decide) hq
  obtain⟨i,hi⟩:=List.getElem?_of_mem hv
  obtain⟨t,ht⟩:=iL (H:=H) rv i (by rw[← li];exact (List.getElem?_eq_some_iff.mp hi).1)
  rw[hi] at ht
  cases ht
  exact Looks.of_pure rfl
 ·intro i j C hi hj q
  obtain⟨t,h1⟩:=iL (H:=H) rv i (by lia)
  obtain⟨u,h2⟩:=iL (H:=H) rv j (by lia)
  unfold kas_cmp
  rw[kat_item rfl,kat_item rfl,List.getD_eq_getElem?_getD,List.getD_eq_getElem?_getD,h1,h2]
  show wpAny _ _ (keyLt' oneType' (.int _ t) (.int _ u)) _ _ _
  rw[keyLt'_oneType]
  exact oneLt_int q
 ·rw[li] at r1 r2
  have e2:(p.toList.map fun i=>(ns.map V.int).getD i .non)=(p.toList.map fun i=>ns.getD i 0).map V.int:=by
   rw[List.map_map]
   refine List.map_congr_left fun k hk=>?_
   have hk':k<ns.length:=List.mem_range.mp (r1.mem_iff.mp hk)
   show (ns.map V.int).getD k .non=V.int (ns.getD k 0)
   simp[List.getD,hk']
  rw[e2]
  exact q l _ fl (jQ r1) (upZ r1 r2 nd)
end
end L2
namespace L2
open PySem PySem.Spec PyProof.Rows
section
variable {prog:Program}{w:World}{A:Around}{E:Value→Shared→Prop}{s:Shared}
end
section
variable {X:Cx}
end
section
variable {X:Cx}
end
section
variable {X:Cx}
theorem vR:OpR X (binaryOp .Mult) (rI IntMulOk fun i j=>.int (i * j)):=opI fun _ _ _ _ _ _ _ hc q=>mul_int q hc
end
inductive Vl where
 | im (d:Im)
 | jk
 | fz (ds:List Im)
 | lst (ds:List Im)
 | dK (kvs:List (Key×Im))
 | dT (kvs:List (List Im×Im))
 | lstM (xs:List Vl)
 | dTM (ks:List (List Im)) (xs:List Vl)
 | tpl (xs:List Vl)
 | obj (C:Addr) (ns:List Str) (xs:List Vl)
noncomputable abbrev SD:=List (Option Vl)
noncomputable abbrev PKv {κ:Type} (H:Hp):List (κ×Im)→List (κ×V)→Prop:=Paired fun p q=>p.1=q.1∧IsI H p.2 q.2
theorem PKv.mono {κ:Type}{H H':Hp}{l:List (κ×Im)}{m:List (κ×V)} (t:TupS H H') (h:PKv H l m):PKv H' l m:=Paired.mapP h fun _ _ z=>⟨z.1,z.2.mono t⟩
structure StayS (H H':Hp):Prop where
 tup:TupS H H'
 frz:∀ a o u,H a=some (.frz o u)→H' a=some (.frz o u)
mutual
noncomputable def Own (H:Hp):Vl→V→List Addr→Prop
 | .im d,v,F=>IsI H d v∧F=[]
 | .jk,_,F=>F=[]
 | .fz ds,v,F=>∃ a xs o,v=.ref a∧H a=some (.frz o (.lst xs))∧ak H ds xs∧F=[]
 | .lst ds,v,F=>∃ a xs,v=.ref a∧H a=some (.lst xs)∧ak H ds xs∧F=[a]
 | .dK kvs,v,F=>∃ a kws,v=.ref a∧H a=some (.dK kws)∧PKv H kvs kws∧F=[a]
 | .dT kvs,v,F=>∃ a kws,v=.ref a∧H a=some (.dT kws)∧PKv H kvs kws∧F=[a]
 | .lstM ds,v,F=>∃ a xs G,v=.ref a∧H a=some (.lst xs)∧aJ H ds xs G∧F=a::G
 | .dTM ks ds,v,F=>∃ a kws G,v=.ref a∧H a=some (.dT kws)∧kws.map (·.1)=ks∧aJ H ds (kws.map (·.2)) G∧F=a::G
 | .tpl ds,v,F=>∃ a xs,v=.ref a∧H a=some (.tup xs)∧aJ H ds xs F
 | .obj C ns ds,v,F=>∃ a dx fs G,v=.ref a∧H a=some (.ins C dx fs)∧fs.map (·.1)=ns∧aJ H ds (fs.map (·.2)) G∧F=a::G
noncomputable def aJ (H:Hp):List Vl→List V→List Addr→Prop
 | [],vs,F=>vs=[]∧F=[]
 | d::ds,vs,F=>∃ v r F1 F2,vs=v::r∧Own H d v F1∧aJ H ds r F2∧F=F1++F2
end
mutual
theorem Own.mono {H H':Hp} (t:StayS H H'):∀ {d:Vl}{v:V}{F:List Addr},Own H d v F→(∀ a∈F,∀ o,H a=some o→H' a=some o)→Own H' d v F
 | .im d,v,F,h,_=>⟨h.1.mono t.tup,h.2⟩
 | .jk,v,F,h,_=>h
 | .fz ds,v,F,h,_=>by
  obtain⟨a,xs,o,rfl,h1,h2,rfl⟩:=h
  exact⟨a,xs,o,rfl,t.frz _ _ _ h1,h2.mono t.tup,rfl⟩
 | .lst ds,v,F,h,k=>by
  obtain⟨a,xs,rfl,h1,h2,rfl⟩:=h
  exact⟨a,xs,rfl,k a (.head _) _ h1,h2.mono t.tup,rfl⟩
 | .dK kvs,v,F,h,k=>by
  obtain⟨a,xs,rfl,h1,h2,rfl⟩:=h
  exact⟨a,xs,rfl,k a (.head _) _ h1,h2.mono t.tup,rfl⟩
 | .dT kvs,v,F,h,k=>by
  obtain⟨a,xs,rfl,h1,h2,rfl⟩:=h
  exact⟨a,xs,rfl,k a (.head _) _ h1,h2.mono t.tup,rfl⟩
 | .lstM ds,v,F,h,k=>by
  obtain⟨a,xs,G,rfl,h1,h2,rfl⟩:=h
  exact⟨a,xs,G,rfl,k a (.head _) _ h1,aJ.mono t h2 fun b hb=>k b (.tail _ hb),rfl⟩
 | .dTM ks ds,v,F,h,k=>by
  obtain⟨a,xs,G,rfl,h1,hk,h2,rfl⟩:=h
  exact⟨a,xs,G,rfl,k a (.head _) _ h1,hk,aJ.mono t h2 fun b hb=>k b (.tail _ hb),rfl⟩
 | .tpl ds,v,F,h,k=>by
  obtain⟨a,xs,rfl,h1,h2⟩:=h
  exact⟨a,xs,rfl,t.tup a xs h1,aJ.mono t h2 k⟩
 | .obj C ns ds,v,F,h,k=>by
  obtain⟨a,dx,fs,G,rfl,h1,hk,h2,rfl⟩:=h
  exact⟨a,dx,fs,G,rfl,k a (.head _) _ h1,hk,aJ.mono t h2 fun b hb=>k b (.tail _ hb),rfl⟩
theorem aJ.mono {H H':Hp} (t:StayS H H'):∀ {ds:List Vl}{vs:List V}{F:List Addr},aJ H ds vs F→(∀ a∈F,∀ o,H a=some o→H' a=some o)→aJ H' ds vs F
 | [],vs,F,h,_=>h
 | d::ds,vs,F,h,k=>by
  obtain⟨v,r,F1,F2,rfl,h1,h2,rfl⟩:=h
  exact⟨v,r,F1,F2,rfl,Own.mono t h1 fun a ha=>k a (List.mem_append_left _ ha),aJ.mono t h2 fun a ha=>k a (List.mem_append_right _ ha),rfl⟩
end
noncomputable def Chg (H:Hp) (a:Addr):Prop:=∃ o,H a=some o∧(∀ xs,o≠.tup xs)∧∀ p u,o≠.frz p u
mutual
theorem Own.chg {H:Hp}:∀ {d:Vl}{v:V}{F:List Addr},Own H d v F→∀ a∈F,Chg H a
 | .im d,v,F,h,a,ha=>by rw[h.2] at ha;cases ha
 | .jk,v,F,h,a,ha=>by rw[show F=[] from h] at ha;cases ha
 | .fz ds,v,F,h,b,hb=>by
  obtain⟨a,xs,o,rfl,h1,h2,rfl⟩:=h
  cases hb
 | .lst ds,v,F,h,b,hb=>by
  obtain⟨a,xs,rfl,h1,h2,rfl⟩:=h
  rw[List.mem_singleton.mp hb]
  exact⟨_,h1,(fun _ e=>by cases e),(fun _ _ e=>by cases e)⟩
 | .dK kvs,v,F,h,b,hb=>by
  obtain⟨a,xs,rfl,h1,h2,rfl⟩:=h
  rw[List.mem_singleton.mp hb]
  exact⟨_,h1,(fun _ e=>by cases e),(fun _ _ e=>by cases e)⟩
 | .dT kvs,v,F,h,b,hb=>by
  obtain⟨a,xs,rfl,h1,h2,rfl⟩:=h
  rw[List.mem_singleton.mp hb]
  exact⟨_,h1,(fun _ e=>by cases e),(fun _ _ e=>by cases e)⟩
 | .lstM ds,v,F,h,b,hb=>by
  obtain⟨a,xs,G,rfl,h1,h2,rfl⟩:=h
  rcases List.mem_cons.mp hb with rfl | hb
  ·exact⟨_,h1,(fun _ e=>by cases e),(fun _ _ e=>by cases e)⟩
  ·exact aJ.chg h2 b hb
 | .dTM ks ds,v,F,h,b,hb=>by
  obtain⟨a,xs,G,rfl,h1,hk,h2,rfl⟩:=h
  rcases List.mem_cons.mp hb with rfl | hb
  ·exact⟨_,h1,(fun _ e=>by cases e),(fun _ _ e=>by cases e)⟩
  ·exact aJ.chg h2 b hb
 | .tpl ds,v,F,h,b,hb=>by
  obtain⟨a,xs,rfl,h1,h2⟩:=h
  exact aJ.chg h2 b hb
 | .obj C ns ds,v,F,h,b,hb=>by
  obtain⟨a,dx,fs,G,rfl,h1,hk,h2,rfl⟩:=h
  rcases List.mem_cons.mp hb with rfl | hb
  ·exact⟨_,h1,(fun _ e=>by cases e),(fun _ _ e=>by cases e)⟩
  ·exact aJ.chg h2 b hb
theorem aJ.chg {H:Hp}:∀ {ds:List Vl}{vs:List V}{F:List Addr},aJ H ds vs F→∀ a∈F,Chg H a
 | [],vs,F,h,a,ha=>by rw[h.2] at ha;cases ha
 | d::ds,vs,F,h,a,ha=>by
  obtain⟨v,r,F1,F2,rfl,h1,h2,rfl⟩:=h
  rcases List.mem_append.mp ha with ha | ha
  ·exact Own.chg h1 a ha
  ·exact aJ.chg h2 a ha
end
theorem aJ.length {H:Hp}:∀ {ds:List Vl}{vs:List V}{F:List Addr},aJ H ds vs F→ds.length=vs.length
 | [],vs,F,h=>by rw[h.1];rfl
 | d::ds,vs,F,h=>by
  obtain⟨v,r,F1,F2,rfl,h1,h2,rfl⟩:=h
  rw[List.length_cons,List.length_cons,h2.length]
theorem ak.length {H:Hp}:∀ {ds:List Im}{vs:List V},ak H ds vs→ds.length=vs.length
 | [],vs,h=>by rw[show vs=[] from h];rfl
 | d::ds,vs,h=>by
  obtain⟨v,r,rfl,h1,h2⟩:=h
  rw[List.length_cons,List.length_cons,h2.length]
noncomputable def d7 (H:Hp):Option Vl→Option V→List Addr→Prop
 | none,_,F=>F=[]
 | some d,x,F=>∃ v,x=some v∧Own H d v F
noncomputable def aj (H:Hp):SD→St→List Addr→Prop
 | [],σ,F=>σ=[]∧F=[]
 | o::D,σ,F=>∃ x r F1 F2,σ=x::r∧d7 H o x F1∧aj H D r F2∧F=F1++F2
structure Stp (H:Hp) (F:List Addr) (H':Hp) (F':List Addr):Prop where
 keep:∀ a o,H a=some o→a∉F→H' a=some o
 sub:∀ a∈F',a∈F∨H a=none
 nd:F'.Nodup
 tup:StayS H H'
 grow:∀ a o,H a=some o→∃ o',H' a=some o'
theorem d7.mono {H H':Hp} (t:StayS H H'):∀ {o:Option Vl}{x:Option V}{F:List Addr},d7 H o x F→(∀ a∈F,∀ o,H a=some o→H' a=some o)→d7 H' o x F
 | none,_,_,h,_=>h
 | some d,x,F,h,k=>by
  obtain⟨v,rfl,h⟩:=h
  exact⟨v,rfl,h.mono t k⟩
theorem aj.mono {H H':Hp} (t:StayS H H'):∀ {D:SD}{σ:St}{F:List Addr},aj H D σ F→(∀ a∈F,∀ o,H a=some o→H' a=some o)→aj H' D σ F
 | [],σ,F,h,_=>h
 | o::D,σ,F,h,k=>by
  obtain⟨x,r,F1,F2,rfl,h1,h2,rfl⟩:=h
  exact⟨x,r,F1,F2,rfl,h1.mono t fun a ha=>k a (List.mem_append_left _ ha),aj.mono t h2 fun a ha=>k a (List.mem_append_right _ ha),rfl⟩
theorem d7.chg {H:Hp}:∀ {o:Option Vl}{x:Option V}{F:List Addr},d7 H o x F→∀ a∈F,Chg H a
 | none,_,F,h,a,ha=>by rw[show F=[] from h] at ha;cases ha
 | some d,x,F,h,a,ha=>by
  obtain⟨v,rfl,h⟩:=h
  exact h.chg a ha
theorem aj.chg {H:Hp}:∀ {D:SD}{σ:St}{F:List Addr},aj H D σ F→∀ a∈F,Chg H a
 | [],σ,F,h,a,ha=>by rw[h.2] at ha;cases ha
 | o::D,σ,F,h,a,ha=>by
  obtain⟨x,r,F1,F2,rfl,h1,h2,rfl⟩:=h
  rcases List.mem_append.mp ha with ha | ha
  ·exact h1.chg a ha
  ·exact aj.chg h2 a ha
theorem aj.len {H:Hp}:∀ {D:SD}{σ:St}{F:List Addr},aj H D σ F→D.length=σ.length
 | [],σ,F,h=>by rw[h.1];rfl
 | o::D,σ,F,h=>by
  obtain⟨x,r,F1,F2,rfl,h1,h2,rfl⟩:=h
  rw[List.length_cons,List.length_cons,aj.len h2]
noncomputable def Vl.cp:Vl→Bool
 | .im _=>true
 | .fz _=>true
 | _=>false
theorem Own.cp {H:Hp}{d:Vl}{v:V}{F:List Addr} (h:Own H d v F) (c:d.cp=true):F=[]:=by
 cases d with
 | im d=>exact h.2
 | fz ds=>obtain⟨a,xs,o,rfl,h1,h2,rfl⟩:=h;rfl
 | _=>cases c
theorem aj.out {H:Hp}:∀ {D:SD}{σ:St}{F:List Addr}{i:Nat}{d:Vl},aj H D σ F→D[i]?=some (some d)→∃ v F1 F2,σ[i]?=some (some v)∧Own H d v F1∧aj H (D.set i (some .jk)) σ F2∧(F2++F1).Perm F
 | [],σ,F,i,d,h,e=>by simp at e
 | o::D,σ,F,0,d,h,e=>by
  obtain⟨x,r,F1,F2,rfl,h1,h2,rfl⟩:=h
  simp at e
  subst e
  obtain⟨v,rfl,h1⟩:=h1
  exact⟨v,F1,F2,rfl,h1,⟨some v,r,[],F2,rfl,⟨v,rfl,rfl⟩,h2,rfl⟩,List.perm_append_comm⟩
 | o::D,σ,F,i+1,d,h,e=>by
  obtain⟨x,r,F1,F2,rfl,h1,h2,rfl⟩:=h
  obtain⟨v,G1,G2,g1,g2,g3,g4⟩:=aj.out (i:=i) h2 (by simpa using e)
  refine⟨v,G1,F1++G2,by simpa using g1,g2,⟨x,r,F1,G2,rfl,h1,g3,rfl⟩,?_⟩
  rw[List.append_assoc]
  exact List.Perm.append_left _ g4
theorem aj.put {H:Hp}:∀ {D:SD}{σ:St}{F:List Addr}{i:Nat}{d:Vl}{v:V}{G:List Addr},aj H D σ F→Own H d v G→i<D.length→∃ F1 F2,aj H (D.set i (some d)) (σ.set i (some v)) F1∧(F1++F2).Perm (F++G)
 | [],σ,F,i,d,v,G,h,w,l=>by simp at l
 | o::D,σ,F,0,d,v,G,h,w,l=>by
  obtain⟨x,r,F1,F2,rfl,h1,h2,rfl⟩:=h
  refine⟨G++F2,F1,⟨some v,r,G,F2,rfl,⟨v,rfl,w⟩,h2,rfl⟩,?_⟩
  refine List.perm_append_comm.trans ?_
  rw[List.append_assoc]
  exact List.Perm.append_left _ List.perm_append_comm
 | o::D,σ,F,i+1,d,v,G,h,w,l=>by
  obtain⟨x,r,F1,F2,rfl,h1,h2,rfl⟩:=h
  obtain⟨G1,G2,g1,g2⟩:=aj.put (i:=i) h2 w (by simpa using l)
  refine⟨F1++G1,G2,⟨x,_,F1,G1,rfl,h1,g1,rfl⟩,?_⟩
  rw[List.append_assoc,List.append_assoc]
  exact List.Perm.append_left _ g2
theorem aj.cp {H:Hp}{D:SD}{σ:St}{F:List Addr}{i:Nat}{d:Vl} (h:aj H D σ F) (e:D[i]?=some (some d)) (c:d.cp=true):∃ v,σ[i]?=some (some v)∧Own H d v []:=by
 obtain⟨v,F1,F2,g1,g2,_⟩:=h.out e
 obtain rfl:=g2.cp c
 exact⟨v,g1,g2⟩
theorem vS {σ:St}{i:Nat}{v:V} (h:σ[i]?=some (some v)):σ.set i (some v)=σ:=by
 refine List.ext_getElem? fun j=>?_
 by_cases e:i=j
 ·subst e
  rw[h,List.getElem?_set_self (List.getElem?_eq_some_iff.mp h).1]
 ·rw[List.getElem?_set_ne e]
theorem aj.back {H:Hp}{D:SD}{σ:St}{F:List Addr}{i:Nat}{d:Vl}{v:V}{G:List Addr} (h:aj H D σ F) (w:Own H d v G) (hv:σ[i]?=some (some v)):∃ F1 F2,aj H (D.set i (some d)) σ F1∧(F1++F2).Perm (F++G):=by
 have l:i<D.length:=by rw[h.len];exact (List.getElem?_eq_some_iff.mp hv).1
 obtain⟨F1,F2,h1,h2⟩:=h.put (i:=i) w l
 rw[vS hv] at h1
 exact⟨F1,F2,h1,h2⟩
theorem StayS.of {H H':Hp} (f:gJ H H') (g:∀ a o u,H a=some (.frz o u)→H' a=some (.frz o u)):StayS H H':=⟨⟨f,g⟩,g⟩
theorem vT (H:Hp):StayS H H:=⟨⟨fun _ _ e=>e,fun _ _ _ e=>e⟩,fun _ _ _ e=>e⟩
theorem StayS.trans {H H1 H2:Hp} (a:StayS H H1) (b:StayS H1 H2):StayS H H2:=⟨⟨fun x xs e=>b.tup.t x xs (a.tup.t x xs e),fun x o u e=>b.frz x o u (a.frz x o u e)⟩,fun x o u e=>b.frz x o u (a.frz x o u e)⟩
theorem Stp.refl {H:Hp}{F F':List Addr} (h:F'.Nodup) (s:∀ a∈F',a∈F):Stp H F H F':=⟨fun _ _ e _=>e,fun a ha=>.inl (s a ha),h,vT H,fun _ o e=>⟨o,e⟩⟩
theorem Stp.perm {H:Hp}{F F':List Addr} (h:F.Nodup) (p:F'.Perm F):Stp H F H F':=Stp.refl ((p.nodup_iff).mpr h) fun a ha=>p.mem_iff.mp ha
theorem Stp.trans {H H1 H2:Hp}{F F1 F2 R:List Addr} (a:Stp H F H1 (F1++R)) (b:Stp H1 F1 H2 F2) (cr:∀ x∈R,Chg H1 x):Stp H F H2 (F2++R):=by
 have nd:=List.nodup_append.mp a.nd
 have al:∀ x∈F2,x∉R:=fun x hx hr=>by
  rcases b.sub x hx with h | h
  ·exact nd.2.2 x h x hr rfl
  ·obtain⟨o,e,_⟩:=cr x hr
   rw[e] at h
   cases h
 refine⟨fun x o e hx=>?_,fun x hx=>?_,List.nodup_append.mpr ⟨b.nd,nd.2.1,fun x hx y hy e=>al x hx (e ▸ hy)⟩,a.tup.trans b.tup,fun x o e=>let ⟨o',e'⟩:=a.grow x o e;b.grow x o' e'⟩
 ·refine b.keep x o (a.keep x o e hx) fun h1=>?_
  rcases a.sub x (List.mem_append_left _ h1) with h | h
  ·exact hx h
  ·rw[e] at h;cases h
 ·rcases List.mem_append.mp hx with hx | hx
  ·rcases b.sub x hx with h | h
   ·exact a.sub x (List.mem_append_left _ h)
   ·refine .inr ?_
    cases e:H x with
    | none=>rfl
    | some o=>
     obtain⟨o',e'⟩:=a.grow x o e
     rw[e'] at h
     cases h
  ·exact a.sub x (List.mem_append_right _ hx)
theorem aH.tupS {H H':Hp} (s:aH H H'):StayS H H':=⟨⟨fun a xs e=>s a _ e,fun a o u e=>s a _ e⟩,fun a o u e=>s a _ e⟩
theorem nc {H:Hp}{a b:Addr}{o u:HO} (e:H b=some o) (h:H a=none):L2.upd H a u b=some o:=by rw[aY (c7 e h)];exact e
theorem aH.upd {H H':Hp} (s:aH H H') {a:Addr}{o:HO} (h:H' a=none):aH H (L2.upd H' a o):=fun b u e=>nc (s b u e) h
noncomputable abbrev M (α:Type):=SD→Option (α×SD)
inductive Opd where
 | sl (i:Nat)
 | vl (d:Vl)
noncomputable def rsl (D:SD):Opd→Option Vl
 | .sl i=>(D[i]?).getD none
 | .vl d=>some d
noncomputable def cy (H:Hp) (σ:St):Opd→V→List Addr→Prop
 | .sl i,v,R=>σ[i]?=some (some v)∧R=[]
 | .vl d,v,R=>Own H d v R
noncomputable def tV (g:M Vl):TE:=fun σ H Q=>∃ D F r D',aj H D σ F∧F.Nodup∧g D=some (r,D')∧∀ v H' F' R,aj H' D' σ F'→Own H' r v R→Stp H F H' (F'++R)→Q v H'
noncomputable def tO (g:M Opd):TE:=fun σ H Q=>∃ D F r D',aj H D σ F∧F.Nodup∧g D=some (r,D')∧∀ v H' F' R,aj H' D' σ F'→cy H' σ r v R→Stp H F H' (F'++R)→Q v H'
noncomputable def tVT (g:M Bool):TT:=fun σ H Q=>∃ D F b D',aj H D σ F∧F.Nodup∧g D=some (b,D')∧∀ H' F',aj H' D' σ F'→Stp H F H' F'→Q b H'
noncomputable def VE (X:Cx) (e:Expr) (g:M Vl):Prop:=PE X e (tV g)
noncomputable def VO (X:Cx) (e:Expr) (g:M Opd):Prop:=PE X e (tO g)
noncomputable def VT (X:Cx) (e:Expr) (g:M Bool):Prop:=PT X e (tVT g)
theorem bK {X:Cx}{e:Expr}{t t':TE} (h:PE X e t) (i:∀ σ H Q,t' σ H Q→t σ H Q):PE X e t':=fun pins s σ H Q I hw=>h pins s σ H Q I (i σ H Q hw)
theorem ng {X:Cx}{e:Expr}{t t':TT} (h:PT X e t) (i:∀ σ H Q,t' σ H Q→t σ H Q):PT X e t':=fun pins s σ H Q I hw=>h pins s σ H Q I (i σ H Q hw)
theorem cy.mono {H H':Hp}{σ:St}{r:Opd}{v:V}{R:List Addr} (h:cy H σ r v R) (t:StayS H H') (k:∀ a∈R,∀ o,H a=some o→H' a=some o):cy H' σ r v R:=by
 cases r with
 | sl i=>exact h
 | vl d=>exact Own.mono t h k
theorem cy.chg {H:Hp}{σ:St}{r:Opd}{v:V}{R:List Addr} (h:cy H σ r v R):∀ a∈R,Chg H a:=by
 cases r with
 | sl i=>intro a ha;rw[h.2] at ha;cases ha
 | vl d=>exact Own.chg h
noncomputable def Rdb (H:Hp) (d:Vl) (v:V):Prop:=∃ R,Own H d v R
theorem cy.read {H:Hp}{D:SD}{σ:St}{F:List Addr}{r:Opd}{v:V}{R:List Addr}{d:Vl} (h:cy H σ r v R) (st:aj H D σ F) (e:rsl D r=some d):Rdb H d v:=by
 cases r with
 | vl d'=>cases e;exact⟨R,h⟩
 | sl i=>
  have e':D[i]?=some (some d):=by
   have:(D[i]?).getD none=some d:=e
   cases q:D[i]? with
   | none=>rw[q] at this;cases this
   | some o=>rw[q] at this;rw[show o=some d from this]
  obtain⟨v',F1,F2,g1,g2,_⟩:=st.out e'
  rw[h.1] at g1
  cases g1
  exact⟨F1,g2⟩
@[simp] noncomputable def bL (i:Nat):M Vl:=fun D=>match D[i]? with
 | some (some d)=>if d.cp=true then some (d,D) else some (d,D.set i (some .jk))
 | _=>none
noncomputable def eC (d:Im):M Vl:=fun D=>some (.im d,D)
@[simp] noncomputable def oSl (i:Nat):M Opd:=fun D=>match D[i]? with
 | some (some _)=>some (.sl i,D)
 | _=>none
@[simp] noncomputable def oV (g:M Vl):M Opd:=fun D=>(g D).map fun p=>(.vl p.1,p.2)
section
variable {X:Cx}
theorem dJ {i:Nat}{e:Expr} (h:PE X e (fU i)):VE X e (bL i):=by
 refine bK h fun σ H Q ⟨D,F,r,D',st,nd,hg,q⟩=>?_
 unfold bL at hg
 split at hg
 ·rename_i d hd
  split at hg
  ·rename_i hc
   cases hg
   obtain⟨v,h1,h2⟩:=st.cp hd hc
   exact⟨v,h1,q v H F [] st h2 (by rw[List.append_nil];exact Stp.perm nd (List.Perm.refl _))⟩
  ·cases hg
   obtain⟨v,F1,F2,h1,h2,h3,h4⟩:=st.out hd
   exact⟨v,h1,q v H F2 F1 h3 h2 (Stp.perm nd h4)⟩
 ·cases hg
theorem af {i:Nat}{e:Expr} (h:PE X e (fU i)):VO X e (oSl i):=by
 refine bK h fun σ H Q ⟨D,F,r,D',st,nd,hg,q⟩=>?_
 unfold oSl at hg
 split at hg
 ·rename_i d hd
  cases hg
  obtain⟨v,F1,F2,h1,h2,h3,h4⟩:=st.out hd
  exact⟨v,h1,q v H F [] st ⟨h1,rfl⟩ (by rw[List.append_nil];exact Stp.perm nd (List.Perm.refl _))⟩
 ·cases hg
theorem ab {e:Expr}{g:M Vl} (h:VE X e g):VO X e (oV g):=by
 refine bK h fun σ H Q ⟨D,F,r,D',st,nd,hg,q⟩=>?_
 unfold oV at hg
 obtain⟨⟨r',D1⟩,h1,h2⟩:=Option.map_eq_some_iff.mp hg
 cases h2
 exact⟨D,F,r',_,st,nd,h1,q⟩
theorem iM {e:Expr}{v:V}{d:Im} (h:PE X e (tC v)) (hd:∀ H,IsI H d v):VE X e (eC d):=by
 refine bK h fun σ H Q ⟨D,F,r,D',st,nd,hg,q⟩=>?_
 cases hg
 exact q v H F [] st ⟨hd H,rfl⟩ (by rw[List.append_nil];exact Stp.perm nd (List.Perm.refl _))
theorem ai {i:Int}{j pos}:VE X (.Constant (.int i) j pos) (eC (.int i)):=iM sq fun _=>rfl
theorem jS {b:Bool}{j pos}:VE X (.Constant (.bool b) j pos) (eC (.bl b)):=iM ss fun _=>rfl
theorem two {ga gb:M Opd}{D D1 D2:SD}{x y:Opd}{σ:St}{H:Hp}{F:List Addr}{K:V→V→Hp→Prop} (st:aj H D σ F) (nd:F.Nodup) (ha:ga D=some (x,D1)) (hb:gb D1=some (y,D2))
  (k:∀ v u H' F' R1 R2,aj H' D2 σ F'→cy H' σ x v R1→cy H' σ y u R2→Stp H F H' ((F'++R2)++R1)→K v u H'):tO ga σ H fun v H1=>tO gb σ H1 fun u H2=>K v u H2:=by
 refine⟨D,F,x,D1,st,nd,ha,fun v H1 F1 R1 st1 o1 s1=>⟨D1,F1,y,D2,st1,(List.nodup_append.mp s1.nd).1,hb,fun u H2 F2 R2 st2 o2 s2=>?_⟩⟩
 refine k v u H2 F2 R1 R2 st2 (o1.mono s2.tup fun a ha o e=>s2.keep a o e fun h=>?_) o2 (s1.trans s2 o1.chg)
 exact (List.nodup_append.mp s1.nd).2.2 a h a ha rfl
theorem Stp.new {H H1 H2:Hp}{F F1 R R':List Addr} (a:Stp H F H1 (F1++R)) (s:aH H1 H2) (nd:R'.Nodup) (fr:∀ x∈R',H1 x=none) (c:∀ x∈F1,Chg H1 x):Stp H F H2 (F1++R'):=by
 refine⟨fun x o e hx=>s _ _ (a.keep x o e hx),fun x hx=>?_,List.nodup_append.mpr ⟨(List.nodup_append.mp a.nd).1,nd,fun x hx y hy e=>?_⟩,a.tup.trans s.tupS,fun x o e=>let ⟨o',e'⟩:=a.grow x o e;⟨o',s _ _ e'⟩⟩
 ·rcases List.mem_append.mp hx with hx | hx
  ·exact a.sub x (List.mem_append_left _ hx)
  ·refine .inr ?_
   cases e:H x with
   | none=>rfl
   | some o=>
    obtain⟨o',e'⟩:=a.grow x o e
    rw[fr x hx] at e'
    cases e'
 ·subst e
  obtain⟨o,e,_⟩:=c x hx
  rw[fr x hy] at e
  cases e
noncomputable def OpV (X:Cx) (f:Value→Value→Sem Value) (op:Vl→Vl→Option Vl):Prop:=
 OpR X f fun x y H Q=>∃ d1 d2 d,Rdb H d1 x∧Rdb H d2 y∧op d1 d2=some d∧∀ v H' R,aH H H'→Own H' d v R→R.Nodup→(∀ a∈R,H a=none)→Q v H'
@[simp] noncomputable def ad (op:Vl→Vl→Option Vl) (ga gb:M Opd):M Vl:=fun D=>(ga D).bind fun p=>(gb p.2).bind fun q=>(rsl q.2 p.1).bind fun d1=>(rsl q.2 q.1).bind fun d2=>(op d1 d2).map fun d=>(d,q.2)
theorem iN {op:Vl→Vl→Option Vl}{ga gb:M Opd}{σ:St}{H:Hp}{Q:VK} (h:tV (ad op ga gb) σ H Q):
  tO ga σ H fun x H1=>tO gb σ H1 fun y H2=>∃ d1 d2 d,Rdb H2 d1 x∧Rdb H2 d2 y∧op d1 d2=some d∧∀ v H' R,aH H2 H'→Own H' d v R→R.Nodup→(∀ a∈R,H2 a=none)→Q v H':=by
 obtain⟨D,F,r,D',st,nd,hg,q⟩:=h
 unfold ad at hg
 obtain⟨⟨x,D1⟩,ha,hg⟩:=Option.bind_eq_some_iff.mp hg
 obtain⟨⟨y,D2⟩,hb,hg⟩:=Option.bind_eq_some_iff.mp hg
 obtain⟨d1,h1,hg⟩:=Option.bind_eq_some_iff.mp hg
 obtain⟨d2,h2,hg⟩:=Option.bind_eq_some_iff.mp hg
 obtain⟨d,h3,hg⟩:=Option.map_eq_some_iff.mp hg
 cases hg
 refine two st nd ha hb fun v u H2 F2 R1 R2 st2 o1 o2 s2=>⟨d1,d2,_,o1.read st2 h1,o2.read st2 h2,h3,fun w H3 R s3 ow ndR fr=>?_⟩
 rw[List.append_assoc] at s2
 exact q w H3 F2 R (st2.mono s3.tupS fun a _ o e=>s3 a o e) ow (s2.new s3 ndR fr st2.chg)
theorem az {op:Operator}{f:Vl→Vl→Option Vl}{a b:Expr}{ga gb:M Opd}{pos:Pos} (ho:OpV X (binaryOp op) f) (ha:VO X a ga) (hb:VO X b gb):VE X (.BinOp a op b pos) (ad f ga gb):=
 bK (tB ho ha hb) fun _ _ _ h=>iN h
theorem nh {op:CmpOp}{f:Vl→Vl→Option Vl}{a b:Expr}{ga gb:M Opd}{pos:Pos} (ho:OpV X (compareOp op) f) (ha:VO X a ga) (hb:VO X b gb) (hm:behindInMarks op b=false):VE X (.Compare a [op] [b] pos) (ad f ga gb):=
 bK (tX ho ha hb hm) fun _ _ _ h=>iN h
theorem aF {f:Vl→Vl→Option Vl}{a b:Expr}{ga gb:M Opd}{pos:Pos} (ho:IxR X (fun x y H Q=>∃ d1 d2 d,Rdb H d1 x∧Rdb H d2 y∧f d1 d2=some d∧∀ v H' R,aH H H'→Own H' d v R→R.Nodup→(∀ a∈R,H a=none)→Q v H')) (ha:VO X a ga) (hb:VO X b gb) (hs:mG b):VE X (.Subscript a b pos) (ad f ga gb):=
 bK (uJ ho ha hb hs) fun _ _ _ h=>iN h
@[simp] noncomputable def asB:Vl→Option Bool
 | .im (.bl b)=>some b
 | _=>none
@[simp] noncomputable def kB (g:M Vl):M Bool:=fun D=>(g D).bind fun p=>(asB p.1).map fun b=>(b,p.2)
theorem iO {d:Vl}{b:Bool} (h:asB d=some b):d=.im (.bl b):=by
 unfold asB at h
 split at h
 ·cases h;rfl
 ·cases h
theorem bT {op:CmpOp}{f:Vl→Vl→Option Vl}{a b:Expr}{ga gb:M Opd}{pos:Pos} (ho:OpV X (compareOp op) f) (ha:VO X a ga) (hb:VO X b gb) (hm:behindInMarks op b=false):VT X (.Compare a [op] [b] pos) (kB (ad f ga gb)):=by
 refine ng (tY ho ha hb hm) fun σ H Q ⟨D,F,c,D',st,nd,hg,q⟩=>?_
 refine iN ⟨D,F,.im (.bl c),D',st,nd,?_,fun v H' F' R st' ow s=>⟨c,ow.1,q H' F' st' (by rw[ow.2,List.append_nil] at s;exact s)⟩⟩
 obtain⟨p,h1,h2⟩:=Option.bind_eq_some_iff.mp hg
 obtain⟨c',h3,h4⟩:=Option.map_eq_some_iff.mp h2
 cases h4
 rw[h1,← iO h3]
@[simp] noncomputable def de (g h:M Bool):M Bool:=fun D=>(g D).bind fun p=>if p.1=true then h p.2 else some (false,p.2)
@[simp] noncomputable def kOr (g h:M Bool):M Bool:=fun D=>(g D).bind fun p=>if p.1=true then some (true,p.2) else h p.2
theorem vU {g h:M Bool}{σ:St}{H:Hp}{Q:Bool→Hp→Prop} (w:tVT (de g h) σ H Q):lY (tVT g) (tVT h) σ H Q:=by
 obtain⟨D,F,c,D',st,nd,hg,q⟩:=w
 obtain⟨⟨b,D1⟩,h1,h2⟩:=Option.bind_eq_some_iff.mp hg
 refine⟨D,F,b,D1,st,nd,h1,fun H1 F1 st1 s1=>?_⟩
 cases b with
 | true=>
  rw[if_pos rfl]
  rw[if_pos rfl] at h2
  exact⟨D1,F1,c,D',st1,s1.nd,h2,fun H2 F2 st2 s2=>q H2 F2 st2 (by
   have:=Stp.trans (R:=[]) (by rw[List.append_nil];exact s1) s2 (fun x hx=>nomatch hx)
   rwa [List.append_nil] at this)⟩
 | false=>
  rw[if_neg Bool.false_ne_true] at h2 ⊢
  cases h2
  exact q H1 F1 st1 s1
theorem vV {g h:M Bool}{σ:St}{H:Hp}{Q:Bool→Hp→Prop} (w:tVT (kOr g h) σ H Q):tOr (tVT g) (tVT h) σ H Q:=by
 obtain⟨D,F,c,D',st,nd,hg,q⟩:=w
 obtain⟨⟨b,D1⟩,h1,h2⟩:=Option.bind_eq_some_iff.mp hg
 refine⟨D,F,b,D1,st,nd,h1,fun H1 F1 st1 s1=>?_⟩
 cases b with
 | false=>
  rw[if_neg Bool.false_ne_true] at h2 ⊢
  exact⟨D1,F1,c,D',st1,s1.nd,h2,fun H2 F2 st2 s2=>q H2 F2 st2 (by
   have:=Stp.trans (R:=[]) (by rw[List.append_nil];exact s1) s2 (fun x hx=>nomatch hx)
   rwa [List.append_nil] at this)⟩
 | true=>
  rw[if_pos rfl] at h2 ⊢
  cases h2
  exact q H1 F1 st1 s1
noncomputable def VW (X:Cx) (e:Expr) (g:M Bool):Prop:=PW X e (tVT g)
theorem ni {e:Expr}{t t':TT} (h:PW X e t) (i:∀ σ H Q,t' σ H Q→t σ H Q):PW X e t':=fun wh pins s σ H Q I hw=>h wh pins s σ H Q I (i σ H Q hw)
theorem vW {a:Expr}{g:M Bool}{pos:Pos} (h:VT X a g):VW X (.BoolOp .And [a] pos) g:=su h
theorem vX {a:Expr}{g:M Bool}{pos:Pos} (h:VT X a g):VW X (.BoolOp .Or [a] pos) g:=sv h
theorem jT {a b:Expr}{r:List Expr}{g k:M Bool}{pos:Pos} (h:VT X a g) (hb:VW X (.BoolOp .And (b::r) pos) k):VW X (.BoolOp .And (a::b::r) pos) (de g k):=ni (sw h hb) fun _ _ _ w=>vU w
theorem vY {a b:Expr}{r:List Expr}{g k:M Bool}{pos:Pos} (h:VT X a g) (hb:VW X (.BoolOp .Or (b::r) pos) k):VW X (.BoolOp .Or (a::b::r) pos) (kOr g k):=ni (sx h hb) fun _ _ _ w=>vV w
theorem VW.vt {e:Expr}{g:M Bool} (h:VW X e g):VT X e g:=h.pt
@[simp] noncomputable def eIf (c:M Bool) (a b:M Vl):M Vl:=fun D=>(c D).bind fun p=>if p.1=true then a p.2 else b p.2
theorem Stp.seq {H H1 H2:Hp}{F F1 F2:List Addr} (a:Stp H F H1 F1) (b:Stp H1 F1 H2 F2):Stp H F H2 F2:=by
 have:=Stp.trans (R:=[]) (by rw[List.append_nil];exact a) b (fun x hx=>nomatch hx)
 rwa [List.append_nil] at this
theorem vZ {c a b:Expr}{gc:M Bool}{ga gb:M Vl}{pos:Pos} (hc:VT X c gc) (ha:VE X a ga) (hb:VE X b gb):VE X (.IfExp c a b pos) (eIf gc ga gb):=by
 refine bK (sy hc ha hb) fun σ H Q ⟨D,F,r,D',st,nd,hg,q⟩=>?_
 obtain⟨⟨t,D1⟩,h1,h2⟩:=Option.bind_eq_some_iff.mp hg
 refine⟨D,F,t,D1,st,nd,h1,fun H1 F1 st1 s1=>?_⟩
 cases t with
 | true=>
  rw[if_pos rfl] at h2 ⊢
  exact⟨D1,F1,r,D',st1,s1.nd,h2,fun v H2 F2 R st2 ow s2=>q v H2 F2 R st2 ow (s1.seq s2)⟩
 | false=>
  rw[if_neg Bool.false_ne_true] at h2 ⊢
  exact⟨D1,F1,r,D',st1,s1.nd,h2,fun v H2 F2 R st2 ow s2=>q v H2 F2 R st2 ow (s1.seq s2)⟩
end
noncomputable def dk (H:Hp) (σ:St):List Opd→List V→List Addr→Prop
 | [],vs,R=>vs=[]∧R=[]
 | o::os,vs,R=>∃ v r R1 R2,vs=v::r∧cy H σ o v R1∧dk H σ os r R2∧R=R1++R2
noncomputable def tA (g:M (List Opd)):TA:=fun σ H Q=>∃ D F r D',aj H D σ F∧F.Nodup∧g D=some (r,D')∧∀ vs H' F' R,aj H' D' σ F'→dk H' σ r vs R→Stp H F H' (F'++R)→Q vs H'
noncomputable def VA (X:Cx) (es:List Expr) (g:M (List Opd)):Prop:=PA X es (tA g)
theorem nk {X:Cx}{es:List Expr}{t t':TA} (h:PA X es t) (i:∀ σ H Q,t' σ H Q→t σ H Q):PA X es t':=fun pos pins s σ H Q I hw=>h pos pins s σ H Q I (i σ H Q hw)
noncomputable def aNil:M (List Opd):=fun D=>some ([],D)
@[simp] noncomputable def aa (g:M Opd) (h:M (List Opd)):M (List Opd):=fun D=>(g D).bind fun p=>(h p.2).map fun q=>(p.1::q.1,q.2)
theorem Stp.permR {H H':Hp}{F A B:List Addr} (s:Stp H F H' A) (p:A.Perm B):Stp H F H' B:=⟨s.keep,fun a ha=>s.sub a (p.mem_iff.mpr ha),(p.nodup_iff).mp s.nd,s.tup,s.grow⟩
theorem Stp.less {H H':Hp}{F A B C:List Addr} (s:Stp H F H' A) (p:(B++C).Perm A):Stp H F H' B:=
 ⟨s.keep,fun a ha=>s.sub a (p.mem_iff.mp (List.mem_append_left _ ha)),(List.nodup_append.mp ((p.nodup_iff).mpr s.nd)).1,s.tup,s.grow⟩
section
variable {X:Cx}
theorem ah:VA X [] aNil:=by
 refine nk ua fun σ H Q ⟨D,F,r,D',st,nd,hg,q⟩=>?_
 cases hg
 exact q [] H F [] st ⟨rfl,rfl⟩ (by rw[List.append_nil];exact Stp.perm nd (List.Perm.refl _))
theorem ag {e:Expr}{es:List Expr}{g:M Opd}{h:M (List Opd)} (he:VO X e g) (hr:VA X es h) (hs:starEach (e::es) X.env=(false,eval e X.env)::starEach es X.env:=by rfl):VA X (e::es) (aa g h):=by
 refine nk (uc he hr hs) fun σ H Q ⟨D,F,r,D',st,nd,hg,q⟩=>?_
 obtain⟨⟨x,D1⟩,h1,h2⟩:=Option.bind_eq_some_iff.mp hg
 obtain⟨⟨ys,D2⟩,h3,h4⟩:=Option.map_eq_some_iff.mp h2
 cases h4
 refine⟨D,F,x,D1,st,nd,h1,fun v H1 F1 R1 st1 o1 s1=>⟨D1,F1,ys,_,st1,(List.nodup_append.mp s1.nd).1,h3,fun vs H2 F2 R2 st2 o2 s2=>?_⟩⟩
 refine q (v::vs) H2 F2 (R1++R2) st2 ⟨v,vs,R1,R2,rfl,o1.mono s2.tup fun a ha o e=>s2.keep a o e fun h=>?_,o2,rfl⟩ ((s1.trans s2 o1.chg).permR ?_)
 ·exact (List.nodup_append.mp s1.nd).2.2 a h a ha rfl
 ·rw[List.append_assoc]
  exact List.Perm.append_left _ List.perm_append_comm
end
noncomputable def cQ (D:SD):List Opd→Option (List Vl)
 | []=>some []
 | o::os=>(rsl D o).bind fun d=>(cQ D os).map fun ds=>d::ds
noncomputable def d8 (H:Hp):List Vl→List V→Prop
 | [],vs=>vs=[]
 | d::ds,vs=>∃ v r,vs=v::r∧Rdb H d v∧d8 H ds r
theorem dk.read {H:Hp}{D:SD}{σ:St}{F:List Addr} (st:aj H D σ F):∀ {os:List Opd}{vs:List V}{R:List Addr}{ds:List Vl},dk H σ os vs R→cQ D os=some ds→d8 H ds vs
 | [],_,_,_,h,e=>by cases e;exact h.1
 | o::os,_,_,_,h,e=>by
  obtain⟨v,r,R1,R2,rfl,h1,h2,rfl⟩:=h
  obtain⟨d,e1,e2⟩:=Option.bind_eq_some_iff.mp e
  obtain⟨ds,e3,e4⟩:=Option.map_eq_some_iff.mp e2
  cases e4
  exact⟨v,r,rfl,h1.read st e1,dk.read st h2 e3⟩
noncomputable def bd:List Opd→SD→Option (List Vl×SD)
 | [],D=>some ([],D)
 | .vl d::os,D=>(bd os D).map fun p=>(d::p.1,p.2)
 | .sl i::os,D=>(bL i D).bind fun p=>(bd os p.2).map fun q=>(p.1::q.1,q.2)
theorem nl {H:Hp}{D D':SD}{σ:St}{F:List Addr}{i:Nat}{d:Vl} (st:aj H D σ F) (h:bL i D=some (d,D')):∃ v F1 R,σ[i]?=some (some v)∧Own H d v R∧aj H D' σ F1∧(F1++R).Perm F:=by
 unfold bL at h
 split at h
 ·rename_i e hd
  split at h
  ·rename_i hc
   cases h
   obtain⟨v,h1,h2⟩:=st.cp hd hc
   exact⟨v,F,[],h1,h2,st,by rw[List.append_nil]⟩
  ·cases h
   obtain⟨v,F1,F2,h1,h2,h3,h4⟩:=st.out hd
   exact⟨v,F2,F1,h1,h2,h3,h4⟩
 ·cases h
theorem dl {A B C:List Addr}:(A++(B++C)).Perm (B++(A++C)):=by
 rw[← List.append_assoc,← List.append_assoc]
 exact List.Perm.append_right _ List.perm_append_comm
theorem fe {H:Hp}{σ:St}:∀ {os:List Opd}{vs:List V}{R F:List Addr}{D D':SD}{ds:List Vl},aj H D σ F→dk H σ os vs R→bd os D=some (ds,D')→∃ F1 R1,aj H D' σ F1∧aJ H ds vs R1∧(F1++R1).Perm (F++R)
 | [],_,_,F,_,_,_,st,h,e=>by
  cases e
  exact⟨F,[],st,⟨h.1,rfl⟩,by rw[h.2]⟩
 | .vl d::os,_,_,F,D,_,_,st,h,e=>by
  obtain⟨v,r,R1,R2,rfl,h1,h2,rfl⟩:=h
  rw[bd] at e
  obtain⟨p,e3,e4⟩:=Option.map_eq_some_iff.mp e
  cases e4
  obtain⟨F1,R3,g1,g2,g3⟩:=fe (D':=p.2) (ds:=p.1) st h2 e3
  exact⟨F1,R1++R3,g1,⟨v,r,R1,R3,rfl,h1,g2,rfl⟩,dl.trans ((List.Perm.append_left _ g3).trans dl)⟩
 | .sl i::os,_,_,F,D,_,_,st,h,e=>by
  obtain⟨v,r,R1,R2,rfl,⟨h1,rfl⟩,h2,rfl⟩:=h
  rw[bd] at e
  obtain⟨⟨d,D1⟩,e1,e2⟩:=Option.bind_eq_some_iff.mp e
  obtain⟨p,e3,e4⟩:=Option.map_eq_some_iff.mp e2
  cases e4
  obtain⟨v',F1,R3,g1,g2,g3,g4⟩:=nl st e1
  rw[h1] at g1
  cases g1
  obtain⟨F2,R4,k1,k2,k3⟩:=fe (D':=p.2) (ds:=p.1) g3 h2 e3
  refine⟨F2,R3++R4,k1,⟨v,r,R3,R4,rfl,g2,k2,rfl⟩,dl.trans ((List.Perm.append_left _ k3).trans ?_)⟩
  rw[← List.append_assoc]
  exact List.Perm.append_right _ (List.perm_append_comm.trans g4)
@[simp] noncomputable def wb:List Opd→List Vl→SD→SD
 | .sl i::os,d::ds,D=>wb os ds (match D[i]? with | some (some .jk)=>D.set i (some d) | _=>D)
 | .vl _::os,_::ds,D=>wb os ds D
 | _,_,D=>D
theorem iP {H H0:Hp}{σ:St}:∀ {os:List Opd}{ds:List Vl}{vs:List V}{R F S:List Addr}{D:SD},aj H D σ F→dk H0 σ os vs S→aJ H ds vs R→∃ F1 R1,aj H (wb os ds D) σ F1∧(F1++R1).Perm (F++R)
 | [],ds,_,R,F,_,D,st,_,_=>⟨F,R,by unfold wb;exact st,List.Perm.refl _⟩
 | .vl _::os,[],_,R,F,_,D,st,_,_=>⟨F,R,by unfold wb;exact st,List.Perm.refl _⟩
 | .sl _::os,[],_,R,F,_,D,st,_,_=>⟨F,R,by unfold wb;exact st,List.Perm.refl _⟩
 | .vl _::os,d::ds,_,R,F,_,D,st,h,w=>by
  obtain⟨v,r,S1,S2,rfl,h1,h2,rfl⟩:=h
  obtain⟨v',r',R1,R2,e,w1,w2,rfl⟩:=w
  cases e
  obtain⟨F1,R3,g1,g2⟩:=iP (D:=D) st h2 w2
  refine⟨F1,R1++R3,by rw[wb];exact g1,dl.trans ((List.Perm.append_left _ g2).trans dl)⟩
 | .sl i::os,d::ds,_,R,F,_,D,st,h,w=>by
  obtain⟨v,r,S1,S2,rfl,⟨h1,_⟩,h2,rfl⟩:=h
  obtain⟨v',r',R1,R2,e,w1,w2,rfl⟩:=w
  cases e
  rw[wb]
  split
  ·obtain⟨F1,G,g1,g2⟩:=st.back w1 h1
   obtain⟨F2,R3,k1,k2⟩:=iP g1 h2 w2
   refine⟨F2,R3++G,k1,?_⟩
   rw[← List.append_assoc,← List.append_assoc]
   refine (List.Perm.append_right _ k2).trans ?_
   rw[List.append_assoc]
   refine (List.Perm.append_left _ List.perm_append_comm).trans ?_
   rw[← List.append_assoc]
   exact List.Perm.append_right _ g2
  ·obtain⟨F1,R3,g1,g2⟩:=iP st h2 w2
   exact⟨F1,R1++R3,g1,dl.trans ((List.Perm.append_left _ g2).trans dl)⟩
noncomputable def ims:List Vl→Option (List Im)
 | []=>some []
 | .im d::ds=>(ims ds).map fun r=>d::r
 | _::_=>none
@[simp] noncomputable def mkT (ds:List Vl):Vl:=match ims ds with
 | some is=>.im (.tup is)
 | none=>.tpl ds
@[simp] noncomputable def mkL (ds:List Vl):Vl:=match ims ds with
 | some is=>.lst is
 | none=>.lstM ds
theorem jU {H:Hp}:∀ {ds:List Vl}{vs:List V}{R:List Addr}{is:List Im},aJ H ds vs R→ims ds=some is→ak H is vs∧R=[]
 | [],_,_,_,h,e=>by cases e;exact h
 | .im d::ds,_,_,_,h,e=>by
  obtain⟨v,r,R1,R2,rfl,⟨h1,rfl⟩,h2,rfl⟩:=h
  rw[ims] at e
  obtain⟨p,e3,e4⟩:=Option.map_eq_some_iff.mp e
  cases e4
  obtain⟨g1,rfl⟩:=jU h2 e3
  exact⟨⟨v,r,rfl,h1,g1⟩,rfl⟩
 | .jk::_,_,_,_,_,e=>by rw[ims] at e;cases e;all_goals (intro _ z;cases z)
 | .fz _::_,_,_,_,_,e=>by rw[ims] at e;cases e;all_goals (intro _ z;cases z)
 | .lst _::_,_,_,_,_,e=>by rw[ims] at e;cases e;all_goals (intro _ z;cases z)
 | .dK _::_,_,_,_,_,e=>by rw[ims] at e;cases e;all_goals (intro _ z;cases z)
 | .dT _::_,_,_,_,_,e=>by rw[ims] at e;cases e;all_goals (intro _ z;cases z)
 | .lstM _::_,_,_,_,_,e=>by rw[ims] at e;cases e;all_goals (intro _ z;cases z)
 | .dTM _ _::_,_,_,_,_,e=>by rw[ims] at e;cases e;all_goals (intro _ z;cases z)
 | .tpl _::_,_,_,_,_,e=>by rw[ims] at e;cases e;all_goals (intro _ z;cases z)
 | .obj _ _ _::_,_,_,_,_,e=>by rw[ims] at e;cases e;all_goals (intro _ z;cases z)
@[simp] noncomputable def aI (g:M (List Opd)):M Vl:=fun D=>(g D).bind fun p=>(bd p.1 p.2).bind fun q=>if q.1.length≤100000 then some (mkT q.1,q.2) else none
@[simp] noncomputable def bm (g:M (List Opd)):M Vl:=fun D=>(g D).bind fun p=>(bd p.1 p.2).bind fun q=>if q.1.length≤100000 then some (mkL q.1,q.2) else none
theorem v4 {H H':Hp}{ds:List Vl}{vs:List V}{R:List Addr}{p:Addr} (s:aH H H') (h:aJ H ds vs R) (e:H' p=some (.tup vs)):∃ R',Own H' (mkT ds) (.ref p) R'∧R'=R:=by
 unfold mkT
 split
 ·rename_i is hi
  obtain⟨g1,rfl⟩:=jU h hi
  exact⟨[],⟨⟨p,vs,rfl,e,g1.mono s.tupS.tup⟩,rfl⟩,rfl⟩
 ·exact⟨R,⟨p,vs,rfl,e,h.mono s.tupS fun a _ o q=>s a o q⟩,rfl⟩
theorem v5 {H H':Hp}{ds:List Vl}{vs:List V}{R:List Addr}{p:Addr} (s:aH H H') (h:aJ H ds vs R) (e:H' p=some (.lst vs)):Own H' (mkL ds) (.ref p) (p::R):=by
 unfold mkL
 split
 ·rename_i is hi
  obtain⟨g1,rfl⟩:=jU h hi
  exact⟨p,vs,rfl,e,g1.mono s.tupS.tup,rfl⟩
 ·exact⟨p,vs,R,rfl,e,h.mono s.tupS fun a _ o q=>s a o q,rfl⟩
theorem ff {n:Nat} (h:n≤100000):n≤sizeLine:=Nat.le_trans h (by decide)
theorem Stp.add {H H1:Hp}{F A:List Addr}{p:Addr}{o:HO} (a:Stp H F H1 A) (fr:H1 p=none) (c:∀ x∈A,Chg H1 x):Stp H F (upd H1 p o) (A++[p]):=by
 have s:aH H1 (upd H1 p o):=(aH.refl H1).upd fr
 have:=Stp.new (R:=[]) (R':=[p]) (by rw[List.append_nil];exact a) s (List.pairwise_singleton _ _) (fun x hx=>by rw[List.mem_singleton.mp hx];exact fr) c
 exact this
theorem Stp.same {H H1 H2:Hp}{F A:List Addr} (a:Stp H F H1 A) (s:aH H1 H2):Stp H F H2 A:=
 ⟨fun x o e hx=>s _ _ (a.keep x o e hx),a.sub,a.nd,a.tup.trans s.tupS,fun x o e=>let ⟨o',e'⟩:=a.grow x o e;⟨o',s _ _ e'⟩⟩
section
variable {X:Cx}
theorem bz {es:List Expr}{g:M (List Opd)}{x1}{pos:Pos} (h:VA X es g):VE X (.Tuple es x1 pos) (aI g):=by
 refine bK (uf h) fun σ H Q ⟨D,F,r,D',st,nd,hg,q⟩=>?_
 obtain⟨⟨os,D1⟩,h1,h2⟩:=Option.bind_eq_some_iff.mp hg
 obtain⟨⟨ds,D2⟩,h3,h4⟩:=Option.bind_eq_some_iff.mp h2
 refine⟨D,F,os,D1,st,nd,h1,fun vs H1 F1 R1 st1 o1 s1=>?_⟩
 obtain⟨F2,R2,st2,ow,pm⟩:=fe st1 o1 h3
 split at h4
 ·rename_i hl
  cases h4
  have hl':vs.length≤100000:=by rw[← ow.length];exact hl
  refine⟨ff hl',fun p hp=>?_⟩
  have s:aH H1 (upd H1 p (.tup vs)):=(aH.refl H1).upd hp
  obtain⟨R',g1,rfl⟩:=v4 s ow cu
  exact q _ _ F2 R' (st2.mono s.tupS fun a _ o e=>s a o e) g1 ((s1.permR pm.symm).same s)
 ·cases h4
theorem cS {es:List Expr}{g:M (List Opd)}{pos:Pos} (h:VA X es g):VE X (.List es pos) (bm g):=by
 refine bK (ug h) fun σ H Q ⟨D,F,r,D',st,nd,hg,q⟩=>?_
 obtain⟨⟨os,D1⟩,h1,h2⟩:=Option.bind_eq_some_iff.mp hg
 obtain⟨⟨ds,D2⟩,h3,h4⟩:=Option.bind_eq_some_iff.mp h2
 refine⟨D,F,os,D1,st,nd,h1,fun vs H1 F1 R1 st1 o1 s1=>?_⟩
 obtain⟨F2,R2,st2,ow,pm⟩:=fe st1 o1 h3
 split at h4
 ·rename_i hl
  cases h4
  have hl':vs.length≤100000:=by rw[← ow.length];exact hl
  refine⟨ff hl',fun p hp=>?_⟩
  have s:aH H1 (upd H1 p (.lst vs)):=(aH.refl H1).upd hp
  have g1:=v5 s ow (p:=p) cu
  refine q _ _ F2 (p::R2) (st2.mono s.tupS fun a _ o e=>s a o e) g1 (((s1.permR pm.symm).add hp fun x hx=>?_).permR ?_)
  ·rcases List.mem_append.mp hx with hx | hx
   ·exact st2.chg x hx
   ·exact ow.chg x hx
  ·rw[List.append_assoc]
   exact List.Perm.append_left _ List.perm_append_comm
 ·cases h4
noncomputable def cz (X:Cx) (f:Value) (op:List Vl→Option Vl):Prop:=
 bg X f fun xs H Q=>∃ ds d,d8 H ds xs∧op ds=some d∧∀ v H' R,aH H H'→Own H' d v R→R.Nodup→(∀ a∈R,H a=none)→Q v H'
@[simp] noncomputable def ax (op:List Vl→Option Vl) (g:M (List Opd)):M Vl:=fun D=>(g D).bind fun p=>(cQ p.2 p.1).bind fun ds=>(op ds).map fun d=>(d,p.2)
theorem nn {op:List Vl→Option Vl}{g:M (List Opd)}{σ:St}{H:Hp}{Q:VK} (h:tV (ax op g) σ H Q):
  tA g σ H fun xs H1=>∃ ds d,d8 H1 ds xs∧op ds=some d∧∀ v H' R,aH H1 H'→Own H' d v R→R.Nodup→(∀ a∈R,H1 a=none)→Q v H':=by
 obtain⟨D,F,r,D',st,nd,hg,q⟩:=h
 obtain⟨⟨os,D1⟩,h1,h2⟩:=Option.bind_eq_some_iff.mp hg
 obtain⟨ds,h3,h4⟩:=Option.bind_eq_some_iff.mp h2
 obtain⟨d,h5,h6⟩:=Option.map_eq_some_iff.mp h4
 cases h6
 refine⟨D,F,os,D1,st,nd,h1,fun vs H1 F1 R1 st1 o1 s1=>⟨ds,_,o1.read st1 h3,h5,fun v H2 R s2 ow ndR fr=>?_⟩⟩
 exact q v H2 F1 R (st1.mono s2.tupS fun a _ o e=>s2 a o e) ow (s1.new s2 ndR fr st1.chg)
theorem bM {id:String}{op:List Vl→Option Vl}{x:Str}{p pos:Pos}{e:Expr}{es:List Expr}{g:M (List Opd)} (hc:cz X (.builtin id) op) (hg:Gl X x) (hm:X.mg x=none) (hv:bootBuiltins x=some (.builtin id)) (ha:VA X (e::es) g)
  (hn:x ≠ "__name__" := by decide) (hdb:(x == ("__debug__" : Str))=false:=by decide) (he:starEach (e::es) X.env=(false,eval e X.env)::starEach es X.env:=by rfl) (hpl:(backTo pos (starEach es X.env)).any (·.1)=false:=by rfl):
  VE X (.Call (.Name x p) (e::es) [] pos) (ax op g):=bK (ul hc hg hm hv ha hn hdb he hpl) fun _ _ _ h=>nn h
theorem dm {T:String}{op:List Vl→Option Vl}{x:Str}{p pos:Pos}{e:Expr}{es:List Expr}{g:M (List Opd)} (hc:cz X (.type T) op) (hg:Gl X x) (hm:X.mg x=none) (hv:bootBuiltins x=some (.type T)) (ha:VA X (e::es) g)
  (hn:x ≠ "__name__" := by decide) (hdb:(x == ("__debug__" : Str))=false:=by decide) (he:starEach (e::es) X.env=(false,eval e X.env)::starEach es X.env:=by rfl) (hpl:(backTo pos (starEach es X.env)).any (·.1)=false:=by rfl):
  VE X (.Call (.Name x p) (e::es) [] pos) (ax op g):=bK (um hc hg hm hv ha hn hdb he hpl) fun _ _ _ h=>nn h
noncomputable abbrev Fn:=List Vl→Option (Vl×List Vl)
noncomputable def spV (n:Nat) (G:Fn):Sp:=fun vs H Q _=>vs.length=n∧∃ ds F r outs,aJ H ds vs F∧F.Nodup∧G ds=some (r,outs)∧∀ v H' R R',Own H' r v R→aJ H' outs vs R'→Stp H F H' (R++R')→Q v H'
@[simp] noncomputable def aq (n:Nat) (G:Fn) (g:M (List Opd)):M Vl:=fun D=>(g D).bind fun p=>if p.1.length=n then (bd p.1 p.2).bind fun q=>(G q.1).map fun r=>(r.1,wb p.1 r.2 q.2) else none
theorem dk.length {H:Hp}{σ:St}:∀ {os:List Opd}{vs:List V}{R:List Addr},dk H σ os vs R→os.length=vs.length
 | [],_,_,h=>by rw[h.1];rfl
 | o::os,_,_,h=>by
  obtain⟨v,r,R1,R2,rfl,h1,h2,rfl⟩:=h
  rw[List.length_cons,List.length_cons,dk.length h2]
theorem v7 {n:Nat}{G:Fn}{g:M (List Opd)}{E:XK}{σ:St}{H:Hp}{Q:VK} (h:tV (aq n G g) σ H Q):md (spV n G) [] E (tA g) σ H Q:=by
 obtain⟨D,F,r,D',st,nd,hg,q⟩:=h
 obtain⟨⟨os,D1⟩,h1,h2⟩:=Option.bind_eq_some_iff.mp hg
 split at h2
 ·rename_i hn
  obtain⟨⟨ds,D2⟩,h3,h4⟩:=Option.bind_eq_some_iff.mp h2
  obtain⟨⟨r',outs⟩,h5,h6⟩:=Option.map_eq_some_iff.mp h4
  cases h6
  refine⟨D,F,os,D1,st,nd,h1,fun vs H1 F1 R1 st1 o1 s1=>?_⟩
  obtain⟨F2,R2,st2,ow,pm⟩:=fe st1 o1 h3
  have s2:=s1.permR (pm.symm.trans List.perm_append_comm)
  rw[List.append_nil]
  refine⟨by rw[← o1.length];exact hn,ds,R2,_,outs,ow,(List.nodup_append.mp s2.nd).1,h5,fun v H3 R R' w1 w2 s3=>?_⟩
  have s4:=s2.trans s3 st2.chg
  have dis:∀ a∈F2,a∉R2:=fun a ha hb=>(List.nodup_append.mp s2.nd).2.2 a hb a ha rfl
  have st3:aj H3 D2 σ F2:=st2.mono s3.tup fun a ha o e=>s3.keep a o e (dis a ha)
  obtain⟨F3,R3,st4,pm4⟩:=iP st3 o1 w2
  refine q v H3 F3 R st4 w1 (s4.less (C:=R3) ?_)
  refine List.Perm.trans ?_ List.perm_append_comm
  rw[List.append_assoc]
  refine (List.Perm.append_left _ List.perm_append_comm).trans ?_
  rw[← List.append_assoc]
  refine (List.Perm.append_right _ pm4).trans ?_
  rw[List.append_assoc]
  exact List.Perm.append_left _ List.perm_append_comm
 ·cases h2
end
section
variable {X:Cx}
theorem aZ {n k:Nat}{G:Fn}{f:Addr}{fd:FuncData}{ps:List Str}{x:Str}{p pos:Pos}{e:Expr}{es:List Expr}{g:M (List Opd)} (F:FnOk X.prog X.w X.K X.mg X.base CX0 k f fd ps (spV n G)) (hr:Room k X.A) (hg:Gl X x) (hm:X.mg x=some (.ref f)) (hk:PySem.W.keepIn X.K (.ref f)=true) (hb:br X.K fd ps [])
  (ha:VA X (e::es) g) (hdb:(x == ("__debug__" : Str))=false:=by decide) (he:starEach (e::es) X.env=(false,eval e X.env)::starEach es X.env:=by rfl) (hpl:(backTo pos (starEach es X.env)).any (·.1)=false:=by rfl):
  VE X (.Call (.Name x p) (e::es) [] pos) (aq n G g):=bK (ui F hr hg hm hk hb .nil ve ha hdb he hpl) fun _ _ _ h=>v7 h
inductive Fl where
 | nx | rt (d:Vl) | bk | ct
noncomputable abbrev MS:=SD→Option (Fl×SD)
noncomputable def aG (fix:List Nat) (σ σ':St):Prop:=σ'.length=σ.length∧∀ i∈fix,σ'[i]?=σ[i]?
theorem aG.refl {fix:List Nat}{σ:St}:aG fix σ σ:=⟨rfl,fun _ _=>rfl⟩
theorem aG.trans {fix:List Nat}{σ σ1 σ2:St} (a:aG fix σ σ1) (b:aG fix σ1 σ2):aG fix σ σ2:=⟨b.1.trans a.1,fun i hi=>(b.2 i hi).trans (a.2 i hi)⟩
theorem aG.set {fix:List Nat}{σ:St}{j:Nat}{v:Option V} (h:j∉fix):aG fix σ (σ.set j v):=⟨List.length_set,fun i hi=>List.getElem?_set_ne fun e=>h (by rw[e];exact hi)⟩
noncomputable def Aft (fix:List Nat) (E:Ends) (σ:St) (H:Hp) (F:List Addr) (D':SD):Fl→Prop
 | .nx=>∀ σ' H' F',aG fix σ σ'→aj H' D' σ' F'→Stp H F H' F'→E.nx σ' H'
 | .bk=>∀ σ' H' F',aG fix σ σ'→aj H' D' σ' F'→Stp H F H' F'→E.bk σ' H'
 | .ct=>∀ σ' H' F',aG fix σ σ'→aj H' D' σ' F'→Stp H F H' F'→E.ct σ' H'
 | .rt d=>∀ v σ' H' F' R,aG fix σ σ'→aj H' D' σ' F'→Own H' d v R→Stp H F H' (F'++R)→E.rt v H'
noncomputable def tS (fix:List Nat) (g:MS):TS:=fun E σ H=>∃ D F fl D',aj H D σ F∧F.Nodup∧g D=some (fl,D')∧Aft fix E σ H F D' fl
noncomputable def VS (X:Cx) (fix:List Nat) (st:Stmt) (g:MS):Prop:=PS X st (tS fix g)
noncomputable def VSs (X:Cx) (fix:List Nat) (sts:List Stmt) (g:MS):Prop:=PSs X sts (tS fix g)
theorem dq {st:Stmt}{t t':TS} (h:PS X st t) (i:∀ E σ H,t' E σ H→t E σ H):PS X st t':=fun pins s σ H D I hw=>h pins s σ H D I (i D σ H hw)
theorem np {st:List Stmt}{t t':TS} (h:PSs X st t) (i:∀ E σ H,t' E σ H→t E σ H):PSs X st t':=fun pins s σ H D I hw=>h pins s σ H D I (i D σ H hw)
theorem Aft.on {fix:List Nat}{E:Ends}{σ σ1:St}{H H1:Hp}{F F1:List Addr}{D':SD}{fl:Fl} (h:Aft fix E σ H F D' fl) (fx:aG fix σ σ1) (s:Stp H F H1 F1):Aft fix E σ1 H1 F1 D' fl:=by
 cases fl with
 | nx=>exact fun σ' H' F' f st s'=>h σ' H' F' (fx.trans f) st (s.seq s')
 | bk=>exact fun σ' H' F' f st s'=>h σ' H' F' (fx.trans f) st (s.seq s')
 | ct=>exact fun σ' H' F' f st s'=>h σ' H' F' (fx.trans f) st (s.seq s')
 | rt d=>exact fun v σ' H' F' R f st ow s'=>h v σ' H' F' R (fx.trans f) st ow (s.seq s')
noncomputable def sNil:MS:=fun D=>some (.nx,D)
@[simp] noncomputable def ar (g h:MS):MS:=fun D=>(g D).bind fun p=>match p.1 with
 | .nx=>h p.2
 | fl=>some (fl,p.2)
theorem fg {fix:List Nat}:VSs X fix [] sNil:=by
 refine np sF fun E σ H ⟨D,F,fl,D',st,nd,hg,q⟩=>?_
 cases hg
 exact q σ H F aG.refl st (Stp.perm nd (List.Perm.refl _))
theorem aU {fix:List Nat}{st:Stmt}{g:MS} (h:VS X fix st g):VSs X fix [st] g:=sH h
theorem v9 {fix:List Nat}{g h:MS}{E:Ends}{σ:St}{H:Hp} (w:tS fix (ar g h) E σ H):lZ (tS fix g) (tS fix h) E σ H:=by
 obtain⟨D,F,fl,D',st,nd,hg,q⟩:=w
 obtain⟨⟨f1,D1⟩,h1,h2⟩:=Option.bind_eq_some_iff.mp hg
 cases f1 with
 | nx=>exact⟨D,F,.nx,D1,st,nd,h1,fun σ' H' F' fx st' s=>⟨D1,F',fl,D',st',s.nd,h2,q.on fx s⟩⟩
 | bk=>cases h2;exact⟨D,F,.bk,D1,st,nd,h1,q⟩
 | ct=>cases h2;exact⟨D,F,.ct,D1,st,nd,h1,q⟩
 | rt d=>cases h2;exact⟨D,F,.rt d,D1,st,nd,h1,q⟩
theorem aE {fix:List Nat}{st:Stmt}{sts:List Stmt}{g h:MS} (h1:VS X fix st g) (h2:VSs X fix sts h):VSs X fix (st::sts) (ar g h):=np (sG h1 h2) fun _ _ _ w=>v9 w
@[simp] noncomputable def df (g:M Vl):MS:=fun D=>(g D).map fun p=>(.nx,p.2)
theorem f6 {fix:List Nat}{e:Expr}{g:M Vl}{pos:Pos} (h:VE X e g) (hs:swapsWith e none pos.line X.env=pure false:=by rfl):VS X fix (.Expr e pos) (df g):=by
 refine dq (sJ h hs) fun E σ H ⟨D,F,fl,D',st,nd,hg,q⟩=>?_
 obtain⟨⟨r,D1⟩,h1,h2⟩:=Option.map_eq_some_iff.mp hg
 cases h2
 exact⟨D,F,r,_,st,nd,h1,fun v H' F' R st' ow s=>q σ H' F' aG.refl st' (s.less (List.Perm.refl _))⟩
@[simp] noncomputable def aX (g:M Vl):MS:=fun D=>(g D).map fun p=>(.rt p.1,p.2)
theorem bN {fix:List Nat}{e:Expr}{g:M Vl}{pos:Pos} (h:VE X e g):VS X fix (.Return (some e) pos) (aX g):=by
 refine dq (sL h) fun E σ H ⟨D,F,fl,D',st,nd,hg,q⟩=>?_
 obtain⟨⟨r,D1⟩,h1,h2⟩:=Option.map_eq_some_iff.mp hg
 cases h2
 exact⟨D,F,r,_,st,nd,h1,fun v H' F' R st' ow s=>q v σ H' F' R aG.refl st' ow s⟩
@[simp] noncomputable def sIf (c:M Bool) (a b:MS):MS:=fun D=>(c D).bind fun p=>if p.1=true then a p.2 else b p.2
theorem fh {fix:List Nat}{c:Expr}{a b:List Stmt}{gc:M Bool}{ga gb:MS}{pos:Pos} (hc:VT X c gc) (ha:VSs X fix a ga) (hb:VSs X fix b gb):VS X fix (.If c a b pos) (sIf gc ga gb):=by
 refine dq (sN hc ha hb) fun E σ H ⟨D,F,fl,D',st,nd,hg,q⟩=>?_
 obtain⟨⟨t,D1⟩,h1,h2⟩:=Option.bind_eq_some_iff.mp hg
 refine⟨D,F,t,D1,st,nd,h1,fun H1 F1 st1 s1=>?_⟩
 cases t with
 | true=>
  rw[if_pos rfl] at h2 ⊢
  exact⟨D1,F1,fl,D',st1,s1.nd,h2,q.on aG.refl s1⟩
 | false=>
  rw[if_neg Bool.false_ne_true] at h2 ⊢
  exact⟨D1,F1,fl,D',st1,s1.nd,h2,q.on aG.refl s1⟩
@[simp] noncomputable def aw (i:Nat) (g:M Vl):MS:=fun D=>(g D).bind fun p=>if i<p.2.length then some (.nx,p.2.set i (some p.1)) else none
theorem bn {fix:List Nat}{i:Nat}{x:Str}{e:Expr}{g:M Vl}{pos pos':Pos} (hN:X.N.Nodup) (hi:X.N[i]?=some x) (hx:Loc X.env.scope x) (he:VE X e g) (hf:i∉fix) (hs:swapsWith e (some (.Name x pos')) pos.line X.env=pure false:=by rfl)
  (hfn:X.fn x=true∨X.env.scope.names.lookup x=some .local:=by first | exact .inl rfl | exact .inr rfl | assumption):VS X fix (.Assign [.Name x pos'] e pos) (aw i g):=by
 refine dq (sX hN hi hx he hs hfn) fun E σ H ⟨D,F,fl,D',st,nd,hg,q⟩=>?_
 obtain⟨⟨r,D1⟩,h1,h2⟩:=Option.bind_eq_some_iff.mp hg
 split at h2
 ·rename_i hl
  cases h2
  refine⟨D,F,r,_,st,nd,h1,fun v H1 F1 R st1 ow s1=>?_⟩
  obtain⟨F2,R2,st2,pm⟩:=st1.put (i:=i) ow hl
  exact q _ H1 F2 (aG.set hf) st2 (s1.less pm)
 ·cases h2
noncomputable abbrev MG:=Vl→SD→Option SD
noncomputable def tG (fix:List Nat) (g:MG):TG:=fun v σ H Q=>∃ D F d R D',aj H D σ F∧Own H d v R∧(F++R).Nodup∧g d D=some D'∧∀ σ' H' F',aG fix σ σ'→aj H' D' σ' F'→Stp H (F++R) H' F'→Q σ' H'
noncomputable def VG (X:Cx) (fix:List Nat) (e:Expr) (g:MG):Prop:=PG X e (tG fix g)
theorem jV {e:Expr}{t t':TG} (h:PG X e t) (i:∀ v σ H Q,t' v σ H Q→t v σ H Q):PG X e t':=fun pins s σ H x v Q I r hw=>h pins s σ H x v Q I r (i x σ H Q hw)
@[simp] noncomputable def gN (i:Nat):MG:=fun d D=>if i<D.length then some (D.set i (some d)) else none
theorem ba {fix:List Nat}{i:Nat}{x:Str}{pos:Pos} (hN:X.N.Nodup) (hi:X.N[i]?=some x) (hx:Loc X.env.scope x) (hf:i∉fix) (hfn:X.fn x=true∨X.env.scope.names.lookup x=some .local:=by first | exact .inl rfl | exact .inr rfl | assumption):VG X fix (.Name x pos) (gN i):=by
 refine jV (sO hN hi hx hfn) fun v σ H Q ⟨D,F,d,R,D',st,ow,nd,hg,q⟩=>?_
 unfold gN at hg
 split at hg
 ·rename_i hl
  cases hg
  obtain⟨F2,R2,st2,pm⟩:=st.put (i:=i) ow hl
  exact q _ H F2 (aG.set hf) st2 ((Stp.perm nd (List.Perm.refl _)).less pm)
 ·cases hg
noncomputable def tGs (fix:List Nat) (g:List Vl→SD→Option SD):TGs:=fun vs σ H Q=>∃ D F ds R D',aj H D σ F∧aJ H ds vs R∧(F++R).Nodup∧g ds D=some D'∧∀ σ' H' F',aG fix σ σ'→aj H' D' σ' F'→Stp H (F++R) H' F'→Q σ' H'
noncomputable def VGs (X:Cx) (fix:List Nat) (es:List Expr) (g:List Vl→SD→Option SD):Prop:=PGs X es (tGs fix g)
@[simp] noncomputable def gNil':List Vl→SD→Option SD
 | [],D=>some D
 | _,_=>none
@[simp] noncomputable def bb (g:MG) (h:List Vl→SD→Option SD):List Vl→SD→Option SD
 | d::ds,D=>(g d D).bind (h ds)
 | _,_=>none
theorem nq {es:List Expr}{t t':TGs} (h:PGs X es t) (i:∀ v σ H Q,t' v σ H Q→t v σ H Q):PGs X es t':=fun pins s σ H xs vs Q I r hw=>h pins s σ H xs vs Q I r (i xs σ H Q hw)
theorem fi {fix:List Nat}:VGs X fix [] gNil':=by
 refine nq sQ fun vs σ H Q ⟨D,F,ds,R,D',st,ow,nd,hg,q⟩=>?_
 cases ds with
 | cons d ds=>cases hg
 | nil=>
  cases hg
  exact⟨ow.1,q σ H F aG.refl st ((Stp.perm nd (List.Perm.refl _)).less (List.Perm.refl _))⟩
theorem cC {fix:List Nat}{e:Expr}{es:List Expr}{g:MG}{h:List Vl→SD→Option SD} (h1:VG X fix e g) (h2:VGs X fix es h) (hs:(assignEach (e::es) X.env).map (·.2)=assign e X.env::(assignEach es X.env).map (·.2):=by rfl):VGs X fix (e::es) (bb g h):=by
 refine nq (sR h1 h2 hs) fun vs σ H Q ⟨D,F,ds,R,D',st,ow,nd,hg,q⟩=>?_
 cases ds with
 | nil=>cases hg
 | cons d ds=>
  obtain⟨v,r,R1,R2,rfl,w1,w2,rfl⟩:=ow
  obtain⟨D1,g1,g2⟩:=Option.bind_eq_some_iff.mp (show (g d D).bind (h ds)=some D' from hg)
  have nd':((F++R1)++R2).Nodup:=by rw[List.append_assoc];exact nd
  refine⟨v,r,rfl,D,F,d,R1,D1,st,w1,(List.nodup_append.mp nd').1,g1,fun σ1 H1 F1 fx st1 s1=>?_⟩
  have dis:∀ a∈R2,a∉F++R1:=fun a ha hb=>(List.nodup_append.mp nd').2.2 a hb a ha rfl
  have w2':aJ H1 ds r R2:=w2.mono s1.tup fun a ha o e=>s1.keep a o e (dis a ha)
  have s2:Stp H (F++(R1++R2)) H1 (F1++R2):=by
   refine⟨fun a o e ha=>s1.keep a o e fun h=>ha ?_,fun a ha=>?_,List.nodup_append.mpr ⟨s1.nd,(List.nodup_append.mp nd').2.1,fun a ha b hb e=>?_⟩,s1.tup,s1.grow⟩
   ·rw[← List.append_assoc]
    exact List.mem_append_left _ h
   ·rcases List.mem_append.mp ha with ha | ha
    ·rcases s1.sub a ha with h | h
     ·left
      rw[← List.append_assoc]
      exact List.mem_append_left _ h
     ·exact .inr h
    ·left
     rw[← List.append_assoc]
     exact List.mem_append_right _ ha
   ·subst e
    rcases s1.sub a ha with h | h
    ·exact dis a hb h
    ·obtain⟨o,e,_⟩:=w2.chg a hb
     rw[e] at h
     cases h
  exact⟨D1,F1,ds,R2,D',st1,w2',s2.nd,g2,fun σ2 H2 F2 fx2 st2 s3=>q σ2 H2 F2 (fx.trans fx2) st2 (s2.seq s3)⟩
@[simp] noncomputable def gT (n:Nat) (h:List Vl→SD→Option SD):MG:=fun d D=>match d with
 | .im (.tup is)=>if is.length=n then h (is.map .im) D else none
 | .tpl ds=>if ds.length=n then h ds D else none
 | _=>none
theorem nr {H:Hp}:∀ {is:List Im}{vs:List V},ak H is vs→aJ H (is.map .im) vs []
 | [],vs,h=>⟨h,rfl⟩
 | d::is,vs,h=>by
  obtain⟨v,r,rfl,h1,h2⟩:=h
  exact⟨v,r,[],[],rfl,⟨h1,rfl⟩,nr h2,rfl⟩
theorem fj {fix:List Nat}{es:List Expr}{k n:Nat}{pos:Pos}{h:List Vl→SD→Option SD} (hc:X.calm=true) (hs:VGs X fix es h) (hn:(assignEach es X.env).length=n:=by rfl) (hst:(assignEach es X.env).findIdx? (·.1)=none:=by rfl):VG X fix (.Tuple es k pos) (gT n h):=by
 refine jV (sT hc hs hn hst) fun v σ H Q ⟨D,F,d,R,D',st,ow,nd,hg,q⟩=>?_
 unfold gT at hg
 split at hg
 ·rename_i is
  split at hg
  ·rename_i hl
   obtain⟨⟨a,xs,rfl,h1,h2⟩,rfl⟩:=ow
   exact⟨a,xs,rfl,SqT.of h1,by rw[← h2.length];exact hl,D,F,_,[],D',st,nr h2,nd,hg,q⟩
  ·cases hg
 ·rename_i ds
  split at hg
  ·rename_i hl
   obtain⟨a,xs,rfl,h1,h2⟩:=ow
   exact⟨a,xs,rfl,SqT.of h1,by rw[← h2.length];exact hl,D,F,_,R,D',st,h2,nd,hg,q⟩
  ·cases hg
 ·cases hg
@[simp] noncomputable def bO (g:M Vl) (h:MG):MS:=fun D=>(g D).bind fun p=>(h p.1 p.2).map fun D'=>(.nx,D')
theorem dL {fix:List Nat}{tg e:Expr}{g:M Vl}{h:MG}{pos:Pos} (he:VE X e g) (hg:VG X fix tg h) (hs:swapsWithSole [tg] e pos.line X.env=pure false:=by rfl) (hw:swappedStores [tg] e X.env=pure none:=by rfl)
  (h1:(assignEach [tg] X.env).map (·.2)=[assign tg X.env]:=by rfl):VS X fix (.Assign [tg] e pos) (bO g h):=by
 refine dq (sW he hg hs hw h1) fun E σ H ⟨D,F,fl,D',st,nd,hgg,q⟩=>?_
 obtain⟨⟨r,D1⟩,g1,g2⟩:=Option.bind_eq_some_iff.mp hgg
 obtain⟨D2,g3,g4⟩:=Option.map_eq_some_iff.mp g2
 cases g4
 exact⟨D,F,r,D1,st,nd,g1,fun v H1 F1 R st1 ow s1=>⟨D1,F1,r,R,_,st1,ow,s1.nd,g3,fun σ' H' F' fx st' s2=>q σ' H' F' fx st' (s1.seq s2)⟩⟩
@[simp] noncomputable def gW (i j:Nat) (g:M (List Opd)):MS:=fun D=>(g D).bind fun p=>(bd p.1 p.2).bind fun q=>match q.1 with
 | [d1,d2]=>if i<q.2.length∧j<q.2.length then some (.nx,(q.2.set i (some d1)).set j (some d2)) else none
 | _=>none
theorem we {fix:List Nat}{i j:Nat}{x y:Str}{a b:Expr}{g:M (List Opd)}{px py pt pos:Pos}{kt k2 pt2} (hc:X.calm=true) (hN:X.N.Nodup) (hi:X.N[i]?=some x) (hj:X.N[j]?=some y) (hij:i≠j)
  (hx:X.env.scope.names.lookup x=some .local) (hy:X.env.scope.names.lookup y=some .local) (ha:VA X [a,b] g) (hfi:i∉fix) (hfj:j∉fix)
  (hw:swappedStores [.Tuple [.Name x px,.Name y py] kt pt] (.Tuple [a,b] k2 pt2) X.env=pure (some [x,y]))
  (hs:swapsWithSole [.Tuple [.Name x px,.Name y py] kt pt] (.Tuple [a,b] k2 pt2) pos.line X.env=pure false:=by rfl):
  VS X fix (.Assign [.Tuple [.Name x px,.Name y py] kt pt] (.Tuple [a,b] k2 pt2) pos) (gW i j g):=by
 refine dq (sZ hc hN hi hj hij hx hy ha hw hs) fun E σ H ⟨D,F,fl,D',st,nd,hg,q⟩=>?_
 obtain⟨⟨os,D1⟩,h1,h2⟩:=Option.bind_eq_some_iff.mp hg
 obtain⟨⟨ds,D2⟩,h3,h4⟩:=Option.bind_eq_some_iff.mp h2
 refine⟨D,F,os,D1,st,nd,h1,fun vs H1 F1 R1 st1 o1 s1=>?_⟩
 obtain⟨F2,R2,st2,ow,pm⟩:=fe st1 o1 h3
 dsimp only at h4
 split at h4
 ·rename_i d1 d2 e
  split at h4
  ·rename_i hl
   cases h4
   obtain⟨v,r,A,B,rfl,w1,w2,rfl⟩:=ow
   obtain⟨u,r',A',B',rfl,w3,⟨rfl,rfl⟩,rfl⟩:=w2
   obtain⟨F3,G3,st3,pm3⟩:=st2.put (i:=i) w1 hl.1
   obtain⟨F4,G4,st4,pm4⟩:=st3.put (i:=j) w3 (by rw[List.length_set];exact hl.2)
   refine⟨v,u,rfl,q _ H1 F4 ((aG.set hfi).trans (aG.set hfj)) st4 ((s1.permR pm.symm).less (C:=G4++G3) ?_)⟩
   rw[← List.append_assoc,List.append_nil,← List.append_assoc]
   refine (List.Perm.append_right G3 pm4).trans ?_
   rw[List.append_assoc]
   refine (List.Perm.append_left F3 List.perm_append_comm).trans ?_
   rw[← List.append_assoc]
   exact List.Perm.append_right _ pm3
  ·cases h4
 ·cases h4
noncomputable def dr (c:M Bool) (b:MS):Nat→MS
 | 0=>fun _=>none
 | n+1=>fun D=>(c D).bind fun p=>if p.1=true then (b p.2).bind fun q=>match q.1 with
  | .nx=>dr c b n q.2
  | .ct=>dr c b n q.2
  | .bk=>some (.nx,q.2)
  | .rt d=>some (.rt d,q.2) else some (.nx,p.2)
theorem nt {fix:List Nat}{c:Expr}{body:List Stmt}{gc:M Bool}{gb:MS}{pos:Pos} (n:Nat) (hp:PassesOwn (model X.prog X.w) X.A X.env X.xe) (hc:VT X c gc) (hb:VSs X fix body gb):VS X fix (.While c body [] pos) (dr gc gb n):=by
 refine dq (tj hp hc hb) fun E σ H ⟨D,F,fl,D',st,nd,hg,q⟩=>?_
 refine⟨fun m σ' H'=>∃ Dd F',aj H' Dd σ' F'∧aG fix σ σ'∧Stp H F H' F'∧dr gc gb m Dd=some (fl,D'),⟨n,D,F,st,aG.refl,Stp.perm nd (List.Perm.refl _),hg⟩,?_⟩
 rintro m σ1 H1 ⟨D1,F1,st1,fx1,s1,w⟩
 cases m with
 | zero=>cases w
 | succ m=>
  rw[dr] at w
  obtain⟨⟨t,D2⟩,w1,w2⟩:=Option.bind_eq_some_iff.mp w
  refine⟨D1,F1,t,D2,st1,s1.nd,w1,fun H2 F2 st2 s2=>?_⟩
  cases t with
  | false=>
   rw[if_neg Bool.false_ne_true] at w2 ⊢
   cases w2
   exact q σ1 H2 F2 fx1 st2 (s1.seq s2)
  | true=>
   rw[if_pos rfl] at w2 ⊢
   obtain⟨⟨f,D3⟩,w3,w4⟩:=Option.bind_eq_some_iff.mp w2
   refine⟨fun σ' H'=>∃ Dd F',aj H' Dd σ' F'∧aG fix σ σ'∧Stp H F H' F'∧dr gc gb m Dd=some (fl,D'),fun σ' H' h=>⟨m,Nat.lt_succ_self m,h⟩,D2,F2,f,D3,st2,s2.nd,w3,?_⟩
   cases f with
   | nx=>exact fun σ' H' F' fx st' s'=>⟨D3,F',st',fx1.trans fx,(s1.seq s2).seq s',w4⟩
   | ct=>exact fun σ' H' F' fx st' s'=>⟨D3,F',st',fx1.trans fx,(s1.seq s2).seq s',w4⟩
   | bk=>
    cases w4
    exact fun σ' H' F' fx st' s'=>q σ' H' F' (fx1.trans fx) st' ((s1.seq s2).seq s')
   | rt d=>
    cases w4
    exact fun v σ' H' F' R fx st' ow s'=>q v σ' H' F' R (fx1.trans fx) st' ow ((s1.seq s2).seq s')
structure ItOk (J:It) (H:Hp) (R:List Addr) (ds:List Im):Prop where
 go:∀ H',StayS H H'→(∀ a∈R,∀ o,H a=some o→H' a=some o)→∀ (i:Nat) (d:Im),ds[i]?=some d→J.go i H'∧∀ x H'',J.yld i H' x H''→aH H' H''∧IsI H'' d x
 stop:∀ H',StayS H H'→(∀ a∈R,∀ o,H a=some o→H' a=some o)→J.stop ds.length H'
noncomputable def gX (H:Hp) (σ:St) (R:List Addr):Option (Nat×Vl)→Prop
 | none=>True
 | some (i,d)=>∃ v,σ[i]?=some (some v)∧Own H d v R
noncomputable def tI (g:M (List Im×Option (Nat×Vl))):TI:=fun σ H Rk=>∃ D F r D',aj H D σ F∧F.Nodup∧g D=some (r,D')∧∀ J H' F' R,aj H' D' σ F'→ItOk J H' R r.1→gX H' σ R r.2→(∀ a∈R,Chg H' a)→Stp H F H' (F'++R)→Rk J H'
noncomputable def VI (X:Cx) (tg iter:Expr) (g:M (List Im×Option (Nat×Vl))):Prop:=PI X tg iter (tI g)
theorem nu {tg iter:Expr}{t t':TI} (h:PI X tg iter t) (i:∀ σ H R,t' σ H R→t σ H R):PI X tg iter t':=fun pins s σ H R I hw=>h pins s σ H R I (i σ H R hw)
noncomputable def bA (tg:MG) (b:MS):List Im→MS
 | []=>fun D=>some (.nx,D)
 | x::r=>fun D=>(tg (.im x) D).bind fun D1=>(b D1).bind fun q=>match q.1 with
  | .nx=>bA tg b r q.2
  | .ct=>bA tg b r q.2
  | .bk=>some (.nx,q.2)
  | .rt d=>some (.rt d,q.2)
@[simp] noncomputable def rst:Option (Nat×Vl)→SD→SD
 | none,D=>D
 | some (i,d),D=>match D[i]? with
  | some (some .jk)=>D.set i (some d)
  | _=>D
@[simp] noncomputable def cI (g:M (List Im×Option (Nat×Vl))) (tg:MG) (b:MS):MS:=fun D=>(g D).bind fun p=>(bA tg b p.1.1 p.2).map fun q=>(q.1,rst p.1.2 q.2)
theorem jW {H:Hp}{σ:St}{R F:List Addr}{o:Option (Nat×Vl)}{D:SD} (st:aj H D σ F) (h:gX H σ R o):∃ F1 G,aj H (rst o D) σ F1∧(F1++G).Perm (F++R):=by
 cases o with
 | none=>exact⟨F,R,st,List.Perm.refl _⟩
 | some p=>
  obtain⟨i,d⟩:=p
  obtain⟨v,h1,h2⟩:=h
  unfold rst
  dsimp only
  split
  ·exact st.back h2 h1
  ·exact⟨F,R,st,List.Perm.refl _⟩
noncomputable def f7 (fx:List Nat):Option (Nat×Vl)→Prop
 | none=>True
 | some (i,_)=>i∈fx
theorem wf {fix fx:List Nat}{tg iter:Expr}{body:List Stmt}{g:M (List Im×Option (Nat×Vl))}{gt:MG}{gb:MS}{pos:Pos} (hp:PassesOwn (model X.prog X.w) X.A X.env X.xe) (hc:X.calm=true) (hi:VI X tg iter g) (hg:VG X fx tg gt) (hb:VSs X fx body gb)
  (hf:∀ i∈fix,i∈fx) (hs:∀ D r D',g D=some (r,D')→f7 fx r.2) (hps:PS X (.For tg iter body [] pos) (l5 (tI g) (tG fx gt) (tS fx gb))):VS X fix (.For tg iter body [] pos) (cI g gt gb):=by
 refine dq hps fun E σ H ⟨D,F,fl,D',st,nd,hgg,q⟩=>?_
 obtain⟨⟨⟨ds,o⟩,D1⟩,h1,h2⟩:=Option.bind_eq_some_iff.mp hgg
 obtain⟨⟨f,D2⟩,h3,h4⟩:=Option.map_eq_some_iff.mp h2
 cases h4
 refine⟨D,F,(ds,o),D1,st,nd,h1,fun J H1 F1 R st1 it ln cR s1=>?_⟩
 have hso:f7 fx o:=hs D _ _ h1
 have nd1:=List.nodup_append.mp s1.nd
 -- what R holds stays while the body runs
 have keepR:∀ {H2:Hp}{F2:List Addr},Stp H1 F1 H2 F2→∀ a∈R,∀ u,H1 a=some u→H2 a=some u:=fun s a ha u e=>s.keep a u e fun h=>nd1.2.2 a h a ha rfl
 have lent:∀ {H2:Hp}{F2:List Addr}{σ2:St},Stp H1 F1 H2 F2→aG fx σ σ2→gX H2 σ2 R o:=fun {H2 F2 σ2} s f=>by
  cases o with
  | none=>trivial
  | some p=>
   obtain⟨i,d⟩:=p
   obtain⟨v,e1,e2⟩:=ln
   exact⟨v,(f.2 i hso).trans e1,e2.mono s.tup (keepR s)⟩
 have fxx:∀ {σ2:St},aG fx σ σ2→aG fix σ σ2:=fun f=>⟨f.1,fun i hi=>f.2 i (hf i hi)⟩
 -- leaving by going on
 have leave:∀ {σ2:St}{H2:Hp}{F2:List Addr}{D2:SD},Aft fix E σ H F (rst o D2) .nx→aG fx σ σ2→aj H2 D2 σ2 F2→Stp H1 F1 H2 F2→E.nx σ2 H2:=fun {σ2 H2 F2 D2} q f st2 s2=>by
  obtain⟨F3,G,st3,pm⟩:=jW st2 (lent s2 f)
  exact q σ2 H2 F3 (fxx f) st3 ((s1.trans s2 cR).less pm)
 refine⟨fun i m σ' H'=>m+i=ds.length∧∃ Dd F',aG fx σ σ'∧aj H' Dd σ' F'∧Stp H1 F1 H' F'∧bA gt gb (ds.drop i) Dd=some (f,D2),⟨ds.length,rfl,D1,F1,aG.refl,st1,Stp.perm nd1.1 (List.Perm.refl _),h3⟩,?_⟩
 rintro i m σ' H' ⟨hm,Dd,F',fx',st',s',hw⟩
 by_cases hlt:i<ds.length
 ·obtain⟨hgo,hy⟩:=it.go H' s'.tup (keepR s') i ds[i] (by simp[hlt])
  rw[List.drop_eq_getElem_cons hlt,bA] at hw
  obtain⟨D3,w1,w2⟩:=Option.bind_eq_some_iff.mp hw
  obtain⟨⟨f2,D4⟩,w3,w4⟩:=Option.bind_eq_some_iff.mp w2
  refine .inr ⟨hgo,fun σ2 H2=>(m - 1)+(i+1)=ds.length∧∃ Dd F',aG fx σ σ2∧aj H2 Dd σ2 F'∧Stp H1 F1 H2 F'∧bA gt gb (ds.drop (i+1)) Dd=some (f,D2),fun σ2 H2 h=>⟨m - 1,by lia,h⟩,fun x H2 hx=>?_⟩
  obtain⟨sm,isx⟩:=hy x H2 hx
  have st2:=st'.mono sm.tupS fun a _ o e=>sm a o e
  have s2:=s'.same sm
  refine⟨Dd,F',.im ds[i],[],D3,st2,⟨isx,rfl⟩,by rw[List.append_nil];exact s2.nd,w1,fun σ3 H3 F3 fx3 st3 sg=>?_⟩
  have s3:Stp H1 F1 H3 F3:=s2.seq (by rw[List.append_nil] at sg;exact sg)
  refine⟨D3,F3,f2,D4,st3,s3.nd,w3,?_⟩
  cases f2 with
  | nx=>exact fun σ4 H4 F4 fx4 st4 s4=>⟨by lia,D4,F4,(fx'.trans fx3).trans fx4,st4,s3.seq s4,w4⟩
  | ct=>exact fun σ4 H4 F4 fx4 st4 s4=>⟨by lia,D4,F4,(fx'.trans fx3).trans fx4,st4,s3.seq s4,w4⟩
  | bk=>
   cases w4
   exact fun σ4 H4 F4 fx4 st4 s4=>leave q ((fx'.trans fx3).trans fx4) st4 (s3.seq s4)
  | rt d=>
   cases w4
   intro v σ4 H4 F4 R4 fx4 st4 ow4 s4
   have s5:=s3.seq s4
   have f5:=(fx'.trans fx3).trans fx4
   obtain⟨F5,G5,st5,pm5⟩:=jW (R:=R) st4 (lent s5 f5)
   refine q v σ4 H4 F5 R4 (fxx f5) st5 ow4 ((s1.trans s5 cR).less (C:=G5) ?_)
   rw[List.append_assoc]
   refine (List.Perm.append_left F5 List.perm_append_comm).trans ?_
   rw[← List.append_assoc]
   refine (List.Perm.append_right R4 pm5).trans ?_
   rw[List.append_assoc,List.append_assoc]
   exact List.Perm.append_left _ List.perm_append_comm
 ·have hi:i=ds.length:=by lia
  subst hi
  refine .inl ⟨it.stop H' s'.tup (keepR s'),?_⟩
  rw[List.drop_of_length_le (Nat.le_refl _)] at hw
  cases hw
  exact leave q fx' st' s'
end
section
variable {X:Cx}
theorem gY {fix fx:List Nat}{tg iter:Expr}{body:List Stmt}{g:M (List Im×Option (Nat×Vl))}{gt:MG}{gb:MS}{pos:Pos} (hp:PassesOwn (model X.prog X.w) X.A X.env X.xe) (hc:X.calm=true) (hi:VI X tg iter g) (hg:VG X fx tg gt) (hb:VSs X fx body gb)
  (hf:∀ i∈fix,i∈fx) (hs:∀ D r D',g D=some (r,D')→f7 fx r.2) (hfs:∀ x,foldedSetIterable iter X.env x=pure x:=by intro _;rfl):VS X fix (.For tg iter body [] pos) (cI g gt gb):=
 wf hp hc hi hg hb hf hs (l7 hp hc hi hg hb hfs)
noncomputable def iSq (K:PySem.W.Frag) (tl:TE):TI:=fun σ H R=>tl σ H fun x H1=>∃ a,x=.ref a∧(((∃ xs,SqL K H1 a xs)∧R (Itl K a) H1)∨((∃ xs,SqT K H1 a xs)∧R (Itt K a) H1))
theorem nv {tg l:Expr}{tl:TE} (hl:PE X l tl):PI X tg l (iSq X.K tl):=by
 intro pins s σ H R I h
 refine thn (hl pins s σ H _ I h) fun v s1 ⟨x,H1,I1,r1,q1⟩=>?_
 obtain⟨a,e,q⟩:=q1
 subst e
 cases r1
 rcases q with ⟨⟨xs,hq⟩,q⟩ | ⟨⟨xs,hq⟩,q⟩
 ·obtain⟨its,rv,p,hz⟩:=I1.list hq
  refine wpAny_pyIter_list p.isList ?_
  refine⟨s1.heap.objs.size,[s1.heap.objs.size],_,_,H1,rfl,I1.kept (t':=s1.toks) fun b o e=>Heap.get?_push_of_some _ e,tm a _,⟨_,Heap.get?_push_size _ rfl,rfl,rfl⟩,fun b hb=>?_,q⟩
  have e:b=s1.heap.objs.size:=by simpa using hb
  subst e
  exact I1.fpOk (Nat.le_refl _) (I1.hok.fresh (Nat.le_refl _))
 ·obtain⟨its,rv,p,hz⟩:=I1.tuple hq
  refine wpAny_pyIter_tuple (show s1.heap.IsTuple a its.toArray from p) ?_
  refine⟨s1.heap.objs.size,[s1.heap.objs.size],_,_,H1,rfl,I1.kept (t':=s1.toks) fun b o e=>Heap.get?_push_of_some _ e,tp a _,⟨_,Heap.get?_push_size _ rfl,rfl,rfl⟩,fun b hb=>?_,q⟩
  have e:b=s1.heap.objs.size:=by simpa using hb
  subst e
  exact I1.fpOk (Nat.le_refl _) (I1.hok.fresh (Nat.le_refl _))
theorem ak.get {H:Hp}:∀ {ds:List Im}{vs:List V}{i:Nat}{d:Im},ak H ds vs→ds[i]?=some d→∃ v,vs[i]?=some v∧IsI H d v
 | [],_,_,_,_,e=>by simp at e
 | d::ds,_,0,_,h,e=>by
  obtain⟨v,r,rfl,h1,h2⟩:=h
  simp at e
  subst e
  exact⟨v,rfl,h1⟩
 | d::ds,_,i+1,_,h,e=>by
  obtain⟨v,r,rfl,h1,h2⟩:=h
  obtain⟨u,g1,g2⟩:=ak.get (i:=i) h2 (by simpa using e)
  exact⟨u,by simpa using g1,g2⟩
theorem jX {K:PySem.W.Frag}{H:Hp}{a:Addr}{xs:List V}{ds:List Im} (h:H a=some (.lst xs)) (hd:ak H ds xs):ItOk (Itl K a) H [a] ds where
 go:=fun H' t k i d e=>by
  obtain⟨v,g1,g2⟩:=hd.get e
  have h':=SqL.of (K:=K) (k a (.head _) _ h)
  refine⟨⟨xs,v,h',g1⟩,fun x H'' ⟨e1,e2⟩=>?_⟩
  subst e1
  rw[e2 xs h'] at g1
  cases g1
  exact⟨aH.refl _,g2.mono t.tup⟩
 stop:=fun H' t k=>⟨xs,SqL.of (k a (.head _) _ h),by rw[← hd.length];exact Nat.le_refl _⟩
theorem wg {K:PySem.W.Frag}{H:Hp}{a:Addr}{xs:List V}{o:Obj}{ds:List Im} (h:H a=some (.frz o (.lst xs))) (hd:ak H ds xs):ItOk (Itl K a) H [] ds where
 go:=fun H' t k i d e=>by
  obtain⟨v,g1,g2⟩:=hd.get e
  have h':SqL K H' a xs:=.inl (.inr ⟨o,t.frz _ _ _ h⟩)
  refine⟨⟨xs,v,h',g1⟩,fun x H'' ⟨e1,e2⟩=>?_⟩
  subst e1
  rw[e2 xs h'] at g1
  cases g1
  exact⟨aH.refl _,g2.mono t.tup⟩
 stop:=fun H' t k=>⟨xs,.inl (.inr ⟨o,t.frz _ _ _ h⟩),by rw[← hd.length];exact Nat.le_refl _⟩
theorem wj {K:PySem.W.Frag}{H:Hp}{a:Addr}{xs:List V}{ds:List Im} (h:H a=some (.tup xs)) (hd:ak H ds xs):ItOk (Itt K a) H [] ds where
 go:=fun H' t k i d e=>by
  obtain⟨v,g1,g2⟩:=hd.get e
  have h':=SqT.of (K:=K) (t.tup a _ h)
  refine⟨⟨xs,v,h',g1⟩,fun x H'' ⟨e1,e2⟩=>?_⟩
  subst e1
  rw[e2 xs h'] at g1
  cases g1
  exact⟨aH.refl _,g2.mono t.tup⟩
 stop:=fun H' t k=>⟨xs,SqT.of (t.tup a _ h),by rw[← hd.length];exact Nat.le_refl _⟩
noncomputable abbrev MI:=M (List Im×Option (Nat×Vl))
@[simp] noncomputable def dM (d:Vl):Option (List Im):=match d with
 | .im (.tup ds)=>some ds
 | .lst ds=>some ds
 | .fz ds=>some ds
 | _=>none
@[simp] noncomputable def bv (g:M Opd):MI:=fun D=>(g D).bind fun p=>match p.1 with
 | .vl d=>(dM d).map fun ds=>((ds,none),p.2)
 | .sl i=>(bL i p.2).bind fun q=>(dM q.1).map fun ds=>((ds,if q.1.cp=true then none else some (i,q.1)),q.2)
theorem nw {K:PySem.W.Frag}{H:Hp}{d:Vl}{v:V}{R:List Addr}{ds:List Im} (w:Own H d v R) (e:dM d=some ds):
  ∃ a,v=.ref a∧(((∃ xs,SqL K H a xs)∧ItOk (Itl K a) H R ds)∨((∃ xs,SqT K H a xs)∧ItOk (Itt K a) H R ds)):=by
 unfold dM at e
 split at e
 ·cases e
  obtain⟨⟨a,xs,rfl,h1,h2⟩,rfl⟩:=w
  exact⟨a,rfl,.inr ⟨⟨xs,SqT.of h1⟩,wj h1 h2⟩⟩
 ·cases e
  obtain⟨a,xs,rfl,h1,h2,rfl⟩:=w
  exact⟨a,rfl,.inl ⟨⟨xs,SqL.of h1⟩,jX h1 h2⟩⟩
 ·cases e
  obtain⟨a,xs,o,rfl,h1,h2,rfl⟩:=w
  exact⟨a,rfl,.inl ⟨⟨xs,.inl (.inr ⟨o,h1⟩)⟩,wg h1 h2⟩⟩
 ·cases e
theorem dN {tg l:Expr}{g:M Opd} (h:VO X l g):VI X tg l (bv g):=by
 refine nu (nv h) fun σ H Rk ⟨D,F,r,D',st,nd,hg,q⟩=>?_
 obtain⟨⟨x,D1⟩,h1,h2⟩:=Option.bind_eq_some_iff.mp hg
 refine⟨D,F,x,D1,st,nd,h1,fun v H1 F1 R st1 o1 s1=>?_⟩
 cases x with
 | vl d=>
  obtain⟨ds,h3,h4⟩:=Option.map_eq_some_iff.mp h2
  cases h4
  obtain⟨a,rfl,hh⟩:=nw (K:=X.K) o1 h3
  refine⟨a,rfl,?_⟩
  rcases hh with ⟨hx,it⟩ | ⟨hx,it⟩
  ·exact .inl ⟨hx,q _ H1 F1 R st1 it trivial (Own.chg o1) s1⟩
  ·exact .inr ⟨hx,q _ H1 F1 R st1 it trivial (Own.chg o1) s1⟩
 | sl i=>
  obtain⟨⟨d,D2⟩,h3,h4⟩:=Option.bind_eq_some_iff.mp h2
  obtain⟨ds,h5,h6⟩:=Option.map_eq_some_iff.mp h4
  cases h6
  obtain⟨v',F2,R2,g1,g2,g3,g4⟩:=nl st1 h3
  obtain⟨o1,rfl⟩:=o1
  rw[o1] at g1
  cases g1
  rw[List.append_nil] at s1
  have s2:=s1.permR g4.symm
  obtain⟨a,rfl,hh⟩:=nw (K:=X.K) g2 h5
  have ln:gX H1 σ R2 (if d.cp=true then none else some (i,d)):=by
   split
   ·trivial
   ·exact⟨_,o1,g2⟩
  refine⟨a,rfl,?_⟩
  rcases hh with ⟨hx,it⟩ | ⟨hx,it⟩
  ·exact .inl ⟨hx,q _ H1 F2 R2 g3 it ln g2.chg s2⟩
  ·exact .inr ⟨hx,q _ H1 F2 R2 g3 it ln g2.chg s2⟩
theorem ny {fx:List Nat}{i:Nat} (hi:i∈fx):∀ D r D',bv (oSl i) D=some (r,D')→f7 fx r.2:=by
 intro D r D' h
 obtain⟨⟨x,D1⟩,h1,h2⟩:=Option.bind_eq_some_iff.mp h
 unfold oSl at h1
 split at h1
 ·cases h1
  obtain⟨⟨d,D2⟩,h3,h4⟩:=Option.bind_eq_some_iff.mp h2
  obtain⟨ds,h5,h6⟩:=Option.map_eq_some_iff.mp h4
  cases h6
  show f7 fx (if d.cp=true then none else some (i,d))
  split
  ·trivial
  ·exact hi
 ·cases h1
noncomputable def bV (lo:Int) (n:Nat):List Im:=(List.range n).map fun (k:Nat)=>Im.int (lo+(k:Int))
theorem wm {H:Hp}{lo:Int}{n:Nat}:ItOk (Itr lo n) H [] (bV lo n) where
 go:=fun H' t k i d e=>by
  have hi:i<n:=by
   have:=(List.getElem?_eq_some_iff.mp e).1
   rwa [bV,List.length_map,List.length_range] at this
  refine⟨hi,fun x H'' ⟨e1,e2⟩=>?_⟩
  subst e1
  rw[bV,List.getElem?_map,List.getElem?_range hi] at e
  cases e
  exact⟨aH.refl _,e2⟩
 stop:=fun H' t k=>by
  show n≤_
  rw[bV,List.length_map,List.length_range]
  exact Nat.le_refl _
noncomputable def d9 (i:Int):Prop := -1000000≤i∧i≤1000000
noncomputable instance (i:Int):Decidable (d9 i):=inferInstanceAs (Decidable (_∧_))
@[simp] noncomputable def iR1 (g:M (List Opd)):MI:=fun D=>(g D).bind fun p=>(cQ p.2 p.1).bind fun ds=>match ds with
 | [.im (.int j)]=>if d9 j then some ((bV 0 j.toNat,none),p.2) else none
 | _=>none
theorem nA {H:Hp}{d:Im}{vs:List V} (h:d8 H [.im d] vs):∃ v,vs=[v]∧IsI H d v:=by
 obtain⟨v,r,rfl,⟨R,h1,_⟩,h2⟩:=h
 cases (show r=[] from h2)
 exact⟨v,rfl,h1⟩
theorem nE {H:Hp}{d e:Im}{vs:List V} (h:d8 H [.im d,.im e] vs):∃ v u,vs=[v,u]∧IsI H d v∧IsI H e u:=by
 obtain⟨v,r,rfl,⟨R,h1,_⟩,h2⟩:=h
 obtain⟨u,rfl,h3⟩:=nA h2
 exact⟨v,u,rfl,h1,h3⟩
theorem iQ {tg a:Expr}{g:M (List Opd)}{p pos:Pos} (hg:Gl X "range") (hm:X.mg "range" = none) (ha:VA X [a] g) (hs:starEach [a] X.env=[(false,eval a X.env)]:=by rfl):VI X tg (.Call (.Name "range" p) [a] [] pos) (iR1 g):=by
 refine nu (tz hg hm ha hs) fun σ H Rk ⟨D,F,r,D',st,nd,hgg,q⟩=>?_
 obtain⟨⟨os,D1⟩,h1,h2⟩:=Option.bind_eq_some_iff.mp hgg
 obtain⟨ds,h3,h4⟩:=Option.bind_eq_some_iff.mp h2
 refine⟨D,F,os,D1,st,nd,h1,fun vs H1 F1 R1 st1 o1 s1=>?_⟩
 have rd:=o1.read st1 h3
 split at h4
 ·rename_i j
  split at h4
  ·rename_i hj
   cases h4
   obtain⟨v,rfl,e⟩:=nA rd
   cases (show v=.int j from e)
   exact⟨j,rfl,by have:=hj.1;lia,by have:=hj.2;lia,q _ H1 F1 [] st1 wm trivial (fun a ha=>nomatch ha) (by rw[List.append_nil];exact s1.less (List.Perm.refl _))⟩
  ·cases h4
 ·cases h4
theorem jY {fx:List Nat}{g:M (List Opd)}:∀ D r D',iR1 g D=some (r,D')→f7 fx r.2:=by
 intro D r D' h
 obtain⟨⟨os,D1⟩,h1,h2⟩:=Option.bind_eq_some_iff.mp h
 obtain⟨ds,h3,h4⟩:=Option.bind_eq_some_iff.mp h2
 split at h4
 ·split at h4
  ·cases h4;trivial
  ·cases h4
 ·cases h4
noncomputable def VTs (X:Cx) (ifs:List Expr) (g:M Bool):Prop:=PTs X ifs (tVT g)
noncomputable def kYes:M Bool:=fun D=>some (true,D)
theorem nG:VTs X [] kYes:=by
 intro pins s σ H Q I ⟨D,F,b,D',st,nd,hg,q⟩
 cases hg
 exact vk pins s σ H Q I (q H F st (Stp.perm nd (List.Perm.refl _)))
theorem f8 {c:Expr}{g:M Bool} (h:VT X c g):VTs X [c] g:=vn h
@[simp] noncomputable def cU (caps:List Nat) (D:SD):SD:=caps.map fun i=>D.getD i none
noncomputable def dt:List Nat→SD→SD
 | [],D=>D
 | i::r,D=>dt r (match D[i]? with | some (some _)=>D.set i (some .jk) | _=>D)
@[simp] noncomputable def cD:List Nat→SD→SD→SD
 | i::r,o::C,D=>cD r C (D.set i o)
 | _,_,D=>D
noncomputable def b7 (own : Nat) (tg : MG) (c : M Bool) (e : M Vl) : List Im → List Im → SD → Option (List Im × SD)
  | [], acc, C => some (acc, C)
  | x :: r, acc, C => (tg (.im x) (List.replicate own none ++ C)).bind fun D1 => (c D1).bind fun p => if p.1 = true then (e p.2).bind fun q => match q.1 with
      | .im d => if acc.length < 100000 then b7 own tg c e r (acc ++ [d]) (q.2.drop own) else none
      | _ => none
    else b7 own tg c e r acc (p.2.drop own)
@[simp] noncomputable def bf (own:Nat) (caps:List Nat) (gi:MI) (tg:MG) (c:M Bool) (e:M Vl):M Vl:=fun D=>(gi D).bind fun p=>(b7 own tg c e p.1.1 [] (cU caps p.2)).map fun q=>(.lst q.1,rst p.1.2 (cD caps q.2 p.2))
noncomputable def gZ (own n:Nat):List Nat:=(List.range n).map (·+own)
theorem wn {D:SD}{i:Nat}{o:Option Vl} (h:D[i]?=some o):D.getD i none=o:=by rw[List.getD_eq_getElem?_getD,h];rfl
theorem aj.void {H:Hp}{D:SD}{σ:St}{F:List Addr} (st:aj H D σ F) (i:Nat):∃ F1 F2,aj H (match D[i]? with | some (some _)=>D.set i (some .jk) | _=>D) σ F1∧d7 H (D.getD i none) (σ.getD i none) F2∧(F1++F2).Perm F:=by
 split
 ·rename_i d hd
  obtain⟨v,F1,F2,h1,h2,h3,h4⟩:=st.out hd
  refine⟨F2,F1,h3,?_,h4⟩
  rw[wn hd,List.getD_eq_getElem?_getD,h1]
  exact⟨v,rfl,h2⟩
 ·rename_i hn
  refine⟨F,[],st,?_,by rw[List.append_nil]⟩
  have:D.getD i none=none:=by
   rw[List.getD_eq_getElem?_getD]
   cases e:D[i]? with
   | none=>rfl
   | some o=>
    cases o with
    | none=>rfl
    | some d=>exact absurd e (hn d)
  rw[this]
  exact rfl
theorem nH {H:Hp}{σ:St}:∀ {caps:List Nat}{D:SD}{F:List Addr},caps.Nodup→aj H D σ F→∃ F1 F2,aj H (dt caps D) σ F1∧aj H (cU caps D) (caps.map fun i=>σ.getD i none) F2∧(F1++F2).Perm F
 | [],D,F,_,st=>⟨F,[],st,⟨rfl,rfl⟩,by rw[List.append_nil]⟩
 | i::r,D,F,nd,st=>by
  obtain⟨F1,F2,h1,h2,h3⟩:=st.void i
  have hn:=List.nodup_cons.mp nd
  obtain⟨F3,F4,g1,g2,g3⟩:=nH (caps:=r) hn.2 h1
  refine⟨F3,F2++F4,g1,⟨_,_,F2,F4,rfl,h2,?_,rfl⟩,dl.trans ((List.Perm.append_left _ g3).trans (List.perm_append_comm.trans h3))⟩
  have e:cU r (match D[i]? with | some (some _)=>D.set i (some .jk) | _=>D)=cU r D:=by
   unfold cU
   refine List.map_congr_left fun j hj=>?_
   split
   ·rw[List.getD_eq_getElem?_getD,List.getD_eq_getElem?_getD,List.getElem?_set_ne]
    rintro rfl
    exact hn.1 hj
   ·rfl
  rw[e] at g2
  exact g2
theorem aj.putO {H:Hp}{D:SD}{σ:St}{F G:List Addr}{i:Nat}{o:Option Vl} (st:aj H D σ F) (h:d7 H o (σ.getD i none) G):∃ F1 F2,aj H (D.set i o) σ F1∧(F1++F2).Perm (F++G):=by
 cases o with
 | some d=>
  obtain⟨v,e,w⟩:=h
  refine st.back w ?_
  rw[List.getD_eq_getElem?_getD] at e
  cases q:σ[i]? with
  | none=>rw[q] at e;cases e
  | some x=>rw[q] at e;rw[show x=some v from e]
 | none=>
  cases (show G=[] from h)
  rw[List.append_nil]
  by_cases hi:i<D.length
  ·cases q:D[i]? with
   | none=>exact absurd (List.getElem?_eq_none_iff.mp q) (by lia)
   | some x=>
    cases x with
    | none=>
     refine⟨F,[],?_,by rw[List.append_nil]⟩
     have:D.set i none=D:=by
      refine List.ext_getElem? fun j=>?_
      by_cases e:i=j
      ·subst e;rw[q,List.getElem?_set_self hi]
      ·rw[List.getElem?_set_ne e]
     rw[this]
     exact st
    | some d=>
     obtain⟨v,F1,F2,h1,h2,h3,h4⟩:=st.out q
     have gen:∀ {D:SD}{σ:St}{F:List Addr}{i:Nat},aj H D σ F→∃ F1 F2,aj H (D.set i none) σ F1∧(F1++F2).Perm F:=by
      intro D
      induction D with
      | nil=>intro σ F i st;exact⟨F,[],by simpa using st,by rw[List.append_nil]⟩
      | cons o D ih=>
       intro σ F i st
       obtain⟨x,r,A,B,rfl,s1,s2,rfl⟩:=st
       cases i with
       | zero=>exact⟨B,A,⟨x,r,[],B,rfl,rfl,s2,rfl⟩,List.perm_append_comm⟩
       | succ i=>
        obtain⟨C,E,c1,c2⟩:=ih (i:=i) s2
        refine⟨A++C,E,⟨x,r,A,C,rfl,s1,c1,rfl⟩,?_⟩
        rw[List.append_assoc]
        exact List.Perm.append_left _ c2
     exact gen st
  ·refine⟨F,[],?_,by rw[List.append_nil]⟩
   rw[List.set_eq_of_length_le (by lia)]
   exact st
theorem nJ {H:Hp}{σ:St}:∀ {caps:List Nat}{C D:SD}{F G:List Addr},aj H D σ F→aj H C (caps.map fun i=>σ.getD i none) G→∃ F1 F2,aj H (cD caps C D) σ F1∧(F1++F2).Perm (F++G)
 | [],C,D,F,G,st,_=>⟨F,G,by cases C<;>exact st,List.Perm.refl _⟩
 | i::r,[],D,F,G,st,h=>⟨F,G,st,List.Perm.refl _⟩
 | i::r,o::C,D,F,G,st,h=>by
  obtain⟨x,t,G1,G2,e,h1,h2,rfl⟩:=h
  cases e
  obtain⟨F1,A,g1,g2⟩:=st.putO h1
  obtain⟨F2,B,k1,k2⟩:=nJ (caps:=r) (C:=C) g1 h2
  refine⟨F2,B++A,k1,?_⟩
  rw[← List.append_assoc,← List.append_assoc]
  refine (List.Perm.append_right A k2).trans ?_
  rw[List.append_assoc]
  refine (List.Perm.append_left F1 List.perm_append_comm).trans ?_
  rw[← List.append_assoc]
  exact List.Perm.append_right _ g2
theorem wo:∀ {caps:List Nat}{C D:SD},caps.length=C.length→caps.Nodup→cD caps C (dt caps D)=cD caps C D:=by
 -- what is put over is forgotten
 have comm:∀ {r:List Nat}{C D:SD}{i:Nat}{o:Option Vl},i∉r→cD r C (D.set i o)=(cD r C D).set i o:=by
  intro r
  induction r with
  | nil=>intro C D i o _;cases C<;>rfl
  | cons j r ih=>
   intro C D i o h
   cases C with
   | nil=>rfl
   | cons c C=>
    have hj:i≠j:=fun e=>h (by rw[e];exact .head _)
    show cD r C ((D.set i o).set j c)=(cD r C (D.set j c)).set i o
    rw[List.set_comm _ _ hj,ih fun z=>h (.tail _ z)]
 have jcomm:∀ {r:List Nat}{D:SD}{i:Nat}{o:Option Vl},i∉r→dt r (D.set i o)=(dt r D).set i o:=by
  intro r
  induction r with
  | nil=>intro D i o _;rfl
  | cons j r ih=>
   intro D i o h
   have hj:i≠j:=fun e=>h (by rw[e];exact .head _)
   show dt r (match (D.set i o)[j]? with | some (some _)=>(D.set i o).set j (some .jk) | _=>D.set i o)=(dt r (match D[j]? with | some (some _)=>D.set j (some .jk) | _=>D)).set i o
   rw[List.getElem?_set_ne hj]
   cases D[j]? with
   | none=>exact ih fun z=>h (.tail _ z)
   | some q=>
    cases q with
    | none=>exact ih fun z=>h (.tail _ z)
    | some d=>
     show dt r ((D.set i o).set j (some .jk))=_
     rw[List.set_comm _ _ hj]
     exact ih fun z=>h (.tail _ z)
 intro caps
 induction caps with
 | nil=>intro C D _ _;cases C<;>rfl
 | cons i r ih=>
  intro C D hl nd
  have hn:=List.nodup_cons.mp nd
  cases C with
  | nil=>cases hl
  | cons c C=>
   have hl':r.length=C.length:=by simpa using hl
   show cD r C ((dt r (match D[i]? with | some (some _)=>D.set i (some .jk) | _=>D)).set i c)=cD r C (D.set i c)
   split
   ·rw[jcomm hn.1,List.set_set,← jcomm hn.1,ih hl' hn.2]
   ·rw[← jcomm hn.1,ih hl' hn.2]
theorem nK {H:Hp}{D:SD}{r:St}{F:List Addr} (h:aj H D r F):∀ {own:List Str},aj H (List.replicate own.length none++D) (own.map (fun _=>none)++r) F
 | []=>h
 | x::own=>⟨none,_,[],F,rfl,rfl,nK h (own:=own),rfl⟩
theorem jZ {H:Hp}:∀ {n:Nat}{D:SD}{σ:St}{F:List Addr},aj H D σ F→∃ F1 F2,aj H (D.drop n) (σ.drop n) F1∧(F1++F2).Perm F
 | 0,D,σ,F,h=>⟨F,[],h,by rw[List.append_nil]⟩
 | n+1,[],σ,F,h=>by
  cases h.1
  exact⟨[],F,⟨rfl,rfl⟩,List.Perm.refl _⟩
 | n+1,o::D,σ,F,h=>by
  obtain⟨x,r,A,B,rfl,h1,h2,rfl⟩:=h
  obtain⟨F1,F2,g1,g2⟩:=jZ (n:=n) h2
  exact⟨F1,F2++A,g1,by rw[← List.append_assoc];exact (List.Perm.append_right A g2).trans List.perm_append_comm⟩
theorem Stp.both {H H1:Hp}{F F1 R:List Addr} (a:Stp H F H1 (F1++R)):Stp H F H1 F1:=a.less (List.Perm.refl _)
theorem ak.snoc {H:Hp}:∀ {ds:List Im}{vs:List V}{d:Im}{v:V},ak H ds vs→IsI H d v→ak H (ds++[d]) (vs++[v])
 | [],vs,d,v,h,w=>by cases (show vs=[] from h);exact⟨v,[],rfl,w,rfl⟩
 | e::ds,vs,d,v,h,w=>by
  obtain⟨u,r,rfl,h1,h2⟩:=h
  exact⟨u,r++[v],rfl,h1,h2.snoc w⟩
theorem nL {own:List Str}{caps:List Nat}{gi:MI}{gt:MG}{gc:M Bool}{ge:M Vl}{σ:St}{H:Hp}{Q:VK} (nd:caps.Nodup) (h:tV (bf own.length caps gi gt gc ge) σ H Q):
  iG own caps (tI gi) (fun _=>tG (gZ own.length caps.length) gt) (fun _=>tVT gc) (fun _=>tV ge) σ H Q:=by
 obtain⟨D,F,r,D',st,ndF,hgg,q⟩:=h
 obtain⟨⟨⟨xs,o⟩,D1⟩,h1,h2⟩:=Option.bind_eq_some_iff.mp hgg
 obtain⟨⟨ds,C'⟩,h3,h4⟩:=Option.map_eq_some_iff.mp h2
 cases h4
 refine⟨D,F,(xs,o),D1,st,ndF,h1,fun J H1 F1 R st1 it ln cR s1 Y=>?_⟩
 obtain⟨Fo,Fc,so,sc,pm⟩:=nH nd st1
 have s2:Stp H F H1 (Fc++(Fo++R)):=s1.permR (by
  refine (List.Perm.append_right R pm.symm).trans ?_
  rw[List.append_assoc]
  exact dl)
 have nd2:=List.nodup_append.mp s2.nd
 have cO:∀ x∈Fo++R,Chg H1 x:=fun x hx=>by
  rcases List.mem_append.mp hx with hx | hx
  ·exact so.chg x hx
  ·exact cR x hx
 have keepO:∀ {H2:Hp}{F2:List Addr},Stp H1 Fc H2 F2→∀ a∈Fo++R,∀ u,H1 a=some u→H2 a=some u:=fun s a ha u e=>s.keep a u e fun h=>nd2.2.2 a h a ha rfl
 refine⟨fun i m ys H'=>m+i=xs.length∧∃ acc C Fc',aj H' C (caps.map fun i=>σ.getD i none) Fc'∧C.length=caps.length∧Stp H1 Fc H' Fc'∧ak H' acc ys∧b7 own.length gt gc ge (xs.drop i) acc C=some (ds,C'),
  ⟨xs.length,rfl,[],cU caps D1,Fc,sc,by rw[cU,List.length_map],Stp.perm nd2.1 (List.Perm.refl _),rfl,h3⟩,?_⟩
 rintro i m ys H' ⟨hm,acc,C,Fc',sC,lC,s',hys,hw⟩
 by_cases hlt:i<xs.length
 ·obtain⟨hgo,hy⟩:=it.go H' s'.tup (fun a ha=>keepO s' a (List.mem_append_right _ ha)) i xs[i] (by simp[hlt])
  rw[List.drop_eq_getElem_cons hlt,b7] at hw
  obtain⟨D3,w1,w2⟩:=Option.bind_eq_some_iff.mp hw
  obtain⟨⟨b,D4⟩,w3,w4⟩:=Option.bind_eq_some_iff.mp w2
  refine .inr ⟨hgo,fun ys2 H2=>(m - 1)+(i+1)=xs.length∧∃ acc C Fc',aj H2 C (caps.map fun i=>σ.getD i none) Fc'∧C.length=caps.length∧Stp H1 Fc H2 Fc'∧ak H2 acc ys2∧b7 own.length gt gc ge (xs.drop (i+1)) acc C=some (ds,C'),fun ys2 H2 h=>⟨m - 1,by lia,h⟩,fun x H2 hx=>?_⟩
  obtain⟨sm,isx⟩:=hy x H2 hx
  have sC2:=sC.mono sm.tupS fun a _ o e=>sm a o e
  have s2':=s'.same sm
  have hys2:=hys.mono sm.tupS.tup
  refine⟨List.replicate own.length none++C,Fc',.im xs[i],[],D3,nK sC2,⟨isx,rfl⟩,by rw[List.append_nil];exact s2'.nd,w1,fun σ3 H3 F3 fx3 st3 sg=>⟨fun j v hj=>?_,?_⟩⟩
  ·-- captured names stay
   have hlen:own.length≤j:=by
    by_cases hjo:j<own.length
    ·rw[da,List.getElem?_append_left (by simpa using hjo),List.getElem?_map] at hj
     cases e:own[j]? with
     | none=>rw[e] at hj;cases hj
     | some z=>rw[e] at hj;cases hj
    ·lia
   have hlt2:j<own.length+caps.length:=by
    have:=(List.getElem?_eq_some_iff.mp hj).1
    rwa [da,List.length_append,List.length_map,List.length_map] at this
   have hm:j∈gZ own.length caps.length:=List.mem_map.mpr ⟨j - own.length,List.mem_range.mpr (by lia),by lia⟩
   exact (fx3.2 j hm).trans hj
  ·have s3:Stp H1 Fc H3 F3:=s2'.seq (by rw[List.append_nil] at sg;exact sg)
   have hys2:=hys2.mono sg.tup.tup
   have σdrop:σ3.drop own.length=caps.map fun i=>σ.getD i none:=by
    have hl3:=st3.len
    refine List.ext_getElem? fun j=>?_
    by_cases hj:j<caps.length
    ·have hm:j+own.length∈gZ own.length caps.length:=List.mem_map.mpr ⟨j,List.mem_range.mpr hj,rfl⟩
     have:=fx3.2 _ hm
     rw[List.getElem?_drop,Nat.add_comm,this,da,List.getElem?_append_right (by simp),List.length_map,Nat.add_sub_cancel]
    ·have l1:σ3.length≤own.length+caps.length:=by
      rw[fx3.1,da,List.length_append,List.length_map,List.length_map]
      exact Nat.le_refl _
     rw[List.getElem?_eq_none (by rw[List.length_drop];lia),List.getElem?_eq_none (by rw[List.length_map];lia)]
   have lσ:σ3.length=own.length+caps.length:=by rw[fx3.1,da,List.length_append,List.length_map,List.length_map]
   refine⟨D3,F3,b,D4,st3,s3.nd,w3,fun H4 F4 st4 s4=>?_⟩
   have s5:=s3.seq s4
   dsimp only at w4 ⊢
   cases b with
   | false=>
    rw[if_neg Bool.false_ne_true] at w4 ⊢
    obtain⟨F5,G5,st5,pm5⟩:=jZ (n:=own.length) st4
    rw[σdrop] at st5
    exact⟨by lia,acc,D4.drop own.length,F5,st5,by rw[List.length_drop,st4.len,lσ];lia,s5.less pm5,hys2.mono s4.tup.tup,w4⟩
   | true=>
    rw[if_pos rfl] at w4 ⊢
    obtain⟨⟨v,D5⟩,w5,w6⟩:=Option.bind_eq_some_iff.mp w4
    dsimp only at w6
    split at w6
    ·rename_i d
     split at w6
     ·rename_i hl
      refine⟨D4,F4,.im d,D5,st4,s5.nd,w5,fun u H5 F5 R5 st5 ow s6=>?_⟩
      obtain⟨iu,rfl⟩:=ow
      rw[List.append_nil] at s6
      have hacc:=(hys2.mono s4.tup.tup).mono s6.tup.tup
      refine⟨Nat.lt_of_le_of_lt (show ys.length≤100000 by rw[← hacc.length];lia) (by decide),?_⟩
      obtain⟨F6,G6,st6,pm6⟩:=jZ (n:=own.length) st5
      rw[σdrop] at st6
      exact⟨by lia,acc++[d],D5.drop own.length,F6,st6,by rw[List.length_drop,st5.len,lσ];lia,(s5.seq s6).less pm6,hacc.snoc iu,w6⟩
     ·cases w6
    ·cases w6
 ·have hi:i=xs.length:=by lia
  subst hi
  refine .inl ⟨it.stop H' s'.tup (fun a ha=>keepO s' a (List.mem_append_right _ ha)),fun Dn hDn=>?_⟩
  rw[List.drop_of_length_le (Nat.le_refl _),b7] at hw
  cases hw
  have so':aj H' (dt caps D1) σ Fo:=so.mono s'.tup fun a ha=>keepO s' a (List.mem_append_left _ ha)
  obtain⟨F4,G4,st4,pm4⟩:=nJ so' sC
  rw[wo (by rw[lC]) nd] at st4
  have ln':gX H' σ R o:=by
   cases o with
   | none=>trivial
   | some p=>
    obtain⟨i,d⟩:=p
    obtain⟨v,e1,e2⟩:=ln
    exact⟨v,e1,e2.mono s'.tup fun a ha=>keepO s' a (List.mem_append_right _ ha)⟩
  obtain⟨F5,G5,st5,pm5⟩:=jW (R:=R) st4 ln'
  have sm:aH H' (upd H' Dn (.lst ys)):=(aH.refl H').upd hDn
  have s5:Stp H F H' F5:=(s2.trans s' cO).less (C:=G5++G4) (by
   rw[← List.append_assoc]
   refine (List.Perm.append_right G4 pm5).trans ?_
   rw[List.append_assoc]
   refine (List.Perm.append_left F4 List.perm_append_comm).trans ?_
   rw[← List.append_assoc]
   refine (List.Perm.append_right R pm4).trans ?_
   rw[List.append_assoc]
   exact dl)
  exact q _ _ F5 [Dn] (st5.mono sm.tupS fun a _ o e=>sm a o e) ⟨Dn,ys,rfl,cu,hys.mono sm.tupS.tup,rfl⟩ (s5.add hDn st5.chg)
theorem g7 {tg iter elt:Expr}{ifs:List Expr}{scope:Scope}{pos:Pos}{own:List Str}{caps:List Nat}{gi:MI}{gt:MG}{gc:M Bool}{ge:M Vl} (hc:X.calm=true) (S:CompScope X scope own caps) (nd:caps.Nodup) (hi:VI X tg iter gi)
  (hg:∀ Y,VG (X.blk (bH X own caps) scope Y) (gZ own.length caps.length) tg gt) (ht:∀ Y,VTs (X.blk (bH X own caps) scope Y) ifs gc) (he:∀ Y,VE (X.blk (bH X own caps) scope Y) elt ge)
  (hs:∀ x,foldedSetIterable iter X.env x=pure x:=by intro _;rfl):VE X (.ListComp elt [⟨tg,iter,ifs,0⟩] scope pos) (bf own.length caps gi gt gc ge):=
 bK (vq hc S hi hg ht he hs) fun σ H Q h=>nL nd h
end
@[simp] noncomputable def cV (fix:List Nat):List Vl→SD→Nat→List Vl
 | d::ds,o::D,j=>(if d.cp=true then d else if j∈fix then o.getD .jk else .jk)::cV fix ds D (j+1)
 | d::ds,[],j=>(if d.cp=true then d else .jk)::cV fix ds [] (j+1)
 | [],_,_=>[]
@[simp] noncomputable def bo (n m:Nat) (fix:List Nat) (g:MS):Fn:=fun ds=>if ds.length=n then match g (ds.map some++List.replicate (m - n) none) with
 | some (.rt r,D)=>some (r,cV fix ds D 0)
 | some (.nx,D)=>some (.im .non,cV fix ds D 0)
 | _=>none else none
theorem nM {H:Hp}:∀ {ds:List Vl}{vs:List V}{F:List Addr}{m:Nat},aJ H ds vs F→aj H (ds.map some++List.replicate m none) (vs.map some++List.replicate m none) F
 | [],vs,F,m,h=>by
  obtain⟨rfl,rfl⟩:=h
  show aj H (List.replicate m none) (List.replicate m none) []
  induction m with
  | zero=>exact⟨rfl,rfl⟩
  | succ m ih=>exact⟨none,_,[],[],rfl,rfl,ih,rfl⟩
 | d::ds,vs,F,m,h=>by
  obtain⟨v,r,F1,F2,rfl,h1,h2,rfl⟩:=h
  exact⟨some v,_,F1,F2,rfl,⟨v,rfl,h1⟩,nM h2,rfl⟩
theorem j5 {H H':Hp}{fix:List Nat} (t:StayS H H'):∀ {ds:List Vl}{vs:List V}{F0:List Addr}{D:SD}{σ:St}{F:List Addr}{j0:Nat},aJ H ds vs F0→aj H' D σ F→(∀ (j:Nat) (v:V),(j0+j)∈fix→vs[j]?=some v→σ[j]?=some (some v))→
  ∃ R G,aJ H' (cV fix ds D j0) vs R∧(R++G).Perm F
 | [],vs,F0,D,σ,F,j0,h,st,_=>⟨[],F,by unfold cV;exact⟨h.1,rfl⟩,List.Perm.refl _⟩
 | d::ds,vs,F0,[],σ,F,j0,h,st,k=>by
  obtain⟨v,r,A,B,rfl,h1,h2,rfl⟩:=h
  obtain⟨rfl,rfl⟩:=st
  obtain⟨R,G,g1,g2⟩:=j5 (D:=[]) (σ:=[]) (F:=[]) (j0:=j0+1) t h2 ⟨rfl,rfl⟩ fun j v hj hv=>by
   have:=k (j+1) v (by rw[show j0+(j+1)=j0+1+j by lia];exact hj) (by simpa using hv)
   simp at this
  rw[cV]
  refine⟨R,G,⟨v,r,[],R,rfl,?_,g1,rfl⟩,g2⟩
  split
  ·rename_i hc
   have:=h1.mono t fun a ha=>by rw[h1.cp hc] at ha;cases ha
   rw[h1.cp hc] at this
   exact this
  ·exact rfl
 | d::ds,vs,F0,o::D,σ,F,j0,h,st,k=>by
  obtain⟨v,r,A,B,rfl,h1,h2,rfl⟩:=h
  obtain⟨x,s,C,E,rfl,s1,s2,rfl⟩:=st
  obtain⟨R,G,g1,g2⟩:=j5 (D:=D) (σ:=s) (j0:=j0+1) t h2 s2 fun j v hj hv=>by
   have:=k (j+1) v (by rw[show j0+(j+1)=j0+1+j by lia];exact hj) (by simpa using hv)
   simpa using this
  rw[cV]
  split
  ·rename_i hc
   have hm:=h1.mono t fun a ha=>by rw[h1.cp hc] at ha;cases ha
   rw[h1.cp hc] at hm
   refine⟨R,G++C,⟨v,r,[],R,rfl,hm,g1,rfl⟩,?_⟩
   rw[← List.append_assoc]
   exact (List.Perm.append_right C g2).trans List.perm_append_comm
  ·split
   ·rename_i hf
    have hx:x=some v:=by
     have:=k 0 v hf rfl
     simpa using this
    subst hx
    cases o with
    | none=>
     refine⟨R,G++C,⟨v,r,[],R,rfl,rfl,g1,rfl⟩,?_⟩
     rw[← List.append_assoc]
     exact (List.Perm.append_right C g2).trans List.perm_append_comm
    | some e=>
     obtain⟨v',e1,w⟩:=s1
     cases e1
     refine⟨C++R,G,⟨v,r,C,R,rfl,w,g1,rfl⟩,?_⟩
     rw[List.append_assoc]
     exact List.Perm.append_left _ g2
   ·refine⟨R,G++C,⟨v,r,[],R,rfl,rfl,g1,rfl⟩,?_⟩
    rw[← List.append_assoc]
    exact (List.Perm.append_right C g2).trans List.perm_append_comm
section
variable {P:Program}{w:World}{K:PySem.W.Frag}{mg:Str→Option Value}{base:Heap}
theorem fnV {x qual:Str}{st:Stmt}{f:Addr}{fd:FuncData}{N ps:List Str}{k n:Nat}{fix:List Nat}{g:MS} (F:Fun K x qual st f fd) (S:FnScope N ps (aD st)) (hn:ps.length=n) (hfx:∀ i∈fix,i<n)
  (hb:∀ (cdv:Value) (A:Around) (outer:List Env) (s:Shared) (H:Hp) (E:XK),Room k (A.deeper (envOfC qual (aD st) s.heap.objs.size f cdv))→VSs (eO CX0 P w K mg base N qual (aD st) f cdv A outer s H E).nox fix (bx st) g):
  FnOk P w K mg base CX0 (k+1) f fd ps (spV n (bo n N.length fix g)):=by
 refine F.ok S (fun vs H Q E h=>h.1.trans hn.symm) (fun cdv A outer s H vs Q E hr h=>⟨_,hb cdv A outer s H E hr,?_⟩)
 obtain⟨hl,ds,F0,r,outs,ow,nd,hg,q⟩:=h
 have hdl:ds.length=n:=ow.length.trans hl
 unfold bo at hg
 rw[if_pos hdl] at hg
 have st:=nM (m:=N.length - n) ow
 have es:dj N vs=vs.map some++List.replicate (N.length - n) none:=by unfold dj;rw[hl]
 rw[es]
 have fin:∀ {σ':St}{H':Hp}{F':List Addr}{D':SD}{v:V}{R:List Addr},cV fix ds D' 0=outs→aG fix (vs.map some++List.replicate (N.length - n) none) σ'→aj H' D' σ' F'→Own H' r v R→Stp H F0 H' (F'++R)→Q v H':=fun {σ' H' F' D' v R} eo fx st' wr s'=>by
  obtain⟨R2,G,g1,g2⟩:=j5 (fix:=fix) (j0:=0) s'.tup ow st' fun j v hj hv=>by
   rw[Nat.zero_add] at hj
   rw[fx.2 j hj,List.getElem?_append_left (by rw[List.length_map];exact (List.getElem?_eq_some_iff.mp hv).1),List.getElem?_map,hv]
   rfl
  rw[eo] at g1
  refine q v H' R R2 wr g1 (s'.less (C:=G) ?_)
  rw[List.append_assoc]
  exact (List.Perm.append_left R g2).trans List.perm_append_comm
 split at hg
 ·rename_i r' D' e
  cases hg
  exact⟨_,F0,.rt r,D',st,nd,e,fun v σ' H' F' R fx st' wr s'=>fin rfl fx st' wr s'⟩
 ·rename_i D' e
  cases hg
  exact⟨_,F0,.nx,D',st,nd,e,fun σ' H' F' fx st' s'=>fin rfl fx st' ⟨rfl,rfl⟩ (by rw[List.append_nil];exact s')⟩
 ·cases hg
end
noncomputable def Out (H:Hp) (d:Vl) (Q:VK):Prop:=∀ v H' R,aH H H'→Own H' d v R→R.Nodup→(∀ a∈R,H a=none)→Q v H'
theorem Out.imS {H H':Hp}{d:Im}{Q:VK}{v:V} (q:Out H (.im d) Q) (s:aH H H') (h:IsI H' d v):Q v H':=q v H' [] s ⟨h,rfl⟩ List.nodup_nil (fun a ha=>nomatch ha)
theorem Out.i {H:Hp}{d:Im}{Q:VK}{v:V} (q:Out H (.im d) Q) (h:IsI H d v):Q v H:=q.imS (aH.refl H) h
theorem Out.l {H:Hp}{ds:List Im}{xs:List V}{Q:VK}{p:Addr} (q:Out H (.lst ds) Q) (hp:H p=none) (h:ak H ds xs):Q (.ref p) (upd H p (.lst xs)):=by
 have s:aH H (upd H p (.lst xs)):=(aH.refl H).upd hp
 exact q _ _ [p] s ⟨p,xs,rfl,cu,h.mono s.tupS.tup,rfl⟩ (List.pairwise_singleton _ _) fun a ha=>by rw[List.mem_singleton.mp ha];exact hp
theorem Out.t {H:Hp}{ds:List Im}{xs:List V}{Q:VK}{p:Addr} (q:Out H (.im (.tup ds)) Q) (hp:H p=none) (h:ak H ds xs):Q (.ref p) (upd H p (.tup xs)):=by
 have s:aH H (upd H p (.tup xs)):=(aH.refl H).upd hp
 exact q.imS s ⟨p,xs,rfl,cu,h.mono s.tupS.tup⟩
section
variable {X:Cx}
theorem OpR.imp {f:Value→Value→Sem Value}{r r':R2} (h:OpR X f r) (i:∀ x y H Q,r' x y H Q→r x y H Q):OpR X f r':=fun pins s σ H x y v u Q I rx ry hh=>h pins s σ H x y v u Q I rx ry (i x y H Q hh)
theorem bg.imp {f:Value}{r r':List V→Hp→VK→Prop} (h:bg X f r) (i:∀ xs H Q,r' xs H Q→r xs H Q):bg X f r':=fun pins s σ H xs us Q I rx hh=>h pins s σ H xs us Q I rx (i xs H Q hh)
theorem IxR.imp {r r':R2} (h:IxR X r) (i:∀ x y H Q,r' x y H Q→r x y H Q):IxR X r':=fun e1 e2 pins s σ H x y v u Q I rx ry hh=>h e1 e2 pins s σ H x y v u Q I rx ry (i x y H Q hh)
theorem Rdb.i {H:Hp}{d:Im}{v:V} (h:Rdb H (.im d) v):IsI H d v:=h.elim fun _ w=>w.1
end
noncomputable abbrev Op2:=Vl→Vl→Option Vl
@[simp] noncomputable def cJ (C:Int→Int→Bool) (g:Int→Int→Im):Op2:=fun a b=>match a,b with
 | .im (.int i),.im (.int j)=>if C i j=true then some (.im (g i j)) else none
 | _,_=>none
theorem nN {C:Int→Int→Bool}{g:Int→Int→Im}{a b d:Vl} (h:cJ C g a b=some d):∃ i j,a=.im (.int i)∧b=.im (.int j)∧C i j=true∧d=.im (g i j):=by
 unfold cJ at h
 split at h
 ·rename_i i j
  split at h
  ·rename_i hc
   cases h
   exact⟨i,j,rfl,rfl,hc,rfl⟩
  ·cases h
 ·cases h
section
variable {X:Cx}
theorem iR {f:Value→Value→Sem Value}{C:Int→Int→Prop}{B:Int→Int→Bool}{g:Int→Int→V}{h:Int→Int→Im} (o:OpR X f (rI C g)) (hB:∀ i j,B i j=true→C i j) (hg:∀ H i j,IsI H (h i j) (g i j)):OpV X f (cJ B h):=
 o.imp fun x y H Q ⟨d1,d2,d,r1,r2,e,q⟩=>by
  obtain⟨i,j,rfl,rfl,hc,rfl⟩:=nN e
  exact⟨i,j,r1.i,r2.i,hB i j hc,Out.i q (hg H i j)⟩
theorem g8 {f:Value→Value→Sem Value}{g:Int→Int→V}{h:Int→Int→Im} (o:OpR X f (rI0 g)) (hg:∀ H i j,IsI H (h i j) (g i j)):OpV X f (cJ (fun _ _=>true) h):=
 o.imp fun x y H Q ⟨d1,d2,d,r1,r2,e,q⟩=>by
  obtain⟨i,j,rfl,rfl,hc,rfl⟩:=nN e
  exact⟨i,j,r1.i,r2.i,Out.i q (hg H i j)⟩
@[simp] noncomputable def vSub:Op2:=cJ (fun _ _=>true) fun i j=>.int (i - j)
noncomputable def bP (i j:Int):Bool:=!(decide (Builtin.Int.intBits i > shortFactorBits) && decide (Builtin.Int.intBits j > shortFactorBits) && Builtin.Int.intTooBig (Builtin.Int.intBits i+Builtin.Int.intBits j))
@[simp] noncomputable def vMul:Op2:=cJ bP fun i j=>.int (i * j)
@[simp] noncomputable def vDiv:Op2:=cJ (fun _ j=>decide (0<j∧j<1073741824)) fun i j=>.int (i / j)
@[simp] noncomputable def vMod:Op2:=cJ (fun _ j=>decide (0<j)) fun i j=>.int (i % j)
@[simp] noncomputable def vPow:Op2:=cJ (fun i j=>decide (0≤j∧j≤1000000∧i.natAbs<2 ^ 64)) fun i j=>.int (i ^ j.toNat)
@[simp] noncomputable def vLt:Op2:=cJ (fun _ _=>true) fun i j=>.bl (decide (i<j))
@[simp] noncomputable def vLe:Op2:=cJ (fun _ _=>true) fun i j=>.bl (decide (i≤j))
@[simp] noncomputable def vGt:Op2:=cJ (fun _ _=>true) fun i j=>.bl (decide (j<i))
@[simp] noncomputable def vGe:Op2:=cJ (fun _ _=>true) fun i j=>.bl (decide (j≤i))
theorem eh:OpV X (binaryOp .Sub) vSub:=g8 tJ fun _ _ _=>rfl
theorem cW:OpV X (binaryOp .Mult) vMul:=iR vR (fun i j h=>by unfold bP at h;unfold IntMulOk;rw[Bool.not_eq_true'] at h;rw[h];exact Bool.false_ne_true) fun _ _ _=>rfl
theorem nO:OpV X (binaryOp .FloorDiv) vDiv:=iR tK (fun i j h=>show 0<j∧j<1073741824 from of_decide_eq_true h) fun _ _ _=>rfl
theorem dO:OpV X (binaryOp .Mod) vMod:=iR tL (fun i j h=>of_decide_eq_true h) fun _ _ _=>rfl
theorem iS:OpV X (binaryOp .Pow) vPow:=iR tN (fun i j h=>show 0≤j∧j≤1000000∧i.natAbs<2 ^ 64 from of_decide_eq_true h) fun _ _ _=>rfl
theorem j6:OpV X (compareOp .Lt) vLt:=g8 tR fun _ _ _=>rfl
theorem iT:OpV X (compareOp .LtE) vLe:=g8 tT fun _ _ _=>rfl
theorem wq:OpV X (compareOp .Gt) vGt:=g8 tU fun _ _ _=>rfl
theorem wt:OpV X (compareOp .GtE) vGe:=g8 tW fun _ _ _=>rfl
theorem wu:OpR X (binaryOp .Add) (fun x y H Q=>∃ a b ys,x=.ref a∧y=.ref b∧SqT X.K H a []∧SqT X.K H b ys∧Q (.ref b) H):=by
 intro pins s σ H x y v u Q I rx ry h
 obtain⟨a,b,ys,rfl,rfl,ha,hb,q⟩:=h
 cases rx
 cases ry
 obtain⟨its,r1,p1,_⟩:=I.tuple ha
 obtain⟨its2,r2,p2,_⟩:=I.tuple hb
 have e:its=[]:=r1.nil_iff.mpr rfl
 subst e
 obtain⟨⟨cls,dd,data,sl⟩,ho,hc,n,hd⟩:=id p1
 obtain⟨⟨cls2,dd2,data2,sl2⟩,ho2,hc2,n2,hd2⟩:=id p2
 simp only at hc hd hc2 hd2
 subst hc hd hc2 hd2
 exact concat_meets ⟨_,ho,rfl⟩ ⟨_,ho2,rfl⟩ noFill_tuple_add seq_tuple_add PySem.F.slot_tuple_add PySem.F.entry_tuple_add (PySem.F.args_tuple_add_2 _ _) (tuple_addW0 a b _ _ n n2 dd dd2 sl sl2 rfl) ⟨ho,ho2,.ref b,H,I,rfl,q⟩
@[simp] noncomputable def vAdd:Op2:=fun a b=>match a,b with
 | .im (.int i),.im (.int j)=>some (.im (.int (i+j)))
 | .im (.tup x),.im (.tup y)=>if x.length+y.length≤100000 then some (.im (.tup (x++y))) else none
 | .lst x,.lst y=>if x.length+y.length≤100000 then some (.lst (x++y)) else none
 | .im (.str x),.im (.str y)=>if x.length+y.length≤100000 then some (.im (.str (x++y))) else none
 | _,_=>none
theorem ak.app {H:Hp}:∀ {a b:List Im}{x y:List V},ak H a x→ak H b y→ak H (a++b) (x++y)
 | [],b,x,y,h,k=>by cases (show x=[] from h);exact k
 | d::a,b,x,y,h,k=>by
  obtain⟨v,r,rfl,h1,h2⟩:=h
  exact⟨v,r++y,rfl,h1,h2.app k⟩
theorem ak.nil {H:Hp}{a:List Im} (h:ak H a []):a=[]:=by
 cases a with
 | nil=>rfl
 | cons d a=>obtain⟨_,_,e,_⟩:=h;cases e
theorem bW:OpV X (binaryOp .Add) vAdd:=by
 refine (tH.or (wu.or (uI.or (u3.or t5)))).imp fun x y H Q ⟨d1,d2,d,r1,r2,e,q⟩=>?_
 unfold vAdd at e
 split at e
 ·cases e
  exact .inl ⟨_,_,r1.i,r2.i,Out.i q rfl⟩
 ·rename_i a b
  split at e
  ·rename_i hl
   cases e
   obtain⟨p,xs,rfl,h1,h2⟩:=r1.i
   obtain⟨p',ys,rfl,h3,h4⟩:=r2.i
   refine .inr ?_
   by_cases hx:xs=[]
   ·subst hx
    cases h2.nil
    exact .inl ⟨p,p',ys,rfl,rfl,SqT.of h1,SqT.of h3,Out.i q ⟨p',ys,rfl,h3,h4⟩⟩
   ·refine .inr (.inl ⟨p,p',xs,ys,rfl,rfl,SqT.of h1,SqT.of h3,hx,ff (by rw[← h2.length,← h4.length];exact hl),fun hy=>?_,fun hy n hn=>Out.t q hn (h2.app h4)⟩)
    subst hy
    cases h4.nil
    rw[List.append_nil] at q
    exact Out.i q ⟨p,xs,rfl,h1,h2⟩
  ·cases e
 ·rename_i a b
  split at e
  ·rename_i hl
   cases e
   obtain⟨_,p,xs,rfl,h1,h2,_⟩:=r1
   obtain⟨_,p',ys,rfl,h3,h4,_⟩:=r2
   exact .inr (.inr (.inr (.inl ⟨p,p',xs,ys,rfl,rfl,h1,h3,ff (by rw[← h2.length,← h4.length];exact hl),fun n hn=>Out.l q hn (h2.app h4)⟩)))
  ·cases e
 ·rename_i a b
  split at e
  ·rename_i hl
   cases e
   exact .inr (.inr (.inr (.inr ⟨a,b,r1.i,r2.i,ff hl,Out.i q rfl⟩)))
  ·cases e
 ·cases e
theorem wv {s:Shared} (n:Nat) {A:Around}{x y:Im}{u v:Value} (kx:Im.pl n x=true) (ky:Im.pl n y=true) (hu:A.units+n+2<cLine) (hx:ImV s.heap x u) (hy:ImV s.heap y v):SeqAt.RcAt A s u v (ap x y):=by
 cases x with
 | non=>
  cases (show u=.none from hx)
  cases y with
  | non=>cases (show v=.none from hy);exact SeqAt.RcAt.none_none
  | bl b=>cases (show v=.bool b from hy);exact SeqAt.RcAt.none_bool b
  | int j=>obtain⟨t,rfl⟩:=hy;exact SeqAt.RcAt.none_int j t
  | str z=>obtain⟨t,rfl⟩:=hy;exact SeqAt.RcAt.none_str z t
  | tup ds=>obtain⟨a,o,items,m,rfl,h1,h2,h3,_⟩:=hy;exact SeqAt.RcAt.none_tuple ⟨o,h1,h2,m,h3⟩ (by lia)
  | fn a=>cases n<;>cases ky
  | fl a=>cases n<;>cases ky
 | bl b=>
  cases (show u=.bool b from hx)
  cases y with
  | non=>cases (show v=.none from hy);exact SeqAt.RcAt.bool_none b
  | bl c=>cases (show v=.bool c from hy);exact SeqAt.RcAt.bool_bool b c
  | int j=>obtain⟨t,rfl⟩:=hy;exact SeqAt.RcAt.bool_int b j t
  | str z=>obtain⟨t,rfl⟩:=hy;exact SeqAt.RcAt.bool_str b z t
  | tup ds=>obtain⟨a,o,items,m,rfl,h1,h2,h3,_⟩:=hy;exact SeqAt.RcAt.bool_tuple b ⟨o,h1,h2,m,h3⟩ (by lia)
  | fn a=>cases n<;>cases ky
  | fl a=>cases n<;>cases ky
 | int i=>
  obtain⟨t0,rfl⟩:=hx
  cases y with
  | non=>cases (show v=.none from hy);exact SeqAt.RcAt.int_none i t0
  | bl c=>cases (show v=.bool c from hy);exact SeqAt.RcAt.int_bool i t0 c
  | int j=>obtain⟨t,rfl⟩:=hy;exact SeqAt.RcAt.int_int i t0 j t
  | str z=>obtain⟨t,rfl⟩:=hy;exact SeqAt.RcAt.int_str i t0 z t
  | tup ds=>obtain⟨a,o,items,m,rfl,h1,h2,h3,_⟩:=hy;exact SeqAt.RcAt.int_tuple i t0 ⟨o,h1,h2,m,h3⟩ (by lia)
  | fn a=>cases n<;>cases ky
  | fl a=>cases n<;>cases ky
 | str i=>
  obtain⟨t0,rfl⟩:=hx
  cases y with
  | non=>cases (show v=.none from hy);exact SeqAt.RcAt.str_none i t0
  | bl c=>cases (show v=.bool c from hy);exact SeqAt.RcAt.str_bool i t0 c
  | int j=>obtain⟨t,rfl⟩:=hy;exact SeqAt.RcAt.str_int i t0 j t
  | str z=>obtain⟨t,rfl⟩:=hy;exact SeqAt.RcAt.str_str i t0 z t
  | tup ds=>obtain⟨a,o,items,m,rfl,h1,h2,h3,_⟩:=hy;exact SeqAt.RcAt.str_tuple i t0 ⟨o,h1,h2,m,h3⟩ (by lia)
  | fn a=>cases n<;>cases ky
  | fl a=>cases n<;>cases ky
 | fn a=>cases n<;>cases kx
 | fl a=>cases n<;>cases kx
 | tup ds=>
  cases n with
  | zero=>cases kx
  | succ n=>
  obtain⟨a,o,items,m,rfl,h1,h2,h3,h4⟩:=hx
  have ta:s.heap.IsTuple a items:=⟨o,h1,h2,m,h3⟩
  cases y with
  | non=>cases (show v=.none from hy);exact SeqAt.RcAt.tuple_none ta (by lia)
  | bl c=>cases (show v=.bool c from hy);exact SeqAt.RcAt.tuple_bool c ta (by lia)
  | int j=>obtain⟨t,rfl⟩:=hy;exact SeqAt.RcAt.tuple_int j t ta (by lia)
  | str z=>obtain⟨t,rfl⟩:=hy;exact SeqAt.RcAt.tuple_str z t ta (by lia)
  | fn a=>cases ky
  | fl a=>cases ky
  | tup es=>
   obtain⟨b,o',items',m',rfl,g1,g2,g3,g4⟩:=hy
   have tb:s.heap.IsTuple b items':=⟨o',g1,g2,m',g3⟩
   have l1:=h4.length
   have l2:=g4.length
   have l3:items.toList.length=items.size:=by simp
   have l4:items'.toList.length=items'.size:=by simp
   rw[l3] at l1
   rw[l4] at l2
   have q:=SeqAt.RcAt.tuples (A:=A) (e:=fun j=>ap (ds.getD j .non) (es.getD j .non)) ta tb (by lia) fun j j1 j2=>by
    obtain⟨d1,e1,r1⟩:=h4.get (j:=j) (v:=items[j]) (by rw[Array.getElem?_toList];simp[j1])
    obtain⟨d2,e2,r2⟩:=g4.get (j:=j) (v:=items'[j]) (by rw[Array.getElem?_toList];simp[j2])
    rw[List.getD_eq_getElem?_getD,e1,List.getD_eq_getElem?_getD,e2]
    exact b9 n (c6 kx e1) (c6 ky e2) (by show A.units+1+n+1<cLine;lia) r1 r2
   rw[← l1,← l2,gH (ds:=ds) (es:=es) (fun j x y a b=>by rw[List.getD_eq_getElem?_getD,a,List.getD_eq_getElem?_getD,b];rfl)] at q
   rw[ap]
   exact q
@[simp] noncomputable def vEq:Op2:=fun a b=>match a,b with
 | .im x,.im y=>if (Im.pl 8 x && Im.pl 8 y)=true then some (.im (.bl (ap x y))) else none
 | .lst x,.lst y=>if (Im.pls 8 x && Im.pls 8 y)=true then some (.im (.bl (bw x y))) else none
 | _,_=>none
theorem j7:∀ {x y:List Im},x.length≠y.length→bw x y=false
 | [],[],h=>absurd rfl h
 | [],_::_,_=>rfl
 | _::_,[],_=>rfl
 | a::x,b::y,h=>by
  rw[bw,j7 (fun e=>h (by rw[List.length_cons,List.length_cons,e])),Bool.and_false]
theorem f9 {pins:List (Addr×Obj)}{σ:St}{H:Hp}{s:Shared} (I:Inv X pins σ H s) {a:Addr}{xs:List V}{ds:List Im} (h1:H a=some (.lst xs)) (h2:ak H ds xs):∃ its:List Value,s.heap.IsList a its.toArray∧aK s.heap ds its∧its.length=ds.length:=by
 obtain⟨z,its,n,rv,e⟩:=I.hok a _ h1
 have:=h2.imv I.hok rv
 exact⟨its,⟨_,e,rfl,n,rfl⟩,this,this.length.symm⟩
theorem j8 (hu:X.A.units+20<cLine):OpV X (compareOp .Eq) vEq:=by
 intro pins s σ H x y v u Q I rx ry ⟨d1,d2,d,r1,r2,e,q⟩
 unfold vEq at e
 split at e
 ·rename_i a b
  split at e
  ·rename_i hp
   cases e
   rw[Bool.and_eq_true] at hp
   exact wv 8 hp.1 hp.2 (by lia) (r1.i.imv I.hok rx) (r2.i.imv I.hok ry) X.prog X.w _ _ ⟨.bl _,H,I,rfl,Out.i q rfl⟩
  ·cases e
 ·rename_i a b
  split at e
  ·rename_i hp
   cases e
   rw[Bool.and_eq_true] at hp
   obtain⟨_,p,xs,rfl,h1,h2,_⟩:=r1
   obtain⟨_,p',ys,rfl,h3,h4,_⟩:=r2
   cases rx
   cases ry
   obtain⟨i1,l1,v1,n1⟩:=f9 I h1 h2
   obtain⟨i2,l2,v2,n2⟩:=f9 I h3 h4
   by_cases hl:a.length=b.length
   ·have:=SeqAt.RcAt.lists (A:=X.A) (e:=fun j=>ap (a.getD j .non) (b.getD j .non)) l1 l2 (by rw[List.size_toArray,List.size_toArray,n1,n2];exact hl) (by lia) fun j j1 j2=>by
     obtain⟨d1,e1,r1⟩:=v1.get (j:=j) (v:=i1.toArray[j]) (by simp at j1;simp[j1])
     obtain⟨d2,e2,r2⟩:=v2.get (j:=j) (v:=i2.toArray[j]) (by simp at j2;simp[j2])
     rw[List.getD_eq_getElem?_getD,e1,List.getD_eq_getElem?_getD,e2]
     exact b9 8 (c6 hp.1 e1) (c6 hp.2 e2) (by show X.A.units+1+8+1<cLine;lia) r1 r2
    refine this X.prog X.w _ _ ⟨.bl _,H,I,rfl,?_⟩
    have e5:=gH (ds:=a) (es:=b) (e:=fun j=>ap (a.getD j .non) (b.getD j .non)) (fun j x y a b=>by rw[List.getD_eq_getElem?_getD,a,List.getD_eq_getElem?_getD,b];rfl)
    rw[← hl,Nat.min_self,beq_self_eq_true,Bool.and_true] at e5
    rw[List.size_toArray,n1,e5]
    exact Out.i q rfl
   ·refine SeqAt.RcAt.lists_lengths (A:=X.A) l1 l2 (by rw[List.size_toArray,List.size_toArray,n1,n2];simpa using hl) (by lia) X.prog X.w _ _ ⟨.bl _,H,I,rfl,?_⟩
    rw[j7 hl] at q
    exact Out.i q rfl
  ·cases e
 ·cases e
end
section
variable {X:Cx}
theorem ww {s:Shared} (n:Nat) {A:Around}{x y:Im}{u v:Value} (kx:Im.pl n x=true) (ky:Im.pl n y=true) (hu:A.units+n+2<cLine) (hx:ImV s.heap x u) (hy:ImV s.heap y v):SeqAt.RcNeAt A s u v (!ap x y):=by
 cases x with
 | non=>
  cases (show u=.none from hx)
  cases y with
  | non=>cases (show v=.none from hy);exact SeqAt.RcNeAt.none_none
  | bl b=>cases (show v=.bool b from hy);exact SeqAt.RcNeAt.none_bool b
  | int j=>obtain⟨t,rfl⟩:=hy;exact SeqAt.RcNeAt.none_int j t
  | str z=>obtain⟨t,rfl⟩:=hy;exact SeqAt.RcNeAt.none_str z t
  | tup ds=>obtain⟨a,o,items,m,rfl,h1,h2,h3,_⟩:=hy;exact SeqAt.RcNeAt.none_tuple ⟨o,h1,h2,m,h3⟩ (by lia)
  | fn a=>cases n<;>cases ky
  | fl a=>cases n<;>cases ky
 | bl b=>
  cases (show u=.bool b from hx)
  cases y with
  | non=>cases (show v=.none from hy);exact SeqAt.RcNeAt.bool_none b
  | bl c=>cases (show v=.bool c from hy);exact SeqAt.RcNeAt.bool_bool b c
  | int j=>obtain⟨t,rfl⟩:=hy;exact SeqAt.RcNeAt.bool_int b j t
  | str z=>obtain⟨t,rfl⟩:=hy;exact SeqAt.RcNeAt.bool_str b z t
  | tup ds=>obtain⟨a,o,items,m,rfl,h1,h2,h3,_⟩:=hy;exact SeqAt.RcNeAt.bool_tuple b ⟨o,h1,h2,m,h3⟩ (by lia)
  | fn a=>cases n<;>cases ky
  | fl a=>cases n<;>cases ky
 | int i=>
  obtain⟨t0,rfl⟩:=hx
  cases y with
  | non=>cases (show v=.none from hy);exact SeqAt.RcNeAt.int_none i t0
  | bl c=>cases (show v=.bool c from hy);exact SeqAt.RcNeAt.int_bool i t0 c
  | int j=>obtain⟨t,rfl⟩:=hy;exact SeqAt.RcNeAt.int_int i t0 j t
  | str z=>obtain⟨t,rfl⟩:=hy;exact SeqAt.RcNeAt.int_str i t0 z t
  | tup ds=>obtain⟨a,o,items,m,rfl,h1,h2,h3,_⟩:=hy;exact SeqAt.RcNeAt.int_tuple i t0 ⟨o,h1,h2,m,h3⟩ (by lia)
  | fn a=>cases n<;>cases ky
  | fl a=>cases n<;>cases ky
 | str i=>
  obtain⟨t0,rfl⟩:=hx
  cases y with
  | non=>cases (show v=.none from hy);exact SeqAt.RcNeAt.str_none i t0
  | bl c=>cases (show v=.bool c from hy);exact SeqAt.RcNeAt.str_bool i t0 c
  | int j=>obtain⟨t,rfl⟩:=hy;exact SeqAt.RcNeAt.str_int i t0 j t
  | str z=>obtain⟨t,rfl⟩:=hy;exact SeqAt.RcNeAt.str_str i t0 z t
  | tup ds=>obtain⟨a,o,items,m,rfl,h1,h2,h3,_⟩:=hy;exact SeqAt.RcNeAt.str_tuple i t0 ⟨o,h1,h2,m,h3⟩ (by lia)
  | fn a=>cases n<;>cases ky
  | fl a=>cases n<;>cases ky
 | fn a=>cases n<;>cases kx
 | fl a=>cases n<;>cases kx
 | tup ds=>
  cases n with
  | zero=>cases kx
  | succ n=>
  obtain⟨a,o,items,m,rfl,h1,h2,h3,h4⟩:=hx
  have ta:s.heap.IsTuple a items:=⟨o,h1,h2,m,h3⟩
  cases y with
  | non=>cases (show v=.none from hy);exact SeqAt.RcNeAt.tuple_none ta (by lia)
  | bl c=>cases (show v=.bool c from hy);exact SeqAt.RcNeAt.tuple_bool c ta (by lia)
  | int j=>obtain⟨t,rfl⟩:=hy;exact SeqAt.RcNeAt.tuple_int j t ta (by lia)
  | str z=>obtain⟨t,rfl⟩:=hy;exact SeqAt.RcNeAt.tuple_str z t ta (by lia)
  | fn a=>cases ky
  | fl a=>cases ky
  | tup es=>
   obtain⟨b,o',items',m',rfl,g1,g2,g3,g4⟩:=hy
   have tb:s.heap.IsTuple b items':=⟨o',g1,g2,m',g3⟩
   have l1:=h4.length
   have l2:=g4.length
   have l3:items.toList.length=items.size:=by simp
   have l4:items'.toList.length=items'.size:=by simp
   rw[l3] at l1
   rw[l4] at l2
   have q:=SeqAt.RcNeAt.tuples (A:=A) (e:=fun j=>ap (ds.getD j .non) (es.getD j .non)) ta tb (by lia) fun j j1 j2=>by
    obtain⟨d1,e1,r1⟩:=h4.get (j:=j) (v:=items[j]) (by rw[Array.getElem?_toList];simp[j1])
    obtain⟨d2,e2,r2⟩:=g4.get (j:=j) (v:=items'[j]) (by rw[Array.getElem?_toList];simp[j2])
    rw[List.getD_eq_getElem?_getD,e1,List.getD_eq_getElem?_getD,e2]
    exact b9 n (c6 kx e1) (c6 ky e2) (by show A.units+1+n+1<cLine;lia) r1 r2
   rw[← l1,← l2,gH (ds:=ds) (es:=es) (fun j x y a b=>by rw[List.getD_eq_getElem?_getD,a,List.getD_eq_getElem?_getD,b];rfl)] at q
   rw[ap]
   exact q
@[simp] noncomputable def vNe:Op2:=fun a b=>match a,b with
 | .im x,.im y=>if (Im.pl 8 x && Im.pl 8 y)=true then some (.im (.bl (!ap x y))) else none
 | .lst x,.lst y=>if (Im.pls 8 x && Im.pls 8 y)=true then some (.im (.bl (!bw x y))) else none
 | _,_=>none
theorem g9 (hu:X.A.units+20<cLine):OpV X (compareOp .NotEq) vNe:=by
 intro pins s σ H x y v u Q I rx ry ⟨d1,d2,d,r1,r2,e,q⟩
 unfold vNe at e
 split at e
 ·rename_i a b
  split at e
  ·rename_i hp
   cases e
   rw[Bool.and_eq_true] at hp
   exact ww 8 hp.1 hp.2 (by lia) (r1.i.imv I.hok rx) (r2.i.imv I.hok ry) X.prog X.w _ _ ⟨.bl _,H,I,rfl,Out.i q rfl⟩
  ·cases e
 ·rename_i a b
  split at e
  ·rename_i hp
   cases e
   rw[Bool.and_eq_true] at hp
   obtain⟨_,p,xs,rfl,h1,h2,_⟩:=r1
   obtain⟨_,p',ys,rfl,h3,h4,_⟩:=r2
   cases rx
   cases ry
   obtain⟨i1,l1,v1,n1⟩:=f9 I h1 h2
   obtain⟨i2,l2,v2,n2⟩:=f9 I h3 h4
   by_cases hl:a.length=b.length
   ·have:=SeqAt.RcNeAt.lists (A:=X.A) (e:=fun j=>ap (a.getD j .non) (b.getD j .non)) l1 l2 (by rw[List.size_toArray,List.size_toArray,n1,n2];exact hl) (by lia) fun j j1 j2=>by
     obtain⟨d1,e1,r1⟩:=v1.get (j:=j) (v:=i1.toArray[j]) (by simp at j1;simp[j1])
     obtain⟨d2,e2,r2⟩:=v2.get (j:=j) (v:=i2.toArray[j]) (by simp at j2;simp[j2])
     rw[List.getD_eq_getElem?_getD,e1,List.getD_eq_getElem?_getD,e2]
     exact b9 8 (c6 hp.1 e1) (c6 hp.2 e2) (by show X.A.units+1+8+1<cLine;lia) r1 r2
    refine this X.prog X.w _ _ ⟨.bl _,H,I,rfl,?_⟩
    have e5:=gH (ds:=a) (es:=b) (e:=fun j=>ap (a.getD j .non) (b.getD j .non)) (fun j x y a b=>by rw[List.getD_eq_getElem?_getD,a,List.getD_eq_getElem?_getD,b];rfl)
    rw[← hl,Nat.min_self,beq_self_eq_true,Bool.and_true] at e5
    rw[List.size_toArray,n1,e5]
    exact Out.i q rfl
   ·refine SeqAt.RcNeAt.lists_lengths (A:=X.A) l1 l2 (by rw[List.size_toArray,List.size_toArray,n1,n2];simpa using hl) (by lia) X.prog X.w _ _ ⟨.bl _,H,I,rfl,?_⟩
    rw[j7 hl] at q
    exact Out.i q rfl
  ·cases e
 ·cases e
noncomputable def bC {κ:Type} [DecidableEq κ] (kvs:List (κ×Im)) (k:κ):Option Im:=(kvs.find? fun p=>decide (p.1=k)).map (·.2)
theorem gf {κ:Type} [DecidableEq κ] {H:Hp}{k:κ}:∀ {kvs:List (κ×Im)}{kws:List (κ×V)},PKv H kvs kws→(∀ d,bC kvs k=some d→∃ v,ce kws k=some v∧IsI H d v)∧(bC kvs k=none→ce kws k=none)
 | _,_,.nil=>⟨(fun d e=>by cases e),(fun _=>rfl)⟩
 | _,_,.cons (a:=p) (b:=q) h t=>by
  obtain⟨h1,h2⟩:=gf (k:=k) t
  by_cases e:p.1=k
  ·have e':q.1=k:=h.1.symm.trans e
   refine⟨fun d hd=>?_,fun hn=>?_⟩
   ·have:∀ r,bC (p::r) k=some p.2:=fun r=>by simp[bC,List.find?_cons,e]
    rw[this] at hd
    cases hd
    exact⟨q.2,iC e',h.2⟩
   ·have:∀ r,bC (p::r) k=some p.2:=fun r=>by simp[bC,List.find?_cons,e]
    rw[this] at hn
    cases hn
  ·have e':¬ q.1=k:=fun z=>e (h.1.trans z)
   have:∀ r,bC (p::r) k=bC r k:=fun r=>by simp[bC,List.find?_cons,e]
   rw[this,iD e']
   exact⟨h1,h2⟩
@[simp] noncomputable def vIx:Op2:=fun a b=>match a,b with
 | .im (.tup ds),.im (.int i)=>(atI ds i).map .im
 | .lst ds,.im (.int i)=>(atI ds i).map .im
 | .fz ds,.im (.int i)=>(atI ds i).map .im
 | .dT kvs,.im (.tup k)=>if Im.keys 7 k=true then (bC kvs k).map .im else none
 | .dK kvs,.im (.int i)=>(bC kvs (.inl i)).map .im
 | .dK kvs,.im (.str i)=>(bC kvs (.inr i)).map .im
 | _,_=>none
theorem wx (hu:X.A.units+20<cLine):IxR X (fun x y H Q=>∃ a v,x=.ref a∧bR H a y (some v)∧Q v H):=by
 intro value slice pins s σ H x y v u Q I rx ry ⟨a,z,e,g,q⟩ hs
 subst e
 cases rx
 exact tail_any (u6 I g) PySem.F.slot_dict_getitem.lookup (u4 hu I g ry fun w' s3 I3 rw'=>⟨z,H,I3,rw',q⟩) hs
theorem iU {H:Hp}{ds:List Im}{xs:List V}{i:Int}{d:Im} (h:ak H ds xs) (e:atI ds i=some d):∃ v,atI xs i=some v∧IsI H d v:=by
 unfold atI at e ⊢
 rw[← h.length]
 obtain⟨j,e1,e2⟩:=Option.bind_eq_some_iff.mp e
 obtain⟨v,g1,g2⟩:=h.get e2
 exact⟨v,by rw[e1];exact g1,g2⟩
theorem aN (hu:X.A.units+20<cLine):IxR X (fun x y H Q=>∃ d1 d2 d,Rdb H d1 x∧Rdb H d2 y∧vIx d1 d2=some d∧∀ v H' R,aH H H'→Own H' d v R→R.Nodup→(∀ a∈R,H a=none)→Q v H'):=by
 refine (uM.or (mH.or (wx hu))).imp fun x y H Q ⟨d1,d2,d,r1,r2,e,q⟩=>?_
 unfold vIx at e
 split at e
 ·obtain⟨d',e1,e2⟩:=Option.map_eq_some_iff.mp e
  cases e2
  obtain⟨p,xs,rfl,h1,h2⟩:=r1.i
  obtain⟨v,g1,g2⟩:=iU h2 e1
  exact .inr (.inl ⟨p,xs,_,v,rfl,r2.i,SqT.of h1,g1,Out.i q g2⟩)
 ·obtain⟨d',e1,e2⟩:=Option.map_eq_some_iff.mp e
  cases e2
  obtain⟨_,p,xs,rfl,h1,h2,_⟩:=r1
  obtain⟨v,g1,g2⟩:=iU h2 e1
  exact .inl ⟨p,xs,_,v,rfl,r2.i,SqL.of h1,g1,Out.i q g2⟩
 ·obtain⟨d',e1,e2⟩:=Option.map_eq_some_iff.mp e
  cases e2
  obtain⟨_,p,xs,o,rfl,h1,h2,_⟩:=r1
  obtain⟨v,g1,g2⟩:=iU h2 e1
  exact .inl ⟨p,xs,_,v,rfl,r2.i,.inl (.inr ⟨o,h1⟩),g1,Out.i q g2⟩
 ·rename_i kvs k
  split at e
  ·rename_i hk
   obtain⟨d',e1,e2⟩:=Option.map_eq_some_iff.mp e
   cases e2
   obtain⟨_,p,kws,rfl,h1,h2,_⟩:=r1
   obtain⟨v,g1,g2⟩:=(gf h2).1 d' e1
   obtain⟨b,xs,rfl,k1,k2⟩:=r2.i
   exact .inr (.inr ⟨p,v,rfl,by rw[← g1];exact bR.t h1 ⟨hk,b,xs,rfl,k1,k2⟩,Out.i q g2⟩)
  ·cases e
 ·rename_i kvs i
  obtain⟨d',e1,e2⟩:=Option.map_eq_some_iff.mp e
  cases e2
  obtain⟨_,p,kws,rfl,h1,h2,_⟩:=r1
  obtain⟨v,g1,g2⟩:=(gf h2).1 d' e1
  refine .inr (.inr ⟨p,v,rfl,?_,Out.i q g2⟩)
  rw[show y=kV (.inl i) from r2.i,← g1]
  exact bR.k h1
 ·rename_i kvs i
  obtain⟨d',e1,e2⟩:=Option.map_eq_some_iff.mp e
  cases e2
  obtain⟨_,p,kws,rfl,h1,h2,_⟩:=r1
  obtain⟨v,g1,g2⟩:=(gf h2).1 d' e1
  refine .inr (.inr ⟨p,v,rfl,?_,Out.i q g2⟩)
  rw[show y=kV (.inr i) from r2.i,← g1]
  exact bR.k h1
 ·cases e
end
end L2
namespace HT
open PySem PySem.Spec PyProof.Rows
section
variable {prog:Program}{w:World}{A:Around}{E:Value→Shared→Prop}{s:Shared}
theorem wy {t sl:Addr}{its:Array Value}{vl vu:Value}{lo hi:Option Int}{Q:Value→Shared→Prop} (p:IsTup s.heap t its) (hs:s.heap.IsSliceOf sl vl vu .none) (pl:IsPart vl lo) (pu:IsPart vu hi)
  (h0:sIx its.size 0 lo=0) (h1:sIx its.size its.size hi=its.size) (q:Q (.ref t) s):wpAny (model prog w) A (getItem (.ref t) (.ref sl)) Q E s:=by
 obtain⟨os,ho,hc,hd⟩:=id hs
 have ty:s.TypeIs (.ref sl) "slice" := ⟨os,ho,hc⟩
 unfold getItem
 try with_reducible refine wpAny_holding ?_
 first | refine wpAny_bind (wpAny_pure ?_) | skip
 refine wpAny_bind (wpAny_sequenceKey p.typeIs (by decide) ?_)
 refine wpAny_bind (wpAny_callSpecial?_slot (name:=Str.ofString "__getitem__") p.typeIs PyProof.Rows.slot_tuple_getitem (wpAny_call_entry PyProof.Rows.slot_tuple_getitem p.typeIs entry_tuple_getitem ?_ (args_tuple_getitem _ _)))
 show wpAny _ _ (Builtin.Tuple.tupleItemsOf (.ref t) >>= _) _ _ s
 refine wpAny_bind (tupleItemsOf_ p ?_)
 refine wpAny_bind (wpAny_typeOf ty ?_)
 rw[if_pos (by decide)]
 refine wpAny_bind (mz hs pl pu ?_)
 rw[h0,h1]
 show wpAny _ _ (if (((0:Nat):Int) == 0 && (1:Int) == 1 && (its.size - 0) == its.size)=true then _ else _) _ _ s
 rw[if_pos (by simp)]
 refine wpAny_bind (m:=Builtin.Tuple.tupleIsExact _) (wpAny_bind (wpAny_typeOf p.typeIs (wpAny_pure ?_)))
 show wpAny _ _ (if (Value.type "tuple" == Value.type "tuple")=true then _ else _) _ _ s
 rw[if_pos (by decide)]
 exact wpAny_bind (wpAny_rule (wpAny_pure ⟨_,rfl,wpAny_pure q⟩))
end
end HT
namespace L2
open PySem PySem.Spec PyProof.Rows
section
variable {X:Cx}
@[simp] noncomputable def du (g:M Vl):M Vl:=fun D=>(g D).bind fun p=>match p.1 with
 | .im (.int i)=>some (.im (.int (-i)),p.2)
 | _=>none
theorem iV {a:Expr}{g:M Vl}{pos:Pos} (h:VE X a g):VE X (.UnaryOp .USub a pos) (du g):=by
 refine bK (tD tQ h) fun σ H Q ⟨D,F,r,D',st,nd,hg,q⟩=>?_
 obtain⟨⟨x,D1⟩,h1,h2⟩:=Option.bind_eq_some_iff.mp hg
 refine⟨D,F,x,D1,st,nd,h1,fun v H1 F1 R st1 ow s1=>?_⟩
 dsimp only at h2
 split at h2
 ·rename_i i
  cases h2
  exact⟨i,ow.1,q _ H1 F1 [] st1 ⟨rfl,rfl⟩ (by rw[List.append_nil];exact s1.both)⟩
 ·cases h2
noncomputable def tP (g:M (Option Int)):TO:=fun σ H Q=>∃ D F l D',aj H D σ F∧F.Nodup∧g D=some (l,D')∧∀ H' F',aj H' D' σ F'→Stp H F H' F'→Q l H'
noncomputable def VP (X:Cx) (e:Option Expr) (g:M (Option Int)):Prop:=PO X e (tP g)
theorem nP {e:Option Expr}{t t':TO} (h:PO X e t) (i:∀ σ H Q,t' σ H Q→t σ H Q):PO X e t':=fun pins s σ H Q I hw=>h pins s σ H Q I (i σ H Q hw)
noncomputable def pNone:M (Option Int):=fun D=>some (none,D)
@[simp] noncomputable def j9 (g:M Vl):M (Option Int):=fun D=>(g D).bind fun p=>match p.1 with
 | .im (.int i)=>some (some i,p.2)
 | _=>none
theorem nQ:VP X none pNone:=by
 refine nP uz fun σ H Q ⟨D,F,r,D',st,nd,hg,q⟩=>?_
 cases hg
 exact q H F st (Stp.perm nd (List.Perm.refl _))
theorem nR {e:Expr}{g:M Vl} (h:VE X e g):VP X (some e) (j9 g):=by
 refine nP (uA h) fun σ H Q ⟨D,F,r,D',st,nd,hg,q⟩=>?_
 obtain⟨⟨x,D1⟩,h1,h2⟩:=Option.bind_eq_some_iff.mp hg
 refine⟨D,F,x,D1,st,nd,h1,fun v H1 F1 R st1 ow s1=>?_⟩
 dsimp only at h2
 split at h2
 ·rename_i i
  cases h2
  exact⟨i,ow.1,q H1 F1 st1 s1.both⟩
 ·cases h2
noncomputable def ci {α:Type} (xs:List α) (lo hi:Option Int):List α:=(xs.drop (HT.sIx xs.length 0 lo)).take (HT.sIx xs.length xs.length hi - HT.sIx xs.length 0 lo)
theorem ak.drop {H:Hp}:∀ {ds:List Im}{xs:List V} (n:Nat),ak H ds xs→ak H (ds.drop n) (xs.drop n)
 | ds,xs,0,h=>h
 | [],xs,n+1,h=>by cases (show xs=[] from h);exact rfl
 | d::ds,xs,n+1,h=>by
  obtain⟨v,r,rfl,h1,h2⟩:=h
  exact h2.drop n
theorem ak.take {H:Hp}:∀ {ds:List Im}{xs:List V} (n:Nat),ak H ds xs→ak H (ds.take n) (xs.take n)
 | ds,xs,0,h=>rfl
 | [],xs,n+1,h=>by cases (show xs=[] from h);exact rfl
 | d::ds,xs,n+1,h=>by
  obtain⟨v,r,rfl,h1,h2⟩:=h
  exact⟨v,_,rfl,h1,h2.take n⟩
theorem ak.cut {H:Hp}{ds:List Im}{xs:List V} (lo hi:Option Int) (h:ak H ds xs):ak H (ci ds lo hi) (dZ xs lo hi):=by
 unfold ci dZ
 rw[h.length]
 exact (h.drop _).take _
@[simp] noncomputable def vSl (d:Vl) (lo hi:Option Int):Option Vl:=match d with
 | .im (.tup ds)=>some (.im (.tup (ci ds lo hi)))
 | .lst ds=>some (.lst (ci ds lo hi))
 | .fz ds=>some (.lst (ci ds lo hi))
 | _=>none
noncomputable def wz (K:PySem.W.Frag):V→Option Int→Option Int→Hp→VK→Prop:=fun x lo hi H Q=>∃ a xs,x=.ref a∧SqT K H a xs∧HT.sIx xs.length 0 lo=0∧HT.sIx xs.length xs.length hi=xs.length∧Q (.ref a) H
theorem wA:SlR X (fun x lo hi H Q=>∃ d r,Rdb H d x∧vSl d lo hi=some r∧Out H r Q):=by
 have all:SlR X (wz X.K):=by
  intro pins s σ H x v vl vu lo hi sl Q I rx hs pl pu h
  obtain⟨a,xs,rfl,hx,h0,h1,q⟩:=h
  cases rx
  obtain⟨its,r,ht,hz⟩:=I.tuple hx
  have hlen:its.toArray.size=xs.length:=by rw[List.size_toArray];exact r.length.symm
  exact⟨"tuple",_,PyProof.Rows.slot_tuple_getitem.lookup,ht.typeIs,HT.wy ht hs pl pu (by rw[hlen];exact h0) (by rw[hlen];exact h1) ⟨.ref a,H,I,rfl,q⟩⟩
 intro pins s σ H x v vl vu lo hi sl Q I rx hs pl pu ⟨d,r,rd,e,q⟩
 unfold vSl at e
 split at e
 ·rename_i ds
  cases e
  obtain⟨p,xs,rfl,h1,h2⟩:=rd.i
  by_cases hw:HT.sIx xs.length 0 lo=0∧HT.sIx xs.length xs.length hi=xs.length
  ·refine all pins s σ H _ v vl vu lo hi sl Q I rx hs pl pu ⟨p,xs,rfl,SqT.of h1,hw.1,hw.2,Out.i q ⟨p,xs,rfl,h1,?_⟩⟩
   have:ci ds lo hi=ds:=by
    unfold ci
    rw[h2.length,hw.1,hw.2,List.drop_zero,Nat.sub_zero,← h2.length,List.take_length]
   rw[this]
   exact h2
  ·exact uG pins s σ H _ v vl vu lo hi sl Q I rx hs pl pu ⟨p,xs,rfl,SqT.of h1,hw,fun n hn=>Out.t q hn (h2.cut lo hi)⟩
 ·cases e
  obtain⟨_,p,xs,rfl,h1,h2,_⟩:=rd
  exact mI pins s σ H _ v vl vu lo hi sl Q I rx hs pl pu ⟨p,xs,rfl,SqL.of h1,fun n hn=>Out.l q hn (h2.cut lo hi)⟩
 ·cases e
  obtain⟨_,p,xs,o,rfl,h1,h2,_⟩:=rd
  exact mI pins s σ H _ v vl vu lo hi sl Q I rx hs pl pu ⟨p,xs,rfl,.inl (.inr ⟨o,h1⟩),fun n hn=>Out.l q hn (h2.cut lo hi)⟩
 ·cases e
@[simp] noncomputable def eSl (g:M Opd) (l h:M (Option Int)):M Vl:=fun D=>(g D).bind fun p=>(l p.2).bind fun q=>(h q.2).bind fun r=>(rsl r.2 p.1).bind fun d=>(vSl d q.1 r.1).map fun d'=>(d',r.2)
theorem nT {e:Expr}{lo hi:Option Expr}{g:M Opd}{gl gh:M (Option Int)}{p2 pos:Pos} (he:VO X e g) (hl:VP X lo gl) (hh:VP X hi gh):VE X (.Subscript e (.Slice lo hi none p2) pos) (eSl g gl gh):=by
 refine bK (uB wA he hl hh) fun σ H Q ⟨D,F,r,D',st,nd,hg,q⟩=>?_
 obtain⟨⟨x,D1⟩,h1,h2⟩:=Option.bind_eq_some_iff.mp hg
 obtain⟨⟨l,D2⟩,h3,h4⟩:=Option.bind_eq_some_iff.mp h2
 obtain⟨⟨u,D3⟩,h5,h6⟩:=Option.bind_eq_some_iff.mp h4
 obtain⟨d,h7,h8⟩:=Option.bind_eq_some_iff.mp h6
 obtain⟨d',h9,h10⟩:=Option.map_eq_some_iff.mp h8
 cases h10
 refine⟨D,F,x,D1,st,nd,h1,fun v H1 F1 R st1 o1 s1=>⟨D1,F1,l,D2,st1,(List.nodup_append.mp s1.nd).1,h3,fun H2 F2 st2 s2=>⟨D2,F2,u,D3,st2,s2.nd,h5,fun H3 F3 st3 s3=>?_⟩⟩⟩
 have s4:=s2.seq s3
 have o3:cy H3 σ x v R:=o1.mono s4.tup fun a ha o e=>s4.keep a o e fun h=>(List.nodup_append.mp s1.nd).2.2 a h a ha rfl
 have s5:=s1.trans s4 o1.chg
 exact⟨d,_,o3.read st3 h7,h9,fun w H4 R4 s6 ow ndR fr=>q w H4 F3 R4 (st3.mono s6.tupS fun a _ o e=>s6 a o e) ow (s5.new s6 ndR fr st3.chg)⟩
noncomputable abbrev OpN:=List Vl→Option Vl
@[simp] noncomputable def vLen:OpN:=fun ds=>match ds with
 | [.im (.tup x)]=>some (.im (.int x.length))
 | [.lst x]=>some (.im (.int x.length))
 | [.fz x]=>some (.im (.int x.length))
 | [.lstM x]=>some (.im (.int x.length))
 | [.dK x]=>some (.im (.int x.length))
 | [.im (.str x)]=>if x.length≤100000 then some (.im (.int x.length)) else none
 | _=>none
theorem bX {H:Hp}{d:Vl}{vs:List V} (h:d8 H [d] vs):∃ v,vs=[v]∧Rdb H d v:=by
 obtain⟨v,r,rfl,h1,h2⟩:=h
 cases (show r=[] from h2)
 exact⟨v,rfl,h1⟩
theorem nU {H:Hp}{d e:Vl}{vs:List V} (h:d8 H [d,e] vs):∃ v u,vs=[v,u]∧Rdb H d v∧Rdb H e u:=by
 obtain⟨v,r,rfl,h1,h2⟩:=h
 obtain⟨u,rfl,h3⟩:=bX h2
 exact⟨v,u,rfl,h1,h3⟩
theorem PKv.length {κ:Type}{H:Hp}{l:List (κ×Im)}{m:List (κ×V)} (h:PKv H l m):l.length=m.length:=Paired.length h
theorem dv:cz X (.builtin "len") vLen:=by
 refine (uS.or (uT.or vf)).imp fun xs H Q ⟨ds,d,rd,e,q⟩=>?_
 unfold vLen at e
 split at e
 ·cases e
  obtain⟨v,rfl,h⟩:=bX rd
  obtain⟨p,xs,rfl,h1,h2⟩:=h.i
  exact .inl ⟨p,xs,rfl,.inr (SqT.of h1),by rw[← h2.length];exact Out.i q rfl⟩
 ·cases e
  obtain⟨v,rfl,_,p,xs,rfl,h1,h2,_⟩:=bX rd
  exact .inl ⟨p,xs,rfl,.inl (SqL.of h1),by rw[← h2.length];exact Out.i q rfl⟩
 ·cases e
  obtain⟨v,rfl,_,p,xs,o,rfl,h1,h2,_⟩:=bX rd
  exact .inl ⟨p,xs,rfl,.inl (.inl (.inr ⟨o,h1⟩)),by rw[← h2.length];exact Out.i q rfl⟩
 ·cases e
  obtain⟨v,rfl,_,p,xs,G,rfl,h1,h2,_⟩:=bX rd
  exact .inl ⟨p,xs,rfl,.inl (SqL.of h1),by rw[← h2.length];exact Out.i q rfl⟩
 ·cases e
  obtain⟨v,rfl,_,p,kws,rfl,h1,h2,_⟩:=bX rd
  exact .inr (.inr ⟨p,kws,rfl,h1,by rw[← h2.length];exact Out.i q rfl⟩)
 ·split at e
  ·rename_i hl
   cases e
   obtain⟨v,rfl,h⟩:=bX rd
   cases (show v=_ from h.i)
   exact .inr (.inl ⟨_,rfl,ff hl,Out.i q rfl⟩)
  ·cases e
 ·cases e
@[simp] noncomputable def vTuple:OpN:=fun ds=>match ds with
 | [d]=>(dM d).map fun x=>.im (.tup x)
 | _=>none
@[simp] noncomputable def vList:OpN:=fun ds=>match ds with
 | [d]=>(dM d).map .lst
 | _=>none
theorem iW:cz X (.type "tuple") vTuple:=by
 refine uV.imp fun xs H Q ⟨ds,d,rd,e,q⟩=>?_
 unfold vTuple at e
 split at e
 ·obtain⟨x,e1,e2⟩:=Option.map_eq_some_iff.mp e
  cases e2
  obtain⟨v,rfl,h⟩:=bX rd
  unfold dM at e1
  split at e1
  ·cases e1
   obtain⟨p,xs,rfl,h1,h2⟩:=h.i
   exact⟨p,xs,rfl,.inr ⟨SqT.of h1,Out.i q ⟨p,xs,rfl,h1,h2⟩⟩⟩
  ·cases e1
   obtain⟨_,p,xs,rfl,h1,h2,_⟩:=h
   exact⟨p,xs,rfl,.inl ⟨SqL.of h1,fun l hl=>Out.t q hl h2⟩⟩
  ·cases e1
   obtain⟨_,p,xs,o,rfl,h1,h2,_⟩:=h
   exact⟨p,xs,rfl,.inl ⟨.inl (.inr ⟨o,h1⟩),fun l hl=>Out.t q hl h2⟩⟩
  ·cases e1
 ·cases e
theorem ka:cz X (.type "list") vList:=by
 refine uU.imp fun xs H Q ⟨ds,d,rd,e,q⟩=>?_
 unfold vList at e
 split at e
 ·obtain⟨x,e1,e2⟩:=Option.map_eq_some_iff.mp e
  cases e2
  obtain⟨v,rfl,h⟩:=bX rd
  unfold dM at e1
  split at e1
  ·cases e1
   obtain⟨p,xs,rfl,h1,h2⟩:=h.i
   exact⟨p,xs,rfl,.inr (SqT.of h1),fun l hl=>Out.l q hl h2⟩
  ·cases e1
   obtain⟨_,p,xs,rfl,h1,h2,_⟩:=h
   exact⟨p,xs,rfl,.inl (SqL.of h1),fun l hl=>Out.l q hl h2⟩
  ·cases e1
   obtain⟨_,p,xs,o,rfl,h1,h2,_⟩:=h
   exact⟨p,xs,rfl,.inl (.inl (.inr ⟨o,h1⟩)),fun l hl=>Out.l q hl h2⟩
  ·cases e1
 ·cases e
@[simp] noncomputable def vInt:OpN:=fun ds=>match ds with
 | [.im (.int i)]=>some (.im (.int i))
 | [.im (.bl b)]=>some (.im (.int (if b then 1 else 0)))
 | _=>none
theorem wB:cz X (.type "int") vInt:=by
 refine t8.imp fun xs H Q ⟨ds,d,rd,e,q⟩=>?_
 unfold vInt at e
 split at e
 ·cases e
  obtain⟨v,rfl,h⟩:=bX rd
  cases (show v=_ from h.i)
  exact .inl ⟨_,rfl,Out.i q rfl⟩
 ·cases e
  obtain⟨v,rfl,h⟩:=bX rd
  cases (show v=_ from h.i)
  exact .inr ⟨_,rfl,Out.i q rfl⟩
 ·cases e
@[simp] noncomputable def vMax2:OpN:=fun ds=>match ds with
 | [.im (.int i),.im (.int j)]=>some (.im (.int (if j > i then j else i)))
 | _=>none
@[simp] noncomputable def vMin2:OpN:=fun ds=>match ds with
 | [.im (.int i),.im (.int j)]=>some (.im (.int (if j<i then j else i)))
 | _=>none
theorem wC (hc:X.calm=true):cz X (.builtin "max") vMax2:=by
 refine (t6 hc).imp fun xs H Q ⟨ds,d,rd,e,q⟩=>?_
 unfold vMax2 at e
 split at e
 ·cases e
  obtain⟨v,u,rfl,h,k⟩:=nU rd
  cases (show v=_ from h.i)
  cases (show u=_ from k.i)
  exact⟨_,_,rfl,Out.i q rfl⟩
 ·cases e
theorem wD (hc:X.calm=true):cz X (.builtin "min") vMin2:=by
 refine (t7 hc).imp fun xs H Q ⟨ds,d,rd,e,q⟩=>?_
 unfold vMin2 at e
 split at e
 ·cases e
  obtain⟨v,u,rfl,h,k⟩:=nU rd
  cases (show v=_ from h.i)
  cases (show u=_ from k.i)
  exact⟨_,_,rfl,Out.i q rfl⟩
 ·cases e
end
section
variable {X:Cx}
theorem kc {x:Str}{i:Int}{t:Tok}{pos:Pos} (hg:Gl X x) (hm:X.mg x=some (.int i t)) (hd:(x == ("__debug__" : Str))=false:=by decide):VE X (.Name x pos) (eC (.int i)):=iM (lX (v:=.int i) hg hm ⟨t,rfl⟩ hd) fun _=>rfl
theorem wE {x:Str}{f:Addr}{pos:Pos} (hg:Gl X x) (hm:X.mg x=some (.ref f)) (hd:(x == ("__debug__" : Str))=false:=by decide):VE X (.Name x pos) (eC (.fn f)):=iM (lX (v:=.ref f) hg hm rfl hd) fun _=>rfl
end
theorem Stp.chg {H:Hp}{F F1:List Addr}{a:Addr}{o':HO} (ha:a∈F) (c:Chg H a) (nd:F1.Nodup) (sb:∀ x∈F1,x∈F):Stp H F (upd H a o') F1:=by
 obtain⟨o,e,ht,hf⟩:=c
 refine⟨fun x u ex hx=>?_,fun x hx=>.inl (sb x hx),nd,StayS.of (fun x xs ex=>?_) (fun x p u ex=>?_),fun x u ex=>?_⟩
 ·rw[aY (fun z=>hx (by rw[z];exact ha))]
  exact ex
 ·rw[aY]
  ·exact ex
  ·rintro rfl
   rw[e] at ex
   exact ht xs (Option.some.inj ex)
 ·rw[aY]
  ·exact ex
  ·rintro rfl
   rw[e] at ex
   exact hf p u (Option.some.inj ex)
 ·by_cases hx:x=a
  ·subst hx
   exact⟨o',cu⟩
  ·exact⟨u,(aY hx).trans ex⟩
theorem IsI.updC {H:Hp}{a:Addr}{o':HO} (c:Chg H a):TupS H (upd H a o'):=(Stp.chg (F:=[a]) (F1:=[]) (.head _) c List.nodup_nil (fun x hx=>nomatch hx)).tup.tup
noncomputable def MtV (X:Cx) (id:String) (mt:Vl→List Vl→Option (Vl×Vl)):Prop:=
 MtR X id fun x vs H Q=>∃ c ds r c' R S,Own H c x R∧aJ H ds vs S∧(R++S).Nodup∧mt c ds=some (r,c')∧∀ v H' R1 R2,Own H' r v R1→Own H' c' x R2→Stp H (R++S) H' (R1++R2)→Q v H'
@[simp] noncomputable def dg:Vl→Bool
 | .lst _=>true
 | .lstM _=>true
 | _=>false
@[simp] noncomputable def cj (ty:Vl→Bool) (i:Nat) (mt:Vl→List Vl→Option (Vl×Vl)) (g:M (List Opd)):M Vl:=fun D=>match D[i]? with
 | some (some c0)=>if ty c0=true then (g D).bind fun p=>(bd p.1 p.2).bind fun q=>match q.2[i]? with
   | some (some c)=>(mt c q.1).map fun r=>(r.1,q.2.set i (some r.2))
   | _=>none
  else none
 | _=>none
theorem wF {K:PySem.W.Frag}{T:String}{ty:Vl→Bool}{i:Nat}{mt:Vl→List Vl→Option (Vl×Vl)}{g:M (List Opd)}{σ:St}{H:Hp}{Q:VK} (hty:∀ H c x R,Own H c x R→ty c=true→tyV K T x H)
  (h:tV (cj ty i mt g) σ H Q):∃ x,σ[i]?=some (some x)∧tyV K T x H∧tA g σ H fun vs H2=>∃ c ds r c' R S,Own H2 c x R∧aJ H2 ds vs S∧(R++S).Nodup∧mt c ds=some (r,c')∧∀ v H' R1 R2,Own H' r v R1→Own H' c' x R2→Stp H2 (R++S) H' (R1++R2)→Q v H':=by
 obtain⟨D,F,r,D',st,nd,hg,q⟩:=h
 unfold cj at hg
 split at hg
 ·rename_i c0 hc0
  split at hg
  ·rename_i ht
   obtain⟨x,A0,B0,hx,w0,_,_⟩:=st.out hc0
   refine⟨x,hx,hty H c0 x _ w0 ht,?_⟩
   obtain⟨⟨os,D1⟩,h1,h2⟩:=Option.bind_eq_some_iff.mp hg
   obtain⟨⟨ds,D2⟩,h3,h4⟩:=Option.bind_eq_some_iff.mp h2
   refine⟨D,F,os,D1,st,nd,h1,fun vs H1 F1 R1 st1 o1 s1=>?_⟩
   obtain⟨F2,S,st2,ow,pm⟩:=fe st1 o1 h3
   dsimp only at h4
   split at h4
   ·rename_i c hc
    obtain⟨⟨r',c'⟩,h5,h6⟩:=Option.map_eq_some_iff.mp h4
    cases h6
    obtain⟨x',R,F3,hx',w1,st3,pm3⟩:=st2.out hc
    rw[hx] at hx'
    cases hx'
    have s2:Stp H F H1 ((R++S)++F3):=s1.permR (pm.symm.trans ((List.Perm.append_right S pm3.symm).trans (by
     rw[List.append_assoc]
     exact List.perm_append_comm)))
    have nd2:=List.nodup_append.mp s2.nd
    refine⟨c,ds,_,c',R,S,w1,ow,nd2.1,h5,fun v H' A B wa wb s3=>?_⟩
    have st4:aj H' (D2.set i (some .jk)) σ F3:=st3.mono s3.tup fun a ha o e=>s3.keep a o e fun h=>nd2.2.2 a h a ha rfl
    obtain⟨F4,G,st5,pm5⟩:=st4.back wb hx
    rw[List.set_set] at st5
    refine q v H' F4 A st5 wa ((s2.trans s3 st3.chg).less (C:=G) ?_)
    rw[List.append_assoc]
    refine (List.Perm.append_left F4 List.perm_append_comm).trans ?_
    rw[← List.append_assoc]
    refine (List.Perm.append_right A pm5).trans ?_
    rw[List.append_assoc]
    refine List.perm_append_comm.trans ?_
    rw[List.append_assoc]
    refine List.perm_append_comm.trans ?_
    rw[List.append_assoc,List.append_assoc]
    refine (List.Perm.append_left A ?_)
    exact List.perm_append_comm
   ·cases h4
  ·cases hg
 ·cases hg
section
variable {X:Cx}
theorem dP {K:PySem.W.Frag}:∀ (H:Hp) (c:Vl) (x:V) (R:List Addr),Own H c x R→dg c=true→tyV K "list" x H:=by
 intro H c x R h e
 cases c with
 | lst ds=>obtain⟨a,xs,rfl,h1,_⟩:=h;exact .inl ⟨rfl,xs,SqL.of h1⟩
 | lstM ds=>obtain⟨a,xs,G,rfl,h1,_⟩:=h;exact .inl ⟨rfl,xs,SqL.of h1⟩
 | _=>cases e
theorem fk {T:String}{name:Str}{id:String}{ty:Vl→Bool}{i:Nat}{mt:Vl→List Vl→Option (Vl×Vl)}{o e:Expr}{es:List Expr}{g:M (List Opd)}{apos cpos:Pos} (hty:∀ H c x R,Own H c x R→ty c=true→tyV X.K T x H)
  (pa:PlainAttrs T) (slot:Slot T name id) (ht:typeOf (.builtin id)=pure (.type "method_descriptor")) (hm:MtV X id mt) (ho:PE X o (fU i)) (ha:VA X (e::es) g)
  (hbase:attributeBase o name X.env (eval o X.env)=eval o X.env:=by rfl)
  (hfew:((backTo cpos (starEach (e::es) X.env)).all (fun x=>!x.1) && (backToKw cpos (keywordEach [] X.env)).all (fun x=>x.1.isSome)
   && decide ((e::es).length+([]:List Keyword).length+(if ([]:List Keyword).isEmpty then 0 else 1)<30))=true:=by rfl)
  (hline:(apos.endLine == cpos.line)=true:=by rfl) (hs:starEach (e::es) X.env=(false,eval e X.env)::starEach es X.env:=by rfl) (hplain:(backTo cpos (starEach es X.env)).any (·.1)=false:=by rfl):
  VE X (.Call (.Attribute o name apos) (e::es) [] cpos) (cj ty i mt g):=
 bK (jD pa slot ht hm ho ha hbase hfew hline hs hplain) fun σ H Q h=>by
  obtain⟨x,hx,h1,h2⟩:=wF hty h
  exact⟨x,hx,h1,h2⟩
@[simp] noncomputable def mAppend:Vl→List Vl→Option (Vl×Vl):=fun c ds=>match c,ds with
 | .lst xs,[.im d]=>if xs.length<100000 then some (.im .non,.lst (xs++[d])) else none
 | _,_=>none
theorem wG {n:Nat} (h:n<100000):n<sizeLine:=Nat.lt_of_lt_of_le h (by decide)
theorem ke:MtV X "list.append" mAppend:=by
 intro pins s σ H x vs v us Q I rx rv ⟨c,ds,r,c',R,S,wc,wd,nd,e,q⟩
 unfold mAppend at e
 split at e
 ·split at e
  ·rename_i hl
   cases e
   obtain⟨a,ys,rfl,h1,h2,rfl⟩:=wc
   obtain⟨y,t,S1,S2,rfl,⟨hy,rfl⟩,⟨rfl,rfl⟩,rfl⟩:=wd
   have c:Chg H a:=⟨_,h1,(fun _ e=>by cases e),(fun _ _ e=>by cases e)⟩
   refine uY pins s σ H _ _ v us Q I rx rv ⟨a,ys,y,rfl,rfl,h1,wG (by rw[← h2.length];exact hl),q .non _ [] [a] ⟨rfl,rfl⟩ ?_ (Stp.chg (.head _) c (List.pairwise_singleton _ _) fun x hx=>by simpa using hx)⟩
   exact⟨a,_,rfl,cu,(h2.snoc hy).mono (IsI.updC c),rfl⟩
  ·cases e
 ·cases e
@[simp] noncomputable def mPopAt:Vl→List Vl→Option (Vl×Vl):=fun c ds=>match c,ds with
 | .lst xs,[.im (.int i)]=>if 0≤i∧i<xs.length then (xs[i.toNat]?).map fun d=>(.im d,.lst (xs.eraseIdx i.toNat)) else none
 | _,_=>none
theorem ak.erase {H:Hp}:∀ {ds:List Im}{xs:List V} (n:Nat),ak H ds xs→ak H (ds.eraseIdx n) (xs.eraseIdx n)
 | [],xs,n,h=>by cases (show xs=[] from h);exact rfl
 | d::ds,xs,0,h=>by obtain⟨v,r,rfl,h1,h2⟩:=h;exact h2
 | d::ds,xs,n+1,h=>by obtain⟨v,r,rfl,h1,h2⟩:=h;exact⟨v,_,rfl,h1,h2.erase n⟩
theorem wH:MtV X "list.pop" mPopAt:=by
 intro pins s σ H x vs v us Q I rx rv ⟨c,ds,r,c',R,S,wc,wd,nd,e,q⟩
 unfold mPopAt at e
 split at e
 ·rename_i i
  split at e
  ·rename_i hi
   obtain⟨d,e1,e2⟩:=Option.map_eq_some_iff.mp e
   cases e2
   obtain⟨a,ys,rfl,h1,h2,rfl⟩:=wc
   obtain⟨y,t,S1,S2,rfl,⟨hy,rfl⟩,⟨rfl,rfl⟩,rfl⟩:=wd
   cases (show y=.int i from hy)
   obtain⟨y,g1,g2⟩:=h2.get e1
   have c:Chg H a:=⟨_,h1,(fun _ e=>by cases e),(fun _ _ e=>by cases e)⟩
   have hz:ys.length≤sizeLine:=(I.hok a _ h1).1
   have hn:=fV
   refine u0 pins s σ H _ _ v us Q I rx rv ⟨a,ys,i,i.toNat,y,rfl,rfl,h1,by lia,by have:=h2.length;lia,seqIndex_of hi.1 (by rw[← h2.length];exact hi.2),g1,q y _ [] [a] ⟨g2.mono (IsI.updC c),rfl⟩ ?_ (Stp.chg (.head _) c (List.pairwise_singleton _ _) fun x hx=>by simpa using hx)⟩
   exact⟨a,_,rfl,cu,(h2.erase _).mono (IsI.updC c),rfl⟩
  ·cases e
 ·cases e
@[simp] noncomputable def mExtend:Vl→List Vl→Option (Vl×Vl):=fun c ds=>match c,ds with
 | .lst xs,[.lst ys]=>if xs.length+ys.length≤100000 then some (.im .non,.lst (xs++ys)) else none
 | _,_=>none
theorem kf:MtV X "list.extend" mExtend:=by
 intro pins s σ H x vs v us Q I rx rv ⟨c,ds,r,c',R,S,wc,wd,nd,e,q⟩
 unfold mExtend at e
 split at e
 ·split at e
  ·rename_i hl
   cases e
   obtain⟨a,ys,rfl,h1,h2,rfl⟩:=wc
   obtain⟨y,t,S1,S2,rfl,⟨b,zs,rfl,h3,h4,rfl⟩,⟨rfl,rfl⟩,rfl⟩:=wd
   have c:Chg H a:=⟨_,h1,(fun _ e=>by cases e),(fun _ _ e=>by cases e)⟩
   refine uZ pins s σ H _ _ v us Q I rx rv ⟨a,b,ys,zs,rfl,rfl,h1,h3,ff (by rw[← h2.length,← h4.length];exact hl),q .non _ [] [a] ⟨rfl,rfl⟩ ?_ (Stp.chg (.head _) c (List.pairwise_singleton _ _) fun x hx=>by
    rw[List.nil_append] at hx
    exact List.mem_append_left _ hx)⟩
   exact⟨a,_,rfl,cu,(h2.app h4).mono (IsI.updC c),rfl⟩
  ·cases e
 ·cases e
noncomputable def kg (X:Cx) (pt:Vl→Vl→Vl→Option Vl):Prop:=
 jx X fun o i v H Q=>∃ c k d c' R S,Own H c o R∧Own H k i []∧Own H d v S∧(R++S).Nodup∧pt c k d=some c'∧∀ H' R',Own H' c' o R'→Stp H (R++S) H' R'→Q H'
@[simp] noncomputable def putV (c k d:Vl):Option Vl:=match c,k,d with
 | .lst xs,.im (.int i),.im d=>(ixN xs.length i).map fun j=>.lst (xs.set j d)
 | _,_,_=>none
theorem ak.set {H:Hp}{d:Im}{v:V} (w:IsI H d v):∀ {ds:List Im}{xs:List V} (n:Nat),ak H ds xs→ak H (ds.set n d) (xs.set n v)
 | [],xs,n,h=>by cases (show xs=[] from h);exact rfl
 | e::ds,xs,0,h=>by obtain⟨u,r,rfl,h1,h2⟩:=h;exact⟨v,r,rfl,w,h2⟩
 | e::ds,xs,n+1,h=>by obtain⟨u,r,rfl,h1,h2⟩:=h;exact⟨u,_,rfl,h1,ak.set w n h2⟩
theorem wI:kg X putV:=by
 intro pins s σ H o i v ov iv u Q I ro ri rv ⟨c,k,d,c',R,S,wc,wk,wd,nd,e,q⟩
 unfold putV at e
 split at e
 ·obtain⟨j,e1,e2⟩:=Option.map_eq_some_iff.mp e
  cases e2
  obtain⟨a,ys,rfl,h1,h2,rfl⟩:=wc
  obtain⟨hd,rfl⟩:=wd
  have c:Chg H a:=⟨_,h1,(fun _ e=>by cases e),(fun _ _ e=>by cases e)⟩
  refine uO pins s σ H _ _ _ ov iv u Q I ro ri rv ⟨a,ys,_,j,rfl,wk.1,h1,by rw[← h2.length];exact e1,q _ [a] ?_ (Stp.chg (.head _) c (List.pairwise_singleton _ _) fun x hx=>by simpa using hx)⟩
  exact⟨a,_,rfl,cu,(ak.set hd j h2).mono (IsI.updC c),rfl⟩
 ·cases e
@[simp] noncomputable def gIx (i:Nat) (gk:M Vl) (pt:Vl→Vl→Vl→Option Vl):MG:=fun d D=>match D[i]? with
 | some (some _)=>(gk D).bind fun p=>if p.1.cp=true then match p.2[i]? with
   | some (some c)=>(pt c p.1 d).map fun c'=>p.2.set i (some c')
   | _=>none
  else none
 | _=>none
theorem kh {fix:List Nat}{i:Nat}{o k:Expr}{gk:M Vl}{pt:Vl→Vl→Vl→Option Vl}{pos:Pos} (ho:PE X o (fU i)) (hk:VE X k gk) (hp:kg X pt)
  (ha:∀ v,assign (.Subscript o k pos) X.env v=(do
   let ov ← holding [v] (eval o X.env)
   let iv ← holding [v,ov] (eval k X.env)
   standAt pos
   holding [v,ov,iv] (setItem ov iv v)
   release [v,ov,iv] []):=by intro _;rfl):VG X fix (.Subscript o k pos) (gIx i gk pt):=by
 refine jV (sV ho hk hp ha) fun v σ H Q ⟨D,F,d,R,D',st,ow,nd,hg,q⟩=>?_
 unfold gIx at hg
 split at hg
 ·rename_i c0 hc0
  obtain⟨x,A0,B0,hx,w0,_,_⟩:=st.out hc0
  obtain⟨⟨kd,D1⟩,h1,h2⟩:=Option.bind_eq_some_iff.mp hg
  split at h2
  ·rename_i hcp
   refine⟨x,hx,D,F,kd,D1,st,(List.nodup_append.mp nd).1,h1,fun kv H1 F1 RK st1 wk s1=>?_⟩
   obtain rfl:=wk.cp hcp
   rw[List.append_nil] at s1
   have nd0:=List.nodup_append.mp nd
   dsimp only at h2
   split at h2
   ·rename_i c hc
    obtain⟨c',h5,h6⟩:=Option.map_eq_some_iff.mp h2
    cases h6
    obtain⟨x',RC,F3,hx',w1,st3,pm3⟩:=st1.out hc
    rw[hx] at hx'
    cases hx'
    have ow1:Own H1 d v R:=ow.mono s1.tup fun a ha o e=>s1.keep a o e fun h=>nd0.2.2 a h a ha rfl
    -- the whole: F and R
    have s2:Stp H (F++R) H1 ((RC++R)++F3):=by
     have e0:Stp H (F++R) H (F++R):=Stp.perm nd (List.Perm.refl _)
     have:=Stp.trans (F1:=F) (R:=R) e0 s1 ow.chg
     refine this.permR ((List.Perm.append_right R pm3.symm).trans ?_)
     rw[List.append_assoc]
     exact List.perm_append_comm
    have nd2:=List.nodup_append.mp s2.nd
    refine⟨c,kd,d,c',RC,R,w1,wk,ow1,nd2.1,h5,fun H' R' w' s3=>?_⟩
    have st4:aj H' (D1.set i (some .jk)) σ F3:=st3.mono s3.tup fun a ha o e=>s3.keep a o e fun h=>nd2.2.2 a h a ha rfl
    obtain⟨F4,G,st5,pm5⟩:=st4.back w' hx
    rw[List.set_set] at st5
    exact q σ H' F4 aG.refl st5 ((s2.trans s3 st3.chg).less (pm5.trans List.perm_append_comm))
   ·cases h2
  ·cases h2
 ·cases hg
end
section
variable {X:Cx}
noncomputable def nV:List Im→List Im→List Im
 | x::xs,y::ys=>.tup [x,y]::nV xs ys
 | _,_=>[]
@[simp] noncomputable def iZ (g:M (List Opd)):MI:=fun D=>(g D).bind fun p=>(cQ p.2 p.1).bind fun ds=>match ds with
 | [.im (.tup x),.im (.tup y)]=>some ((nV x y,none),p.2)
 | _=>none
@[simp] noncomputable def zO:OpN:=fun ds=>match ds with
 | [.im (.int i),.im (.int j),.im (.int k)]=>some (.im (.int (min (min i j) k)))
 | _=>none
noncomputable def er (lt:Im→Im→Bool) (x:Im):List Im→List Im
 | []=>[x]
 | y::r=>if lt x y=true then x::y::r else y::er lt x r
noncomputable def b8 (lt:Im→Im→Bool):List Im→List Im
 | []=>[]
 | x::r=>er lt x (b8 lt r)
noncomputable def ltI:Im→Im→Bool
 | .int i,.int j=>decide (i<j)
 | _,_=>false
noncomputable def ints?:List Im→Option (List Int)
 | []=>some []
 | .int i::r=>(ints? r).map fun s=>i::s
 | _::_=>none
@[simp] noncomputable def vSorted:OpN:=fun ds=>match ds with
 | [.lst x]=>(ints? x).bind fun ns=>if ns.Nodup∧ns.length≤1000 then some (.lst (b8 ltI x)) else none
 | _=>none
noncomputable def et (x:Int):List Int→List Int
 | []=>[x]
 | y::r=>if x<y then x::y::r else y::et x r
noncomputable def gg:List Int→List Int
 | []=>[]
 | x::r=>et x (gg r)
theorem nX (x:Int):∀ l:List Int,er ltI (.int x) (l.map .int)=(et x l).map .int
 | []=>rfl
 | y::r=>by
  rw[List.map_cons,er,et,ltI]
  by_cases h:x<y
  ·rw[if_pos (by simpa using h),if_pos h];rfl
  ·rw[if_neg (by simpa using h),if_neg h,nX x r];rfl
theorem nY:∀ l:List Int,b8 ltI (l.map .int)=(gg l).map .int
 | []=>rfl
 | x::r=>by rw[List.map_cons,b8,nY r,nX];rfl
theorem ki (x:Int):∀ l:List Int,(et x l).Perm (x::l)
 | []=>List.Perm.refl _
 | y::r=>by
  rw[et]
  split
  ·exact List.Perm.refl _
  ·exact ((ki x r).cons y).trans (List.Perm.swap x y r)
theorem kj:∀ l:List Int,(gg l).Perm l
 | []=>List.Perm.refl _
 | x::r=>(ki x _).trans ((kj r).cons x)
theorem nZ (x:Int):∀ l:List Int,l.Pairwise (·≤·)→(et x l).Pairwise (·≤·)
 | [],_=>List.pairwise_singleton _ _
 | y::r,h=>by
  obtain⟨h1,h2⟩:=List.pairwise_cons.mp h
  rw[et]
  split
  ·rename_i hxy
   refine List.pairwise_cons.mpr ⟨fun z hz=>?_,h⟩
   rcases List.mem_cons.mp hz with rfl | hz
   ·lia
   ·have:=h1 z hz;lia
  ·rename_i hxy
   refine List.pairwise_cons.mpr ⟨fun z hz=>?_,nZ x r h2⟩
   rcases List.mem_cons.mp ((ki x r).mem_iff.mp hz) with rfl | hz
   ·lia
   ·exact h1 z hz
theorem n5:∀ l:List Int,(gg l).Pairwise (·≤·)
 | []=>List.Pairwise.nil
 | x::r=>nZ x _ (n5 r)
theorem wJ {l:List Int} (h:l.Nodup):(gg l).Pairwise (· < ·):=by
 have h1:=n5 l
 have h2:(gg l).Nodup:=(kj l).nodup_iff.mpr h
 exact List.Pairwise.imp₂ (fun a b x y=>by lia) h1 h2
theorem n6:∀ {l m:List Int},l.Perm m→l.Pairwise (· < ·)→m.Pairwise (· < ·)→l=m
 | [],m,h,_,_=>h.nil_eq
 | a::l,[],h,_,_=>absurd h.length_eq (by simp)
 | a::l,b::m,h,hl,hm=>by
  have hl':=List.pairwise_cons.mp hl
  have hm':=List.pairwise_cons.mp hm
  have e:a=b:=by
   rcases List.mem_cons.mp (h.mem_iff.mp (.head _)) with z | z
   ·exact z
   ·rcases List.mem_cons.mp (h.mem_iff.mpr (.head _)) with y | y
    ·exact y.symm
    ·have h1:=hl'.1 b y
     have h2:=hm'.1 a z
     lia
  subst e
  rw[n6 h.cons_inv hl'.2 hm'.2]
theorem n9:∀ {x:List Im}{ns:List Int},ints? x=some ns→x=ns.map .int
 | [],ns,h=>by cases h;rfl
 | .int i::r,ns,h=>by
  rw[ints?] at h
  obtain⟨s,h1,rfl⟩:=Option.map_eq_some_iff.mp h
  rw[n9 h1];rfl
 | .non::_,_,h=>by cases h
 | .bl _::_,_,h=>by cases h
 | .str _::_,_,h=>by cases h
 | .tup _::_,_,h=>by cases h
 | .fn _::_,_,h=>by cases h
 | .fl _::_,_,h=>by cases h
theorem oa {H:Hp}:∀ {ns:List Int}{vs:List V},ak H (ns.map .int) vs→vs=ns.map V.int
 | [],vs,h=>h
 | n::r,vs,h=>by
  obtain⟨v,t,rfl,h1,h2⟩:=h
  cases (show v=.int n from h1)
  rw[oa h2]
  rfl
theorem oe {H:Hp}:∀ ns:List Int,ak H (ns.map .int) (ns.map V.int)
 | []=>rfl
 | n::r=>⟨.int n,_,rfl,rfl,oe r⟩
theorem wK (hc:X.calm=true) (hu:X.A.units+20<cLine):cz X (.builtin "sorted") vSorted:=by
 refine (vQ hc).imp fun xs H Q ⟨ds,d,rd,e,q⟩=>?_
 unfold vSorted at e
 split at e
 ·rename_i x
  obtain⟨ns,e1,e2⟩:=Option.bind_eq_some_iff.mp e
  split at e2
  ·rename_i hn
   cases e2
   obtain⟨v,rfl,_,p,xs,rfl,h1,h2,_⟩:=bX rd
   cases n9 e1
   cases oa h2
   refine⟨p,ns,rfl,h1,hn.1,hn.2,fun l ns' fl pm up=>?_⟩
   rw[nY] at q
   rw[n6 (pm.trans (kj ns).symm) up (wJ hn.1)]
   exact Out.l q fl (oe _)
  ·cases e2
 ·cases e
theorem km (hu:X.A.units+20<cLine):kg X putV:=wI
end
section
variable {X:Cx}
noncomputable def og:Im→Option Key
 | .int i=>some (.inl i)
 | .str x=>some (.inr x)
 | _=>none
@[simp] theorem zP (i:Int):og (.int i)=some (.inl i):=rfl
@[simp] theorem zQ (x:Str):og (.str x)=some (.inr x):=rfl
noncomputable def kI:Key→Im
 | .inl i=>.int i
 | .inr x=>.str x
@[simp] theorem zR (i:Int):kI (.inl i)=.int i:=rfl
@[simp] theorem zS (x:Str):kI (.inr x)=.str x:=rfl
noncomputable def gj {κ:Type} [DecidableEq κ] (kvs:List (κ×Im)) (k:κ) (d:Im):List (κ×Im):=
 if (kvs.any fun kv=>decide (kv.1=k))=true then kvs.map (fun kv=>if kv.1=k then (kv.1,d) else kv) else kvs++[(k,d)]
theorem PKv.any {κ:Type} [DecidableEq κ] {H:Hp}{k:κ}{l:List (κ×Im)}{m:List (κ×V)} (h:PKv H l m):(l.any fun kv=>decide (kv.1=k))=(m.any fun kv=>decide (kv.1=k)):=by
 unfold PKv at h
 induction h with
 | nil=>rfl
 | cons r _ ih=>rw[List.any_cons,List.any_cons,ih,r.1]
theorem PKv.upd {κ:Type} [DecidableEq κ] {H:Hp}{k:κ}{d:Im}{v:V} (w:IsI H d v) {l:List (κ×Im)}{m:List (κ×V)} (h:PKv H l m):PKv H (l.map fun kv=>if kv.1=k then (kv.1,d) else kv) (m.map fun kv=>if kv.1=k then (kv.1,v) else kv):=by
 unfold PKv at h
 induction h with
 | nil=>exact .nil
 | @cons p q _ _ r _ ih=>
  rw[List.map_cons,List.map_cons]
  refine .cons ?_ ih
  by_cases e:p.1=k
  ·have e':q.1=k:=r.1.symm.trans e
   rw[if_pos e,if_pos e']
   exact⟨r.1,w⟩
  ·have e':¬ q.1=k:=fun z=>e (r.1.trans z)
   rw[if_neg e,if_neg e']
   exact r
theorem wL {α β:Type}{F:α→β→Prop}{l:List α}{m:List β}{a:α}{b:β} (h:Paired F l m) (x:F a b):Paired F (l++[a]) (m++[b]):=by
 induction h with
 | nil=>exact .cons x .nil
 | cons r _ ih=>exact .cons r ih
theorem PKv.put {κ:Type} [DecidableEq κ] {H:Hp}{k:κ}{d:Im}{v:V} (w:IsI H d v) {l:List (κ×Im)}{m:List (κ×V)} (h:PKv H l m):PKv H (gj l k d) (fW m k v):=by
 unfold gj fW
 rw[h.any]
 split
 ·exact h.upd w
 ·exact wL h ⟨rfl,w⟩
end
section
variable {X:Cx}
noncomputable def oh:Opd→Vl→Option (Nat×Vl)
 | .sl i,d=>some (i,d)
 | .vl _,_=>none
@[simp] theorem zT (i:Nat) (d:Vl):oh (.sl i) d=some (i,d):=rfl
@[simp] theorem zU (c d:Vl):oh (.vl c) d=none:=rfl
end
section
variable {prog:Program}{w:World}{A:Around}{E:Value→Shared→Prop}{s:Shared}
end
section
variable {X:Cx}
end
section
variable {X:Cx}
end
section
variable {prog:Program}{w:World}{A:Around}{E:Value→Shared→Prop}{s:Shared}
end
section
variable {prog:Program}{w:World}{A:Around}{E:Value→Shared→Prop}{s:Shared}
end
section
variable {X:Cx}
end
section
variable {X:Cx}
end
section
variable {X:Cx}
end
section
variable {X:Cx}
theorem wM {i0:Nat}{x0:Str}{pos' spos:Pos}{tg iter elt:Expr}{ifs:List Expr}{scope:Scope}{pos:Pos}{own:List Str}{caps:List Nat}{wi:TI}{g:Blk→TG}{tt:Blk→TT}{te:Blk→TE}
  (hN:X.N.Nodup) (hi0:X.N[i0]?=some x0) (hx0:Loc X.env.scope x0) (hc:X.calm=true) (S:CompScope X scope own caps) (hi:PI X tg iter wi)
  (hg:∀ Y,PG (X.blk (bH X own caps) scope Y) tg (g Y)) (ht:∀ Y,PTs (X.blk (bH X own caps) scope Y) ifs (tt Y)) (he:∀ Y,PE (X.blk (bH X own caps) scope Y) elt (te Y))
  (hs:∀ x,foldedSetIterable iter X.env x=pure x:=by intro _;rfl) (hsw:swapsWith (.ListComp elt [⟨tg,iter,ifs,0⟩] scope pos) (some (.Name x0 pos')) spos.line X.env=pure true:=by rfl)
  (hf0:X.fn x0=true∨X.env.scope.names.lookup x0=some .local:=by first | exact .inl rfl | exact .inr rfl | assumption):
  PS X (.Assign [.Name x0 pos'] (.ListComp elt [⟨tg,iter,ifs,0⟩] scope pos) spos) (jz (iG own caps wi g tt te) (jy i0)):=by
 intro pins s σ H Dn I h
 rw[exec_Assign_Name_used _ _ _ _ hsw]
 refine wpAny_bind (wpAny_standAt (wpAny_bind ?_))
 show wpAny _ X.A (do let _ ← comprehension (.ListComp elt [⟨tg,iter,ifs,0⟩] scope pos) scope X.env _ (newList []) false (eval iter X.env) (some (assign (.Name x0 pos') X.env))) _ _ s
 refine wpAny_bind (wpAny_mono (mQ (use:=some (assign (.Name x0 pos') X.env)) (Qp:=fun _ s'=>SP X pins Dn .next s') hc S hi hg ht he hs I h fun D C H4 s4 m I4 hn f nLC nCC z p q=>?_) (fun _ s' hq=>wpAny_pure (wpAny_pure hq)) fun _ _ e=>e)
 show wpAny _ X.A (assign (.Name x0 pos') X.env (.ref D)) _ _ s4
 refine wpAny_assign_Name (lU I4 hN hi0 hx0 (v:=.ref D) rfl (fun s5 I5 h5=>?_) hf0)
 obtain⟨a,sb5,ha⟩:=h5
 have naC:C≠a:=by
  rcases ha with rfl | ha
  ·exact Ne.symm nLC
  ·exact Ne.symm (nCC _ _ ha)
 exact⟨m,hn.sameBut sb5 naC,fun h' sb=>⟨_,_,I5.turned (it:=C) (t':=s5.toks) (fun b o hb e=>(sb.2 b hb).trans e) f (Ne.symm nLC) (.inr z) nCC p,q⟩⟩
end
section
variable {X:Cx}
theorem ko {fix:List Nat}{i:Nat}{x0:Str}{pos' spos:Pos}{tg iter elt:Expr}{ifs:List Expr}{scope:Scope}{pos:Pos}{own:List Str}{caps:List Nat}{gi:MI}{gt:MG}{gc:M Bool}{ge:M Vl}
  (hN:X.N.Nodup) (hi0:X.N[i]?=some x0) (hx0:Loc X.env.scope x0) (hc:X.calm=true) (S:CompScope X scope own caps) (nd:caps.Nodup) (hi:VI X tg iter gi)
  (hg:∀ Y,VG (X.blk (bH X own caps) scope Y) (gZ own.length caps.length) tg gt) (ht:∀ Y,VTs (X.blk (bH X own caps) scope Y) ifs gc) (he:∀ Y,VE (X.blk (bH X own caps) scope Y) elt ge) (hf:i∉fix)
  (hs:∀ x,foldedSetIterable iter X.env x=pure x:=by intro _;rfl) (hsw:swapsWith (.ListComp elt [⟨tg,iter,ifs,0⟩] scope pos) (some (.Name x0 pos')) spos.line X.env=pure true:=by rfl)
  (hf0:X.fn x0=true∨X.env.scope.names.lookup x0=some .local:=by first | exact .inl rfl | exact .inr rfl | assumption):
  VS X fix (.Assign [.Name x0 pos'] (.ListComp elt [⟨tg,iter,ifs,0⟩] scope pos) spos) (aw i (bf own.length caps gi gt gc ge)):=by
 refine dq (wM hN hi0 hx0 hc S hi hg ht he hs hsw hf0) fun E σ H ⟨D,F,fl,D',st,nd',hgg,q⟩=>?_
 obtain⟨⟨r,D1⟩,h1,h2⟩:=Option.bind_eq_some_iff.mp hgg
 split at h2
 ·rename_i hl
  cases h2
  refine nL nd ⟨D,F,r,_,st,nd',h1,fun v H1 F1 R st1 ow s1=>?_⟩
  obtain⟨F2,R2,st2,pm⟩:=st1.put (i:=i) ow hl
  exact q _ H1 F2 (aG.set hf) st2 (s1.less pm)
 ·cases h2
end
section
variable {X:Cx}
noncomputable def oj:Vl→Vl
 | .lst x=>.im (.fl x)
 | d=>d
@[simp] theorem zV (x:List Im):oj (.lst x)=.im (.fl x):=rfl
@[simp] theorem zW (d:Im):oj (.im d)=.im d:=rfl
end
end L2
namespace HT
open PySem PySem.Spec PyProof.Rows
section
variable {prog:Program}{w:World}{A:Around}{E:Value→Shared→Prop}{s:Shared}
end
end HT
namespace L2
open PySem PySem.Spec PyProof.Rows
section
variable {X:Cx}
end
theorem ol {h:Heap}:∀ (n:Nat) {x y:Im}{v:Value},Im.pl n x=true→Im.pl n y=true→ImV h x v→ImV h y v→x=y
 | n,.non,y,v,_,ky,hx,hy=>by
  cases (show v=.none from hx)
  cases y with
  | non=>rfl
  | bl b=>cases hy
  | int j=>obtain⟨u,e⟩:=hy;cases e
  | str z=>obtain⟨u,e⟩:=hy;cases e
  | tup ds=>obtain⟨_,_,_,_,e,_⟩:=hy;cases e
  | fn a=>cases n<;>cases ky
  | fl a=>cases n<;>cases ky
 | n,.bl b,y,v,_,ky,hx,hy=>by
  cases (show v=.bool b from hx)
  cases y with
  | non=>cases hy
  | bl c=>cases hy;rfl
  | int j=>obtain⟨u,e⟩:=hy;cases e
  | str z=>obtain⟨u,e⟩:=hy;cases e
  | tup ds=>obtain⟨_,_,_,_,e,_⟩:=hy;cases e
  | fn a=>cases n<;>cases ky
  | fl a=>cases n<;>cases ky
 | n,.int i,y,v,_,ky,hx,hy=>by
  obtain⟨t,rfl⟩:=hx
  cases y with
  | non=>cases hy
  | bl c=>cases hy
  | int j=>obtain⟨u,e⟩:=hy;injection e with e;rw[e]
  | str z=>obtain⟨u,e⟩:=hy;cases e
  | tup ds=>obtain⟨_,_,_,_,e,_⟩:=hy;cases e
  | fn a=>cases n<;>cases ky
  | fl a=>cases n<;>cases ky
 | n,.str i,y,v,_,ky,hx,hy=>by
  obtain⟨t,rfl⟩:=hx
  cases y with
  | non=>cases hy
  | bl c=>cases hy
  | int j=>obtain⟨u,e⟩:=hy;cases e
  | str z=>obtain⟨u,e⟩:=hy;injection e with e;rw[e]
  | tup ds=>obtain⟨_,_,_,_,e,_⟩:=hy;cases e
  | fn a=>cases n<;>cases ky
  | fl a=>cases n<;>cases ky
 | n+1,.tup ds,y,v,kx,ky,hx,hy=>by
  obtain⟨a,o,items,m,rfl,h1,h2,h3,h4⟩:=hx
  cases y with
  | non=>cases hy
  | bl c=>cases hy
  | int j=>obtain⟨u,e⟩:=hy;cases e
  | str z=>obtain⟨u,e⟩:=hy;cases e
  | fn a=>cases ky
  | fl a=>cases ky
  | tup es=>
   obtain⟨a',o',items',m',e,g1,g2,g3,g4⟩:=hy
   cases e
   rw[h1] at g1
   cases g1
   rw[h3] at g3
   injection g3 with g3 _
   subst g3
   have all:∀ (ds es:List Im) (vs:List Value),Im.pls n ds=true→Im.pls n es=true→aK h ds vs→aK h es vs→ds=es:=by
    intro ds
    induction ds with
    | nil=>
     intro es vs _ _ a b
     cases es with
     | nil=>rfl
     | cons e es=>obtain⟨_,_,q,_⟩:=b;rw[show vs=[] from a] at q;cases q
    | cons d ds ih=>
     intro es vs k1 k2 a b
     obtain⟨v,r,rfl,a1,a2⟩:=a
     cases es with
     | nil=>cases (show v::r=[] from b)
     | cons e es=>
      obtain⟨v',r',q,b1,b2⟩:=b
      cases q
      rw[Im.pls,Bool.and_eq_true] at k1 k2
      rw[ol n k1.1 k2.1 a1 b1,ih es r k1.2 k2.2 a2 b2]
   rw[all ds es _ kx ky h4 g4]
 | 0,.tup _,_,_,k,_,_,_=>by cases k
 | n,.fn _,_,_,k,_,_,_=>by cases n<;>cases k
 | n,.fl _,_,_,k,_,_,_=>by cases n<;>cases k
open Classical in
noncomputable def cX (h:Heap) (d:Im) (v:Value):Bool:=if z:∃ x,Im.pl 8 x=true∧ImV h x v then ap z.choose d else false
theorem dw {h:Heap}{d x:Im}{v:Value} (k:Im.pl 8 x=true) (i:ImV h x v):cX h d v=ap x d:=by
 unfold cX
 have z:∃ x,Im.pl 8 x=true∧ImV h x v:=⟨x,k,i⟩
 rw[dif_pos z,ol 8 z.choose_spec.1 k z.choose_spec.2 i]
theorem hU {h:Heap}{d:Im}:∀ {ds:List Im}{vs:List Value},Im.pls 8 ds=true→aK h ds vs→vs.any (cX h d)=ds.any fun x=>ap x d
 | [],vs,_,e=>by rw[show vs=[] from e];rfl
 | x::ds,vs,k,e=>by
  obtain⟨v,r,rfl,h1,h2⟩:=e
  rw[Im.pls,Bool.and_eq_true] at k
  rw[List.any_cons,List.any_cons,dw k.1 h1,hU k.2 h2]
theorem fm {h:Heap}:∀ {ds:List Im}{vs:List Value}{v:Value},Im.pls 8 ds=true→aK h ds vs→v∈vs→∃ x,Im.pl 8 x=true∧ImV h x v
 | [],vs,v,_,e,m=>by rw[show vs=[] from e] at m;cases m
 | x::ds,vs,v,k,e,m=>by
  obtain⟨u,r,rfl,h1,h2⟩:=e
  rw[Im.pls,Bool.and_eq_true] at k
  rcases List.mem_cons.mp m with rfl | m
  ·exact⟨x,k.1,h1⟩
  ·exact fm k.2 h2 m
section
variable {X:Cx}
noncomputable def inB (d:Im):Vl→Option Bool
 | .im (.tup ds)=>if (Im.pl 8 d && Im.pls 8 ds)=true then some (ds.any fun x=>ap x d) else none
 | .lst ds=>if (Im.pl 8 d && Im.pls 8 ds)=true then some (ds.any fun x=>ap x d) else none
 | .dT kvs=>match d with
  | .tup k=>if Im.keys 7 k=true then some (bC kvs k).isSome else none
  | _=>none
 | .dK kvs=>match d with
  | .int i=>some (bC kvs (.inl i)).isSome
  | .str x=>some (bC kvs (.inr x)).isSome
  | _=>none
 | _=>none
@[simp] theorem om (d:Im) (ds:List Im):inB d (.im (.tup ds))=if (Im.pl 8 d && Im.pls 8 ds)=true then some (ds.any fun x=>ap x d) else none:=rfl
@[simp] theorem wN (d:Im) (ds:List Im):inB d (.lst ds)=if (Im.pl 8 d && Im.pls 8 ds)=true then some (ds.any fun x=>ap x d) else none:=rfl
@[simp] theorem zX (k:List Im) (kvs:List (List Im×Im)):inB (.tup k) (.dT kvs)=if Im.keys 7 k=true then some (bC kvs k).isSome else none:=rfl
@[simp] noncomputable def vIn:Op2:=fun a b=>match a with
 | .im d=>(inB d b).map fun r=>.im (.bl r)
 | _=>none
@[simp] noncomputable def vNotIn:Op2:=fun a b=>match a with
 | .im d=>(inB d b).map fun r=>.im (.bl (!r))
 | _=>none
theorem gm {κ:Type} [DecidableEq κ] {H:Hp}{k:κ}{kvs:List (κ×Im)}{kws:List (κ×V)} (h:PKv H kvs kws):(ce kws k).isSome=(bC kvs k).isSome:=by
 cases e:bC kvs k with
 | none=>rw[(gf h).2 e];rfl
 | some d=>obtain⟨v,h1,_⟩:=(gf h).1 d e;rw[h1];rfl
theorem wO {pins:List (Addr×Obj)}{σ:St}{H:Hp}{s:Shared}{x y:V}{v u:Value}{d:Im}{d2:Vl}{b:Bool}{Q:Value→Shared→Prop} (hu:X.A.units+20<cLine) (I:Inv X pins σ H s) (rx:av x v) (ry:av y u) (i1:IsI H d x) (r2:Rdb H d2 y) (e:inB d d2=some b)
  (q:∀ s',Inv X pins σ H s'→Q (.bool b) s'):wpAny (model X.prog X.w) X.A (compareOp .In v u) Q X.xe s:=by
 unfold inB at e
 split at e
 ·rename_i ds
  split at e
  ·rename_i hp
   cases e
   rw[Bool.and_eq_true] at hp
   obtain⟨a,xs,rfl,h1,h2⟩:=r2.i
   cases ry
   obtain⟨its,rv,p,_⟩:=I.tuple (SqT.of h1)
   have iv:=h2.imv I.hok rv
   refine SeqAt.in_tupleAt (cX s.heap d) (show s.heap.IsTuple a its.toArray from p) (fun w hw=>?_) ?_
   ·obtain⟨z,z1,z2⟩:=fm hp.2 iv (by simpa using hw)
    rw[dw z1 z2]
    exact b9 8 z1 hp.1 (by show X.A.units+1+8+1<cLine;lia) z2 (i1.imv I.hok rx)
   ·rw[List.any_toArray,hU hp.2 iv]
    exact q s I
  ·cases e
 ·rename_i ds
  split at e
  ·rename_i hp
   cases e
   rw[Bool.and_eq_true] at hp
   obtain⟨_,a,xs,rfl,h1,h2,_⟩:=r2
   cases ry
   obtain⟨its,p,iv,_⟩:=f9 I h1 h2
   refine SeqAt.in_listAt (cX s.heap d) p (fun w hw=>?_) ?_
   ·obtain⟨z,z1,z2⟩:=fm hp.2 iv (by simpa using hw)
    rw[dw z1 z2]
    exact b9 8 z1 hp.1 (by show X.A.units+1+8+1<cLine;lia) z2 (i1.imv I.hok rx)
   ·rw[List.any_toArray,hU hp.2 iv]
    exact q s I
  ·cases e
 ·rename_i kvs
  split at e
  ·rename_i k
   split at e
   ·rename_i hk
    cases e
    obtain⟨_,a,kws,rfl,h1,h2,_⟩:=r2
    cases ry
    obtain⟨b,ys,rfl,g1,g2⟩:=i1
    rw[← gm h2] at q
    exact jF hu I (bR.t h1 ⟨hk,b,ys,rfl,g1,g2⟩) rx q
   ·cases e
  ·cases e
 ·rename_i kvs
  split at e
  ·rename_i i
   cases e
   obtain⟨_,a,kws,rfl,h1,h2,_⟩:=r2
   cases ry
   rw[← gm h2] at q
   cases (show x=kV (.inl i) from i1)
   exact jF hu I (bR.k h1) rx q
  ·rename_i i
   cases e
   obtain⟨_,a,kws,rfl,h1,h2,_⟩:=r2
   cases ry
   rw[← gm h2] at q
   cases (show x=kV (.inr i) from i1)
   exact jF hu I (bR.k h1) rx q
  ·cases e
 ·cases e
theorem kq (hu:X.A.units+20<cLine):OpV X (compareOp .In) vIn:=by
 intro pins s σ H x y v u Q I rx ry ⟨d1,d2,d,r1,r2,e,q⟩
 unfold vIn at e
 split at e
 ·obtain⟨b,e1,e2⟩:=Option.map_eq_some_iff.mp e
  cases e2
  exact wO hu I rx ry r1.i r2 e1 fun s' I'=>⟨.bl b,H,I',rfl,Out.i q rfl⟩
 ·cases e
theorem wP {pins:List (Addr×Obj)}{σ:St}{H:Hp}{s:Shared}{x y:V}{v u:Value}{d:Im}{d2:Vl}{b:Bool}{Q:Value→Shared→Prop} (hu:X.A.units+20<cLine) (I:Inv X pins σ H s) (rx:av x v) (ry:av y u) (i1:IsI H d x) (r2:Rdb H d2 y) (e:inB d d2=some b)
  (q:∀ s',Inv X pins σ H s'→Q (.bool (!b)) s'):wpAny (model X.prog X.w) X.A (compareOp .NotIn v u) Q X.xe s:=by
 unfold inB at e
 split at e
 ·rename_i ds
  split at e
  ·rename_i hp
   cases e
   rw[Bool.and_eq_true] at hp
   obtain⟨a,xs,rfl,h1,h2⟩:=r2.i
   cases ry
   obtain⟨its,rv,p,_⟩:=I.tuple (SqT.of h1)
   have iv:=h2.imv I.hok rv
   refine SeqAt.notIn_tupleAt (cX s.heap d) (show s.heap.IsTuple a its.toArray from p) (fun w hw=>?_) ?_
   ·obtain⟨z,z1,z2⟩:=fm hp.2 iv (by simpa using hw)
    rw[dw z1 z2]
    exact b9 8 z1 hp.1 (by show X.A.units+1+8+1<cLine;lia) z2 (i1.imv I.hok rx)
   ·rw[List.any_toArray,hU hp.2 iv]
    exact q s I
  ·cases e
 ·rename_i ds
  split at e
  ·rename_i hp
   cases e
   rw[Bool.and_eq_true] at hp
   obtain⟨_,a,xs,rfl,h1,h2,_⟩:=r2
   cases ry
   obtain⟨its,p,iv,_⟩:=f9 I h1 h2
   refine SeqAt.notIn_listAt (cX s.heap d) p (fun w hw=>?_) ?_
   ·obtain⟨z,z1,z2⟩:=fm hp.2 iv (by simpa using hw)
    rw[dw z1 z2]
    exact b9 8 z1 hp.1 (by show X.A.units+1+8+1<cLine;lia) z2 (i1.imv I.hok rx)
   ·rw[List.any_toArray,hU hp.2 iv]
    exact q s I
  ·cases e
 ·rename_i kvs
  split at e
  ·rename_i k
   split at e
   ·rename_i hk
    cases e
    obtain⟨_,a,kws,rfl,h1,h2,_⟩:=r2
    cases ry
    obtain⟨b,ys,rfl,g1,g2⟩:=i1
    rw[← gm h2] at q
    exact jG hu I (bR.t h1 ⟨hk,b,ys,rfl,g1,g2⟩) rx q
   ·cases e
  ·cases e
 ·rename_i kvs
  split at e
  ·rename_i i
   cases e
   obtain⟨_,a,kws,rfl,h1,h2,_⟩:=r2
   cases ry
   rw[← gm h2] at q
   cases (show x=kV (.inl i) from i1)
   exact jG hu I (bR.k h1) rx q
  ·rename_i i
   cases e
   obtain⟨_,a,kws,rfl,h1,h2,_⟩:=r2
   cases ry
   rw[← gm h2] at q
   cases (show x=kV (.inr i) from i1)
   exact jG hu I (bR.k h1) rx q
  ·cases e
 ·cases e
theorem iX (hu:X.A.units+20<cLine):OpV X (compareOp .NotIn) vNotIn:=by
 intro pins s σ H x y v u Q I rx ry ⟨d1,d2,d,r1,r2,e,q⟩
 unfold vNotIn at e
 split at e
 ·obtain⟨b,e1,e2⟩:=Option.map_eq_some_iff.mp e
  cases e2
  exact wP hu I rx ry r1.i r2 e1 fun s' I'=>⟨.bl (!b),H,I',rfl,Out.i q rfl⟩
 ·cases e
@[simp] noncomputable def cY (f f':Op2) (ga gb gc:M Opd):M Vl:=fun D=>(ga D).bind fun p=>(gb p.2).bind fun q=>(rsl q.2 p.1).bind fun d1=>(rsl q.2 q.1).bind fun d2=>(f d1 d2).bind fun d=>(asB d).bind fun k=>
 if k=true then (gc q.2).bind fun r=>(rsl r.2 q.1).bind fun d2'=>(rsl r.2 r.1).bind fun d3=>(f' d2' d3).bind fun z=>(asB z).map fun b=>(.im (.bl b),r.2) else some (.im (.bl false),q.2)
theorem wQ {f f':Op2}{ga gb gc:M Opd}{σ:St}{H:Hp}{Q:VK} (h:tV (cY f f' ga gb gc) σ H Q):
  ma (fun x y H Q=>∃ d1 d2 d,Rdb H d1 x∧Rdb H d2 y∧f d1 d2=some d∧Out H d Q) (fun x y H Q=>∃ d1 d2 d,Rdb H d1 x∧Rdb H d2 y∧f' d1 d2=some d∧Out H d Q) (tO ga) (tO gb) (tO gc) σ H Q:=by
 obtain⟨D,F,r,D',st,nd,hg,q⟩:=h
 obtain⟨⟨o1,D1⟩,h1,hg⟩:=Option.bind_eq_some_iff.mp hg
 obtain⟨⟨o2,D2⟩,h2,hg⟩:=Option.bind_eq_some_iff.mp hg
 obtain⟨d1,h3,hg⟩:=Option.bind_eq_some_iff.mp hg
 obtain⟨d2,h4,hg⟩:=Option.bind_eq_some_iff.mp hg
 obtain⟨d,h5,hg⟩:=Option.bind_eq_some_iff.mp hg
 obtain⟨k,h6,hK⟩:=Option.bind_eq_some_iff.mp hg
 have hd:=iO h6
 subst hd
 refine⟨D,F,o1,D1,st,nd,h1,fun x H1 F1 R1 st1 w1 s1=>⟨D1,F1,o2,D2,st1,(List.nodup_append.mp s1.nd).1,h2,fun y H2 F2 R2 st2 w2 s2=>?_⟩⟩
 have w1':cy H2 σ o1 x R1:=w1.mono s2.tup fun a ha o e=>s2.keep a o e fun h=>(List.nodup_append.mp s1.nd).2.2 a h a ha rfl
 refine⟨d1,d2,_,w1'.read st2 h3,w2.read st2 h4,h5,fun v H3 R3 sm ow ndR fr=>?_⟩
 obtain⟨rfl,rfl⟩:=(show v=.bl k∧R3=[] from ow)
 refine⟨k,rfl,?_⟩
 have s12:=s1.trans s2 w1.chg
 rw[List.append_assoc] at s12
 have sA:=s12.new sm List.nodup_nil (fun a ha=>nomatch ha) st2.chg
 have st3:aj H3 D2 σ F2:=st2.mono sm.tupS fun a _ o e=>sm a o e
 cases k with
 | false=>
  rw[if_neg Bool.false_ne_true] at hK ⊢
  cases hK
  exact q _ H3 F2 [] st3 ⟨rfl,rfl⟩ sA
 | true=>
  rw[if_pos rfl] at hK ⊢
  obtain⟨⟨o3,D3⟩,g1,k1⟩:=Option.bind_eq_some_iff.mp hK
  obtain⟨d2',g2,k2⟩:=Option.bind_eq_some_iff.mp k1
  obtain⟨d3,g3,k3⟩:=Option.bind_eq_some_iff.mp k2
  obtain⟨z,g4,k4⟩:=Option.bind_eq_some_iff.mp k3
  obtain⟨b,g5,k5⟩:=Option.map_eq_some_iff.mp k4
  cases k5
  have hz:=iO g5
  subst hz
  rw[List.append_nil] at sA
  refine⟨D2,F2,o3,D3,st3,sA.nd,g1,fun w H4 F3 R4 st4 w3 s4=>?_⟩
  have nd2:=List.nodup_append.mp s2.nd
  have w2':cy H4 σ o2 y R2:=(w2.mono sm.tupS fun a _ o e=>sm a o e).mono s4.tup fun a ha o e=>s4.keep a o e fun h=>nd2.2.2 a h a ha rfl
  refine⟨d2',d3,_,w2'.read st4 g2,w3.read st4 g3,g4,fun v H5 R5 sm5 ow5 nd5 fr5=>?_⟩
  obtain⟨rfl,rfl⟩:=(show v=.bl b∧R5=[] from ow5)
  exact q _ H5 F3 [] (st4.mono sm5.tupS fun a _ o e=>sm5 a o e) ⟨rfl,rfl⟩ ((sA.seq s4).new sm5 List.nodup_nil (fun a ha=>nomatch ha) st4.chg)
theorem oq {op op':CmpOp}{f f':Op2}{a b c:Expr}{ga gb gc:M Opd}{pos:Pos} (ho:OpV X (compareOp op) f) (ho':OpV X (compareOp op') f') (ha:VO X a ga) (hb:VO X b gb) (hc:VO X c gc)
  (hm:lastMarks [op,op'] [b,c]=false:=by with_unfolding_all rfl):VT X (.Compare a [op,op'] [b,c] pos) (kB (cY f f' ga gb gc)):=by
 refine ng (tZ ho ho' ha hb hc hm) fun σ H Q ⟨D,F,k,D',st,nd,hg,q⟩=>?_
 refine wQ ⟨D,F,.im (.bl k),D',st,nd,?_,fun v H' F' R st' ow s=>⟨k,ow.1,q H' F' st' (by rw[ow.2,List.append_nil] at s;exact s)⟩⟩
 obtain⟨p,h1,h2⟩:=Option.bind_eq_some_iff.mp hg
 obtain⟨c',h3,h4⟩:=Option.map_eq_some_iff.mp h2
 cases h4
 rw[h1,← iO h3]
end
mutual
noncomputable def ltM:Im→Im→Bool
 | .int i,.int j=>decide (i<j)
 | .tup a,.tup b=>bF a b
 | _,_=>false
noncomputable def bF:List Im→List Im→Bool
 | [],[]=>false
 | [],_::_=>true
 | _::_,[]=>false
 | a::r,b::t=>if Im.beq a b=true then bF r t else ltM a b
end
mutual
noncomputable def bh:Nat→Im→Im→Bool
 | _,.int _,.int _=>true
 | n+1,.tup a,.tup b=>bB n a b
 | _,_,_=>false
noncomputable def bB:Nat→List Im→List Im→Bool
 | _,[],[]=>true
 | n,a::r,b::t=>bh n a b && bB n r t
 | _,_,_=>false
end
theorem iY:∀ {n:Nat}{a b:List Im},bB n a b=true→a.length=b.length
 | _,[],[],_=>rfl
 | n,a::r,b::t,h=>by
  rw[bB,Bool.and_eq_true] at h
  rw[List.length_cons,List.length_cons,iY h.2]
 | _,[],_::_,h=>by cases h
 | _,_::_,[],h=>by cases h
mutual
theorem gn:∀ {n:Nat}{a b:Im},bh n a b=true→Im.pl n a=true∧Im.pl n b=true∧ap a b=Im.beq a b
 | n,.int i,.int j,_=>by
  refine⟨by cases n<;>rfl,by cases n<;>rfl,?_⟩
  rw[ap,Im.beq]
  by_cases h:i=j<;>simp[h]
 | n+1,.tup a,.tup b,h=>by
  rw[bh] at h
  obtain⟨h1,h2,h3⟩:=ou h
  exact⟨h1,h2,by rw[ap,Im.beq];exact h3⟩
theorem ou:∀ {n:Nat}{a b:List Im},bB n a b=true→Im.pls n a=true∧Im.pls n b=true∧bw a b=Im.beqs a b
 | n,[],[],_=>⟨by cases n<;>rfl,by cases n<;>rfl,rfl⟩
 | n,a::r,b::t,h=>by
  rw[bB,Bool.and_eq_true] at h
  obtain⟨h1,h2,h3⟩:=gn h.1
  obtain⟨g1,g2,g3⟩:=ou h.2
  exact⟨by rw[Im.pls,h1,g1];rfl,by rw[Im.pls,h2,g2];rfl,by rw[bw,Im.beqs,h3,g3]⟩
end
theorem fo {a b:Im} (h:¬ a=b):Im.beq a b=false:=by
 cases e:Im.beq a b with
 | false=>rfl
 | true=>exact absurd ((Im.beq_iff a b).mp e) h
mutual
theorem ku:∀ a:Im,ltM a a=false
 | .int i=>by simp[ltM]
 | .tup a=>by rw[ltM];exact oz a
 | .non=>rfl
 | .bl _=>rfl
 | .str _=>rfl
 | .fn _=>rfl
 | .fl _=>rfl
theorem oz:∀ a:List Im,bF a a=false
 | []=>rfl
 | a::r=>by rw[bF,if_pos ((Im.beq_iff a a).mpr rfl)];exact oz r
end
mutual
theorem fq:∀ {n:Nat}{a b:Im},bh n a b=true→a≠b→ltM a b=!(ltM b a)
 | n,.int i,.int j,_,h=>by
  have:i≠j:=fun e=>h (by rw[e])
  rw[ltM,ltM]
  rcases Int.lt_or_gt_of_ne this with g | g
  ·simp[g];lia
  ·simp[g];lia
 | n+1,.tup a,.tup b,h,e=>by
  rw[bh] at h
  rw[ltM,ltM]
  exact oD h fun z=>e (by rw[z])
theorem oD:∀ {n:Nat}{a b:List Im},bB n a b=true→a≠b→bF a b=!(bF b a)
 | n,[],[],_,h=>absurd rfl h
 | n,a::r,b::t,h,e=>by
  rw[bB,Bool.and_eq_true] at h
  rw[bF,bF]
  by_cases z:a=b
  ·subst z
   rw[if_pos ((Im.beq_iff a a).mpr rfl),if_pos ((Im.beq_iff a a).mpr rfl)]
   exact oD h.2 fun w=>e (by rw[w])
  ·rw[fo z,fo (fun w=>z w.symm),if_neg Bool.false_ne_true,if_neg Bool.false_ne_true]
   exact fq h.1 z
end
mutual
theorem hV:∀ {n:Nat}{a b c:Im},bh n a b=true→bh n b c=true→ltM a b=true→ltM b c=true→ltM a c=true
 | n,.int i,.int j,.int k,_,_,h1,h2=>by
  rw[ltM] at h1 h2 ⊢
  have:=of_decide_eq_true h1
  have:=of_decide_eq_true h2
  exact decide_eq_true (by lia)
 | n+1,.tup a,.tup b,.tup c,l1,l2,h1,h2=>by
  rw[bh] at l1 l2
  rw[ltM] at h1 h2 ⊢
  exact oE l1 l2 h1 h2
theorem oE:∀ {n:Nat}{a b c:List Im},bB n a b=true→bB n b c=true→bF a b=true→bF b c=true→bF a c=true
 | n,[],[],[],_,_,h,_=>h
 | n,a::r,b::t,c::u,l1,l2,h1,h2=>by
  rw[bB,Bool.and_eq_true] at l1 l2
  rw[bF] at h1 h2 ⊢
  by_cases z1:a=b
  ·subst z1
   rw[if_pos ((Im.beq_iff a a).mpr rfl)] at h1
   by_cases z2:a=c
   ·subst z2
    rw[if_pos ((Im.beq_iff a a).mpr rfl)] at h2 ⊢
    exact oE l1.2 l2.2 h1 h2
   ·rw[fo z2,if_neg Bool.false_ne_true] at h2 ⊢
    exact h2
  ·rw[fo z1,if_neg Bool.false_ne_true] at h1
   by_cases z2:b=c
   ·subst z2
    rw[fo z1,if_neg Bool.false_ne_true]
    exact h1
   ·rw[fo z2,if_neg Bool.false_ne_true] at h2
    have h3:=hV l1.1 l2.1 h1 h2
    have z3:¬ a=c:=fun w=>by
     subst w
     have:=fq l2.1 z2
     rw[h1,h2] at this
     cases this
    rw[fo z3,if_neg Bool.false_ne_true]
    exact h3
end
noncomputable def kw (A:Around) (s:Shared) (y x:Value) (k:Bool):Prop:=∀ (prog:Program) (w:World) (E:Value→Shared→Prop) (Q:Value→Shared→Prop),Q (.bool k) s→wpAny (model prog w) A (richCompare .Lt y x) Q E s
noncomputable def ck (f:Bool):List (Bool×Bool)→Bool
 | []=>f
 | (e,k)::r=>if e=true then ck f r else k
section
open PySem.SeqAt
open PySem.AutoSeq1 (wpAny_loadPart')
open PySem.MeetsSeq PySem.MeetsSeq2 PySem.MeetsSeq3
theorem wR (l b:Addr) (items items2:Array Value) (n n2:Nat) (dd dd2:Option Addr) (sl sl2:Array (Option Value)) (ps:List (Bool×Bool)) (hps:ps.length=min items.size items2.size):
  Meets (Builtin.«tuple.__lt__» ⟨[.ref l,.ref b],[]⟩)
   (fun A R s=>s.heap.get? l=some { cls:=.type "tuple",dict:=dd,data:=.seq items n,slots:=sl }∧s.heap.get? b=some { cls:=.type "tuple",dict:=dd2,data:=.seq items2 n2,slots:=sl2 }∧
    (∀ j (h1:j<items.size) (h2:j<items2.size) (h3:j<ps.length),EqAt A.in1 s items[j] items2[j] (ps[j]).1∧((ps[j]).1=false→kw A.in1 s items[j] items2[j] (ps[j]).2))∧
    R (.ok (.ret (.bool (ck (decide (items.size<items2.size)) ps)))) s):=
 .of_wp fun prog w A R s h=>by
  obtain⟨hp,g,d,tk,os⟩:=s;obtain⟨hl,hb,he,h⟩:=h
  have f2:=AutoSeq1.sub_tuple_tuple
  have hZ:(items.toList.zip items2.toList).length=min items.size items2.size:=by simp
  wp_walk using wpAny_loadPart' hl,wpAny_loadPart' hb,wpAny_forIn_list _ (fun rest b s'=>b.1=none∧s'=⟨hp,g,d,tk,os⟩∧∃ i,rest=(items.toList.zip items2.toList).drop i∧
   R (.ok (.ret (.bool (ck (decide (items.size<items2.size)) (ps.drop i))))) ⟨hp,g,d,tk,os⟩) _
  case turn=>
   rintro⟨y,x⟩ rest b s' ⟨hb',rfl,i,hz,hR⟩
   have hlt:i<(items.toList.zip items2.toList).length:=by
    rcases Nat.lt_or_ge i (items.toList.zip items2.toList).length with h' | h'
    ·exact h'
    ·rw[List.drop_of_length_le h'] at hz;cases hz
   have hm:i<min items.size items2.size:=hZ ▸ hlt
   have h1:i<items.size:=by lia
   have h2:i<items2.size:=by lia
   have h3:i<ps.length:=by lia
   rw[List.drop_eq_getElem_cons hlt] at hz
   injection hz with hyx hrest
   have hy:y=items[i]:=by have:=congrArg Prod.fst hyx;simpa using this
   have hx:x=items2[i]:=by have:=congrArg Prod.snd hyx;simpa using this
   subst hy hx
   rw[List.drop_eq_getElem_cons h3] at hR
   obtain⟨he1,he2⟩:=he i h1 h2 h3
   generalize ps[i]=pr at hR he1 he2
   obtain⟨e,k⟩:=pr
   refine wpAny_bind (he1 prog w _ _ ?_)
   cases e with
   | true=>
    have hR':R (.ok (.ret (.bool (ck (decide (items.size<items2.size)) (ps.drop (i+1)))))) ⟨hp,g,d,tk,os⟩:=hR
    wp_walk
    exact⟨rfl,rfl,i+1,hrest,hR'⟩
   | false=>
    have hR':R (.ok (.ret (.bool k))) ⟨hp,g,d,tk,os⟩:=hR
    have hri:=he2 rfl prog w
    wp_walk using hri
    exact⟨_,rfl,by simpa using hR'⟩
  case fin=>
   rintro⟨b1,b2⟩ s' ⟨hb',rfl,i,hz,hR⟩
   simp only at hb'
   subst hb'
   have hge:min items.size items2.size≤i:=by
    rcases Nat.lt_or_ge i (items.toList.zip items2.toList).length with h' | h'
    ·rw[List.drop_eq_getElem_cons h'] at hz;cases hz
    ·exact hZ ▸ h'
   rw[List.drop_of_length_le (by lia)] at hR
   have hR':R (.ok (.ret (.bool (decide (items.size<items2.size))))) ⟨hp,g,d,tk,os⟩:=hR
   wp_walk
   exact⟨_,rfl,by simpa [Builtin.Tuple.tupleCompareSizes] using hR'⟩
  case h=>
   exact⟨rfl,rfl,0,rfl,by simpa using h⟩
end
noncomputable def zpM (ds es:List Im):List (Bool×Bool):=(ds.zip es).map fun p=>(ap p.1 p.2,ltM p.1 p.2)
theorem oF:∀ {n:Nat}{ds es:List Im},bB n ds es=true→ck false (zpM ds es)=bF ds es
 | _,[],[],_=>rfl
 | n,a::r,b::t,h=>by
  rw[bB,Bool.and_eq_true] at h
  show (if ap a b=true then ck false (zpM r t) else ltM a b)=bF (a::r) (b::t)
  rw[bF,(gn h.1).2.2,oF h.2]
 | _,[],_::_,h=>by cases h
 | _,_::_,[],h=>by cases h
theorem kz {n:Nat}:∀ {ds es:List Im}{j:Nat}{a b:Im},bB n ds es=true→ds[j]?=some a→es[j]?=some b→bh n a b=true
 | [],es,j,a,b,_,h,_=>by simp at h
 | d::ds,[],j,a,b,h,_,_=>by cases h
 | d::ds,e::es,0,a,b,h,h1,h2=>by
  rw[bB,Bool.and_eq_true] at h
  cases h1
  cases h2
  exact h.1
 | d::ds,e::es,j+1,a,b,h,h1,h2=>by
  rw[bB,Bool.and_eq_true] at h
  exact kz (j:=j) h.2 (by simpa using h1) (by simpa using h2)
theorem oG {s:Shared}{A:Around}{i j:Int}{u v:Value} (hx:ImV s.heap (.int i) u) (hy:ImV s.heap (.int j) v):kw A s u v (ltM (.int i) (.int j)):=by
 obtain⟨t,rfl⟩:=hx
 obtain⟨t',rfl⟩:=hy
 intro prog w E Q q
 rw[ltM] at q
 exact HT.uo A s i t j t' prog w E Q q
theorem hX:∀ {n:Nat}{x y:Im},bh n x y=true→(∃ i j,x=.int i∧y=.int j)∨∃ m a b,n=m+1∧x=.tup a∧y=.tup b∧bB m a b=true:=by
 intro n x y h
 unfold bh at h
 split at h
 ·exact .inl ⟨_,_,rfl,rfl⟩
 ·exact .inr ⟨_,_,_,rfl,rfl,rfl,h⟩
 ·cases h
theorem kA {s:Shared} (n:Nat):∀ {A:Around}{x y:Im}{u v:Value},bh n x y=true→A.units+n+2<cLine→ImV s.heap x u→ImV s.heap y v→kw A s u v (ltM x y):=by
 induction n with
 | zero=>
  intro A x y u v h hu hx hy
  rcases hX h with ⟨i,j,rfl,rfl⟩ | ⟨m,_,_,e,_⟩
  ·exact oG hx hy
  ·cases e
 | succ n ih=>
  intro A x y u v h hu hx hy
  rcases hX h with ⟨i,j,rfl,rfl⟩ | ⟨m,ds,es,e,rfl,rfl,h⟩
  ·exact oG hx hy
  cases e
  obtain⟨a,o,its,m,rfl,h1,h2,h3,h4⟩:=hx
  obtain⟨b,o',its',m',rfl,g1,g2,g3,g4⟩:=hy
  obtain⟨cls,dd,data,sl⟩:=o
  obtain⟨cls',dd',data',sl'⟩:=o'
  simp only at h2 h3 g2 g3
  subst h2 h3 g2 g3
  have l0:=iY h
  have l1:ds.length=its.size:=by rw[h4.length,Array.length_toList]
  have l2:es.length=its'.size:=by rw[g4.length,Array.length_toList]
  intro prog w E Q q
  rw[ltM,← oF h] at q
  have lp:(zpM ds es).length=min its.size its'.size:=by rw[zpM,List.length_map,List.length_zip,l1,l2]
  have hd:decide (its.size<its'.size)=false:=decide_eq_false (by lia)
  refine richCompare_meets_room (op:=.Lt) ⟨_,h1,rfl⟩ ⟨_,g1,rfl⟩ PySem.F.slot_tuple_lt PySem.F.entry_tuple_lt (PySem.F.args_tuple_lt_2 _ _) (wR a b its its' m m' dd dd' sl sl' (zpM ds es) lp)
   ⟨h1,g1,fun j j1 j2 j3=>?_,show Value.bool (ck (decide (its.size<its'.size)) (zpM ds es))≠Value.notImplemented∧Q (.bool (ck (decide (its.size<its'.size)) (zpM ds es))) s from ⟨(fun x=>nomatch x),by rw[hd];exact q⟩⟩ (by lia)
  obtain⟨d1,e1,r1⟩:=h4.get (j:=j) (v:=its[j]) (by rw[Array.getElem?_toList];simp[j1])
  obtain⟨d2,e2,r2⟩:=g4.get (j:=j) (v:=its'[j]) (by rw[Array.getElem?_toList];simp[j2])
  have lk:=kz h e1 e2
  have hp:=gn lk
  have ez:(zpM ds es)[j]=(ap d1 d2,ltM d1 d2):=by
   have:(zpM ds es)[j]?=some (ap d1 d2,ltM d1 d2):=by
    rw[zpM,List.getElem?_map,(List.getElem?_zip_eq_some (z:=(d1,d2))).mpr ⟨e1,e2⟩]
    rfl
   rw[List.getElem?_eq_getElem j3] at this
   exact Option.some.inj this
  rw[ez]
  exact⟨b9 n hp.1 hp.2.1 (by show A.units+1+n+1<cLine;lia) r1 r2,fun _=>ih lk (by show A.units+1+n+2<cLine;lia) r1 r2⟩
end L2
namespace L2
open PySem PySem.Spec PyProof.Rows PySem.W
theorem oH {α:Type}{p q:α→Bool}:∀ {l:List α},(∀ x∈l,p x=true→q x=true)→(∃ x∈l,q x=true∧p x=false)→l.countP p<l.countP q
 | [],_,h=>by obtain⟨x,hx,_⟩:=h;cases hx
 | a::l,h,⟨x,hx,h1,h2⟩=>by
  rw[List.countP_cons,List.countP_cons]
  have le:l.countP p≤l.countP q:=List.countP_mono_left fun y hy=>h y (.tail _ hy)
  rcases List.mem_cons.mp hx with rfl | hx
  ·rw[h1,h2];simp;lia
  ·have:=oH (fun y hy=>h y (.tail _ hy)) ⟨x,hx,h1,h2⟩
   have ha:=h a (.head _)
   cases e1:p a<;>cases e2:q a<;>rw[e1,e2] at ha<;>simp at ha ⊢<;>lia
structure OrdOk (ds:List Im):Prop where
 few:ds.length≤1000
 like:∀ a∈ds,∀ b∈ds,bh 6 a b=true
 nd:ds.Nodup
noncomputable def rkM (ds:List Im) (x:Im):Nat:=ds.countP fun d=>ltM d x
theorem i3 {ds:List Im} (o:OrdOk ds) {x y:Im} (hx:x∈ds) (hy:y∈ds) (h:ltM x y=true):rkM ds x<rkM ds y:=
 oH (fun z hz e=>hV (o.like z hz x hx) (o.like x hx y hy) e h) ⟨x,hx,h,ku x⟩
theorem oI {ds:List Im} (o:OrdOk ds) {x y:Im} (hx:x∈ds) (hy:y∈ds):decide ((rkM ds x:Int)<(rkM ds y:Int))=ltM x y:=by
 cases e:ltM x y with
 | true=>exact decide_eq_true (by have:=i3 o hx hy e;lia)
 | false=>
  refine decide_eq_false fun z=>?_
  by_cases h:x=y
  ·subst h;lia
  ·have t:=fq (o.like x hx y hy) h
   rw[e] at t
   have t':ltM y x=true:=by cases q:ltM y x<;>rw[q] at t<;>simp at t ⊢
   have:=i3 o hy hx t'
   lia
theorem wS {ds:List Im} (o:OrdOk ds) {x y:Im} (hx:x∈ds) (hy:y∈ds) (h:rkM ds x=rkM ds y):x=y:=by
 by_cases e:x=y
 ·exact e
 ·have t:=fq (o.like x hx y hy) e
  cases q:ltM x y with
  | true=>have:=i3 o hx hy q;lia
  | false=>
   rw[q] at t
   have t':ltM y x=true:=by cases q:ltM y x<;>rw[q] at t<;>simp at t ⊢
   have:=i3 o hy hx t'
   lia
noncomputable def dQ (ds:List Im) (i:Nat):Int:=rkM ds (ds.getD i .non)
theorem dy {ds:List Im}{i:Nat} (h:i<ds.length):ds.getD i .non∈ds:=by
 rw[List.getD_eq_getElem?_getD,List.getElem?_eq_getElem h]
 exact List.getElem_mem h
theorem kC {ds:List Im} (o:OrdOk ds):∀ i j,i<ds.length→j<ds.length→dQ ds i=dQ ds j→i=j:=fun i j hi hj e=>by
 have:=wS o (dy hi) (dy hj) (by unfold dQ at e;lia)
 rw[List.getD_eq_getElem?_getD,List.getElem?_eq_getElem hi,List.getD_eq_getElem?_getD,List.getElem?_eq_getElem hj] at this
 exact (List.getElem_inj o.nd).mp this
theorem upM {ds:List Im} (o:OrdOk ds) {p:Array Nat} (hp:Rg ds.length p) (up:Up (dQ ds) p ds.length):(p.toList.map fun i=>ds.getD i .non).Pairwise (fun a b=>ltM a b=true):=by
 rw[List.pairwise_iff_getElem]
 intro i j hi hj hij
 have hs:=hp.size
 have hi':i<ds.length:=by simpa [hs] using hi
 have hj':j<ds.length:=by simpa [hs] using hj
 have ne:=hp.ne (kC o) hij hj'
 have le:=up i j (by lia) hj'
 have g:∀ k (hk:k<(p.toList.map fun i=>ds.getD i .non).length),(p.toList.map fun i=>ds.getD i .non)[k]=ds.getD (p.getD k 0) .non:=fun k hk=>by
  have hk':k<p.size:=by simpa using hk
  rw[List.getElem_map,Array.getElem_toList]
  simp[Array.getD,hk']
 rw[g i hi,g j hj]
 rw[← oI o (dy (hp.lt hi')) (dy (hp.lt hj'))]
 refine decide_eq_true ?_
 have e:∀ k,(rkM ds (ds.getD (p.getD k 0) .non):Int)=kyA (dQ ds) p k:=fun _=>rfl
 rw[e i,e j]
 lia
theorem oJ:∀ {l m:List Im},l.Perm m→l.Pairwise (fun a b=>ltM a b=true)→m.Pairwise (fun a b=>ltM a b=true)→(∀ a∈l,∀ b∈l,ltM a b=true→ltM b a=false)→l=m
 | [],m,p,_,_,_=>(List.nil_perm.mp p).symm
 | a::l,m,p,h1,h2,as=>by
  cases m with
  | nil=>exact absurd p.length_eq (by simp)
  | cons b m=>
   have e:a=b:=by
    by_cases e:a=b
    ·exact e
    ·have ha:a∈m:=by
      rcases List.mem_cons.mp (p.mem_iff.mp (.head _)) with z | z
      ·exact absurd z e
      ·exact z
     have hb:b∈l:=by
      rcases List.mem_cons.mp (p.mem_iff.mpr (.head _)) with z | z
      ·exact absurd z.symm e
      ·exact z
     have q1:=(List.pairwise_cons.mp h1).1 b hb
     have q2:=(List.pairwise_cons.mp h2).1 a ha
     rw[as a (.head _) b (.tail _ hb) q1] at q2
     cases q2
   subst e
   rw[oJ (List.Perm.cons_inv p) (List.pairwise_cons.mp h1).2 (List.pairwise_cons.mp h2).2 fun x hx y hy=>as x (.tail _ hx) y (.tail _ hy)]
theorem kF (x:Im):∀ l:List Im,(er ltM x l).Perm (x::l)
 | []=>List.Perm.refl _
 | y::r=>by
  rw[er]
  split
  ·exact List.Perm.refl _
  ·exact (List.Perm.cons y (kF x r)).trans (List.Perm.swap x y r)
theorem eu:∀ l:List Im,(b8 ltM l).Perm l
 | []=>List.Perm.refl _
 | x::r=>(kF x _).trans (List.Perm.cons x (eu r))
theorem oK {x:Im}:∀ {l:List Im},l.Pairwise (fun a b=>ltM a b=true)→(∀ y∈l,x≠y)→(∀ a∈x::l,∀ b∈x::l,bh 6 a b=true)→(er ltM x l).Pairwise (fun a b=>ltM a b=true)
 | [],_,_,_=>List.pairwise_singleton _ _
 | y::r,h,n,lk=>by
  have h':=List.pairwise_cons.mp h
  rw[er]
  split
  ·rename_i e
   refine List.pairwise_cons.mpr ⟨fun z hz=>?_,h⟩
   rcases List.mem_cons.mp hz with rfl | hz
   ·exact e
   ·exact hV (lk x (.head _) y (.tail _ (.head _))) (lk y (.tail _ (.head _)) z (.tail _ (.tail _ hz))) e (h'.1 z hz)
  ·rename_i e
   refine List.pairwise_cons.mpr ⟨fun z hz=>?_,oK h'.2 (fun z hz=>n z (.tail _ hz)) fun a ha b hb=>lk a ?_ b ?_⟩
   ·rcases List.mem_cons.mp ((kF x r).mem_iff.mp hz) with rfl | hz
    ·have t:=fq (lk z (.head _) y (.tail _ (.head _))) (n y (.head _))
     cases q:ltM y z with
     | true=>rfl
     | false=>rw[q] at t;exact absurd t e
    ·exact h'.1 z hz
   ·rcases List.mem_cons.mp ha with rfl | ha
    ·exact .head _
    ·exact .tail _ (.tail _ ha)
   ·rcases List.mem_cons.mp hb with rfl | hb
    ·exact .head _
    ·exact .tail _ (.tail _ hb)
theorem i4:∀ {l:List Im},l.Nodup→(∀ a∈l,∀ b∈l,bh 6 a b=true)→(b8 ltM l).Pairwise (fun a b=>ltM a b=true)
 | [],_,_=>.nil
 | x::r,nd,lk=>by
  have nd':=List.nodup_cons.mp nd
  refine oK (i4 nd'.2 fun a ha b hb=>lk a (.tail _ ha) b (.tail _ hb)) (fun y hy e=>nd'.1 (by rw[e];exact (eu r).mem_iff.mp hy)) fun a ha b hb=>lk a ?_ b ?_
  ·rcases List.mem_cons.mp ha with rfl | ha
   ·exact .head _
   ·exact .tail _ ((eu r).mem_iff.mp ha)
  ·rcases List.mem_cons.mp hb with rfl | hb
   ·exact .head _
   ·exact .tail _ ((eu r).mem_iff.mp hb)
theorem kG {ds l:List Im} (o:OrdOk ds) (p:l.Perm ds) (h:l.Pairwise (fun a b=>ltM a b=true)):l=b8 ltM ds:=by
 refine oJ (p.trans (eu ds).symm) h (i4 o.nd o.like) fun a ha b hb e=>?_
 have t:=fq (o.like a (p.mem_iff.mp ha) b (p.mem_iff.mp hb)) (fun z=>by subst z;rw[ku] at e;cases e)
 rw[e] at t
 cases q:ltM b a with
 | false=>rfl
 | true=>rw[q] at t;cases t
noncomputable def cK:Im→Bool
 | .tup (.int _::_)=>true
 | _=>false
noncomputable def ft:Im→Bool
 | .tup (.tup _::_)=>true
 | _=>false
section
variable {prog:Program}{w:World}{A:Around}{E:Value→Shared→Prop}{s:Shared}
theorem oM {b:Bool} (n:Nat) (hu:A.units+n+2<cLine) {Q:Bool→Shared→Prop}:∀ {ds es:List Im}{vs ws:List Value}{i:Nat},bB n ds es=true→aK s.heap ds vs→aK s.heap es ws→(b=true→i=0→∃ k r,ds=.int k::r)→Q (bF ds es) s→KatLex prog w A b false Q (vs.zip ws) i s
 | [],[],vs,ws,i,_,h1,h2,_,q=>by
  rw[show vs=[] from h1]
  exact kat_nil q
 | d::ds,e::es,vs,ws,i,h,h1,h2,hb,q=>by
  rw[bB,Bool.and_eq_true] at h
  obtain⟨v,vs,rfl,a1,a2⟩:=h1
  obtain⟨u,ws,rfl,b1,b2⟩:=h2
  rw[List.zip_cons_cons]
  obtain⟨p1,p2,p3⟩:=gn h.1
  refine kat_cons (b9 n p1 p2 (by lia) a1 b1 prog w _ _ ?_)
  rw[p3]
  rw[bF] at q
  cases hq:Im.beq d e with
  | true=>
   rw[hq,if_pos rfl] at q
   exact kat_yes (oM n hu h.2 a2 b2 (fun _ z=>by lia) q)
  | false=>
   rw[hq,if_neg Bool.false_ne_true] at q
   refine kat_no ?_
   by_cases hf:(b && i == 0)=true
   ·rw[hf]
    rw[Bool.and_eq_true] at hf
    obtain⟨k,r,z⟩:=hb hf.1 (by simpa using hf.2)
    cases z
    rcases hX h.1 with ⟨i',j,z1,z2⟩ | ⟨_,_,_,_,z1,_⟩
    ·cases z1
     cases z2
     obtain⟨t,rfl⟩:=a1
     obtain⟨t',rfl⟩:=b1
     rw[ltM] at q
     exact oneLt_int q
    ·cases z1
   ·rw[show (b && i == 0)=false by simpa using hf]
    exact kat_one _ _ (kA n h.1 hu a1 b1 prog w _ _ q)
 | [],_::_,_,_,_,h,_,_,_,_=>by cases h
 | _::_,[],_,_,_,h,_,_,_,_=>by cases h
theorem oN {ds:List Im}{its:List Value}{b:Bool} (o:OrdOk ds) (iv:aK s.heap ds its) (ht:∀ d∈ds,∃ r,d=.tup r) (hb:b=true→∀ d∈ds,cK d=true) (hu:A.units+9<cLine):
  bj its.length (dQ ds) (kas_cmp prog w A (tuples' b) (its.toArray.zip its.toArray)) s:=by
 intro i j C hi hj q
 have hl:=iv.length
 have mi:=dy (ds:=ds) (i:=i) (by lia)
 have mj:=dy (ds:=ds) (i:=j) (by lia)
 unfold dQ at q
 rw[oI o mi mj] at q
 obtain⟨d1,e1,r1⟩:=iv.get (j:=i) (v:=its[i]) (by simp)
 obtain⟨d2,e2,r2⟩:=iv.get (j:=j) (v:=its[j]) (by simp)
 rw[List.getD_eq_getElem?_getD,e1,List.getD_eq_getElem?_getD,e2] at q
 rw[List.getD_eq_getElem?_getD,e1] at mi
 rw[List.getD_eq_getElem?_getD,e2] at mj
 obtain⟨a,ea⟩:=ht d1 mi
 obtain⟨b',eb⟩:=ht d2 mj
 subst ea eb
 have lk:bB 5 a b'=true:=o.like _ mi _ mj
 unfold kas_cmp
 rw[kat_item rfl,kat_item rfl,List.getD_eq_getElem?_getD,List.getD_eq_getElem?_getD,List.getElem?_eq_getElem hi,List.getElem?_eq_getElem hj]
 show wpAny _ _ (keyLt' (tuples' b) its[i] its[j]) _ _ _
 obtain⟨x,ox,xs,n1,z1,g1,g2,g3,g4⟩:=r1
 obtain⟨y,oy,ys,n2,z2,k1,k2,k3,k4⟩:=r2
 rw[z1,z2]
 refine kat_lt (b:=b) g1 g3 k1 k3 ?_
 have l1:a.length=xs.size:=by rw[g4.length,Array.length_toList]
 have l2:b'.length=ys.size:=by rw[k4.length,Array.length_toList]
 rw[show decide (xs.size<ys.size)=false from decide_eq_false (by have:=iY lk;lia)]
 refine oM 5 (by lia) lk g4 k4 (fun hbt _=>?_) (by have q':C (ltM (.tup a) (.tup b')) s:=q;rw[ltM] at q';exact q')
 have:=hb hbt _ mi
 unfold cK at this
 split at this
 ·rename_i h
  cases h
  exact⟨_,_,rfl⟩
 ·cases this
theorem oO:∀ {ds:List Im}{its:List Value},aK s.heap ds its→(∀ d∈ds,cK d=true)∨(∀ d∈ds,ft d=true)→∃ fs,KatTups s.heap its fs∧fs.length=its.length∧
  ((∀ d∈ds,cK d=true)→∀ v∈fs,∃ i t,v=Value.int i t)∧((∀ d∈ds,ft d=true)→∀ v∈fs,∃ a ob,v=Value.ref a∧s.heap.get? a=some ob∧ob.cls=.type "tuple")
 | [],its,h,_=>by
  rw[show its=[] from h]
  exact⟨[],trivial,rfl,(fun _ _ h=>nomatch h),(fun _ _ h=>nomatch h)⟩
 | d::ds,its,h,hf=>by
  obtain⟨v,r,rfl,h1,h2⟩:=h
  obtain⟨fs,t1,t2,t3,t4⟩:=oO h2 (hf.imp (fun z x hx=>z x (.tail _ hx)) fun z x hx=>z x (.tail _ hx))
  have sh:∃ f r',d=.tup (f::r'):=by
   rcases hf with z | z
   ·have:=z d (.head _)
    unfold cK at this
    split at this
    ·exact⟨_,_,rfl⟩
    ·cases this
   ·have:=z d (.head _)
    unfold ft at this
    split at this
    ·exact⟨_,_,rfl⟩
    ·cases this
  obtain⟨f,r',rfl⟩:=sh
  obtain⟨a,o,items,n,rfl,g1,g2,g3,g4⟩:=h1
  obtain⟨fv,rv,e,g5,g6⟩:=g4
  have hf0:items[0]?=some fv:=by
   rw[← Array.getElem?_toList,e];rfl
  refine⟨fv::fs,KatTups.cons g1 g2 g3 hf0 t1,by simp[t2],fun z u hu=>?_,fun z u hu=>?_⟩
  ·rcases List.mem_cons.mp hu with rfl | hu
   ·have:=z _ (.head _)
    unfold cK at this
    split at this
    ·rename_i q
     cases q
     exact⟨_,g5⟩
    ·cases this
   ·exact t3 (fun x hx=>z x (.tail _ hx)) u hu
  ·rcases List.mem_cons.mp hu with rfl | hu
   ·have:=z _ (.head _)
    unfold ft at this
    split at this
    ·rename_i q
     cases q
     obtain⟨a',o',_,_,e',k1,k2,_⟩:=g5
     exact⟨a',o',e',k1,k2⟩
    ·cases this
   ·exact t4 (fun x hx=>z x (.tail _ hx)) u hu
end
section
variable {X:Cx}
theorem ak.pick {H:Hp}{ds:List Im}{ys:List V} (h:ak H ds ys):∀ {p:List Nat},(∀ k∈p,k<ds.length)→ak H (p.map fun i=>ds.getD i .non) (p.map fun i=>ys.getD i .non)
 | [],_=>rfl
 | k::p,hp=>by
  obtain⟨v,e1,e2⟩:=h.get (i:=k) (d:=ds.getD k .non) (by
   have:=hp k (.head _)
   rw[List.getD_eq_getElem?_getD,List.getElem?_eq_getElem this];rfl)
  refine⟨v,_,?_,e2,h.pick fun j hj=>hp j (.tail _ hj)⟩
  rw[List.map_cons,List.getD_eq_getElem?_getD,e1]
  rfl
structure SrtOk (ds:List Im):Prop where
 ord:OrdOk ds
 fst:(∀ d∈ds,cK d=true)∨(∀ d∈ds,ft d=true)
theorem SrtOk.tup {ds:List Im} (o:SrtOk ds):∀ d∈ds,∃ r,d=.tup r:=fun d hd=>by
 rcases o.fst with z | z
 ·have:=z d hd
  unfold cK at this
  split at this
  ·exact⟨_,rfl⟩
  ·cases this
 ·have:=z d hd
  unfold ft at this
  split at this
  ·exact⟨_,rfl⟩
  ·cases this
theorem aK.keepAll {h h':Heap} (k:∀ b o,h.get? b=some o→h'.get? b=some o) {ds:List Im}{vs:List Value} (x:aK h ds vs):aK h' ds vs:=x.keep fun a o _ _ e _ _=>k a o e
theorem oP {h:Heap}{ds:List Im}{its:List Value}{s:Shared} (o:SrtOk ds) (h2:2≤its.length) (iv:aK s.heap ds its) (A:Around) (E:Value→Shared→Prop) (Q:SortKind→Shared→Prop) (hq:Q (tuples' (decide (∀ d∈ds,cK d=true))) s):
  wpAny (model X.prog X.w) A (keyKind' its.toArray) Q E s:=by
 obtain⟨fs,t1,t2,t3,t4⟩:=oO iv o.fst
 have hl:=iv.length
 by_cases hf:∀ d∈ds,cK d=true
 ·rw[decide_eq_true hf] at hq
  refine kat_kind (T:=Value.type "int") t1 (by lia) (fun v hv=>?_) rfl ?_
  ·obtain⟨i,t,rfl⟩:=t3 hf v hv
   exact Looks.of_pure rfl
  ·rw[show (Value.type "int" != Value.type "tuple")=true by decide]
   exact hq
 ·rw[decide_eq_false hf] at hq
  have hf2:=o.fst.resolve_left hf
  refine kat_kind (T:=Value.type "tuple") t1 (by lia) (fun v hv=>?_) rfl ?_
  ·obtain⟨a,ob,rfl,g1,g2⟩:=t4 hf2 v hv
   have:Looks (model X.prog X.w) s.heap (typeOf (.ref a)) ob.cls:=(Looks.ld g1).andThen .now
   rw[g2] at this
   exact this
  ·rw[show (Value.type "tuple" != Value.type "tuple")=false by decide]
   exact hq
theorem oQ (hc:X.calm=true) (hu:X.A.units+20<cLine):bg X (.builtin "sorted") (fun xs H Q=>∃ (a:Addr) (ds:List Im) (ys:List V),xs=[.ref a]∧(SqL X.K H a ys∨SqT X.K H a ys)∧ak H ds ys∧SrtOk ds∧
  ∀ l zs,H l=none→ak H (b8 ltM ds) zs→Q (.ref l) (upd H l (.lst zs))):=by
 intro pins s σ H xs us Q I r h
 obtain⟨a,ds,ys,rfl,hs,hi,o,q⟩:=h
 obtain⟨u,rfl,ru⟩:=cP r
 cases ru
 have hz:ys.length≤1000:=by rw[← hi.length];exact o.ord.few
 have go:∀ {T:String}{its:List Value}{n:Nat}{ob:Obj},(T = "list" ∨ T = "tuple")→ao ys its→s.heap.get? a=some ob→ob.cls=.type T→ob.data=.seq its.toArray n→wpAny (model X.prog X.w) X.A (call (.builtin "sorted") [.ref a]) (EP X pins σ Q) X.xe s:=by
  intro T its n ob hT rv e eC eD
  have iv:=hi.imv I.hok rv
  have li:its.length=ds.length:=iv.length.symm
  refine m8 hc (dQ ds) (tuples' (decide (∀ d∈ds,cK d=true))) I rv hT e eC eD hz (fun h2 h6 tk k A E Q hq=>oP (h:=h6) o h2 (iv.keepAll k) A E Q hq) (fun h6 tk k=>?_) (by rw[li];exact kC o.ord) (.inl (by have:=o.ord.few;lia)) fun p l r1 r2 fl=>?_
  ·refine oN (s:={ s with heap:=h6,toks:=tk }) o.ord (iv.keepAll k) o.tup (fun hb=>?_) (by show X.A.units+1+1+9<cLine;lia)
   exact of_decide_eq_true hb
  ·rw[li] at r1 r2
   have e1:(p.toList.map fun i=>ds.getD i .non)=b8 ltM ds:=kG o.ord (jQ r1) (upM o.ord r1 r2)
   refine q l _ fl ?_
   rw[← e1]
   exact hi.pick fun k hk=>List.mem_range.mp (r1.mem_iff.mp hk)
 rcases hs with hs | hs
 ·obtain⟨its,rv,p,_⟩:=I.list hs
  obtain⟨ob,e,eC,n,eD⟩:=p.isList
  exact go (.inl rfl) rv e eC eD
 ·obtain⟨its,rv,p,_⟩:=I.tuple hs
  obtain⟨ob,e,eC,n,eD⟩:=p
  exact go (.inr rfl) rv e eC eD
end
section
variable {X:Cx}
theorem oR {H:Hp}:∀ {kvs:List (List Im×V)}{es:List (List Im×Addr×Value)},Paired (fun (p:List Im×V) (q:List Im×Addr×Value)=>p.1=q.1∧KAd H p.1 q.2.1∧av p.2 q.2.2) kvs es→
  ak H (kvs.map fun p=>.tup p.1) (es.map fun x=>V.ref x.2.1)∧ao (es.map fun x=>V.ref x.2.1) (es.map fun x=>Value.ref x.2.1)
 | _,_,.nil=>⟨rfl,.nil⟩
 | _,_,.cons r t=>by
  obtain⟨h1,h2⟩:=oR t
  exact⟨⟨_,_,rfl,r.2.1.2,h1⟩,.cons rfl h2⟩
theorem wT (hc:X.calm=true) (hu:X.A.units+20<cLine):bg X (.builtin "sorted") (fun xs H Q=>∃ (d:Addr) (kvs:List (List Im×V)),xs=[.ref d]∧H d=some (.dT kvs)∧SrtOk (kvs.map fun p=>.tup p.1)∧
  ∀ l zs,H l=none→ak H (b8 ltM (kvs.map fun p=>.tup p.1)) zs→Q (.ref l) (upd H l (.lst zs))):=by
 intro pins s σ H xs us Q I r h
 obtain⟨d,kvs,rfl,hd,so,q⟩:=h
 obtain⟨u,rfl,ru⟩:=cP r
 cases ru
 obtain⟨z,lo,es,rel,o,ens,ep,e1,e2,e3,e4,nd⟩:=I.hok d _ hd
 obtain⟨hi,rv⟩:=oR rel
 have kat:KAt s.heap d (es.map fun x=>Value.ref x.2.1) ep:=⟨o,ens,e1,e2,e3,by rw[e4,List.map_map];rfl⟩
 generalize (es.map fun x=>Value.ref x.2.1)=its at rv kat
 generalize (es.map fun x=>V.ref x.2.1)=ys at hi rv
 generalize hds:(kvs.map fun p=>Im.tup p.1)=ds at hi so q
 have iv:=hi.imv I.hok rv
 have li:its.length=ds.length:=iv.length.symm
 have few:=so.ord.few
 have hl:ys.length=its.length:=rv.length
 have hsl:its.length≤sizeLine:=Nat.le_trans (by lia) (show 1000≤sizeLine by decide)
 refine Calls.call_function_entry kind_sorted plain_sorted entry_sorted (args_sorted1 _) ?z
 case z=>
  unfold Builtin.«sorted»
  refine wpAny_bind (m:=checkCount "sorted" 1 1 _) (wpAny_pure (wpAny_bind (kdu_collect (A:=X.A.in1) (vz lo) (I.ok.hd hc) kat hsl fun h' tk acc hkp hacc=>?_)))
  have ea:acc.toList=its:=by
   apply List.ext_getElem
   ·rw[Array.length_toList]
    exact hacc.1
   ·intro i h1 h2
    have:=hacc.2 i acc.toList[i] (by rw[← Array.getElem?_toList];exact List.getElem?_eq_getElem h1)
    have this:its[i]?=some acc.toList[i]:=this
    rw[List.getElem?_eq_getElem h2] at this
    exact (Option.some.inj this).symm
  rw[ea]
  refine wpAny_bind (wpAny_newList ?_ hsl)
  have oB:(h'.push (seqObj "list" its.toArray 0)).get? h'.objs.size=some (seqObj "list" its.toArray 0):=Heap.get?_push_size _ rfl
  have kB:∀ b o,s.heap.get? b=some o→(h'.push (seqObj "list" its.toArray 0)).get? b=some o:=fun b o e=>Heap.get?_push_of_some _ (hkp b o e)
  have I1:Inv X pins σ H { s with heap:=h',toks:=tk }:=I.kept hkp
  have nB:∀ b o,s.heap.get? b=some o→b≠h'.objs.size:=fun b o e=>Nat.ne_of_lt (Heap.lt_size (hkp b o e))
  refine wpAny_bind (wpAny_holding (wpAny_call_entry slot_list_sort ⟨_,oB,rfl⟩ entry_list_sort ?y (args_list_sort _)))
  case y=>
   refine m7 (s:={ s with heap:=h'.push (seqObj "list" its.toArray 0),toks:=tk }) (dQ ds) (tuples' (decide (∀ d∈ds,cK d=true))) oB
    (fun h2 h6 k6 Q hq=>oP (X:=X) (h:=h6) so h2 (iv.keepAll fun b o eb=>k6 b o (nB b o eb) (kB b o eb)) _ _ Q hq)
    (fun h6 k6=>oN (s:={ s with heap:=h6,toks:=tk }) so.ord (iv.keepAll fun b o eb=>k6 b o (nB b o eb) (kB b o eb)) so.tup (fun hb=>of_decide_eq_true hb) (by show X.A.units+1+1+9<cLine;lia))
    (by rw[li];exact kC so.ord) (.inl (by lia)) (by lia) fun p h2 r1 r2 k2 ⟨e9,oB2⟩=>⟨_,rfl,wpAny_pure ⟨_,rfl,?_⟩⟩
   have fB:H h'.objs.size=none:=I1.hok.fresh (Nat.le_refl _)
   have neB:∀ b o,h'.get? b=some o→b≠h'.objs.size:=fun b o e=>Nat.ne_of_lt (Heap.lt_size e)
   rw[li] at r1 r2
   refine⟨.ref h'.objs.size,upd H h'.objs.size (.lst (p.toList.map fun i=>ys.getD i .non)),?_,rfl,q _ _ fB ?_⟩
   ·refine I1.laid (t':=tk) (fun b u e=>k2 b u (neB b u e) (Heap.get?_push_of_some _ e)) (Nat.le_refl _) ⟨?_,_,e9,?_,oB2⟩
    ·rw[List.length_map,Array.length_toList,r1.size]
     lia
    ·refine jR (by simp) fun i v u h1 h2=>?_
     rw[List.getElem?_map] at h1 h2
     cases hpi:p.toList[i]? with
     | none=>rw[hpi] at h1;cases h1
     | some k=>
      rw[hpi] at h1 h2
      cases h1
      cases h2
      have hk:k<its.length:=by rw[li];exact List.mem_range.mp (r1.mem_iff.mp (List.mem_of_getElem? hpi))
      obtain⟨u,h3,h4⟩:=rv.get (i:=k) (x:=ys[k]'(by lia)) (by simp[show k<ys.length by lia])
      rw[List.getElem?_eq_getElem hk] at h3
      have h3:=Option.some.inj h3
      simp only[List.getD,List.getElem?_eq_getElem hk,List.getElem?_eq_getElem (show k<ys.length by lia),Option.getD_some]
      rw[h3]
      exact h4
   ·rw[← kG so.ord (jQ r1) (upM so.ord r1 r2)]
    exact hi.pick fun k hk=>List.mem_range.mp (r1.mem_iff.mp hk)
noncomputable def ic (ds:List Im):Bool:=decide (ds.length≤1000) && ds.all (fun a=>ds.all fun b=>bh 6 a b) && decide ds.Nodup && (ds.all cK || ds.all ft)
theorem ig {ds:List Im}:ic ds=true↔SrtOk ds:=by
 unfold ic
 rw[Bool.and_eq_true,Bool.and_eq_true,Bool.and_eq_true,Bool.or_eq_true,decide_eq_true_iff,decide_eq_true_iff,List.all_eq_true,List.all_eq_true,List.all_eq_true]
 constructor
 ·rintro⟨⟨⟨h1,h2⟩,h3⟩,h4⟩
  exact⟨⟨h1,fun a ha b hb=>List.all_eq_true.mp (h2 a ha) b hb,h3⟩,h4⟩
 ·rintro⟨⟨h1,h2,h3⟩,h4⟩
  exact⟨⟨⟨h1,fun a ha=>List.all_eq_true.mpr fun b hb=>h2 a ha b hb⟩,h3⟩,h4⟩
noncomputable def dz (ds:List Im):Option Vl:=if ic ds=true then some (.lst (b8 ltM ds)) else none
noncomputable def vSortM:OpN:=fun ds=>match ds with
 | [.lst x]=>match ints? x with
  | some ns=>vSorted [.lst x]
  | none=>dz x
 | [.im (.tup x)]=>dz x
 | [.dT kvs]=>dz (kvs.map fun p=>.tup p.1)
 | _=>none
theorem kH {ds:List Im}{d:Vl} (h:dz ds=some d):SrtOk ds∧d=.lst (b8 ltM ds):=by
 unfold dz at h
 split at h
 ·rename_i e
  cases h
  exact⟨ig.mp e,rfl⟩
 ·cases h
theorem oS {H:Hp}:∀ {kvs:List (List Im×Im)}{kws:List (List Im×V)},PKv H kvs kws→(kvs.map fun p=>Im.tup p.1)=kws.map fun p=>Im.tup p.1
 | _,_,.nil=>rfl
 | _,_,.cons r t=>by rw[List.map_cons,List.map_cons,oS t,r.1]
theorem i5 (hc:X.calm=true) (hu:X.A.units+20<cLine):cz X (.builtin "sorted") vSortM:=by
 intro pins s σ H xs us Q I r ⟨ds,d,rd,e,q⟩
 unfold vSortM at e
 split at e
 ·rename_i x
  split at e
  ·exact wK hc hu pins s σ H xs us Q I r ⟨_,d,rd,e,q⟩
  ·obtain⟨so,rfl⟩:=kH e
   obtain⟨v,rfl,_,p,ys,rfl,h1,h2,_⟩:=bX rd
   exact oQ hc hu pins s σ H _ us Q I r ⟨p,x,ys,rfl,.inl (SqL.of h1),h2,so,fun l zs fl hz=>Out.l q fl hz⟩
 ·rename_i x
  obtain⟨so,rfl⟩:=kH e
  obtain⟨v,rfl,hv⟩:=bX rd
  obtain⟨p,ys,rfl,h1,h2⟩:=hv.i
  exact oQ hc hu pins s σ H _ us Q I r ⟨p,x,ys,rfl,.inr (SqT.of h1),h2,so,fun l zs fl hz=>Out.l q fl hz⟩
 ·rename_i kvs
  obtain⟨so,rfl⟩:=kH e
  obtain⟨v,rfl,_,p,kws,rfl,h1,h2,_⟩:=bX rd
  rw[oS h2] at so q
  exact wT hc hu pins s σ H _ us Q I r ⟨p,kws,rfl,h1,so,fun l zs fl hz=>Out.l q fl hz⟩
 ·cases e
end
end L2
namespace PySem
open Sem (wp)
theorem wU:typeLookup (.type "list") "keys" = pure none:=by rw[typeLookup_type,builtinLookup_eq_fast];kernel_rfl
theorem wV {prog:Program}{w:World}{A:Around}{E:Value→Shared→Prop}{s:Shared}{a:Addr}{xs:Array Value}{k:Nat}{Q:Option Value→Shared→Prop} (hx:s.heap.get? a=some { cls:=.type "list",data:=.seq xs k }) (hA:A.handled=none)
  (h:∀ h' tk,(∀ b o,s.heap.get? b=some o→h'.get? b=some o)→Q none { s with heap:=h',toks:=tk }):wpAny (model prog w) A (getAttr? (.ref a) "keys") Q E s:=by
 obtain⟨hp,g,d,tk,os⟩:=s
 have hT:∀ tk',(⟨hp,g,d,tk',os⟩:Shared).TypeIs (.ref a) "list" := fun _=>⟨_,hx,rfl⟩
 have f1:=sub_AttributeError
 have f3:=F.slot_list_getattribute.lookup
 have f4:=F.slot_list_getattribute.bind (.ref a)
 have f5:=am_list_getattr_none
 unfold getAttr? getAttrBy? getAttrBy
 repeat (any_goals (first | assumption | exact hT _ | ((with_reducible show wpAny _ _ (call (Value.builtin "list.__getattribute__") _ _) _ _ _);refine call_meets F.slot_list_getattribute (hT _) am_entry_list_getattribute (F.args_list_getattribute_2 _ _) (meets_getattribute_miss_list a xs k _ "keys" _ wU (by decide +kernel) (by decide)) ⟨hx,hA,fun h' tk' e hx'=>?_⟩) | wp_step))
 obtain⟨t',u',he⟩:=hx'.there
 show wpAny _ _ (getattributeRaised _ _ _ _ _ _ _) _ _ _
 unfold getattributeRaised
 have hE:∀ tk'',(⟨h',g,d,tk'',os⟩:Shared).TypeIs (.ref e) "AttributeError" := fun _=>⟨_,he,rfl⟩
 repeat (any_goals (first | assumption | exact hE _ | wp_step))
 exact h h' _ hx'.keeps
end PySem
namespace PySem
namespace F
theorem entry_dul:entryFor table "dict.update.loop" = some Builtin.«dict.update.loop»:=entryFor_of_tree (by kernel_rfl)
theorem plain_dul:plainId "dict.update.loop" = true:=by decide +kernel
end F
end PySem
namespace L2
open PySem PySem.Spec PyProof.Rows PySem.W
theorem kJ {α β:Type}{F:α→β→Prop}:∀ {l₁:List α}{l₂:List β},Paired F l₁ l₂→∀ (i:Nat),i<l₁.length→∃ a b,l₁[i]?=some a∧l₂[i]?=some b∧F a b
 | _,_,.nil,i,h=>by simp at h
 | _,_,.cons r t,0,h=>⟨_,_,rfl,rfl,r⟩
 | _,_,.cons r t,i+1,h=>by
  obtain⟨a,b,x,y,z⟩:=kJ t i (by simpa using h)
  exact⟨a,b,by simpa using x,by simpa using y,z⟩
noncomputable def prs?:List Im→Option (List (List Im×Im))
 | []=>some []
 | .tup [.tup k,d]::r=>(prs? r).map fun s=>(k,d)::s
 | _=>none
theorem wW:∀ {x:List Im}{ps:List (List Im×Im)},prs? x=some ps→x=ps.map fun p=>.tup [.tup p.1,p.2]:=by
 intro x
 induction x with
 | nil=>intro ps h;cases h;rfl
 | cons a x ih=>
  intro ps h
  unfold prs? at h
  split at h
  ·cases h;rename_i e;cases e
  ·rename_i k d r e
   cases e
   obtain⟨s,e1,e2⟩:=Option.map_eq_some_iff.mp h
   cases e2
   rw[List.map_cons,← ih e1]
  ·cases h
noncomputable def eB (ps:List (List Im×Im)):List (List Im×Im):=ps.foldl (fun a p=>gj a p.1 p.2) []
noncomputable def kK (H:Hp) (v:V) (p:List Im×Im):Prop:=∃ t a y,v=.ref t∧H t=some (.tup [.ref a,y])∧KAd H p.1 a∧IsI H p.2 y
theorem oT {H:Hp}:∀ {ps:List (List Im×Im)}{ys:List V},(∀ p∈ps,Im.keys 7 p.1=true)→ak H (ps.map fun p=>.tup [.tup p.1,p.2]) ys→Paired (kK H) ys ps
 | [],ys,_,h=>by rw[show ys=[] from h];exact .nil
 | p::ps,ys,hk,h=>by
  obtain⟨v,r,rfl,⟨t,zs,rfl,h1,v1,r1,rfl,h2,v2,r2,rfl,h3,h4⟩,h5⟩:=h
  cases (show r2=[] from h4)
  obtain⟨a,ws,rfl,g1,g2⟩:=h2
  exact .cons ⟨t,a,v2,rfl,h1,⟨hk p (.head _),a,ws,rfl,g1,g2⟩,h3⟩ (oT (fun q hq=>hk q (.tail _ hq)) h5)
section
variable {X:Cx}{pins:List (Addr×Obj)}{σ:L2.St}{H:Hp}{s0:Shared}
theorem KT.is {kvs:List (List Im×V)}{xs:List (List Im×Addr×Value)} (r:KT H kvs xs):∀ x∈xs,KAd H x.1 x.2.1:=by
 intro x hx
 obtain⟨i,hi,rfl⟩:=List.mem_iff_getElem.mp hx
 obtain⟨p,q,h1,h2,h3,h4,_⟩:=kJ r i (by rw[Paired.length r];exact hi)
 rw[List.getElem?_eq_getElem hi] at h2
 have h2:=Option.some.inj h2
 subst h2
 rw[← h3]
 exact h4
theorem kL (I0:Inv X pins σ H s0) {D:Addr}{h h':Heap}{kvs:List (List Im×V)}{xs:List (List Im×Addr×Value)} (dd:h.DictOfH (cq X.prog X.w) D xs) (kt:KT H kvs xs) (kp:∀ b o,s0.heap.get? b=some o→h'.get? b=some o)
  (kD:∀ o,h.get? D=some o→h'.get? D=some o):h'.DictOfH (cq X.prog X.w) D xs:=by
 obtain⟨o,es,ep,h1,h2,h3,h4,_,h5⟩:=dd
 have I1:Inv X pins σ H { s0 with heap:=h' }:=I0.kept (t':=s0.toks) kp
 exact⟨o,es,ep,kD o h1,h2,h3,h4,fun x hx=>eQ (h:=h') I1.hok (kt.is x hx),h5⟩
theorem wX (I0:Inv X pins σ H s0) {A:Around} (hu:A.units+20<cLine) {D It l:Addr}{vs:List Value}{ys:List V}{ps:List (List Im×Im)}{St:Nat→Heap→Prop}{R:Result→Shared→Prop} (rv:ao ys vs) (hP:Paired (kK H) ys ps) (hz:ps.length≤1000)
  (W:Walks X.prog X.w A.in1 It [It,l] [It] vs.length (fun i v=>vs[i]?=some v) St) (nD:s0.heap.get? D=none) (nI:s0.heap.get? It=none) (DI:D≠It) (Dl:D≠l)
  (fin:∀ (s:Shared) (xs:List (List Im×Addr×Value)) (kvs:List (List Im×V)),(∀ b o,s0.heap.get? b=some o→s.heap.get? b=some o)→s.heap.DictOfH (cq X.prog X.w) D xs→KT H kvs xs→PKv H (eB ps) kvs→kvs.length≤1000→
   s.gens=s0.gens→s.drawn=s0.drawn→s.os=s0.os→R (.ok (.ret .none)) s):
  ∀ (m i:Nat) (t:Tok) (s:Shared) (xs:List (List Im×Addr×Value)) (kvs:List (List Im×V)),vs.length - i=m→i≤vs.length→St i s.heap→(∀ b o,s0.heap.get? b=some o→s.heap.get? b=some o)→
   s.heap.DictOfH (cq X.prog X.w) D xs→KT H kvs xs→PKv H (eB (ps.take i)) kvs→kvs.length≤i→s.gens=s0.gens→s.drawn=s0.drawn→s.os=s0.os→
   codeAny (model X.prog X.w) A (.builtin "dict.update.loop" ⟨[.ref D,.ref It,.int i t,.none],[]⟩) R s:=by
 have ly:vs.length=ps.length:=by rw[← rv.length,Paired.length hP]
 intro m
 induction m with
 | zero=>
  intro i t s xs kvs hm hi st kp dd kt hk hl g1 g2 g3
  have ei:i=vs.length:=by lia
  refine codeAny_builtin F.entry_dul ?_
  rw[Around.under_plainId F.plain_dul _]
  refine wpAny_bind (m:=pyNext (.ref It)) (W.done s _ _ (ei ▸ st) fun h' tk keep=>?_)
  refine wpAny_bind (m:=Builtin.Dict.addKeywords D []) (wpAny_pure (wpAny_pure ?_))
  have kD:∀ b o,b≠It→s.heap.get? b=some o→h'.get? b=some o:=fun b o hb e=>keep b o (by simpa using hb) e
  refine fin _ xs kvs (fun b o e=>kD b o (fun z=>by rw[z,nI] at e;cases e) (kp b o e)) ?_ kt (by rw[List.take_of_length_le (by lia)] at hk;exact hk) (by lia) g1 g2 g3
  exact kL I0 dd kt (fun b o e=>kD b o (fun z=>by rw[z,nI] at e;cases e) (kp b o e)) fun o e=>kD D o DI e
 | succ m ih=>
  intro i t s xs kvs hm hi st kp dd kt hk hl g1 g2 g3
  have lt:i<vs.length:=by lia
  refine codeAny_builtin F.entry_dul ?_
  rw[Around.under_plainId F.plain_dul _]
  refine wpAny_bind (m:=pyNext (.ref It)) (W.item i s _ _ lt st fun v h' tk hv st2 keep=>?_)
  have kD:∀ b o,b≠It→s.heap.get? b=some o→h'.get? b=some o:=fun b o hb e=>keep b o (by simpa using hb) e
  obtain⟨y,c,e1,e2,p,a,yv,rfl,hp,ha,hy⟩:=kJ hP i (by rw[rv.length];exact lt)
  obtain⟨u,e3,e4⟩:=rv.get e1
  rw[hv] at e3
  cases e3
  cases e4
  have kp2:∀ b o,s0.heap.get? b=some o→h'.get? b=some o:=fun b o e=>kD b o (fun z=>by rw[z,nI] at e;cases e) (kp b o e)
  have I2:Inv X pins σ H { s0 with heap:=h' }:=I0.kept (t':=s0.toks) kp2
  have dd2:=kL I0 dd kt kp2 fun o e=>kD D o DI e
  obtain⟨_,its,rvp,o,ho,hoc,n,hod⟩:=I2.hok _ _ hp
  obtain⟨w1,w2,rfl,r1,r2⟩:=gK rvp
  cases r1
  show wpAny (model X.prog X.w) A.in1 (holding [.ref p] _ >>= fun _=>again _) _ _ _
  refine wpAny_bind (wpAny_holding (wpAny_bind (wpAny_tryCatch ?_)))
  unfold Builtin.Dict.pairItems
  refine wpAny_bind (wpAny_typeOf (s:={ s with heap:=h',toks:=tk }) (⟨o,ho,hoc⟩:Shared.TypeIs { s with heap:=h',toks:=tk } (.ref p) "tuple") ?_)
  rw[if_pos (by decide)]
  refine wpAny_bind (wpAny_seqItems (s:={ s with heap:=h',toks:=tk }) ho hod (wpAny_pure ?_))
  show wpAny (model X.prog X.w) A.in1 (holding [.ref a,w2] (dictSet D (.ref a) w2)) _ _ _
  refine wpAny_holding (wpAny_dictSet_heap (s:={ s with heap:=h',toks:=tk }) (k:=c.1) (knd:=cq X.prog X.w) (gM hu) (eQ (h:=h') I2.hok ha) dd2 (fun h3 dd3 sb=>?_) (by
   have:=Paired.length kt
   exact Nat.le_trans (show xs.length≤1000 by lia) (by decide)))
  have kb3:∀ b o,b≠D→h'.get? b=some o→h3.get? b=some o:=fun b o hb e=>(sb.2 b hb).trans e
  have kt3:=kt.put c.1 (b:=a) (y:=yv) (u:=w2) ha r2
  have hci:ps.take (i+1)=ps.take i++[c]:=by
   have hi':=(List.getElem?_eq_some_iff.mp e2)
   rw[List.take_succ_eq_append_getElem hi'.1,hi'.2]
  have hk3:PKv H (eB (ps.take (i+1))) (fW kvs c.1 yv):=by
   rw[hci]
   unfold eB
   rw[List.foldl_append]
   exact PKv.put hy hk
  refine wpAny_pure ⟨plainId_quiet F.plain_dul _,ih (i+1) 0 _ _ _ (by lia) lt (W.frame _ _ _ st2 fun b hb o e=>kb3 b o (fun z=>by
    subst z
    rcases List.mem_cons.mp hb with z | hb
    ·exact DI z
    ·exact Dl (List.mem_singleton.mp hb)) e) (fun b o e=>kb3 b o (fun z=>by rw[z,nD] at e;cases e) (kp2 b o e)) dd3 kt3 hk3 ?_ g1 g2 g3⟩
  unfold fW
  split
  ·rw[List.length_map];lia
  ·simp;lia
theorem wY (hc:X.calm=true) (hu:X.A.units+30<cLine):bg X (.type "dict") (fun xs H Q=>∃ (l:Addr) (ys:List V) (ps:List (List Im×Im)),xs=[.ref l]∧H l=some (.lst ys)∧Paired (kK H) ys ps∧ps.length≤1000∧
  ∀ (d:Addr) (kvs:List (List Im×V)),H d=none→PKv H (eB ps) kvs→Q (.ref d) (upd H d (.dT kvs))):=by
 intro pins s σ H xs us Q I r h
 obtain⟨l,ys,ps,rfl,hl,hP,hz,q⟩:=h
 obtain⟨u,rfl,ru⟩:=cP r
 cases ru
 obtain⟨z,its,n,rv,e⟩:=I.hok l _ hl
 have ll:l<s.heap.objs.size:=Heap.lt_size e
 refine callType_codes (Q₁:=fun obj s₁=>obj=.ref s.heap.objs.size∧s₁={ s with heap:=s.heap.push { cls:=.type "dict",data:=.dict #[] } }) PySem.F.kt_called_dict (PySem.F.kt_typeCall_dict_1 _) PySem.F.entry_dict_init (kt_code_dict_new _ ⟨rfl,rfl⟩) ?_
 rintro obj s₁ ⟨rfl,rfl⟩
 have hnew:(s.heap.push { cls:=.type "dict",data:=.dict #[] }).DictOfH (cq X.prog X.w) s.heap.objs.size []:=Heap.DictOfH.new s.heap
 have hT:Shared.TypeIs { s with heap:=s.heap.push { cls:=.type "dict",data:=.dict #[] } } (.ref s.heap.objs.size) "dict" := ⟨_,Heap.get?_push_size _ rfl,rfl⟩
 have el:(s.heap.push { cls:=.type "dict",data:=.dict #[] }).get? l=some { cls:=.type "list",data:=.seq its.toArray n }:=Heap.get?_push_of_some _ e
 refine⟨hT,PySem.F.args_dict_init_2 _ _,?_⟩
 unfold Builtin.«dict.__init__»
 refine wpAny_bind ?_
 unfold Builtin.Dict.selfAndRest
 refine wpAny_bind (wpAny_notOrdered_dict hT ?_)
 show wpAny _ _ (pure (s.heap.objs.size,[Value.ref l])) _ _ _
 refine wpAny_pure ?_
 show wpAny _ _ (Builtin.Dict.updateFrom "dict.__init__" s.heap.objs.size (.ref l) [] .none) _ _ _
 unfold Builtin.Dict.updateFrom
 refine wpAny_bind (wpAny_typeOf (⟨_,el,rfl⟩:Shared.TypeIs { s with heap:=s.heap.push { cls:=.type "dict",data:=.dict #[] } } (.ref l) "list") ?_)
 rw[if_pos (by decide)]
 refine wpAny_bind (wV (s:={ s with heap:=s.heap.push { cls:=.type "dict",data:=.dict #[] } }) el (I.ok.hd hc) fun h1 tk k1=>?_)
 rw[if_pos (show (none:Option Value).isNone=true from rfl)]
 refine wpAny_bind (m:=rule _) (wpAny_rule ?_)
 have isl:h1.IsList l its.toArray:=⟨_,k1 _ _ el,rfl,n,rfl⟩
 refine wpAny_bind (wpAny_pyIter_list (s:={ s with heap:=h1,toks:=tk }) isl ?_)
 have sD:s.heap.objs.size<h1.objs.size:=Heap.lt_size (k1 _ _ (Heap.get?_push_size _ rfl))
 have kp:∀ b o,s.heap.get? b=some o→(h1.push { cls:=.type "list_iterator",data:=.fields #[.ref l,.int 0 0] }).get? b=some o:=fun b o eb=>Heap.get?_push_of_some _ (k1 b o (Heap.get?_push_of_some _ eb))
 refine wpAny_pure ⟨plainId_quiet PySem.F.plain_dul _,?_⟩
 have dd0:(h1.push { cls:=.type "list_iterator",data:=.fields #[.ref l,.int 0 0] }).DictOfH (cq X.prog X.w) s.heap.objs.size []:=kL I (kvs:=[]) hnew .nil kp fun o eo=>Heap.get?_push_of_some _ (k1 _ _ eo)
 have lI:l≠h1.objs.size:=Nat.ne_of_lt (Nat.lt_trans ll sD)
 refine wX I (A:=X.A.in1) (by show X.A.units+1+20<cLine;lia) (D:=s.heap.objs.size) (It:=h1.objs.size) (l:=l) (St:=fun i h=>h.IsListIter h1.objs.size l i∧h.IsList l its.toArray) rv hP hz ?_ (Heap.get?_none_of_le (Nat.le_refl _)) (Heap.get?_none_of_le (Nat.le_of_lt sD)) (Nat.ne_of_lt sD) (Nat.ne_of_gt ll)
  (fun s' xs kvs kp' dd' kt' hk hlen g1 g2 g3=>?_) its.length 0 0 _ [] [] rfl (Nat.zero_le _) ?_ kp dd0 .nil .nil (Nat.le_refl _) rfl rfl rfl
 ·have W:=Walks.list (prog:=X.prog) (w:=X.w) (A:=X.A.in1.in1) (I.ok.hd hc) h1.objs.size l lI its.toArray
  have e1:(fun (i:Nat) (v:Value)=>its.toArray[i]?=some v)=fun i v=>its[i]?=some v:=by
   funext i v
   rw[List.getElem?_toArray]
  rw[e1,List.size_toArray] at W
  exact W
 ·obtain⟨h',g',d',t',os'⟩:=s'
  have g1:g'=s.gens:=g1
  have g2:d'=s.drawn:=g2
  have g3:os'=s.os:=g3
  subst g1 g2 g3
  have fD:H s.heap.objs.size=none:=I.hok.fresh (Nat.le_refl _)
  obtain⟨o,es,ep,h1',h2',h3',h4',_,h5'⟩:=dd'
  refine⟨rfl,.ref s.heap.objs.size,_,I.laid (o:=.dT kvs) (h':=h') (t':=t') kp' (Nat.le_refl _) ⟨Nat.le_trans (show kvs.length≤1000 by lia) (by decide),beq_eq_false_iff_ne.mpr (Ne.symm (Nat.ne_of_lt I.big)),xs,kt'.keeps fun b ys eb=>nc eb fD,o,es,ep,h1',h2',h3',h4',h5'⟩,rfl,q _ kvs fD hk⟩
 ·exact⟨⟨_,Heap.get?_push_size _ rfl,rfl,rfl⟩,isl.push _⟩
@[simp] noncomputable def vDict:OpN:=fun ds=>match ds with
 | [.lst x]=>(prs? x).bind fun ps=>if (ps.all fun p=>Im.keys 7 p.1)=true∧ps.length≤1000 then some (.dT (eB ps)) else none
 | _=>none
theorem oU (hc:X.calm=true) (hu:X.A.units+30<cLine):cz X (.type "dict") vDict:=by
 refine (wY hc hu).imp fun xs H Q ⟨ds,d,rd,e,q⟩=>?_
 unfold vDict at e
 split at e
 ·rename_i x
  obtain⟨ps,e1,e2⟩:=Option.bind_eq_some_iff.mp e
  split at e2
  ·rename_i hp
   cases e2
   obtain⟨v,rfl,_,p,ys,rfl,h1,h2,_⟩:=bX rd
   rw[wW e1] at h2
   refine⟨p,ys,ps,rfl,h1,oT (fun q hq=>List.all_eq_true.mp hp.1 q hq) h2,hp.2,fun d kvs hd hk=>?_⟩
   have s:aH H (upd H d (.dT kvs)):=(aH.refl H).upd hd
   exact q _ _ [d] s ⟨d,kvs,rfl,cu,hk.mono s.tupS.tup,rfl⟩ (List.pairwise_singleton _ _) fun a ha=>by rw[List.mem_singleton.mp ha];exact hd
  ·cases e2
 ·cases e
end
section
variable {X:Cx}
end
section
variable {prog:Program}{w:World}{A:Around}{E:Value→Shared→Prop}{s:Shared}
theorem wZ {a b:Value}{k:Bool}{Q:Value→Shared→Prop} (hh:A.handled=none)
  (hcmp:∀ s':Shared,(∀ c o,s.heap.get? c=some o→s'.heap.get? c=some o)→∀ (Q:Value→Shared→Prop) (E:Value→Shared→Prop),Q (.bool k) s'→wpAny (model prog w) A.in1 (richCompare .Gt b a) Q E s')
  (h:∀ h' tk,(∀ c o,s.heap.get? c=some o→h'.get? c=some o)→Q (if k=true then b else a) { s with heap:=h',toks:=tk }):wpAny (model prog w) A (call (.builtin "max") [a,b]) Q E s:=by
 have hname:(toString "max" ++ toString ".loop" : String) = "max.loop" := by decide
 refine call_function_tree F.kind_max F.plain_max F.entry_max (F.args_max2 _ _) ?_
 show wpAny _ A.in1 (Builtin.Builtins.bindParams "max" ["key","default"] 0 ⟨[],[]⟩ >>= _) _ _ s
 refine wpAny_bind (wpAny_of_eq (show Builtin.Builtins.bindParams "max" ["key","default"] 0 ⟨[],[]⟩=pure [none,none] from rfl) ?_)
 show wpAny _ A.in1 (newTuple [a,b] >>= _) _ _ s
 refine wpAny_bind (wpAny_newObj_type ?_)
 have hT:(s.heap.push { cls:=.type "tuple",data:=.seq #[a,b] }).IsTuple s.heap.objs.size #[a,b]:=⟨_,Heap.get?_push_size _ rfl,rfl,0,rfl⟩
 refine wpAny_bind (wpAny_pyIter_tuple hT (wpAny_bind (wpAny_newObj_type ?_)))
 have z1:(s.heap.push { cls:=.type "tuple",data:=.seq #[a,b] }).objs.size=s.heap.objs.size+1:=Heap.size_push ..
 have W:=Walks.tuple (prog:=prog) (w:=w) (A:=A.in1) hh (s.heap.push { cls:=.type "tuple",data:=.seq #[a,b] }).objs.size s.heap.objs.size (by rw[z1];exact Nat.ne_of_lt (Nat.lt_succ_self _)) #[a,b]
 rw[hname]
 refine wpAny_pure ⟨plainId_quiet F.plain_max_loop _,?_⟩
 have hI:((s.heap.push { cls:=.type "tuple",data:=.seq #[a,b] }).push { cls:=.type "tuple_iterator",data:=.fields #[.ref s.heap.objs.size,.int 0 0] }).IsTupleIter (s.heap.push { cls:=.type "tuple",data:=.seq #[a,b] }).objs.size s.heap.objs.size 0:=⟨_,Heap.get?_push_size _ rfl,rfl,rfl⟩
 have hT2:=hT.push { cls:=.type "tuple_iterator",data:=.fields #[.ref s.heap.objs.size,.int 0 0] }
 have z2:((s.heap.push { cls:=.type "tuple",data:=.seq #[a,b] }).push { cls:=.type "tuple_iterator",data:=.fields #[.ref s.heap.objs.size,.int 0 0] }).objs.size=s.heap.objs.size+2:=by rw[Heap.size_push,z1]
 have kp:∀ c o,s.heap.get? c=some o→((s.heap.push { cls:=.type "tuple",data:=.seq #[a,b] }).push { cls:=.type "tuple_iterator",data:=.fields #[.ref s.heap.objs.size,.int 0 0] }).get? c=some o:=fun c o e=>Heap.get?_push_of_some _ (Heap.get?_push_of_some _ e)
 rw[z1] at W hI
 rw[z1,z2]
 generalize hg:((s.heap.push { cls:=.type "tuple",data:=.seq #[a,b] }).push { cls:=.type "tuple_iterator",data:=.fields #[.ref s.heap.objs.size,.int 0 0] })=g2 at hI hT2 z2 kp ⊢
 have hS0:(g2.push { cls:=.type "list",data:=.seq ([]:List Value).toArray }).get? (s.heap.objs.size+2)=some { cls:=.type "list",data:=.seq ([]:List Value).toArray }:=by rw[← z2];exact Heap.get?_push_size _ rfl
 have nI:s.heap.objs.size+2∉[s.heap.objs.size+1]:=by simp
 have nF:∀ c∈[s.heap.objs.size+1,s.heap.objs.size],s.heap.objs.size+2≠c:=fun c hc z=>by
  simp only[List.mem_cons,List.mem_nil_iff,or_false] at hc
  rcases hc with e | e
  ·rw[e] at z;exact absurd z (Nat.ne_of_gt (Nat.lt_succ_self _))
  ·rw[e] at z;exact absurd z (Nat.ne_of_gt (Nat.lt_add_of_pos_right (by decide)))
 have old:∀ c o,s.heap.get? c=some o→c∉[s.heap.objs.size+1]∧c≠s.heap.objs.size+2:=fun c o e=>by
  have lt:=Heap.lt_size e
  refine⟨fun z=>?_,Nat.ne_of_lt (Nat.lt_of_lt_of_le lt (Nat.le_add_right _ _))⟩
  rw[List.mem_singleton.mp z] at lt
  exact Nat.lt_irrefl _ (Nat.lt_of_succ_lt lt)
 -- the last turn
 have fin:∀ (h':Heap) (tk:Nat) (vb:Value) (cc:Nat),(∀ c o,s.heap.get? c=some o→h'.get? c=some o)→h'.get? (s.heap.objs.size+2)=some { cls:=.type "list",dict:=none,data:=.seq #[vb,vb] cc,slots:=#[] }→
   h'.IsTupleIter (s.heap.objs.size+1) s.heap.objs.size 2∧h'.IsTuple s.heap.objs.size #[a,b]→vb=(if k=true then b else a)→
   codeAny (model prog w) A (.builtin "max.loop" ⟨[.ref (s.heap.objs.size+1),.none,.ref (s.heap.objs.size+2)],[]⟩) (wants Q E) { s with heap:=h',toks:=tk }:=by
  intro h' tk vb cc k1 hS st ev
  refine codeAny_builtin F.entry_max_loop ?_
  rw[Around.under_plainId F.plain_max_loop _]
  show wpAny _ A.in1 (seqItems? (.ref (s.heap.objs.size+2)) >>= _) _ _ _
  refine wpAny_bind (wpAny_seqItems (s:={ s with heap:=h',toks:=tk }) hS rfl ?_)
  show wpAny _ A.in1 (tryCatch (pyNext (.ref (s.heap.objs.size+1))) _ >>= _) _ _ _
  refine wpAny_bind (wpAny_tryCatch (W.done { s with heap:=h',toks:=tk } _ _ st fun h2 tk2 kk=>?_))
  have hS':=kk _ _ nI hS
  show wpAny _ A.in1 (updateSeq (s.heap.objs.size+2) (fun _=>#[]) >>= _) _ _ _
  refine wpAny_bind (wpAny_updateSeq hS' rfl (wpAny_bind (wpAny_letGo (wpAny_pure ?_))))
  show Q vb _
  rw[ev]
  exact h _ tk2 fun c o e=>(Heap.get?_update_other _ _ (Ne.symm (old c o e).2)).trans (kk c o (old c o e).1 (k1 c o e))
 refine codeAny_builtin F.entry_max_loop ?_
 rw[Around.under_plainId F.plain_max_loop _]
 show wpAny _ A.in1 (seqItems? (.ref (s.heap.objs.size+2)) >>= _) _ _ _
 refine wpAny_bind (wpAny_seqItems (s:={ s with heap:=g2.push { cls:=.type "list",data:=.seq ([]:List Value).toArray } }) hS0 rfl ?_)
 show wpAny _ A.in1 (tryCatch (pyNext (.ref (s.heap.objs.size+1))) _ >>= _) _ _ _
 refine wpAny_bind (wpAny_tryCatch (W.item 0 { s with heap:=g2.push { cls:=.type "list",data:=.seq ([]:List Value).toArray } } _ _ (by simp) ⟨let ⟨o,e1,e2⟩:=hI;⟨o,Heap.get?_push_of_some _ e1,e2⟩,hT2.push _⟩ fun v h1 tk1 hv st1 k1=>?_))
 cases hv
 have hS1:=k1 _ _ nI hS0
 show wpAny _ A.in1 (updateSeq (s.heap.objs.size+2) (fun _=>#[a,a]) >>= _) _ _ _
 refine wpAny_bind (wpAny_updateSeq hS1 rfl ?_)
 rw[hname]
 refine wpAny_pure ⟨plainId_quiet F.plain_max_loop _,codeAny_builtin F.entry_max_loop ?_⟩
 have hS2:=Heap.get?_update_self (Obj.mapSeq (fun _=>(#[a,a]:Array Value))) hS1 rfl
 have st2:=W.frame _ _ (h1.update (s.heap.objs.size+2) (Obj.mapSeq (fun _=>(#[a,a]:Array Value)))) st1 fun c hc o e=>(Heap.get?_update_other _ _ (nF c hc)).trans e
 have kp2:∀ c o,s.heap.get? c=some o→(h1.update (s.heap.objs.size+2) (Obj.mapSeq (fun _=>(#[a,a]:Array Value)))).get? c=some o:=fun c o e=>(Heap.get?_update_other _ _ (Ne.symm (old c o e).2)).trans (k1 c o (old c o e).1 (Heap.get?_push_of_some _ (kp c o e)))
 rw[Around.under_plainId F.plain_max_loop _]
 show wpAny _ A.in1 (seqItems? (.ref (s.heap.objs.size+2)) >>= _) _ _ _
 refine wpAny_bind (wpAny_seqItems hS2 rfl ?_)
 show wpAny _ A.in1 (tryCatch (pyNext (.ref (s.heap.objs.size+1))) _ >>= _) _ _ _
 refine wpAny_bind (wpAny_tryCatch (W.item 1 _ _ _ (by simp) st2 fun v h3 tk3 hv st3 k3=>?_))
 cases hv
 have hS3:=k3 _ _ nI hS2
 have kp3:∀ c o,s.heap.get? c=some o→h3.get? c=some o:=fun c o e=>k3 c o (old c o e).1 (kp2 c o e)
 show wpAny _ A.in1 (tryCatch (holding [b,b] (richCompare .Gt b a >>= _)) _ >>= _) _ _ _
 refine wpAny_bind (wpAny_tryCatch (wpAny_holding (wpAny_bind (hcmp _ kp3 _ _ ?_))))
 refine wpAny_bind (wpAny_holding (wpAny_truthy_bool ?_))
 refine wpAny_bind (wpAny_letGo (wpAny_pure ?_))
 cases hk:k with
 | true=>
  simp only[if_true]
  refine wpAny_bind (wpAny_updateSeq hS3 rfl (wpAny_bind (wpAny_letGo ?_)))
  rw[hname]
  have hS4:=Heap.get?_update_self (Obj.mapSeq (fun _=>(#[b,b]:Array Value))) hS3 rfl
  refine wpAny_pure ⟨plainId_quiet F.plain_max_loop _,fin _ tk3 b _ (fun c o e=>(Heap.get?_update_other _ _ (Ne.symm (old c o e).2)).trans (kp3 c o e)) hS4 (W.frame _ _ _ st3 fun c hc o e=>(Heap.get?_update_other _ _ (nF c hc)).trans e) (by rw[hk];rfl)⟩
 | false=>
  simp only[Bool.false_eq_true,if_false]
  refine wpAny_bind (wpAny_letGo ?_)
  rw[hname]
  exact wpAny_pure ⟨plainId_quiet F.plain_max_loop _,fin _ tk3 a _ kp3 hS3 st3 (by rw[hk];rfl)⟩
end
section
variable {prog:Program}{w:World}{A:Around}{E:Value→Shared→Prop}{s:Shared}
theorem w9 {a b:Value}{k:Bool}{Q:Value→Shared→Prop} (hh:A.handled=none)
  (hcmp:∀ s':Shared,(∀ c o,s.heap.get? c=some o→s'.heap.get? c=some o)→∀ (Q:Value→Shared→Prop) (E:Value→Shared→Prop),Q (.bool k) s'→wpAny (model prog w) A.in1 (richCompare .Lt b a) Q E s')
  (h:∀ h' tk,(∀ c o,s.heap.get? c=some o→h'.get? c=some o)→Q (if k=true then b else a) { s with heap:=h',toks:=tk }):wpAny (model prog w) A (call (.builtin "min") [a,b]) Q E s:=by
 have hname:(toString "min" ++ toString ".loop" : String) = "min.loop" := by decide
 refine call_function_tree F.kind_min F.plain_min F.entry_min (F.args_min2 _ _) ?_
 show wpAny _ A.in1 (Builtin.Builtins.bindParams "min" ["key","default"] 0 ⟨[],[]⟩ >>= _) _ _ s
 refine wpAny_bind (wpAny_of_eq (show Builtin.Builtins.bindParams "min" ["key","default"] 0 ⟨[],[]⟩=pure [none,none] from rfl) ?_)
 show wpAny _ A.in1 (newTuple [a,b] >>= _) _ _ s
 refine wpAny_bind (wpAny_newObj_type ?_)
 have hT:(s.heap.push { cls:=.type "tuple",data:=.seq #[a,b] }).IsTuple s.heap.objs.size #[a,b]:=⟨_,Heap.get?_push_size _ rfl,rfl,0,rfl⟩
 refine wpAny_bind (wpAny_pyIter_tuple hT (wpAny_bind (wpAny_newObj_type ?_)))
 have z1:(s.heap.push { cls:=.type "tuple",data:=.seq #[a,b] }).objs.size=s.heap.objs.size+1:=Heap.size_push ..
 have W:=Walks.tuple (prog:=prog) (w:=w) (A:=A.in1) hh (s.heap.push { cls:=.type "tuple",data:=.seq #[a,b] }).objs.size s.heap.objs.size (by rw[z1];exact Nat.ne_of_lt (Nat.lt_succ_self _)) #[a,b]
 rw[hname]
 refine wpAny_pure ⟨plainId_quiet F.plain_min_loop _,?_⟩
 have hI:((s.heap.push { cls:=.type "tuple",data:=.seq #[a,b] }).push { cls:=.type "tuple_iterator",data:=.fields #[.ref s.heap.objs.size,.int 0 0] }).IsTupleIter (s.heap.push { cls:=.type "tuple",data:=.seq #[a,b] }).objs.size s.heap.objs.size 0:=⟨_,Heap.get?_push_size _ rfl,rfl,rfl⟩
 have hT2:=hT.push { cls:=.type "tuple_iterator",data:=.fields #[.ref s.heap.objs.size,.int 0 0] }
 have z2:((s.heap.push { cls:=.type "tuple",data:=.seq #[a,b] }).push { cls:=.type "tuple_iterator",data:=.fields #[.ref s.heap.objs.size,.int 0 0] }).objs.size=s.heap.objs.size+2:=by rw[Heap.size_push,z1]
 have kp:∀ c o,s.heap.get? c=some o→((s.heap.push { cls:=.type "tuple",data:=.seq #[a,b] }).push { cls:=.type "tuple_iterator",data:=.fields #[.ref s.heap.objs.size,.int 0 0] }).get? c=some o:=fun c o e=>Heap.get?_push_of_some _ (Heap.get?_push_of_some _ e)
 rw[z1] at W hI
 rw[z1,z2]
 generalize hg:((s.heap.push { cls:=.type "tuple",data:=.seq #[a,b] }).push { cls:=.type "tuple_iterator",data:=.fields #[.ref s.heap.objs.size,.int 0 0] })=g2 at hI hT2 z2 kp ⊢
 have hS0:(g2.push { cls:=.type "list",data:=.seq ([]:List Value).toArray }).get? (s.heap.objs.size+2)=some { cls:=.type "list",data:=.seq ([]:List Value).toArray }:=by rw[← z2];exact Heap.get?_push_size _ rfl
 have nI:s.heap.objs.size+2∉[s.heap.objs.size+1]:=by simp
 have nF:∀ c∈[s.heap.objs.size+1,s.heap.objs.size],s.heap.objs.size+2≠c:=fun c hc z=>by
  simp only[List.mem_cons,List.mem_nil_iff,or_false] at hc
  rcases hc with e | e
  ·rw[e] at z;exact absurd z (Nat.ne_of_gt (Nat.lt_succ_self _))
  ·rw[e] at z;exact absurd z (Nat.ne_of_gt (Nat.lt_add_of_pos_right (by decide)))
 have old:∀ c o,s.heap.get? c=some o→c∉[s.heap.objs.size+1]∧c≠s.heap.objs.size+2:=fun c o e=>by
  have lt:=Heap.lt_size e
  refine⟨fun z=>?_,Nat.ne_of_lt (Nat.lt_of_lt_of_le lt (Nat.le_add_right _ _))⟩
  rw[List.mem_singleton.mp z] at lt
  exact Nat.lt_irrefl _ (Nat.lt_of_succ_lt lt)
 -- the last turn
 have fin:∀ (h':Heap) (tk:Nat) (vb:Value) (cc:Nat),(∀ c o,s.heap.get? c=some o→h'.get? c=some o)→h'.get? (s.heap.objs.size+2)=some { cls:=.type "list",dict:=none,data:=.seq #[vb,vb] cc,slots:=#[] }→
   h'.IsTupleIter (s.heap.objs.size+1) s.heap.objs.size 2∧h'.IsTuple s.heap.objs.size #[a,b]→vb=(if k=true then b else a)→
   codeAny (model prog w) A (.builtin "min.loop" ⟨[.ref (s.heap.objs.size+1),.none,.ref (s.heap.objs.size+2)],[]⟩) (wants Q E) { s with heap:=h',toks:=tk }:=by
  intro h' tk vb cc k1 hS st ev
  refine codeAny_builtin F.entry_min_loop ?_
  rw[Around.under_plainId F.plain_min_loop _]
  show wpAny _ A.in1 (seqItems? (.ref (s.heap.objs.size+2)) >>= _) _ _ _
  refine wpAny_bind (wpAny_seqItems (s:={ s with heap:=h',toks:=tk }) hS rfl ?_)
  show wpAny _ A.in1 (tryCatch (pyNext (.ref (s.heap.objs.size+1))) _ >>= _) _ _ _
  refine wpAny_bind (wpAny_tryCatch (W.done { s with heap:=h',toks:=tk } _ _ st fun h2 tk2 kk=>?_))
  have hS':=kk _ _ nI hS
  show wpAny _ A.in1 (updateSeq (s.heap.objs.size+2) (fun _=>#[]) >>= _) _ _ _
  refine wpAny_bind (wpAny_updateSeq hS' rfl (wpAny_bind (wpAny_letGo (wpAny_pure ?_))))
  show Q vb _
  rw[ev]
  exact h _ tk2 fun c o e=>(Heap.get?_update_other _ _ (Ne.symm (old c o e).2)).trans (kk c o (old c o e).1 (k1 c o e))
 refine codeAny_builtin F.entry_min_loop ?_
 rw[Around.under_plainId F.plain_min_loop _]
 show wpAny _ A.in1 (seqItems? (.ref (s.heap.objs.size+2)) >>= _) _ _ _
 refine wpAny_bind (wpAny_seqItems (s:={ s with heap:=g2.push { cls:=.type "list",data:=.seq ([]:List Value).toArray } }) hS0 rfl ?_)
 show wpAny _ A.in1 (tryCatch (pyNext (.ref (s.heap.objs.size+1))) _ >>= _) _ _ _
 refine wpAny_bind (wpAny_tryCatch (W.item 0 { s with heap:=g2.push { cls:=.type "list",data:=.seq ([]:List Value).toArray } } _ _ (by simp) ⟨let ⟨o,e1,e2⟩:=hI;⟨o,Heap.get?_push_of_some _ e1,e2⟩,hT2.push _⟩ fun v h1 tk1 hv st1 k1=>?_))
 cases hv
 have hS1:=k1 _ _ nI hS0
 show wpAny _ A.in1 (updateSeq (s.heap.objs.size+2) (fun _=>#[a,a]) >>= _) _ _ _
 refine wpAny_bind (wpAny_updateSeq hS1 rfl ?_)
 rw[hname]
 refine wpAny_pure ⟨plainId_quiet F.plain_min_loop _,codeAny_builtin F.entry_min_loop ?_⟩
 have hS2:=Heap.get?_update_self (Obj.mapSeq (fun _=>(#[a,a]:Array Value))) hS1 rfl
 have st2:=W.frame _ _ (h1.update (s.heap.objs.size+2) (Obj.mapSeq (fun _=>(#[a,a]:Array Value)))) st1 fun c hc o e=>(Heap.get?_update_other _ _ (nF c hc)).trans e
 have kp2:∀ c o,s.heap.get? c=some o→(h1.update (s.heap.objs.size+2) (Obj.mapSeq (fun _=>(#[a,a]:Array Value)))).get? c=some o:=fun c o e=>(Heap.get?_update_other _ _ (Ne.symm (old c o e).2)).trans (k1 c o (old c o e).1 (Heap.get?_push_of_some _ (kp c o e)))
 rw[Around.under_plainId F.plain_min_loop _]
 show wpAny _ A.in1 (seqItems? (.ref (s.heap.objs.size+2)) >>= _) _ _ _
 refine wpAny_bind (wpAny_seqItems hS2 rfl ?_)
 show wpAny _ A.in1 (tryCatch (pyNext (.ref (s.heap.objs.size+1))) _ >>= _) _ _ _
 refine wpAny_bind (wpAny_tryCatch (W.item 1 _ _ _ (by simp) st2 fun v h3 tk3 hv st3 k3=>?_))
 cases hv
 have hS3:=k3 _ _ nI hS2
 have kp3:∀ c o,s.heap.get? c=some o→h3.get? c=some o:=fun c o e=>k3 c o (old c o e).1 (kp2 c o e)
 show wpAny _ A.in1 (tryCatch (holding [b,b] (richCompare .Lt b a >>= _)) _ >>= _) _ _ _
 refine wpAny_bind (wpAny_tryCatch (wpAny_holding (wpAny_bind (hcmp _ kp3 _ _ ?_))))
 refine wpAny_bind (wpAny_holding (wpAny_truthy_bool ?_))
 refine wpAny_bind (wpAny_letGo (wpAny_pure ?_))
 cases hk:k with
 | true=>
  simp only[if_true]
  refine wpAny_bind (wpAny_updateSeq hS3 rfl (wpAny_bind (wpAny_letGo ?_)))
  rw[hname]
  have hS4:=Heap.get?_update_self (Obj.mapSeq (fun _=>(#[b,b]:Array Value))) hS3 rfl
  refine wpAny_pure ⟨plainId_quiet F.plain_min_loop _,fin _ tk3 b _ (fun c o e=>(Heap.get?_update_other _ _ (Ne.symm (old c o e).2)).trans (kp3 c o e)) hS4 (W.frame _ _ _ st3 fun c hc o e=>(Heap.get?_update_other _ _ (nF c hc)).trans e) (by rw[hk];rfl)⟩
 | false=>
  simp only[Bool.false_eq_true,if_false]
  refine wpAny_bind (wpAny_letGo ?_)
  rw[hname]
  exact wpAny_pure ⟨plainId_quiet F.plain_min_loop _,fin _ tk3 a _ kp3 hS3 st3 (by rw[hk];rfl)⟩
end
noncomputable def kN (A:Around) (s:Shared) (y x:Value) (k:Bool):Prop:=∀ (prog:Program) (w:World) (E:Value→Shared→Prop) (Q:Value→Shared→Prop),Q (.bool k) s→wpAny (model prog w) A (richCompare .Gt y x) Q E s
section
open PySem.SeqAt
open PySem.AutoSeq1 (wpAny_loadPart')
open PySem.MeetsSeq PySem.MeetsSeq2 PySem.MeetsSeq3
theorem xa (l b:Addr) (items items2:Array Value) (n n2:Nat) (dd dd2:Option Addr) (sl sl2:Array (Option Value)) (ps:List (Bool×Bool)) (hps:ps.length=min items.size items2.size):
  Meets (Builtin.«tuple.__gt__» ⟨[.ref l,.ref b],[]⟩)
   (fun A R s=>s.heap.get? l=some { cls:=.type "tuple",dict:=dd,data:=.seq items n,slots:=sl }∧s.heap.get? b=some { cls:=.type "tuple",dict:=dd2,data:=.seq items2 n2,slots:=sl2 }∧
    (∀ j (h1:j<items.size) (h2:j<items2.size) (h3:j<ps.length),EqAt A.in1 s items[j] items2[j] (ps[j]).1∧((ps[j]).1=false→kN A.in1 s items[j] items2[j] (ps[j]).2))∧
    R (.ok (.ret (.bool (ck (decide (items2.size<items.size)) ps)))) s):=
 .of_wp fun prog w A R s h=>by
  obtain⟨hp,g,d,tk,os⟩:=s;obtain⟨hl,hb,he,h⟩:=h
  have f2:=AutoSeq1.sub_tuple_tuple
  have hZ:(items.toList.zip items2.toList).length=min items.size items2.size:=by simp
  wp_walk using wpAny_loadPart' hl,wpAny_loadPart' hb,wpAny_forIn_list _ (fun rest b s'=>b.1=none∧s'=⟨hp,g,d,tk,os⟩∧∃ i,rest=(items.toList.zip items2.toList).drop i∧
   R (.ok (.ret (.bool (ck (decide (items2.size<items.size)) (ps.drop i))))) ⟨hp,g,d,tk,os⟩) _
  case turn=>
   rintro⟨y,x⟩ rest b s' ⟨hb',rfl,i,hz,hR⟩
   have hlt:i<(items.toList.zip items2.toList).length:=by
    rcases Nat.lt_or_ge i (items.toList.zip items2.toList).length with h' | h'
    ·exact h'
    ·rw[List.drop_of_length_le h'] at hz;cases hz
   have hm:i<min items.size items2.size:=hZ ▸ hlt
   have h1:i<items.size:=by lia
   have h2:i<items2.size:=by lia
   have h3:i<ps.length:=by lia
   rw[List.drop_eq_getElem_cons hlt] at hz
   injection hz with hyx hrest
   have hy:y=items[i]:=by have:=congrArg Prod.fst hyx;simpa using this
   have hx:x=items2[i]:=by have:=congrArg Prod.snd hyx;simpa using this
   subst hy hx
   rw[List.drop_eq_getElem_cons h3] at hR
   obtain⟨he1,he2⟩:=he i h1 h2 h3
   generalize ps[i]=pr at hR he1 he2
   obtain⟨e,k⟩:=pr
   refine wpAny_bind (he1 prog w _ _ ?_)
   cases e with
   | true=>
    have hR':R (.ok (.ret (.bool (ck (decide (items2.size<items.size)) (ps.drop (i+1)))))) ⟨hp,g,d,tk,os⟩:=hR
    wp_walk
    exact⟨rfl,rfl,i+1,hrest,hR'⟩
   | false=>
    have hR':R (.ok (.ret (.bool k))) ⟨hp,g,d,tk,os⟩:=hR
    have hri:=he2 rfl prog w
    wp_walk using hri
    exact⟨_,rfl,by simpa using hR'⟩
  case fin=>
   rintro⟨b1,b2⟩ s' ⟨hb',rfl,i,hz,hR⟩
   simp only at hb'
   subst hb'
   have hge:min items.size items2.size≤i:=by
    rcases Nat.lt_or_ge i (items.toList.zip items2.toList).length with h' | h'
    ·rw[List.drop_eq_getElem_cons h'] at hz;cases hz
    ·exact hZ ▸ h'
   rw[List.drop_of_length_le (by lia)] at hR
   have hR':R (.ok (.ret (.bool (decide (items2.size<items.size))))) ⟨hp,g,d,tk,os⟩:=hR
   wp_walk
   exact⟨_,rfl,by simpa [Builtin.Tuple.tupleCompareSizes] using hR'⟩
  case h=>
   exact⟨rfl,rfl,0,rfl,by simpa using h⟩
end
noncomputable def zpG (ds es:List Im):List (Bool×Bool):=(ds.zip es).map fun p=>(ap p.1 p.2,ltM p.2 p.1)
theorem xb (a b:Im):Im.beq a b=Im.beq b a:=by
 rw[Bool.eq_iff_iff,Im.beq_iff,Im.beq_iff]
 exact⟨fun h=>h.symm,fun h=>h.symm⟩
theorem oW:∀ {n:Nat}{ds es:List Im},bB n ds es=true→ck false (zpG ds es)=bF es ds
 | _,[],[],_=>rfl
 | n,a::r,b::t,h=>by
  rw[bB,Bool.and_eq_true] at h
  show (if ap a b=true then ck false (zpG r t) else ltM b a)=bF (b::t) (a::r)
  rw[bF,(gn h.1).2.2,oW h.2,xb]
 | _,[],_::_,h=>by cases h
 | _,_::_,[],h=>by cases h
theorem oX {s:Shared}{A:Around}{i j:Int}{u v:Value} (hx:ImV s.heap (.int i) u) (hy:ImV s.heap (.int j) v):kN A s u v (ltM (.int j) (.int i)):=by
 obtain⟨t,rfl⟩:=hx
 obtain⟨t',rfl⟩:=hy
 intro prog w E Q q
 rw[ltM] at q
 exact (PyProof.Rows.gt_int q:wpAny (model prog w) A (compareOp .Gt (.int i t) (.int j t')) Q E s)
theorem xc {s:Shared} (n:Nat):∀ {A:Around}{x y:Im}{u v:Value},bh n x y=true→A.units+n+2<cLine→ImV s.heap x u→ImV s.heap y v→kN A s u v (ltM y x):=by
 induction n with
 | zero=>
  intro A x y u v h hu hx hy
  rcases hX h with ⟨i,j,rfl,rfl⟩ | ⟨m,_,_,e,_⟩
  ·exact oX hx hy
  ·cases e
 | succ n ih=>
  intro A x y u v h hu hx hy
  rcases hX h with ⟨i,j,rfl,rfl⟩ | ⟨m,ds,es,e,rfl,rfl,h⟩
  ·exact oX hx hy
  cases e
  obtain⟨a,o,its,m,rfl,h1,h2,h3,h4⟩:=hx
  obtain⟨b,o',its',m',rfl,g1,g2,g3,g4⟩:=hy
  obtain⟨cls,dd,data,sl⟩:=o
  obtain⟨cls',dd',data',sl'⟩:=o'
  simp only at h2 h3 g2 g3
  subst h2 h3 g2 g3
  have l0:=iY h
  have l1:ds.length=its.size:=by rw[h4.length,Array.length_toList]
  have l2:es.length=its'.size:=by rw[g4.length,Array.length_toList]
  intro prog w E Q q
  rw[ltM,← oW h] at q
  have lp:(zpG ds es).length=min its.size its'.size:=by rw[zpG,List.length_map,List.length_zip,l1,l2]
  have hd:decide (its'.size<its.size)=false:=decide_eq_false (by lia)
  refine richCompare_meets_room (op:=.Gt) ⟨_,h1,rfl⟩ ⟨_,g1,rfl⟩ PySem.F.slot_tuple_gt PySem.F.entry_tuple_gt (PySem.F.args_tuple_gt_2 _ _) (xa a b its its' m m' dd dd' sl sl' (zpG ds es) lp)
   ⟨h1,g1,fun j j1 j2 j3=>?_,show Value.bool (ck (decide (its'.size<its.size)) (zpG ds es))≠Value.notImplemented∧Q (.bool (ck (decide (its'.size<its.size)) (zpG ds es))) s from ⟨(fun x=>nomatch x),by rw[hd];exact q⟩⟩ (by lia)
  obtain⟨d1,e1,r1⟩:=h4.get (j:=j) (v:=its[j]) (by rw[Array.getElem?_toList];simp[j1])
  obtain⟨d2,e2,r2⟩:=g4.get (j:=j) (v:=its'[j]) (by rw[Array.getElem?_toList];simp[j2])
  have lk:=kz h e1 e2
  have hp:=gn lk
  have ez:(zpG ds es)[j]=(ap d1 d2,ltM d2 d1):=by
   have:(zpG ds es)[j]?=some (ap d1 d2,ltM d2 d1):=by
    rw[zpG,List.getElem?_map,(List.getElem?_zip_eq_some (z:=(d1,d2))).mpr ⟨e1,e2⟩]
    rfl
   rw[List.getElem?_eq_getElem j3] at this
   exact Option.some.inj this
  rw[ez]
  exact⟨b9 n hp.1 hp.2.1 (by show A.units+1+n+1<cLine;lia) r1 r2,fun _=>ih lk (by show A.units+1+n+2<cLine;lia) r1 r2⟩
section
variable {X:Cx}
theorem xf (hc:X.calm=true) (hu:X.A.units+20<cLine):bg X (.builtin "max") (fun xs H Q=>∃ (d e:Im) (v u:V),xs=[v,u]∧bh 6 e d=true∧IsI H d v∧IsI H e u∧Q (if ltM d e=true then u else v) H):=by
 intro pins s σ H xs us Q I r h
 obtain⟨d,e,v,u,rfl,lk,h1,h2,q⟩:=h
 obtain⟨v',u',rfl,r1,r2⟩:=gK r
 refine wZ (k:=ltM d e) (I.ok.hd hc) (fun s' k Q E hq=>?_) fun h' tk k=>⟨if ltM d e=true then u else v,H,I.kept k,?_,q⟩
 ·exact xc 6 lk (by show X.A.units+1+6+2<cLine;lia) ((h2.imv I.hok r2).keep fun a o _ _ e _ _=>k a o e) ((h1.imv I.hok r1).keep fun a o _ _ e _ _=>k a o e) X.prog X.w E Q hq
 ·split
  ·exact r2
  ·exact r1
theorem xg (hc:X.calm=true) (hu:X.A.units+20<cLine):bg X (.builtin "min") (fun xs H Q=>∃ (d e:Im) (v u:V),xs=[v,u]∧bh 6 e d=true∧IsI H d v∧IsI H e u∧Q (if ltM e d=true then u else v) H):=by
 intro pins s σ H xs us Q I r h
 obtain⟨d,e,v,u,rfl,lk,h1,h2,q⟩:=h
 obtain⟨v',u',rfl,r1,r2⟩:=gK r
 refine w9 (k:=ltM e d) (I.ok.hd hc) (fun s' k Q E hq=>?_) fun h' tk k=>⟨if ltM e d=true then u else v,H,I.kept k,?_,q⟩
 ·exact kA 6 lk (by show X.A.units+1+6+2<cLine;lia) ((h2.imv I.hok r2).keep fun a o _ _ e _ _=>k a o e) ((h1.imv I.hok r1).keep fun a o _ _ e _ _=>k a o e) X.prog X.w E Q hq
 ·split
  ·exact r2
  ·exact r1
noncomputable def vMaxM:OpN:=fun ds=>match ds with
 | [.im (.int i),.im (.int j)]=>vMax2 [.im (.int i),.im (.int j)]
 | [.im (.tup a),.im (.tup b)]=>if bh 6 (.tup b) (.tup a)=true then some (.im (if ltM (.tup a) (.tup b)=true then .tup b else .tup a)) else none
 | _=>none
noncomputable def vMinM:OpN:=fun ds=>match ds with
 | [.im (.int i),.im (.int j)]=>vMin2 [.im (.int i),.im (.int j)]
 | [.im (.tup a),.im (.tup b)]=>if bh 6 (.tup b) (.tup a)=true then some (.im (if ltM (.tup b) (.tup a)=true then .tup b else .tup a)) else none
 | _=>none
theorem oY (hc:X.calm=true) (hu:X.A.units+20<cLine):cz X (.builtin "max") vMaxM:=by
 intro pins s σ H xs us Q I r ⟨ds,d,rd,e,q⟩
 unfold vMaxM at e
 split at e
 ·exact wC hc pins s σ H xs us Q I r ⟨_,d,rd,e,q⟩
 ·split at e
  ·rename_i a b lk
   cases e
   obtain⟨v,u,rfl,h1,h2⟩:=nE rd
   refine xf hc hu pins s σ H _ us Q I r ⟨_,_,v,u,rfl,lk,h1,h2,Out.i q ?_⟩
   split
   ·exact h2
   ·exact h1
  ·cases e
 ·cases e
theorem oZ (hc:X.calm=true) (hu:X.A.units+20<cLine):cz X (.builtin "min") vMinM:=by
 intro pins s σ H xs us Q I r ⟨ds,d,rd,e,q⟩
 unfold vMinM at e
 split at e
 ·exact wD hc pins s σ H xs us Q I r ⟨_,d,rd,e,q⟩
 ·split at e
  ·rename_i a b lk
   cases e
   obtain⟨v,u,rfl,h1,h2⟩:=nE rd
   refine xg hc hu pins s σ H _ us Q I r ⟨_,_,v,u,rfl,lk,h1,h2,Out.i q ?_⟩
   split
   ·exact h2
   ·exact h1
  ·cases e
 ·cases e
end
section
variable {prog:Program}{w:World}{A:Around}{E:Value→Shared→Prop}{s:Shared}
end
section
variable {prog:Program}{w:World}{A:Around}{E:Value→Shared→Prop}{s:Shared}
end
section
variable {X:Cx}
end
section
variable {X:Cx}
end
mutual
noncomputable def pyD:Im→PyData
 | .int i=>.int i
 | .bl b=>.bool b
 | .str x=>.str x
 | .tup ds=>.tuple (ii ds)
 | _=>.none
noncomputable def ii:List Im→List PyData
 | []=>[]
 | d::r=>pyD d::ii r
end
mutual
theorem xh {h:Heap}:∀ {n:Nat}{d:Im}{u:Value},Im.pl n d=true→ImV h d u→Reads h u (pyD d) []
 | _,.non,u,_,e=>by cases (show u=.none from e);exact .none
 | _,.bl b,u,_,e=>by cases (show u=.bool b from e);exact .bool b
 | _,.int i,u,_,e=>by obtain⟨t,rfl⟩:=e;exact .int i t
 | _,.str x,u,_,e=>by obtain⟨t,rfl⟩:=e;exact .str x t
 | n+1,.tup ds,u,k,e=>by
  obtain⟨a,o,items,m,rfl,h1,h2,h3,h4⟩:=e
  exact .tuple h1 h2 h3 (pf (n:=n) k h4)
 | 0,.tup ds,u,k,e=>by cases k
 | n,.fn a,u,k,e=>by cases n<;>cases k
 | n,.fl a,u,k,e=>by cases n<;>cases k
theorem pf {h:Heap}:∀ {n:Nat}{ds:List Im}{us:List Value},Im.pls n ds=true→aK h ds us→ReadsAll h us (ii ds) []
 | _,[],us,_,e=>by rw[show us=[] from e];exact .nil
 | n,d::ds,us,k,e=>by
  obtain⟨v,r,rfl,h1,h2⟩:=e
  rw[Im.pls,Bool.and_eq_true] at k
  exact .cons (xh k.1 h1) (pf k.2 h2)
end
mutual
theorem xi:∀ d:Im,PyData.hasDict (pyD d)=false
 | .non=>rfl
 | .bl _=>rfl
 | .int _=>rfl
 | .str _=>rfl
 | .fn _=>rfl
 | .fl _=>rfl
 | .tup ds=>pg ds
theorem pg:∀ ds:List Im,PyData.hasDictAll (ii ds)=false
 | []=>rfl
 | d::r=>by
  show (PyData.hasDict (pyD d) || PyData.hasDictAll (ii r))=false
  rw[xi d,pg r]
  rfl
end
section
variable {X:Cx}
end
section
variable {prog:Program}{w:World}{A:Around}{E:Value→Shared→Prop}{s:Shared}
end
section
variable {X:Cx}
end
noncomputable def dh:List Im→Im→Option Nat
 | [],_=>none
 | x::r,d=>if ap x d=true then some 0 else (dh r d).map (·+1)
theorem ph {h:Heap}{d:Im}:∀ {ds:List Im}{vs:List Value}{j:Nat},Im.pls 8 ds=true→aK h ds vs→dh ds d=some j→
  ∃ v,vs[j]?=some v∧cX h d v=true∧∀ m u,m<j→vs[m]?=some u→cX h d u=false
 | [],vs,j,_,_,e=>by cases e
 | x::ds,vs,j,k,iv,e=>by
  obtain⟨v,r,rfl,h1,h2⟩:=iv
  rw[Im.pls,Bool.and_eq_true] at k
  unfold dh at e
  split at e
  ·rename_i z
   cases e
   exact⟨v,rfl,by rw[dw k.1 h1];exact z,fun m u hm=>absurd hm (Nat.not_lt_zero m)⟩
  ·rename_i z
   obtain⟨i,e1,rfl⟩:=Option.map_eq_some_iff.mp e
   obtain⟨w,g1,g2,g3⟩:=ph k.2 h2 e1
   refine⟨w,g1,g2,fun m u hm hu=>?_⟩
   cases m with
   | zero=>
    cases hu
    rw[dw k.1 h1]
    exact Bool.eq_false_iff.mpr z
   | succ m=>exact g3 m u (by lia) hu
section
variable {X:Cx}
theorem xj (hu:X.A.units+20<cLine):MtR X "list.index" (fun x vs H Q=>∃ (d:Im) (ds:List Im) (y:V) (j:Nat),vs=[y]∧IsI H d y∧Rdb H (.lst ds) x∧Im.pl 8 d=true∧Im.pls 8 ds=true∧dh ds d=some j∧j<100000∧Q (.int j) H):=by
 intro pins s σ H x vs v us Q I rx rv h
 obtain⟨d,ds,y,j,rfl,hy,r2,k1,k2,e,hj,q⟩:=h
 obtain⟨u,rfl,ru⟩:=rv.one
 obtain⟨_,a,xs,rfl,h1,h2,_⟩:=r2
 cases rx
 obtain⟨z,its,n,rr,e1⟩:=I.hok a _ h1
 have iv:=h2.imv I.hok rr
 obtain⟨w,g1,g2,g3⟩:=ph k2 iv e
 obtain⟨hl,hw⟩:=List.getElem?_eq_some_iff.mp g1
 refine call_meets F.slot_list_index ⟨_,e1,rfl⟩ F.entry_list_index (F.args_list_index_2 _ _) (SeqAt.list_indexAt a its.toArray n _ _ u (cX s.heap d) j (by simpa using hl) (by lia) (by simpa [hw] using g2) (fun m hm hmj=>g3 m _ hmj (by simp))) ⟨e1,fun w hw=>?_,?_⟩
 ·obtain⟨z,z1,z2⟩:=fm k2 iv (by simpa using hw)
  rw[dw z1 z2]
  exact b9 8 z1 k1 (by show X.A.units+1+8+1<cLine;lia) z2 (hy.imv I.hok ru)
 ·exact⟨.int j,H,I.kept (t':=s.toks+1) fun b o e=>e,⟨_,rfl⟩,q⟩
@[simp] noncomputable def gp:Op2:=fun a b=>match a,b with
 | .lst ds,.im d=>if (Im.pl 8 d && Im.pls 8 ds)=true∧ds.length≤100000 then (dh ds d).map fun (j:Nat)=>Vl.im (.int (j:Int)) else none
 | _,_=>none
theorem pi:∀ {ds:List Im}{d:Im}{j:Nat},dh ds d=some j→j<ds.length
 | [],d,j,e=>by cases e
 | x::ds,d,j,e=>by
  unfold dh at e
  split at e
  ·cases e;exact Nat.succ_pos _
  ·obtain⟨i,e1,rfl⟩:=Option.map_eq_some_iff.mp e
   exact Nat.succ_lt_succ (pi e1)
theorem xk {a b d:Vl} (h:gp a b=some d):∃ ds dd j,a=.lst ds∧b=.im dd∧Im.pl 8 dd=true∧Im.pls 8 ds=true∧dh ds dd=some j∧j<100000∧d=.im (.int (j:Nat)):=by
 unfold gp at h
 split at h
 ·rename_i ds dd
  split at h
  ·rename_i hp
   obtain⟨j,e1,e2⟩:=Option.map_eq_some_iff.mp h
   rw[Bool.and_eq_true] at hp
   exact⟨ds,dd,j,rfl,rfl,hp.1.1,hp.1.2,e1,Nat.lt_of_lt_of_le (pi e1) hp.2,e2.symm⟩
  ·cases h
 ·cases h
@[simp] noncomputable def gq:Vl→Bool
 | .lst _=>true
 | _=>false
@[simp] noncomputable def ij (go ga:M Opd):M Vl:=fun D=>(go D).bind fun p=>(rsl p.2 p.1).bind fun l=>if gq l=true then (ga p.2).bind fun q=>(rsl q.2 p.1).bind fun d1=>(rsl q.2 q.1).bind fun d2=>(gp d1 d2).map fun d=>(d,q.2) else none
theorem xl {o e:Expr}{go ga:M Opd}{apos cpos:Pos} (hu:X.A.units+20<cLine) (ho:VO X o go) (ha:VO X e ga)
  (hbase:attributeBase o "index" X.env (eval o X.env)=eval o X.env:=by rfl)
  (hfew:((backTo cpos (starEach [e] X.env)).all (fun x=>!x.1) && (backToKw cpos (keywordEach [] X.env)).all (fun x=>x.1.isSome)
   && decide ([e].length+([]:List Keyword).length+(if ([]:List Keyword).isEmpty then 0 else 1)<30))=true:=by rfl)
  (hline:(apos.endLine == cpos.line)=true:=by rfl) (hs:starEach [e] X.env=(false,eval e X.env)::starEach [] X.env:=by rfl) (hplain:(backTo cpos (starEach [] X.env)).any (·.1)=false:=by rfl):
  VE X (.Call (.Attribute o "index" apos) [e] [] cpos) (ij go ga):=by
 refine bK (jD F.plainAttrs_list F.slot_list_index F.type_list_index (xj hu) ho (ag ha ah hs) hbase hfew hline hs hplain) fun σ H Q ⟨D,F,r,D',st,nd,hg,q⟩=>?_
 unfold ij at hg
 obtain⟨⟨x,D1⟩,ha,hg⟩:=Option.bind_eq_some_iff.mp hg
 obtain⟨l,hl,hg⟩:=Option.bind_eq_some_iff.mp hg
 split at hg
 ·rename_i il
  obtain⟨⟨y,D2⟩,hb,hg⟩:=Option.bind_eq_some_iff.mp hg
  obtain⟨d1,h1,hg⟩:=Option.bind_eq_some_iff.mp hg
  obtain⟨d2,h2,hg⟩:=Option.bind_eq_some_iff.mp hg
  obtain⟨d,h3,hg⟩:=Option.map_eq_some_iff.mp hg
  cases hg
  refine⟨D,F,x,D1,st,nd,ha,fun v H1 F1 R1 st1 o1 s1=>⟨?_,D1,F1,[y],_,st1,(List.nodup_append.mp s1.nd).1,by unfold aa;rw[hb];rfl,fun vs H2 F2 R2 st2 o2 s2=>?_⟩⟩
  ·have rd:=o1.read st1 hl
   obtain⟨R,ow⟩:=rd
   refine dP H1 l v R ow ?_
   cases l<;>first | rfl | cases il
  ·obtain⟨u,r',S1,S2,rfl,o2,⟨rfl,rfl⟩,rfl⟩:=o2
   have o1':=o1.mono s2.tup fun a ha o e=>s2.keep a o e fun h=>(List.nodup_append.mp s1.nd).2.2 a h a ha rfl
   have r1:=o1'.read st2 h1
   have r2:=o2.read st2 h2
   obtain⟨ds,dd,j,rfl,rfl,p1,p2,e1,e2,rfl⟩:=xk h3
   refine⟨dd,ds,u,j,rfl,r2.i,r1,p1,p2,e1,e2,?_⟩
   refine q (.int j) H2 F2 [] st2 ⟨rfl,rfl⟩ ?_
   have s3:=s1.trans s2 o1.chg
   exact s3.less (C:=S1++R1) (by simp)
 ·cases hg
end
structure KTab (K:PySem.W.Frag) (P:Program) (w:World) (kt:List (Addr×List Im)) (kd:List (Addr×List (List Im×Addr))):Prop where
 tup:∀ p∈kt,∃ xs,(∀ H,SqT K H p.1 xs)∧∀ H,ak H p.2 xs
 dic:∀ p∈kd,∃ xs:List (List Im×Addr×Value),(∀ h:Heap,K.In h→h.DictOfH (cq P w) p.1 xs)∧(xs.map fun x=>(x.1,x.2.2))=p.2.map fun q=>(q.1,Value.ref q.2)
structure KS where
 wa:Addr
 kt:List (Addr×List Im)
 kd:List (Addr×List (List Im×Addr))
@[simp] noncomputable def kAt (kd:List (Addr×List (List Im×Addr))) (a:Addr) (k:List Im):Option Addr:=(kd.find? fun p=>decide (p.1=a)).bind fun p=>(p.2.find? fun q=>decide (q.1=k)).map (·.2)
@[simp] noncomputable def kTu (kt:List (Addr×List Im)) (a:Addr) (i:Int):Option Im:=(kt.find? fun p=>decide (p.1=a)).bind fun p=>atI p.2 i
@[simp] noncomputable def aP (kt:List (Addr×List Im)) (kd:List (Addr×List (List Im×Addr))):Op2:=fun a b=>match a,b with
 | .im (.fn a),.im (.int i)=>(kTu kt a i).map .im
 | .im (.fn a),.im (.tup k)=>if Im.keys 7 k=true then (kAt kd a k).map fun d=>.im (.fn d) else none
 | a,b=>vIx a b
theorem pj:∀ {xs:List (List Im×Addr×Value)}{ys:List (List Im×Addr)}{k:List Im}{q:List Im×Addr},(xs.map fun x=>(x.1,x.2.2))=(ys.map fun q=>(q.1,Value.ref q.2))→(ys.find? fun q=>decide (q.1=k))=some q→∃ c,atKey xs k=some (c,.ref q.2)
 | [],[],k,q,_,f=>by cases f
 | [],y::ys,k,q,e,f=>by cases e
 | x::xs,[],k,q,e,f=>by cases e
 | x::xs,y::ys,k,q,e,f=>by
  rw[List.map_cons,List.map_cons] at e
  injection e with e1 e2
  injection e1 with e3 e4
  rw[List.find?_cons] at f
  unfold atKey
  rw[List.find?_cons,e3]
  split at f
  ·rename_i h
   cases f
   rw[h]
   exact⟨x.2.1,by rw[← e4];rfl⟩
  ·rename_i h
   rw[h]
   exact pj e2 f
section
variable {X:Cx}{kt:List (Addr×List Im)}{kd:List (Addr×List (List Im×Addr))}
theorem xm (hu:X.A.units+20<cLine) (T:KTab X.K X.prog X.w kt kd):IxR X (fun x y H Q=>∃ a k b d,x=.ref a∧y=.ref b∧KAd H k b∧kAt kd a k=some d∧Q (.ref d) H):=by
 intro value slice pins s σ H x y v u Q I rx ry ⟨a,k,b,d,e1,e2,kb,hd,q⟩ hs
 subst e1 e2
 cases rx
 cases ry
 obtain⟨p,f1,f2⟩:=Option.bind_eq_some_iff.mp hd
 obtain⟨xs,D,ex⟩:=T.dic p (List.mem_of_find?_eq_some f1)
 have pa:=List.find?_some f1
 have pa:p.1=a:=of_decide_eq_true pa
 obtain⟨qq,f3,rfl⟩:=Option.map_eq_some_iff.mp f2
 have dd:=D s.heap I.kIn
 rw[pa] at dd
 obtain⟨c,hk⟩:=pj ex f3
 exact tail_any dd.typeIs PySem.F.slot_dict_getitem.lookup (wpAny_getItem_heap (gM hu) (eQ I.hok kb) dd hk ⟨.ref qq.2,H,I.tok _,rfl,q⟩) hs
theorem cZ (hu:X.A.units+20<cLine) (T:KTab X.K X.prog X.w kt kd):IxR X (fun x y H Q=>∃ d1 d2 d,Rdb H d1 x∧Rdb H d2 y∧aP kt kd d1 d2=some d∧∀ v H' R,aH H H'→Own H' d v R→R.Nodup→(∀ a∈R,H a=none)→Q v H'):=by
 refine ((aN hu).or (mH.or (xm hu T))).imp fun x y H Q ⟨d1,d2,d,r1,r2,e,q⟩=>?_
 unfold aP at e
 split at e
 ·obtain⟨d',e1,e2⟩:=Option.map_eq_some_iff.mp e
  cases e2
  obtain⟨p,f1,f2⟩:=Option.bind_eq_some_iff.mp e1
  obtain⟨xs,S,J⟩:=T.tup p (List.mem_of_find?_eq_some f1)
  have pa:=List.find?_some f1
  have pa:=of_decide_eq_true pa
  obtain⟨v,g1,g2⟩:=iU (J H) f2
  exact .inr (.inl ⟨p.1,xs,_,v,by rw[pa];exact r1.i,r2.i,S H,g1,Out.i q g2⟩)
 ·split at e
  ·rename_i hk
   obtain⟨d',e1,e2⟩:=Option.map_eq_some_iff.mp e
   cases e2
   obtain⟨b,xs,rfl,k1,k2⟩:=r2.i
   exact .inr (.inr ⟨_,_,b,d',r1.i,rfl,⟨hk,b,xs,rfl,k1,k2⟩,e1,Out.i q rfl⟩)
  ·cases e
 ·exact .inl ⟨d1,d2,d,r1,r2,e,q⟩
end
noncomputable def cE (aW o0 x0 y0 o1 x1 y1 o2 x2 y2 o3 x3 y3:Addr):KS:=⟨aW,[(o0,[.fn x0,.fn y0]),(o1,[.fn x1,.fn y1]),(o2,[.fn x2,.fn y2]),(o3,[.fn x3,.fn y3]),(x0,[.int (-1),.int 0]),(y0,[.int 0,.int 1]),(x1,[.int 0,.int 1]),(y1,[.int 1,.int 0]),(x2,[.int 1,.int 0]),(y2,[.int 0,.int (-1)]),(x3,[.int 0,.int (-1)]),(y3,[.int (-1),.int 0])],
 [(aW,[([.int 0,.int 0],o0),([.int 0,.int 1],o1),([.int 1,.int 1],o2),([.int 1,.int 0],o3)])]⟩
noncomputable def KP (K:PySem.W.Frag) (a:Addr) (i j:Int):Prop:=∃ d t u n s,K.lookup a=some ⟨.type "tuple",d,.seq #[.int i t,.int j u] n,s⟩
noncomputable def KR (K:PySem.W.Frag) (a x y:Addr):Prop:=∃ d n s,K.lookup a=some ⟨.type "tuple",d,.seq #[.ref x,.ref y] n,s⟩
variable {K:PySem.W.Frag}{P:Program}{w:World}
theorem KP.tup {a:Addr}{i j:Int} (h:KP K a i j):∃ xs,(∀ H,SqT K H a xs)∧∀ H,ak H [.int i,.int j] xs:=by
 obtain⟨d,t,u,n,s,e⟩:=h
 refine⟨[.int i,.int j],fun H=>.inr ⟨_,_,n,e,rfl,rfl,by show 2≤sizeLine;decide,.cons ⟨t,rfl⟩ (.cons ⟨u,rfl⟩ .nil)⟩,fun H=>⟨_,_,rfl,rfl,_,_,rfl,rfl,rfl⟩⟩
theorem KR.tup {a x y:Addr} (h:KR K a x y):∃ xs,(∀ H,SqT K H a xs)∧∀ H,ak H [.fn x,.fn y] xs:=by
 obtain⟨d,n,s,e⟩:=h
 refine⟨[.ref x,.ref y],fun H=>.inr ⟨_,_,n,e,rfl,rfl,by show 2≤sizeLine;decide,.cons rfl (.cons rfl .nil)⟩,fun H=>⟨_,_,rfl,rfl,_,_,rfl,rfl,rfl⟩⟩
theorem KP.is {a:Addr}{i j:Int} (h:KP K a i j) {hp:Heap} (X:K.In hp):(cq P w).is hp [.int i,.int j] a:=by
 obtain⟨d,t,u,n,s,e⟩:=h
 exact⟨rfl,a,_,_,n,rfl,X _ _ e,rfl,rfl,_,_,rfl,⟨t,rfl⟩,_,_,rfl,⟨u,rfl⟩,rfl⟩
theorem xn {aW k0 o0 x0 y0 k1 o1 x1 y1 k2 o2 x2 y2 k3 o3 x3 y3:Addr}{h0 h1 h2 h3:Int}{n:Nat} (lW:K.lookup aW=some ⟨.type "dict",none,.dict #[⟨h0,.ref k0,.ref o0⟩,⟨h1,.ref k1,.ref o1⟩,⟨h2,.ref k2,.ref o2⟩,⟨h3,.ref k3,.ref o3⟩] n,#[]⟩)
  (e0:h0=imH w (.tup [.int 0,.int 0])) (e1:h1=imH w (.tup [.int 0,.int 1])) (e2:h2=imH w (.tup [.int 1,.int 1])) (e3:h3=imH w (.tup [.int 1,.int 0]))
  (q0:KP K k0 0 0) (q1:KP K k1 0 1) (q2:KP K k2 1 1) (q3:KP K k3 1 0) (r0:KR K o0 x0 y0) (r1:KR K o1 x1 y1) (r2:KR K o2 x2 y2) (r3:KR K o3 x3 y3)
  (s0:KP K x0 (-1) 0) (t0:KP K y0 0 1) (s1:KP K x1 0 1) (t1:KP K y1 1 0) (s2:KP K x2 1 0) (t2:KP K y2 0 (-1)) (s3:KP K x3 0 (-1)) (t3:KP K y3 (-1) 0):
  KTab K P w (cE aW o0 x0 y0 o1 x1 y1 o2 x2 y2 o3 x3 y3).kt (cE aW o0 x0 y0 o1 x1 y1 o2 x2 y2 o3 x3 y3).kd:=by
 constructor
 ·intro p hp
  simp only[cE,List.mem_cons,List.not_mem_nil,or_false] at hp
  rcases hp with h | h | h | h | h | h | h | h | h | h | h | h<;>subst h
  ·exact r0.tup
  ·exact r1.tup
  ·exact r2.tup
  ·exact r3.tup
  ·exact s0.tup
  ·exact t0.tup
  ·exact s1.tup
  ·exact t1.tup
  ·exact s2.tup
  ·exact t2.tup
  ·exact s3.tup
  ·exact t3.tup
 ·intro p hp
  simp only[cE,List.mem_cons,List.not_mem_nil,or_false] at hp
  subst hp
  subst e0 e1 e2 e3
  refine⟨[([.int 0,.int 0],k0,.ref o0),([.int 0,.int 1],k1,.ref o1),([.int 1,.int 1],k2,.ref o2),([.int 1,.int 0],k3,.ref o3)],fun h X=>⟨_,_,n,X _ _ lW,⟨rfl,rfl,rfl⟩,rfl,rfl,fun x hx=>?_,?_⟩,rfl⟩
  ·simp only[List.mem_cons,List.not_mem_nil,or_false] at hx
   rcases hx with h | h | h | h<;>subst h
   ·exact q0.is X
   ·exact q1.is X
   ·exact q2.is X
   ·exact q3.is X
  ·simp
end L2
namespace L2
open PySem PySem.Spec PyProof.Rows PySem.W
noncomputable def isL (D:SD) (i:Nat) (ds:List Im):Bool:=match D[i]? with
 | some (some (.lst y))=>decide (y=ds)
 | _=>false
noncomputable def dA (i:Nat) (ds:List Im) (tg:MG) (b:MS):List Im→MS
 | []=>fun D=>if isL D i ds=true then some (.nx,D) else none
 | x::r=>fun D=>if isL D i ds=true then (tg (.im x) D).bind fun D1=>(b D1).bind fun q=>match q.1 with
  | .nx=>dA i ds tg b r q.2
  | .ct=>dA i ds tg b r q.2
  | .bk=>some (.nx,q.2)
  | .rt d=>some (.rt d,q.2) else none
noncomputable def kO (i:Nat) (tg:MG) (b:MS):MS:=fun D=>match D[i]? with
 | some (some (.lst ds))=>dA i ds tg b ds D
 | _=>none
theorem pk {D:SD}{i:Nat}{ds:List Im} (h:isL D i ds=true):D[i]?=some (some (.lst ds)):=by
 unfold isL at h
 split at h
 ·rename_i y e
  rw[e,of_decide_eq_true h]
 ·cases h
section
variable {X:Cx}
theorem xo {fix fx:List Nat}{i:Nat}{tg iter:Expr}{body:List Stmt}{gt:MG}{gb:MS}{pos:Pos} (hp:PassesOwn (model X.prog X.w) X.A X.env X.xe) (hc:X.calm=true) (hi:VO X iter (oSl i)) (hg:VG X fx tg gt) (hb:VSs X fx body gb)
  (hf:∀ i∈fix,i∈fx) (hs:i∈fx) (hfs:∀ x,foldedSetIterable iter X.env x=pure x:=by intro _;rfl):VS X fix (.For tg iter body [] pos) (kO i gt gb):=by
 refine dq (l7 hp hc (nv hi) hg hb hfs) fun E σ H ⟨D,F,f,D2,st,nd,hgg,q⟩=>?_
 unfold kO at hgg
 split at hgg
 ·rename_i ds hD
  refine⟨D,F,.sl i,D,st,nd,by unfold oSl;rw[hD],fun v H1 F1 R st1 o1 s1=>?_⟩
  obtain⟨o1,rfl⟩:=o1
  rw[List.append_nil] at s1
  have at_:∀ {H':Hp}{Dd:SD}{σ':St}{F':List Addr},aj H' Dd σ' F'→σ'[i]?=some (some v)→Dd[i]?=some (some (.lst ds))→∃ a xs,v=.ref a∧H' a=some (.lst xs)∧ak H' ds xs:=fun st' e1 e2=>by
   obtain⟨v',G1,G2,g1,g2,_⟩:=st'.out e2
   rw[e1] at g1
   cases g1
   obtain⟨a,xs,e,h1,h2,_⟩:=g2
   exact⟨a,xs,e,h1,h2⟩
  obtain⟨a,xs,rfl,h1,h2⟩:=at_ st1 o1 hD
  refine⟨a,rfl,.inl ⟨⟨xs,SqL.of h1⟩,?_⟩⟩
  have fxx:∀ {σ2:St},aG fx σ σ2→aG fix σ σ2:=fun f=>⟨f.1,fun i hi=>f.2 i (hf i hi)⟩
  refine⟨fun j m σ' H'=>m+j=ds.length∧∃ Dd F',aG fx σ σ'∧aj H' Dd σ' F'∧Stp H F H' F'∧dA i ds gt gb (ds.drop j) Dd=some (f,D2),⟨ds.length,rfl,D,F1,aG.refl,st1,s1,hgg⟩,?_⟩
  rintro j m σ' H' ⟨hm,Dd,F',fx',st',s',hw⟩
  by_cases hlt:j<ds.length
  ·rw[List.drop_eq_getElem_cons hlt,dA] at hw
   dsimp only at hw
   split at hw
   ·rename_i hl
    obtain⟨a',xs',e,k1,k2⟩:=at_ st' ((fx'.2 i hs).trans o1) (pk hl)
    cases e
    obtain⟨hgo,hy⟩:=(jX (K:=X.K) k1 k2).go H' (StayS.of (fun _ _ e=>e) (fun _ _ _ e=>e)) (fun _ _ _ e=>e) j ds[j] (by simp[hlt])
    obtain⟨D3,w1,w2⟩:=Option.bind_eq_some_iff.mp hw
    obtain⟨⟨f2,D4⟩,w3,w4⟩:=Option.bind_eq_some_iff.mp w2
    refine .inr ⟨hgo,fun σ2 H2=>(m - 1)+(j+1)=ds.length∧∃ Dd F',aG fx σ σ2∧aj H2 Dd σ2 F'∧Stp H F H2 F'∧dA i ds gt gb (ds.drop (j+1)) Dd=some (f,D2),fun σ2 H2 h=>⟨m - 1,by lia,h⟩,fun x H2 hx=>?_⟩
    obtain⟨sm,isx⟩:=hy x H2 hx
    have st2:=st'.mono sm.tupS fun a _ o e=>sm a o e
    have s2:=s'.same sm
    refine⟨Dd,F',.im ds[j],[],D3,st2,⟨isx,rfl⟩,by rw[List.append_nil];exact s2.nd,w1,fun σ3 H3 F3 fx3 st3 sg=>?_⟩
    have s3:Stp H F H3 F3:=s2.seq (by rw[List.append_nil] at sg;exact sg)
    refine⟨D3,F3,f2,D4,st3,s3.nd,w3,?_⟩
    cases f2 with
    | nx=>exact fun σ4 H4 F4 fx4 st4 s4=>⟨by lia,D4,F4,(fx'.trans fx3).trans fx4,st4,s3.seq s4,w4⟩
    | ct=>exact fun σ4 H4 F4 fx4 st4 s4=>⟨by lia,D4,F4,(fx'.trans fx3).trans fx4,st4,s3.seq s4,w4⟩
    | bk=>
     cases w4
     exact fun σ4 H4 F4 fx4 st4 s4=>q σ4 H4 F4 (fxx ((fx'.trans fx3).trans fx4)) st4 (s3.seq s4)
    | rt d=>
     cases w4
     exact fun v σ4 H4 F4 R4 fx4 st4 ow4 s4=>q v σ4 H4 F4 R4 (fxx ((fx'.trans fx3).trans fx4)) st4 ow4 (s3.seq s4)
   ·cases hw
  ·have hj:j=ds.length:=by lia
   subst hj
   rw[List.drop_of_length_le (Nat.le_refl _),dA] at hw
   dsimp only at hw
   split at hw
   ·rename_i hl
    cases hw
    obtain⟨a',xs',e,k1,k2⟩:=at_ st' ((fx'.2 i hs).trans o1) (pk hl)
    cases e
    exact .inl ⟨(jX (K:=X.K) k1 k2).stop H' (StayS.of (fun _ _ e=>e) (fun _ _ _ e=>e)) (fun _ _ _ e=>e),q σ' H' F' (fxx fx') st' s'⟩
   ·cases hw
 ·cases hgg
end
noncomputable def uzV:Vl→Vl
 | .im (.fl x)=>.fz x
 | d=>d
@[simp] theorem zY (x:List Im):uzV (.im (.fl x))=.fz x:=rfl
@[simp] theorem zZ (x:List Im):uzV (.im (.tup x))=.im (.tup x):=rfl
section
variable {X:Cx}
end
noncomputable def cntM (ds:List Im) (d:Im):Nat:=ds.countP fun x=>ap x d
theorem pp {h:Heap}{d:Im}:∀ {ds:List Im}{vs:List Value},Im.pls 8 ds=true→aK h ds vs→vs.countP (cX h d)=cntM ds d
 | [],vs,_,iv=>by cases (show vs=[] from iv);rfl
 | x::ds,vs,k,iv=>by
  obtain⟨v,r,rfl,h1,h2⟩:=iv
  rw[Im.pls,Bool.and_eq_true] at k
  unfold cntM
  rw[List.countP_cons,List.countP_cons,dw k.1 h1,pp k.2 h2]
  rfl
section
variable {X:Cx}
theorem xp (hu:X.A.units+20<cLine):MtR X "list.count" (fun x vs H Q=>∃ (d:Im) (ds:List Im) (y:V),vs=[y]∧IsI H d y∧Rdb H (.lst ds) x∧Im.pl 8 d=true∧Im.pls 8 ds=true∧Q (.int (cntM ds d)) H):=by
 intro pins s σ H x vs v us Q I rx rv h
 obtain⟨d,ds,y,rfl,hy,r2,k1,k2,q⟩:=h
 obtain⟨u,rfl,ru⟩:=rv.one
 obtain⟨_,a,xs,rfl,h1,h2,_⟩:=r2
 cases rx
 obtain⟨z,its,n,rr,e1⟩:=I.hok a _ h1
 have iv:=h2.imv I.hok rr
 refine call_meets F.slot_list_count ⟨_,e1,rfl⟩ F.entry_list_count (F.args_list_count_2 _ _) (SeqAt.list_countAt a its.toArray n _ _ u (cX s.heap d)) ⟨e1,fun w hw=>?_,?_⟩
 ·obtain⟨z,z1,z2⟩:=fm k2 iv (by simpa using hw)
  rw[dw z1 z2]
  exact b9 8 z1 k1 (by show X.A.units+1+8+1<cLine;lia) z2 (hy.imv I.hok ru)
 ·refine⟨.int (cntM ds d),H,I.kept (t':=s.toks+1) fun b o e=>e,⟨_,by rw[← pp k2 iv]⟩,q⟩
@[simp] noncomputable def fu:Op2:=fun a b=>match a,b with
 | .lst ds,.im d=>if (Im.pl 8 d && Im.pls 8 ds)=true then some (.im (.int (cntM ds d:Nat))) else none
 | _,_=>none
theorem xq {a b d:Vl} (h:fu a b=some d):∃ ds dd,a=.lst ds∧b=.im dd∧Im.pl 8 dd=true∧Im.pls 8 ds=true∧d=.im (.int (cntM ds dd:Nat)):=by
 unfold fu at h
 split at h
 ·rename_i ds dd
  split at h
  ·rename_i hp
   cases h
   rw[Bool.and_eq_true] at hp
   exact⟨ds,dd,rfl,rfl,hp.1,hp.2,rfl⟩
  ·cases h
 ·cases h
@[simp] noncomputable def fw (go ga:M Opd):M Vl:=fun D=>(go D).bind fun p=>(rsl p.2 p.1).bind fun l=>if gq l=true then (ga p.2).bind fun q=>(rsl q.2 p.1).bind fun d1=>(rsl q.2 q.1).bind fun d2=>(fu d1 d2).map fun d=>(d,q.2) else none
theorem pq {o e:Expr}{go ga:M Opd}{apos cpos:Pos} (hu:X.A.units+20<cLine) (ho:VO X o go) (ha:VO X e ga)
  (hbase:attributeBase o "count" X.env (eval o X.env)=eval o X.env:=by rfl)
  (hfew:((backTo cpos (starEach [e] X.env)).all (fun x=>!x.1) && (backToKw cpos (keywordEach [] X.env)).all (fun x=>x.1.isSome)
   && decide ([e].length+([]:List Keyword).length+(if ([]:List Keyword).isEmpty then 0 else 1)<30))=true:=by rfl)
  (hline:(apos.endLine == cpos.line)=true:=by rfl) (hs:starEach [e] X.env=(false,eval e X.env)::starEach [] X.env:=by rfl) (hplain:(backTo cpos (starEach [] X.env)).any (·.1)=false:=by rfl):
  VE X (.Call (.Attribute o "count" apos) [e] [] cpos) (fw go ga):=by
 refine bK (jD F.plainAttrs_list F.slot_list_count F.type_list_count (xp hu) ho (ag ha ah hs) hbase hfew hline hs hplain) fun σ H Q ⟨D,F,r,D',st,nd,hg,q⟩=>?_
 unfold fw at hg
 obtain⟨⟨x,D1⟩,ha,hg⟩:=Option.bind_eq_some_iff.mp hg
 obtain⟨l,hl,hg⟩:=Option.bind_eq_some_iff.mp hg
 split at hg
 ·rename_i il
  obtain⟨⟨y,D2⟩,hb,hg⟩:=Option.bind_eq_some_iff.mp hg
  obtain⟨d1,h1,hg⟩:=Option.bind_eq_some_iff.mp hg
  obtain⟨d2,h2,hg⟩:=Option.bind_eq_some_iff.mp hg
  obtain⟨d,h3,hg⟩:=Option.map_eq_some_iff.mp hg
  cases hg
  refine⟨D,F,x,D1,st,nd,ha,fun v H1 F1 R1 st1 o1 s1=>⟨?_,D1,F1,[y],_,st1,(List.nodup_append.mp s1.nd).1,by unfold aa;rw[hb];rfl,fun vs H2 F2 R2 st2 o2 s2=>?_⟩⟩
  ·have rd:=o1.read st1 hl
   obtain⟨R,ow⟩:=rd
   refine dP H1 l v R ow ?_
   cases l<;>first | rfl | cases il
  ·obtain⟨u,r',S1,S2,rfl,o2,⟨rfl,rfl⟩,rfl⟩:=o2
   have o1':=o1.mono s2.tup fun a ha o e=>s2.keep a o e fun h=>(List.nodup_append.mp s1.nd).2.2 a h a ha rfl
   have r1:=o1'.read st2 h1
   have r2:=o2.read st2 h2
   obtain⟨ds,dd,rfl,rfl,p1,p2,rfl⟩:=xq h3
   refine⟨dd,ds,u,rfl,r2.i,r1,p1,p2,?_⟩
   refine q (.int (cntM ds dd:Nat)) H2 F2 [] st2 ⟨rfl,rfl⟩ ?_
   have s3:=s1.trans s2 o1.chg
   exact s3.less (C:=S1++R1) (by simp)
 ·cases hg
end
section
variable {prog:Program}{w:World}{A:Around}{R:Result→Shared→Prop}{I:Addr}{fp wr:List Addr}{n:Nat}{P:Nat→Value→Prop}{St:Nat→Heap→Prop}
noncomputable def Kp (g h:Heap):Prop:=∀ c o,g.get? c=some o→h.get? c=some o
theorem xr (W:Walks prog w A.in1 I fp wr n P St) {g:Heap} (bt:Nat→Nat→Bool) (hcmp:∀ i j u v (s:Shared) (Q:Value→Shared→Prop) (E:Value→Shared→Prop),Kp g s.heap→P i u→P j v→Q (.bool (bt i j)) s→wpAny (model prog w) A.in1 (richCompare .Lt u v) Q E s)
  {S:Addr} (hSf:S∉fp) (hg:∀ c o,g.get? c=some o→c∉wr∧c≠S):∀ (k j:Nat) (s:Shared) (vb:Value) (c:Nat),n - (j+1)=k→j+1≤n→St (j+1) s.heap→P (argBest bt j) vb→
  s.heap.get? S=some { cls:=.type "list",dict:=none,data:=.seq #[vb,vb] c,slots:=#[] }→Kp g s.heap→(∀ v h' tk,P (argBest bt (n - 1)) v→Kp g h'→R (.ok (.ret v)) { s with heap:=h',toks:=tk })→
  codeAny (model prog w) A (.builtin "min.loop" ⟨[.ref I,.none,.ref S],[]⟩) R s:=by
 have hSw:S∉wr:=fun h=>hSf (W.sub _ h)
 have hname:(toString "min" ++ toString ".loop" : String) = "min.loop" := by decide
 have kpU:∀ {h:Heap}{f:Obj→Obj},Kp g h→Kp g (h.update S f):=fun k c o e=>(Heap.get?_update_other _ _ (Ne.symm (hg c o e).2)).trans (k c o e)
 have kpW:∀ {h h':Heap},Kp g h→(∀ b o,b∉wr→h.get? b=some o→h'.get? b=some o)→Kp g h':=fun k t c o e=>t c o (hg c o e).1 (k c o e)
 intro k
 induction k with
 | zero=>
  intro j s vb c hk hj hst hPb hS kp hR
  have hin:j+1=n:=by lia
  refine codeAny_builtin F.entry_min_loop ?_
  rw[Around.under_plainId F.plain_min_loop _]
  show wpAny _ A.in1 (seqItems? (.ref S) >>= _) _ _ s
  refine wpAny_bind (wpAny_seqItems hS rfl ?_)
  show wpAny _ A.in1 (tryCatch (pyNext (.ref I)) _ >>= _) _ _ s
  refine wpAny_bind (wpAny_tryCatch (W.done s _ _ (hin ▸ hst) fun h' tk t=>?_))
  have hS':=t S _ hSw hS
  show wpAny _ A.in1 (updateSeq S (fun _=>#[]) >>= _) _ _ _
  refine wpAny_bind (wpAny_updateSeq hS' rfl (wpAny_bind (wpAny_letGo (wpAny_pure ?_))))
  exact hR vb _ tk (by rw[← hin];exact hPb) (kpU (kpW kp t))
 | succ k ih=>
  intro j s vb c hk hj hst hPb hS kp hR
  have hlt:j+1<n:=by lia
  refine codeAny_builtin F.entry_min_loop ?_
  rw[Around.under_plainId F.plain_min_loop _]
  show wpAny _ A.in1 (seqItems? (.ref S) >>= _) _ _ s
  refine wpAny_bind (wpAny_seqItems hS rfl ?_)
  show wpAny _ A.in1 (tryCatch (pyNext (.ref I)) _ >>= _) _ _ s
  refine wpAny_bind (wpAny_tryCatch (W.item (j+1) s _ _ hlt hst fun v h' tk hP hst' t=>?_))
  have hS':=t S _ hSw hS
  have kp':=kpW kp t
  show wpAny _ A.in1 (tryCatch (holding [v,v] (richCompare .Lt v vb >>= _)) _ >>= _) _ _ _
  refine wpAny_bind (wpAny_tryCatch (wpAny_holding (wpAny_bind (hcmp (j+1) (argBest bt j) v vb _ _ _ kp' hP hPb ?_))))
  refine wpAny_bind (wpAny_holding (wpAny_truthy_bool (wpAny_bind (wpAny_letGo (wpAny_pure ?_)))))
  cases hb:bt (j+1) (argBest bt j) with
  | true=>
   simp only[if_true]
   refine wpAny_bind (wpAny_updateSeq hS' rfl (wpAny_bind (wpAny_letGo ?_)))
   rw[hname]
   refine wpAny_pure ⟨plainId_quiet F.plain_min_loop _,ih (j+1) _ v _ (by lia) hlt (W.frame _ _ _ hst' fun b hbf o e=>(Heap.get?_update_other _ _ (fun h:S=b=>hSf (by rw[h];exact hbf))).trans e) (by simp only[argBest,hb,if_true];exact hP) (Heap.get?_update_self _ hS' rfl) (kpU kp') hR⟩
  | false=>
   simp only[Bool.false_eq_true,if_false]
   refine wpAny_bind (wpAny_letGo ?_)
   rw[hname]
   exact wpAny_pure ⟨plainId_quiet F.plain_min_loop _,ih (j+1) _ vb c (by lia) hlt hst' (by simp only[argBest,hb,Bool.false_eq_true,if_false];exact hPb) hS' kp' hR⟩
theorem xt (W:Walks prog w A.in1 I fp wr n P St) {g:Heap} (bt:Nat→Nat→Bool) (hcmp:∀ i j u v (s:Shared) (Q:Value→Shared→Prop) (E:Value→Shared→Prop),Kp g s.heap→P i u→P j v→Q (.bool (bt i j)) s→wpAny (model prog w) A.in1 (richCompare .Lt u v) Q E s)
  {S:Addr} (hSf:S∉fp) (hg:∀ c o,g.get? c=some o→c∉wr∧c≠S) (hn:0<n) {s:Shared}{c:Nat} (hst:St 0 s.heap) (hS:s.heap.get? S=some { cls:=.type "list",dict:=none,data:=.seq #[] c,slots:=#[] }) (kp:Kp g s.heap)
  (hR:∀ v h' tk,P (argBest bt (n - 1)) v→Kp g h'→R (.ok (.ret v)) { s with heap:=h',toks:=tk }):codeAny (model prog w) A (.builtin "min.loop" ⟨[.ref I,.none,.ref S],[]⟩) R s:=by
 have hSw:S∉wr:=fun h=>hSf (W.sub _ h)
 have hname:(toString "min" ++ toString ".loop" : String) = "min.loop" := by decide
 refine codeAny_builtin F.entry_min_loop ?_
 rw[Around.under_plainId F.plain_min_loop _]
 show wpAny _ A.in1 (seqItems? (.ref S) >>= _) _ _ s
 refine wpAny_bind (wpAny_seqItems hS rfl ?_)
 show wpAny _ A.in1 (tryCatch (pyNext (.ref I)) _ >>= _) _ _ s
 refine wpAny_bind (wpAny_tryCatch (W.item 0 s _ _ hn hst fun v h' tk hP hst' t=>?_))
 have hS':=t S _ hSw hS
 have kp':Kp g h':=fun c o e=>t c o (hg c o e).1 (kp c o e)
 show wpAny _ A.in1 (updateSeq S (fun _=>#[v,v]) >>= _) _ _ _
 refine wpAny_bind (wpAny_updateSeq hS' rfl ?_)
 rw[hname]
 exact wpAny_pure ⟨plainId_quiet F.plain_min_loop _,xr W bt hcmp hSf hg _ 0 _ v _ rfl hn (W.frame _ _ _ hst' fun b hbf o e=>(Heap.get?_update_other _ _ (fun h:S=b=>hSf (by rw[h];exact hbf))).trans e) hP (Heap.get?_update_self _ hS' rfl) (fun c o e=>(Heap.get?_update_other _ _ (Ne.symm (hg c o e).2)).trans (kp' c o e)) hR⟩
end
theorem pz {ds:List Im} (o:OrdOk ds):∀ k,k<ds.length→argBest (fun i j=>ltM (ds.getD i .non) (ds.getD j .non)) k≤k∧∀ j,j≤k→ds.getD j .non=ds.getD (argBest (fun i j=>ltM (ds.getD i .non) (ds.getD j .non)) k) .non∨ltM (ds.getD (argBest (fun i j=>ltM (ds.getD i .non) (ds.getD j .non)) k) .non) (ds.getD j .non)=true
 | 0,h=>⟨Nat.le_refl _,fun j hj=>.inl (by rw[Nat.le_zero.mp hj];rfl)⟩
 | k+1,h=>by
  obtain⟨h1,h2⟩:=pz o k (by lia)
  rw[argBest]
  have m0:=dy h
  have m1:ds.getD (argBest (fun i j=>ltM (ds.getD i .non) (ds.getD j .non)) k) .non∈ds:=dy (by lia)
  generalize hb:argBest (fun i j=>ltM (ds.getD i .non) (ds.getD j .non)) k=b at h1 h2 m1 ⊢
  by_cases c:ltM (ds.getD (k+1) .non) (ds.getD b .non)=true
  ·rw[if_pos c]
   refine⟨Nat.le_refl _,fun j hj=>?_⟩
   rcases Nat.lt_or_ge j (k+1) with q | q
   ·right
    rcases h2 j (by lia) with e | e
    ·rw[e];exact c
    ·exact hV (o.2 _ m0 _ m1) (o.2 _ m1 _ (dy (by lia))) c e
   ·rw[show j=k+1 by lia];exact .inl rfl
  ·rw[if_neg c]
   refine⟨by lia,fun j hj=>?_⟩
   rcases Nat.lt_or_ge j (k+1) with q | q
   ·exact h2 j (by lia)
   ·rw[show j=k+1 by lia]
    by_cases e:ds.getD (k+1) .non=ds.getD b .non
    ·exact .inl e
    ·right
     have:=fq (o.2 _ m0 _ m1) e
     rw[Bool.not_eq_true] at c
     rw[c] at this
     cases z:ltM (ds.getD b .non) (ds.getD (k+1) .non) with
     | true=>rfl
     | false=>rw[z] at this;cases this
section
variable {X:Cx}
theorem xu (hc:X.calm=true) (hu:X.A.units+20<cLine):bg X (.builtin "min") (fun xs H Q=>∃ (a:Addr) (ds:List Im) (ys:List V),xs=[.ref a]∧H a=some (.lst ys)∧ak H ds ys∧OrdOk ds∧ds≠[]∧
  ∀ d y,d∈ds→(∀ e∈ds,e=d∨ltM d e=true)→IsI H d y→Q y H):=by
 intro pins s σ H xs us Q I r h
 obtain⟨l,ds,ys,rfl,hl,hd,o,hn,q⟩:=h
 obtain⟨u,rfl,ru⟩:=cP r
 cases ru
 obtain⟨z,its,n,rv,e⟩:=I.hok l _ hl
 have isl:s.heap.IsList l its.toArray:=⟨_,e,rfl,n,rfl⟩
 have l1:=hd.length
 have l2:=rv.length
 have hpos:0<ds.length:=List.length_pos_iff.mpr hn
 have iv:=hd.imv I.hok rv
 refine call_function_tree F.kind_min F.plain_min F.entry_min (F.args_min1 _) ?_
 show wpAny _ X.A.in1 (Builtin.Builtins.bindParams "min" ["key","default"] 0 ⟨[],[]⟩ >>= _) _ _ s
 refine wpAny_bind (wpAny_of_eq (show Builtin.Builtins.bindParams "min" ["key","default"] 0 ⟨[],[]⟩=pure [none,none] from rfl) ?_)
 refine wpAny_bind (wpAny_pure ?_)
 refine wpAny_bind (wpAny_pyIter_list isl ?_)
 have W:=Walks.list (prog:=X.prog) (w:=X.w) (A:=X.A.in1) (I.ok.hd hc) s.heap.objs.size l (Nat.ne_of_lt (Heap.lt_size e)) its.toArray
 have hname:(toString "min" ++ toString ".loop" : String) = "min.loop" := by decide
 refine wpAny_bind (wpAny_newObj_type ?_)
 rw[hname]
 have old:∀ c o,s.heap.get? c=some o→c<s.heap.objs.size:=fun c o e=>Heap.lt_size e
 refine wpAny_pure ⟨plainId_quiet F.plain_min_loop _,xt W (g:=s.heap) (fun i j=>ltM (ds.getD i .non) (ds.getD j .non)) ?cmp ?sf ?hg ?n ?st (Heap.get?_push_size _ rfl) ?kp ?R⟩
 case cmp=>
  intro i j u v s' Q' E' kp hi hj hq
  have iv':=iv.keepAll kp
  obtain⟨a,a1,a2⟩:=iv'.get (show its[i]?=some u by simpa using hi)
  obtain⟨b,b1,b2⟩:=iv'.get (show its[j]?=some v by simpa using hj)
  have ea:ds.getD i .non=a:=by rw[List.getD_eq_getElem?_getD,a1];rfl
  have eb:ds.getD j .non=b:=by rw[List.getD_eq_getElem?_getD,b1];rfl
  rw[ea,eb] at hq
  exact kA 6 (o.2 a (List.mem_of_getElem? a1) b (List.mem_of_getElem? b1)) (by show X.A.units+1+6+2<cLine;lia) a2 b2 X.prog X.w E' Q' hq
 case sf=>
  intro hm
  simp only[Heap.size_push,List.mem_cons,List.not_mem_nil,or_false] at hm
  have:=Heap.lt_size e
  lia
 case hg=>
  intro c oo ee
  have:=old c oo ee
  rw[Heap.size_push]
  exact⟨fun hm=>by rw[List.mem_singleton.mp hm] at this;exact Nat.lt_irrefl _ this,by lia⟩
 case n=>rw[List.size_toArray];lia
 case st=>exact⟨Heap.IsListIter.at (h:=s.heap.push _) ⟨_,Heap.get?_push_size _ rfl,rfl,rfl⟩ fun o e=>Heap.get?_push_of_some _ e,(isl.push _).push _⟩
 case kp=>exact fun c oo ee=>Heap.get?_push_of_some _ (Heap.get?_push_of_some _ ee)
 case R=>
  intro v h' tk hP kp
  obtain⟨b1,b2⟩:=pz o (ds.length - 1) (by lia)
  rw[List.size_toArray,← l2,← l1] at hP
  generalize argBest (fun i j=>ltM (ds.getD i .non) (ds.getD j .non)) (ds.length - 1)=b at hP b1 b2
  have hb:b<ds.length:=by lia
  obtain⟨y,y1,y2⟩:=hd.get (show ds[b]?=some (ds.getD b .non) by rw[List.getD_eq_getElem?_getD,List.getElem?_eq_getElem hb];rfl)
  obtain⟨v',v1,v2⟩:=rv.get y1
  have ev:v'=v:=by
   have:its[b]?=some v:=by simpa using hP
   rw[this] at v1
   exact (Option.some.inj v1).symm
  subst ev
  refine⟨y,H,I.kept (t':=tk) kp,v2,q _ y (dy hb) (fun e he=>?_) y2⟩
  obtain⟨j,hj,rfl⟩:=List.mem_iff_getElem.mp he
  have:=b2 j (by lia)
  rw[show ds.getD j .non=ds[j] by rw[List.getD_eq_getElem?_getD,List.getElem?_eq_getElem hj];rfl] at this
  exact this
@[simp] noncomputable def vMinL:OpN:=fun ds=>match ds with
 | [.lst x]=>if ic x=true then (b8 ltM x).head?.map .im else none
 | _=>none
theorem xv (hc:X.calm=true) (hu:X.A.units+20<cLine):cz X (.builtin "min") vMinL:=by
 refine (xu hc hu).imp fun xs H Q ⟨ds,d,rd,e,q⟩=>?_
 unfold vMinL at e
 split at e
 ·rename_i x
  split at e
  ·rename_i hb
   have so:=ig.mp hb
   obtain⟨m,e1,e2⟩:=Option.map_eq_some_iff.mp e
   subst e2
   obtain⟨v,rfl,h⟩:=bX rd
   obtain⟨R,a,ys,rfl,h1,h2,_⟩:=h
   have pm:=eu x
   have lt:=i4 so.1.3 so.1.2
   cases hs:b8 ltM x with
   | nil=>rw[hs] at e1;cases e1
   | cons m' r=>
    rw[hs] at e1 lt pm
    cases e1
    rw[List.pairwise_cons] at lt
    have mm:∀ e∈x,e=m∨ltM m e=true:=fun e he=>by
     rcases List.mem_cons.mp (pm.mem_iff.mpr he) with z | z
     ·exact .inl z
     ·exact .inr (lt.1 e z)
    refine⟨a,x,ys,rfl,h1,h2,so.1,fun z=>by rw[z] at pm;simpa using pm.length_eq,fun d y hd hm hy=>?_⟩
    have:d=m:=by
     rcases mm d hd with z | z
     ·exact z
     ·rcases hm m (pm.mem_iff.mp (.head _)) with w | w
      ·exact w.symm
      ·have t:=hV (so.1.2 _ hd _ (pm.mem_iff.mp (.head _))) (so.1.2 _ (pm.mem_iff.mp (.head _)) _ hd) w z
       rw[ku] at t
       cases t
    subst this
    exact Out.i q hy
  ·cases e
 ·cases e
end
end L2
namespace L2
open PySem
@[simp] theorem z0 (d:Im) (D:SD):eC d D=some (.im d,D):=rfl
@[simp] theorem i6 (D:SD):aNil D=some ([],D):=rfl
@[simp] theorem z4 (D:SD):sNil D=some (.nx,D):=rfl
@[simp] theorem z5 (D:SD):pNone D=some (none,D):=rfl
@[simp] theorem z6 (D:SD):kYes D=some (true,D):=rfl
@[simp] theorem z7 (d:Im):(Vl.im d).cp=true:=rfl
@[simp] theorem z8 (d:List Im):(Vl.fz d).cp=true:=rfl
@[simp] theorem z9 (d:List Im):(Vl.lst d).cp=false:=rfl
@[simp] theorem Aa (d:List (List Im×Im)):(Vl.dT d).cp=false:=rfl
@[simp] theorem Ab (d:List (Key×Im)):(Vl.dK d).cp=false:=rfl
@[simp] theorem pD (D:SD) (d:Vl):rsl D (.vl d)=some d:=rfl
@[simp] theorem pE (D:SD) (i:Nat):rsl D (.sl i)=(D[i]?).getD none:=rfl
@[simp] theorem i7 (D:SD):cQ D []=some []:=rfl
@[simp] theorem ik (D:SD) (o:Opd) (os:List Opd):cQ D (o::os)=(rsl D o).bind fun d=>(cQ D os).map fun ds=>d::ds:=rfl
@[simp] theorem Ac (D:SD):bd [] D=some ([],D):=rfl
@[simp] theorem Ad (d:Vl) (os:List Opd) (D:SD):bd (.vl d::os) D=(bd os D).map fun p=>(d::p.1,p.2):=rfl
@[simp] theorem Ae (i:Nat) (os:List Opd) (D:SD):bd (.sl i::os) D=(bL i D).bind fun p=>(bd os p.2).map fun q=>(p.1::q.1,q.2):=rfl
@[simp] theorem Af:ims []=some []:=rfl
@[simp] theorem Ag (d:Im) (ds:List Vl):ims (.im d::ds)=(ims ds).map fun r=>d::r:=rfl
@[simp] theorem Ah (b:Bool):asB (.im (.bl b))=some b:=rfl
theorem fA {i j:Int} (h1 : -(2 ^ 64)<j) (h2:j<2 ^ 64):bP i j=true:=by
 have:Builtin.Int.intBits j≤64:=intBits_le_64 h1 h2
 have h':¬ (Builtin.Int.intBits j > shortFactorBits):=Nat.not_lt.mpr this
 unfold bP
 rw[decide_eq_false h']
 simp
theorem kP {i j:Int} (h1 : -(2 ^ 64)<i) (h2:i<2 ^ 64):bP i j=true:=by
 have:Builtin.Int.intBits i≤64:=intBits_le_64 h1 h2
 have h':¬ (Builtin.Int.intBits i > shortFactorBits):=Nat.not_lt.mpr this
 unfold bP
 rw[decide_eq_false h']
 simp
theorem pF {α:Type}{xs:List α}{n:Nat} (h:xs.length≤n):xs.take n=xs:=List.take_of_length_le h
theorem xw {α:Type} (xs:List α) (k:Nat):ci xs (some (k:Int)) none=xs.drop k:=by
 unfold ci
 rw[HT.mw,HT.mv]
 by_cases h:k≤xs.length
 ·rw[Nat.min_eq_left h,pF (by rw[List.length_drop];lia)]
 ·rw[Nat.min_eq_right (by lia),Nat.sub_self,List.take_zero,List.drop_of_length_le (by lia)]
theorem xx {α:Type} (xs:List α) (k:Nat):ci xs none (some (k:Int))=xs.take k:=by
 unfold ci
 rw[HT.mw,HT.mv,List.drop_zero,Nat.sub_zero]
 by_cases h:k≤xs.length
 ·rw[Nat.min_eq_left h]
 ·rw[Nat.min_eq_right (by lia),List.take_length,pF (by lia)]
theorem kQ {α:Type}{xs:List α}{i:Int}{d:α} (h0:0≤i) (h:xs[i.toNat]?=some d):atI xs i=some d:=by
 unfold atI ixN
 have hi:i.toNat<xs.length:=(List.getElem?_eq_some_iff.mp h).1
 rw[if_pos h0,if_pos (by lia)]
 exact h
theorem pG {α:Type}{xs:List α}{d:α} (h:xs.getLast?=some d):atI xs (-1)=some d:=by
 rw[List.getLast?_eq_getElem?] at h
 have hi:xs.length - 1<xs.length:=(List.getElem?_eq_some_iff.mp h).1
 unfold atI ixN
 rw[if_neg (by decide),if_pos (by lia)]
 show xs[(-1+(xs.length:Int)).toNat]?=some d
 rw[show (-1+(xs.length:Int)).toNat=xs.length - 1 by lia]
 exact h
theorem xz {tg:MG}{b:MS} (I:Nat→SD→Prop) (R:Vl→SD→Prop):∀ {xs:List Im}{D:SD},I 0 D→
  (∀ (i:Nat) (x:Im) (D:SD),xs[i]?=some x→I i D→∃ D1 fl D2,tg (.im x) D=some D1∧b D1=some (fl,D2)∧(((fl=.nx∨fl=.ct)∧I (i+1) D2)∨∃ d,fl=.rt d∧R d D2))→
  (∃ D',bA tg b xs D=some (.nx,D')∧I xs.length D')∨∃ d D',bA tg b xs D=some (.rt d,D')∧R d D':=by
 intro xs
 induction xs generalizing I with
 | nil=>intro D h0 _;exact .inl ⟨D,rfl,h0⟩
 | cons x r ih=>
  intro D h0 h
  obtain⟨D1,fl,D2,h1,h2,h3⟩:=h 0 x D rfl h0
  rcases h3 with ⟨hf,hI⟩ | ⟨d,rfl,hR⟩
  ·have:=ih (fun i=>I (i+1)) (D:=D2) hI fun i y D' hy hI'=>h (i+1) y D' (by simpa using hy) hI'
   have e:bA tg b (x::r) D=bA tg b r D2:=by
    rw[bA]
    dsimp only
    rw[h1]
    show (b D1).bind _=_
    rw[h2]
    rcases hf with rfl | rfl<;>rfl
   rw[e]
   exact this
  ·refine .inr ⟨d,D2,?_,hR⟩
   rw[bA]
   dsimp only
   rw[h1]
   show (b D1).bind _=_
   rw[h2]
   rfl
theorem pH {tg:MG}{b:MS} (I:Nat→SD→Prop) {xs:List Im}{D:SD} (h0:I 0 D)
  (h:∀ (i:Nat) (x:Im) (D:SD),xs[i]?=some x→I i D→∃ D1 fl D2,tg (.im x) D=some D1∧b D1=some (fl,D2)∧(fl=.nx∨fl=.ct)∧I (i+1) D2):
  ∃ D',bA tg b xs D=some (.nx,D')∧I xs.length D':=by
 rcases xz I (fun _ _=>False) h0 (fun i x D hx hI=>by
  obtain⟨D1,fl,D2,h1,h2,h3,h4⟩:=h i x D hx hI
  exact⟨D1,fl,D2,h1,h2,.inl ⟨h3,h4⟩⟩) with h | ⟨_,_,_,h⟩
 ·exact h
 ·exact h.elim
theorem pI {c:M Bool}{b:MS} (I:Nat→SD→Prop) (Post:SD→Prop) (step:∀ m D,I m D→∃ t D1,c D=some (t,D1)∧(t=true→∃ fl D2,b D1=some (fl,D2)∧(fl=.nx∨fl=.ct)∧∃ m',m'<m∧I m' D2)∧(t=false→Post D1)):
  ∀ (n m:Nat) (D:SD),I m D→m<n→∃ D',dr c b n D=some (.nx,D')∧Post D':=by
 intro n
 induction n with
 | zero=>intro m D _ h;lia
 | succ n ih=>
  intro m D hI hm
  obtain⟨t,D1,h1,h2,h3⟩:=step m D hI
  rw[dr]
  dsimp only
  rw[h1]
  cases t with
  | false=>exact⟨D1,rfl,h3 rfl⟩
  | true=>
   obtain⟨fl,D2,h4,hf,m',hm',hI'⟩:=h2 rfl
   obtain⟨D',h5,h6⟩:=ih m' D2 hI' (by lia)
   refine⟨D',?_,h6⟩
   simp only[Option.bind_some,if_true,h4]
   rcases hf with rfl | rfl<;>exact h5
theorem xA {α:Type} (xs:List α):xs.filter (fun _=>true)=xs:=List.filter_eq_self.mpr fun _ _=>rfl
theorem aR {g h:MS}{D D1:SD} (e:g D=some (.nx,D1)):ar g h D=h D1:=by unfold ar;rw[e];rfl
theorem kR {g h:MS}{D D1:SD}{d:Vl} (e:g D=some (.rt d,D1)):ar g h D=some (.rt d,D1):=by unfold ar;rw[e];rfl
theorem pJ {g:MI}{tg:MG}{b:MS}{D D1 D2:SD}{xs:List Im}{o:Option (Nat×Vl)}{fl:Fl} (e:g D=some ((xs,o),D1)) (h:bA tg b xs D1=some (fl,D2)):cI g tg b D=some (fl,rst o D2):=by
 unfold cI;rw[e];show (bA tg b xs D1).map _=_;rw[h];rfl
theorem xB {n m:Nat}{fix:List Nat}{g:MS}{ds:List Vl}{D:SD}{r:Vl} (hl:ds.length=n) (e:g (ds.map some++List.replicate (m - n) none)=some (.rt r,D)):bo n m fix g ds=some (r,cV fix ds D 0):=by
 unfold bo;rw[if_pos hl,e]
theorem i8 {own:Nat}{caps:List Nat}{gi:MI}{tg:MG}{c:M Bool}{e:M Vl}{D D1 C':SD}{xs ds:List Im}{o:Option (Nat×Vl)} (h1:gi D=some ((xs,o),D1)) (h2:b7 own tg c e xs [] (cU caps D1)=some (ds,C')):bf own caps gi tg c e D=some (.lst ds,rst o (cD caps C' D1)):=by
 unfold bf;rw[h1];show (b7 own tg c e xs [] (cU caps D1)).map _=_;rw[h2];rfl
theorem cN {g:M Vl}{D D1:SD}{d:Vl} (e:g D=some (d,D1)):aX g D=some (.rt d,D1):=by unfold aX;rw[e];rfl
theorem i9 {i:Nat}{g:M Vl}{D D1:SD}{d:Vl} (e:g D=some (d,D1)) (h:i<D1.length):aw i g D=some (.nx,D1.set i (some d)):=by unfold aw;rw[e];show (if i<D1.length then _ else _)=_;rw[if_pos h]
theorem gr {c:M Bool}{a b:MS}{D D1:SD} (e:c D=some (true,D1)):sIf c a b D=a D1:=by unfold sIf;rw[e];rfl
theorem gs {c:M Bool}{a b:MS}{D D1:SD} (e:c D=some (false,D1)):sIf c a b D=b D1:=by unfold sIf;rw[e];rfl
theorem cF {n m:Nat}{fix:List Nat}{g:MS}{ds:List Vl} (D:SD) {r:Vl}{outs:List Vl} (hl:ds.length=n) (e:g (ds.map some++List.replicate (m - n) none)=some (.rt r,D)) (ho:cV fix ds D 0=outs):bo n m fix g ds=some (r,outs):=by
 rw[xB hl e,ho]
theorem dR {α:Type}{own:Nat}{tg:MG}{c:M Bool}{e:M Vl}{C:SD} (φ:α→Im) (p:α→Bool) (f:α→Im):∀ (xs:List α) (acc:List Im),(∀ x∈xs,∃ D1 D2,tg (.im (φ x)) (List.replicate own none++C)=some D1∧c D1=some (p x,D2)∧(p x=false→D2.drop own=C)∧(p x=true→∃ D3,e D2=some (.im (f x),D3)∧D3.drop own=C))→
  acc.length+xs.length≤100000→b7 own tg c e (xs.map φ) acc C=some (acc++(xs.filter p).map f,C)
 | [],acc,_,_=>by simp[b7]
 | x::r,acc,h,hl=>by
  obtain⟨D1,D2,h1,h2,h3,h4⟩:=h x (.head _)
  rw[List.length_cons] at hl
  rw[List.map_cons,b7,h1]
  show (c D1).bind _=_
  rw[h2]
  show (if p x=true then _ else _)=_
  cases hp:p x with
  | false=>
   rw[if_neg Bool.false_ne_true]
   show b7 own tg c e (r.map φ) acc (D2.drop own)=_
   rw[h3 hp,dR φ p f r acc (fun y hy=>h y (.tail _ hy)) (by lia),List.filter_cons,hp]
   rfl
  | true=>
   obtain⟨D3,h5,h6⟩:=h4 hp
   rw[if_pos rfl]
   show (e D2).bind _=_
   rw[h5]
   show (if acc.length<100000 then b7 own tg c e (r.map φ) (acc++[f x]) (D3.drop own) else none)=_
   rw[if_pos (by lia),h6,dR φ p f r (acc++[f x]) (fun y hy=>h y (.tail _ hy)) (by rw[List.length_append,List.length_singleton];lia),List.filter_cons,hp]
   simp
theorem pK {α:Type}{own:Nat}{tg:MG}{c:M Bool}{e:M Vl}{C:SD} (φ:α→Im) (f:α→Im) (xs:List α) (h:∀ x∈xs,∃ D1 D2 D3,tg (.im (φ x)) (List.replicate own none++C)=some D1∧c D1=some (true,D2)∧e D2=some (.im (f x),D3)∧D3.drop own=C)
  (hl:xs.length≤100000):b7 own tg c e (xs.map φ) [] C=some (xs.map f,C):=by
 have:=dR (own:=own) (tg:=tg) (c:=c) (e:=e) (C:=C) φ (fun _=>true) f xs [] (fun x hx=>by
  obtain⟨D1,D2,D3,h1,h2,h3,h4⟩:=h x hx
  exact⟨D1,D2,h1,h2,(fun z=>by cases z),(fun _=>⟨D3,h3,h4⟩)⟩) (by rw[List.length_nil];lia)
 rw[xA] at this
 exact this
section
variable {D D1 D2:SD}
theorem v_ {g:M Vl}{d:Vl} (h:g D=some (d,D1)):oV g D=some (.vl d,D1):=by unfold oV;rw[h];rfl
theorem a_ {g:M Opd}{h:M (List Opd)}{x:Opd}{xs:List Opd} (e1:g D=some (x,D1)) (e2:h D1=some (xs,D2)):aa g h D=some (x::xs,D2):=by unfold aa;rw[e1];show (h D1).map _=_;rw[e2];rfl
theorem b_ {op:Vl→Vl→Option Vl}{ga gb:M Opd}{x y:Opd}{d1 d2 d:Vl} (e1:ga D=some (x,D1)) (e2:gb D1=some (y,D2)) (e3:rsl D2 x=some d1) (e4:rsl D2 y=some d2) (e5:op d1 d2=some d):ad op ga gb D=some (d,D2):=by
 unfold ad;rw[e1];show (gb D1).bind _=_;rw[e2];show (rsl D2 x).bind _=_;rw[e3];show (rsl D2 y).bind _=_;rw[e4];show (op d1 d2).map _=_;rw[e5];rfl
theorem c_ {n:Nat}{G:Fn}{g:M (List Opd)}{os:List Opd}{ds outs:List Vl}{r:Vl} (e1:g D=some (os,D1)) (e0:os.length=n) (e2:bd os D1=some (ds,D2)) (e3:G ds=some (r,outs)):aq n G g D=some (r,wb os outs D2):=by
 unfold aq;rw[e1];show (if os.length=n then _ else _)=_;rw[if_pos e0];show (bd os D1).bind _=_;rw[e2];show (G ds).map _=_;rw[e3];rfl
theorem cb_ {op:List Vl→Option Vl}{g:M (List Opd)}{os:List Opd}{ds:List Vl}{d:Vl} (e1:g D=some (os,D1)) (e2:cQ D1 os=some ds) (e3:op ds=some d):ax op g D=some (d,D1):=by
 unfold ax;rw[e1];show (cQ D1 os).bind _=_;rw[e2];show (op ds).map _=_;rw[e3];rfl
theorem kb_ {g:M Vl}{b:Bool} (e:g D=some (.im (.bl b),D1)):kB g D=some (b,D1):=by unfold kB;rw[e];rfl
theorem as_ {g:M Vl}{h:MG}{d:Vl} (e:g D=some (d,D1)) (e2:h d D1=some D2):bO g h D=some (.nx,D2):=by unfold bO;rw[e];show (h d D1).map _=_;rw[e2];rfl
theorem ex_ {g:M Vl}{d:Vl} (e:g D=some (d,D1)):df g D=some (.nx,D1):=by unfold df;rw[e];rfl
theorem mu_ {D3:SD}{ty:Vl→Bool}{i:Nat}{mt:Vl→List Vl→Option (Vl×Vl)}{g:M (List Opd)}{c0 c r c':Vl}{os:List Opd}{ds:List Vl} (e0:D[i]?=some (some c0)) (e1:ty c0=true) (e2:g D=some (os,D1)) (e3:bd os D1=some (ds,D2)) (e4:D2[i]?=some (some c)) (e5:mt c ds=some (r,c')) (k:D2.set i (some c')=D3):cj ty i mt g D=some (r,D3):=by
 subst k
 unfold cj
 rw[e0]
 show (if ty c0=true then _ else _)=_
 rw[if_pos e1,e2]
 show (bd os D1).bind _=_
 rw[e3]
 show (match D2[i]? with | some (some c)=>_ | _=>none)=_
 rw[e4]
 show (mt c ds).map _=_
 rw[e5]
 rfl
theorem tu_ {g:M (List Opd)}{os:List Opd}{ds:List Vl}{d:Vl} (e1:g D=some (os,D1)) (e2:bd os D1=some (ds,D2)) (e3:ds.length≤100000) (k:mkT ds=d):aI g D=some (d,D2):=by
 unfold aI;rw[e1];show (bd os D1).bind _=_;rw[e2];show (if _ then _ else _)=_;rw[if_pos e3,k]
theorem li_ {g:M (List Opd)}{os:List Opd}{ds:List Vl}{d:Vl} (e1:g D=some (os,D1)) (e2:bd os D1=some (ds,D2)) (e3:ds.length≤100000) (k:mkL ds=d):bm g D=some (d,D2):=by
 unfold bm;rw[e1];show (bd os D1).bind _=_;rw[e2];show (if _ then _ else _)=_;rw[if_pos e3,k]
theorem ng_ {g:M Vl}{i:Int} (e:g D=some (.im (.int i),D1)):du g D=some (.im (.int (-i)),D1):=by unfold du;rw[e];rfl
theorem ap_ {x:List Im}{d:Im} (h:x.length<100000):mAppend (.lst x) [.im d]=some (.im .non,.lst (x++[d])):=if_pos h
theorem kS (i j:Int):vEq (.im (.int i)) (.im (.int j))=some (.im (.bl (decide (i=j)))):=by
 show some (Vl.im (.bl (i == j)))=_
 by_cases h:i=j<;>simp[h]
theorem xC (i j:Int):vNe (.im (.int i)) (.im (.int j))=some (.im (.bl (!decide (i=j)))):=by
 show some (Vl.im (.bl (!(i == j))))=_
 by_cases h:i=j<;>simp[h]
theorem c4 {i j:Int} (h:bP i j=true):vMul (.im (.int i)) (.im (.int j))=some (.im (.int (i * j))):=if_pos h
theorem dS {i j:Int} (h:0<j):vMod (.im (.int i)) (.im (.int j))=some (.im (.int (i % j))):=if_pos (decide_eq_true h)
theorem pL {i j:Int} (h:0<j) (h2:j<1073741824):vDiv (.im (.int i)) (.im (.int j))=some (.im (.int (i / j))):=if_pos (decide_eq_true (⟨h,h2⟩:0<j∧j<1073741824))
theorem pM {i j:Int} (h:decide (0≤j∧j≤1000000∧i.natAbs<2 ^ 64)=true):vPow (.im (.int i)) (.im (.int j))=some (.im (.int (i ^ j.toNat))):=if_pos h
theorem xD {c:M Bool}{a b:MS}{r:Option (Fl×SD)} (e:c D=some (true,D1)) (h:a D1=r):sIf c a b D=r:=(gr e).trans h
theorem pN {c:M Bool}{a b:MS}{r:Option (Fl×SD)} (e:c D=some (false,D1)) (h:b D1=r):sIf c a b D=r:=(gs e).trans h
theorem sq_ {g h:MS}{r:Option (Fl×SD)} (e:g D=some (.nx,D1)) (k:h D1=r):ar g h D=r:=(aR e).trans k
theorem bG {i:Nat}{g:M Vl}{d:Vl} (e:g D=some (d,D1)) (h:i<D1.length) (k:D1.set i (some d)=D2):aw i g D=some (.nx,D2):=(i9 e h).trans (by rw[k])
theorem ja {g:MI}{tg:MG}{b:MS}{D3:SD}{xs:List Im}{o:Option (Nat×Vl)}{fl:Fl} (e:g D=some ((xs,o),D1)) (h:bA tg b xs D1=some (fl,D2)) (k:rst o D2=D3):cI g tg b D=some (fl,D3):=(pJ e h).trans (by rw[k])
theorem cp_ {own:Nat}{caps:List Nat}{gi:MI}{tg:MG}{c:M Bool}{e:M Vl}{C' D3:SD}{xs ds:List Im}{o:Option (Nat×Vl)} (h1:gi D=some ((xs,o),D1)) (h2:b7 own tg c e xs [] (cU caps D1)=some (ds,C')) (k:rst o (cD caps C' D1)=D3):bf own caps gi tg c e D=some (.lst ds,D3):=(i8 h1 h2).trans (by rw[k])
theorem xE {a b:M Bool}{r:Option (Bool×SD)} (e:a D=some (false,D1)) (h:b D1=r):kOr a b D=r:=by unfold kOr;rw[e];exact h
theorem ix_ {go ga:M Opd}{x y:Opd}{l d1 d2 d:Vl} (e1:go D=some (x,D1)) (e2:rsl D1 x=some l) (e3:gq l=true) (e4:ga D1=some (y,D2)) (e5:rsl D2 x=some d1) (e6:rsl D2 y=some d2) (e7:gp d1 d2=some d):ij go ga D=some (d,D2):=by
 unfold ij;rw[e1];show (rsl D1 x).bind _=_;rw[e2];show (if gq l=true then _ else _)=_;rw[if_pos e3,e4];show (rsl D2 x).bind _=_;rw[e5];show (rsl D2 y).bind _=_;rw[e6];show (gp d1 d2).map _=_;rw[e7];rfl
theorem xF {c:M Bool}{a b:M Vl}{r:Option (Vl×SD)} (e:c D=some (true,D1)) (h:a D1=r):eIf c a b D=r:=by unfold eIf;rw[e];exact h
theorem xG {c:M Bool}{a b:M Vl}{r:Option (Vl×SD)} (e:c D=some (false,D1)) (h:b D1=r):eIf c a b D=r:=by unfold eIf;rw[e];exact h
theorem xH {i j:Nat}{g:M (List Opd)}{os:List Opd}{d1 d2:Vl}{D3:SD} (e1:g D=some (os,D1)) (e2:bd os D1=some ([d1,d2],D2)) (hi:i<D2.length) (hj:j<D2.length) (k:(D2.set i (some d1)).set j (some d2)=D3):gW i j g D=some (.nx,D3):=by
 unfold gW;rw[e1];show (bd os D1).bind _=_;rw[e2];show (if i<D2.length∧j<D2.length then _ else _)=_;rw[if_pos ⟨hi,hj⟩,k]
theorem d_ {D3:SD}{n:Nat}{G:Fn}{g:M (List Opd)}{os:List Opd}{ds outs:List Vl}{r:Vl} (e1:g D=some (os,D1)) (e0:os.length=n) (e2:bd os D1=some (ds,D2)) (e3:G ds=some (r,outs)) (k:wb os outs D2=D3):aq n G g D=some (r,D3):=by rw[← k];exact c_ e1 e0 e2 e3
theorem sl_ {D3:SD}{g:M Opd}{l h:M (Option Int)}{x:Opd}{lo hi:Option Int}{d d':Vl} (e1:g D=some (x,D1)) (e2:l D1=some (lo,D2)) (e3:h D2=some (hi,D3)) (e4:rsl D3 x=some d) (e5:vSl d lo hi=some d'):eSl g l h D=some (d',D3):=by
 unfold eSl;rw[e1];show (l D1).bind _=_;rw[e2];show (h D2).bind _=_;rw[e3];show (rsl D3 x).bind _=_;rw[e4];show (vSl d lo hi).map _=_;rw[e5];rfl
theorem rg_ {g:M (List Opd)}{os:List Opd}{j:Int} (e1:g D=some (os,D1)) (e2:cQ D1 os=some [.im (.int j)]) (h:d9 j):iR1 g D=some ((bV 0 j.toNat,none),D1):=by
 unfold iR1;rw[e1];show (cQ D1 os).bind _=_;rw[e2];show (if d9 j then _ else _)=_;rw[if_pos h]
theorem kT {n m:Nat}{fix:List Nat}{g:MS}{ds outs:List Vl}{r:Vl} (hl:ds.length=n) (e:g (ds.map some++List.replicate (m - n) none)=some (.rt r,D)) (ho:cV fix ds D 0=outs):bo n m fix g ds=some (r,outs):=cF D hl e ho
end
end L2
namespace G
open PySem L2
noncomputable def pO:MS:=(aX (aI (aa (oV (ax vMinM (aa (oSl 0) (aa (oSl 1) aNil)))) (aa (oV (ax vMaxM (aa (oSl 0) (aa (oSl 1) aNil)))) aNil))))
noncomputable def gu:Fn:=bo 2 2 [0,1] pO
noncomputable def xI:MS:=(ar (sIf (kB (ad vGt (oV (ad vIx (oSl 0) (oV (eC (.int 0))))) (oV (eC (.int 0))))) (ar (aw 2 (ad vMod (oV (ad vIx (oSl 0) (oV (eC (.int 0))))) (oSl 1))) (ar (bO (ad vDiv (oV (ad vIx (oSl 0) (oV (eC (.int 0))))) (oSl 1)) (gIx 0 (eC (.int 0)) putV)) (aX (bL 2)))) sNil) (ar (bO (ad vAdd (oV (ad vIx (oSl 0) (oV (eC (.int 2))))) (oV (eC (.int 1)))) (gIx 0 (eC (.int 2)) putV)) (ar (aw 3 (ad vMod (oV (ad vMul (oV (ad vAdd (oV (ad vIx (oSl 0) (oV (eC (.int 1))))) (oV (ad vMul (oV (ad vIx (oSl 0) (oV (eC (.int 2))))) (oV (eC (.int 104729))))))) (oV (eC (.int 48271))))) (oV (eC (.int 2305843009213693951))))) (ar (bO (ad vMod (oV (ad vMul (oSl 3) (oV (ad vAdd (oV (ad vMod (oSl 3) (oV (eC (.int 1009))))) (oV (eC (.int 69621))))))) (oV (eC (.int 2305843009213693951)))) (gIx 0 (eC (.int 1)) putV)) (aX (ad vMod (oV (ad vDiv (oV (ad vIx (oSl 0) (oV (eC (.int 1))))) (oV (eC (.int 1000003))))) (oSl 1)))))))
noncomputable def io:Fn:=bo 2 4 [0,1] xI
noncomputable def xJ:MS:=(aX (bm (aa (oV (aI (aa (oV (ad vSub (oV (ad vIx (oSl 0) (oV (eC (.int 0))))) (oV (eC (.int 1))))) (aa (oV (ad vIx (oSl 0) (oV (eC (.int 1))))) aNil)))) (aa (oV (aI (aa (oV (ad vIx (oSl 0) (oV (eC (.int 0))))) (aa (oV (ad vSub (oV (ad vIx (oSl 0) (oV (eC (.int 1))))) (oV (eC (.int 1))))) aNil)))) (aa (oV (aI (aa (oV (ad vIx (oSl 0) (oV (eC (.int 0))))) (aa (oV (ad vAdd (oV (ad vIx (oSl 0) (oV (eC (.int 1))))) (oV (eC (.int 1))))) aNil)))) (aa (oV (aI (aa (oV (ad vAdd (oV (ad vIx (oSl 0) (oV (eC (.int 0))))) (oV (eC (.int 1))))) (aa (oV (ad vIx (oSl 0) (oV (eC (.int 1))))) aNil)))) aNil))))))
noncomputable def xK:Fn:=bo 1 1 [0] xJ
noncomputable def xL:MS:=(ar (aw 4 (ad vIx (oV (aq 1 G.xK (aa (oV (ad vIx (oSl 2) (oV (aq 2 G.io (aa (oSl 0) (aa (oV (ax vLen (aa (oSl 2) aNil))) aNil)))))) aNil))) (oV (aq 2 G.io (aa (oSl 0) (aa (oV (eC (.int 4))) aNil)))))) (sIf (de (kB (ad vNotIn (oSl 4) (oSl 2))) (de (kB (cY vLe vLe (oV (eC (.int 0))) (oV (ad vIx (oSl 4) (oV (eC (.int 0))))) (oV (eC (.int 24))))) (kB (cY vLe vLe (oV (eC (.int 0))) (oV (ad vIx (oSl 4) (oV (eC (.int 1))))) (oV (eC (.int 24))))))) (df (cj dg 2 mAppend (aa (oSl 4) aNil))) sNil))
noncomputable def xM:MS:=(ar (aw 2 (bm (aa (oV (aI (aa (oV (eC (.int 12))) (aa (oV (eC (.int 12))) aNil)))) aNil))) (ar (cI (iR1 (aa (oV (aq 2 G.io (aa (oSl 0) (aa (oSl 1) aNil)))) aNil)) (gN 3) G.xL) (aX (bL 2))))
noncomputable def xN:Fn:=bo 2 5 [0,1] xM
noncomputable def xO:MS:=(df (cj dg 5 mPopAt (aa (oV (aq 2 G.io (aa (oSl 0) (aa (oV (ax vLen (aa (oSl 5) aNil))) aNil)))) aNil)))
noncomputable def xP:M Vl:=(bL 0)
noncomputable def xQ:M Bool:=(kB (ad vEq (oV (ad vMul (oV (ad vMod (oV (ad vIx (oSl 0) (oV (eC (.int 0))))) (oV (eC (.int 2))))) (oV (ad vMod (oV (ad vMod (oV (ad vIx (oSl 0) (oV (eC (.int 1))))) (oV (eC (.int 3))))) (oV (eC (.int 2))))))) (oV (eC (.int 0)))))
noncomputable def pP:MS:=(aX (aI (aa (oV (ad vSub (oV (ad vIx (oSl 1) (oV (eC (.int 0))))) (oV (ad vMod (oV (ad vSub (oV (ad vIx (oSl 1) (oV (eC (.int 0))))) (oV (ad vIx (oV (ad vIx (oSl 0) (oV (eC (.int 0))))) (oV (eC (.int 0))))))) (oV (eC (.int 2))))))) (aa (oV (ad vSub (oV (ad vIx (oSl 1) (oV (eC (.int 1))))) (oV (ad vMod (oV (ad vSub (oV (ad vIx (oSl 1) (oV (eC (.int 1))))) (oV (ad vIx (oV (ad vIx (oSl 0) (oV (eC (.int 0))))) (oV (eC (.int 1))))))) (oV (eC (.int 2))))))) aNil))))
noncomputable def gv:Fn:=bo 2 2 [0,1] pP
noncomputable def pQ (ks:KS):MS:=(aX (aI (aa (oV (ad vAdd (oV (ad (aP ks.kt ks.kd) (oSl 0) (oV (eC (.int 0))))) (oV (ad vMul (oV (ad (aP ks.kt ks.kd) (oSl 1) (oV (eC (.int 0))))) (oSl 2))))) (aa (oV (ad vAdd (oV (ad (aP ks.kt ks.kd) (oSl 0) (oV (eC (.int 1))))) (oV (ad vMul (oV (ad (aP ks.kt ks.kd) (oSl 1) (oV (eC (.int 1))))) (oSl 2))))) aNil))))
noncomputable def dB (ks:KS):Fn:=bo 3 3 [0,1,2] (pQ ks)
noncomputable def pR (ks:KS):MS:=(ar (aw 3 (aq 2 G.gv (aa (oSl 0) (aa (oSl 2) aNil)))) (ar (aw 4 (ad (aP ks.kt ks.kd) (oV (eC (.fn ks.wa))) (oV (aI (aa (oV (ad vSub (oV (ad (aP ks.kt ks.kd) (oSl 2) (oV (eC (.int 0))))) (oV (ad (aP ks.kt ks.kd) (oSl 3) (oV (eC (.int 0))))))) (aa (oV (ad vSub (oV (ad (aP ks.kt ks.kd) (oSl 2) (oV (eC (.int 1))))) (oV (ad (aP ks.kt ks.kd) (oSl 3) (oV (eC (.int 1))))))) aNil)))))) (ar (sIf (kB (ad vIn (oV (aq 2 G.gu (aa (oSl 3) (aa (oV (aq 3 (G.dB ks) (aa (oSl 3) (aa (oV (ad (aP ks.kt ks.kd) (oSl 4) (oV (eC (.int 0))))) (aa (oV (eC (.int 2))) aNil))))) aNil)))) (oSl 1))) (aX (aq 3 (G.dB ks) (aa (oSl 2) (aa (oV (ad (aP ks.kt ks.kd) (oSl 4) (oV (eC (.int 0))))) (aa (oV (eC (.int 1))) aNil))))) sNil) (aX (aq 3 (G.dB ks) (aa (oSl 2) (aa (oV (ad (aP ks.kt ks.kd) (oSl 4) (oV (eC (.int 1))))) (aa (oV (eC (.int 1))) aNil))))))))
noncomputable def fC (ks:KS):Fn:=bo 3 5 [0,1,2] (pR ks)
noncomputable def kU:MS:=(ar (sIf (kB (ad vLt (oSl 1) (oV (ax vLen (aa (oSl 0) aNil))))) (aX (ad vIx (oSl 0) (oSl 1))) sNil) (aX (eC (.int 0))))
noncomputable def gw:Fn:=bo 2 2 [0,1] kU
noncomputable def pS:MS:=(ar (aw 2 (aq 2 G.gw (aa (oSl 0) (aa (oSl 1) aNil)))) (ar (aw 3 (ad vMul (oV (ad vMul (oV (ad vPow (oV (eC (.int 10))) (oV (eC (.int 60))))) (oV (ad vPow (oV (eC (.int 10))) (oV (eC (.int 60))))))) (oV (ad vPow (oV (eC (.int 10))) (oV (eC (.int 60))))))) (ar (aw 4 (ad vMod (oV (ad vMul (oV (ad vAdd (oV (ad vAdd (oV (ad vMod (oSl 2) (oV (eC (.int 2147483629))))) (oV (ad vMul (oV (ad vMul (oV (eC (.int 7919))) (oSl 1))) (oSl 1))))) (oV (eC (.int 11))))) (oV (eC (.int 48271))))) (oV (eC (.int 2147483647))))) (aX (bm (aa (oV (ad vMul (oV (ad vMod (oSl 2) (oSl 3))) (oV (ax vInt (aa (oV (ad vGe (oSl 2) (oV (ad vPow (oV (eC (.int 10))) (oV (eC (.int 18))))))) aNil))))) (aa (oSl 4) (aa (oV (eC (.int 0))) aNil))))))))
noncomputable def gz:Fn:=bo 2 5 [0,1] pS
noncomputable def kW:MS:=(ar (sIf (kB (ad vGt (oV (ad vIx (oSl 0) (oV (eC (.int 0))))) (oV (eC (.int 0))))) (ar (aw 2 (ad vMod (oV (ad vIx (oSl 0) (oV (eC (.int 0))))) (oSl 1))) (ar (bO (ad vDiv (oV (ad vIx (oSl 0) (oV (eC (.int 0))))) (oSl 1)) (gIx 0 (eC (.int 0)) putV)) (aX (bL 2)))) sNil) (ar (bO (ad vAdd (oV (ad vIx (oSl 0) (oV (eC (.int 2))))) (oV (eC (.int 1)))) (gIx 0 (eC (.int 2)) putV)) (ar (bO (ad vMod (oV (ad vAdd (oV (ad vAdd (oV (ad vMul (oV (ad vIx (oSl 0) (oV (eC (.int 1))))) (oV (eC (.int 48271))))) (oV (eC (.int 12345))))) (oV (ad vMul (oV (eC (.int 7919))) (oV (ad vIx (oSl 0) (oV (eC (.int 2))))))))) (oV (eC (.int 2147483647)))) (gIx 0 (eC (.int 1)) putV)) (aX (ad vMod (oV (ad vDiv (oV (ad vMod (oV (ad vMul (oV (ad vIx (oSl 0) (oV (eC (.int 1))))) (oV (ad vIx (oSl 0) (oV (eC (.int 1))))))) (oV (eC (.int 1999999973))))) (oV (eC (.int 31))))) (oSl 1))))))
noncomputable def bi:Fn:=bo 2 3 [0,1] kW
noncomputable def jb:MS:=(ar (bO (ad vIx (oSl 2) (oV (aq 2 G.bi (aa (oSl 0) (aa (oV (ax vLen (aa (oSl 2) aNil))) aNil))))) (gT 2 (bb (gN 4) (bb (gN 5) gNil')))) (ar (sIf (kB (ad vEq (oV (aq 2 G.bi (aa (oSl 0) (aa (oV (eC (.int 3))) aNil)))) (oV (eC (.int 0))))) (bO (ad vIx (oSl 2) (oV (du (eC (.int 1))))) (gT 2 (bb (gN 4) (bb (gN 5) gNil')))) sNil) (ar (bO (ad vIx (oV (bm (aa (oV (aI (aa (oV (eC (.int 0))) (aa (oV (eC (.int 2))) aNil)))) (aa (oV (aI (aa (oV (eC (.int 2))) (aa (oV (eC (.int 0))) aNil)))) (aa (oV (aI (aa (oV (eC (.int 0))) (aa (oV (du (eC (.int 2)))) aNil)))) (aa (oV (aI (aa (oV (du (eC (.int 2)))) (aa (oV (eC (.int 0))) aNil)))) aNil)))))) (oV (aq 2 G.bi (aa (oSl 0) (aa (oV (eC (.int 4))) aNil))))) (gT 2 (bb (gN 6) (bb (gN 7) gNil')))) (ar (aw 8 (aI (aa (oV (ad vAdd (oSl 4) (oSl 6))) (aa (oV (ad vAdd (oSl 5) (oSl 7))) aNil)))) (sIf (de (kB (ad vNotIn (oSl 8) (oSl 2))) (de (kB (ad vLt (oV (ax vLen (aa (oSl 2) aNil))) (oSl 1))) (de (kB (cY vLe vLe (oV (eC (.int 0))) (oV (ad vIx (oSl 8) (oV (eC (.int 0))))) (oV (eC (.int 29))))) (kB (cY vLe vLe (oV (eC (.int 0))) (oV (ad vIx (oSl 8) (oV (eC (.int 1))))) (oV (eC (.int 29)))))))) (df (cj dg 2 mAppend (aa (oSl 8) aNil))) sNil)))))
noncomputable def pU:MS:=(ar (aw 1 (ad vAdd (oV (eC (.int 1))) (oV (aq 2 G.bi (aa (oSl 0) (aa (oV (ad vIx (oV (bm (aa (oV (eC (.int 3))) (aa (oV (eC (.int 8))) (aa (oV (eC (.int 14))) (aa (oV (eC (.int 40))) aNil)))))) (oV (aq 2 G.bi (aa (oSl 0) (aa (oV (eC (.int 4))) aNil)))))) aNil)))))) (ar (aw 2 (bm (aa (oV (aI (aa (oV (aq 2 G.bi (aa (oSl 0) (aa (oV (eC (.int 30))) aNil)))) (aa (oV (aq 2 G.bi (aa (oSl 0) (aa (oV (eC (.int 30))) aNil)))) aNil)))) aNil))) (ar (cI (iR1 (aa (oV (ad vMul (oV (eC (.int 3))) (oSl 1))) aNil)) (gN 3) G.jb) (aX (ax vSortM (aa (oSl 2) aNil))))))
noncomputable def fE:Fn:=bo 1 9 [0] pU
noncomputable def pV:MS:=(ar (bO (bL 0) (gT 2 (bb (gN 1) (bb (gN 2) gNil')))) (aX (bm (aa (oV (aI (aa (oSl 1) (aa (oSl 2) aNil)))) (aa (oV (aI (aa (oSl 1) (aa (oV (ad vAdd (oSl 2) (oV (eC (.int 1))))) aNil)))) (aa (oV (aI (aa (oV (ad vAdd (oSl 1) (oV (eC (.int 1))))) (aa (oV (ad vAdd (oSl 2) (oV (eC (.int 1))))) aNil)))) (aa (oV (aI (aa (oV (ad vAdd (oSl 1) (oV (eC (.int 1))))) (aa (oSl 2) aNil)))) aNil)))))))
noncomputable def eE:Fn:=bo 1 3 [0] pV
noncomputable def jc:MS:=(df (cj dg 1 mExtend (aa (oV (aq 1 G.eE (aa (oSl 2) aNil))) aNil)))
noncomputable def pX:MS:=(ar (aw 1 (bm aNil)) (ar (cI (bv (oSl 0)) (gN 2) G.jc) (aX (ax vTuple (aa (oV (ax vSortM (aa (oSl 1) aNil))) aNil)))))
noncomputable def eG:Fn:=bo 1 3 [0] pX
noncomputable def pY:M Vl:=(aI (aa (oV (aI (aa (oSl 2) (aa (oSl 3) aNil)))) (aa (oSl 0) aNil)))
noncomputable def pZ:M Bool:=(kB (ad vIn (oSl 0) (oSl 1)))
noncomputable def ip:MS:=(df (cj dg 1 mExtend (aa (oV (bf 1 [0,2,3] (bv (oV (bm (aa (oV (aI (aa (oSl 2) (aa (oV (ad vAdd (oSl 3) (oV (eC (.int 2))))) aNil)))) (aa (oV (aI (aa (oV (ad vAdd (oSl 2) (oV (eC (.int 2))))) (aa (oSl 3) aNil)))) aNil))))) (gN 0) G.pZ G.pY)) aNil)))
noncomputable def p0:MS:=(ar (aw 1 (bm aNil)) (ar (kO 0 (gT 2 (bb (gN 2) (bb (gN 3) gNil'))) G.ip) (aX (ax vSortM (aa (oSl 1) aNil)))))
noncomputable def gC:Fn:=bo 1 4 [0] p0
noncomputable def kX:M Vl:=(aI (aa (oSl 0) (aa (oSl 0) aNil)))
noncomputable def qc:M Vl:=(aI (aa (oSl 0) (aa (oV (eIf (kB (ad vEq (oV (ad vIx (oSl 1) (oSl 0))) (oSl 2))) (bL 3) (ad vIx (oSl 1) (oSl 0)))) aNil)))
noncomputable def qd:M Bool:=(kB (ad vNe (oSl 2) (oV (bm aNil))))
noncomputable def jd:MS:=(ar (bO (cj dg 2 mPopAt (aa (oV (aq 2 G.bi (aa (oSl 0) (aa (oV (ax vLen (aa (oSl 2) aNil))) aNil)))) aNil)) (gT 2 (bb (gN 5) (bb (gN 6) gNil')))) (sIf (kB (ad vNe (oV (ad vIx (oSl 4) (oSl 5))) (oV (ad vIx (oSl 4) (oSl 6))))) (ar (df (cj dg 3 mAppend (aa (oV (aI (aa (oSl 5) (aa (oSl 6) aNil)))) aNil))) (ar (bO (aI (aa (oV (ad vIx (oSl 4) (oSl 5))) (aa (oV (ad vIx (oSl 4) (oSl 6))) aNil))) (gT 2 (bb (gN 7) (bb (gN 8) gNil')))) (aw 4 (ax vDict (aa (oV (bf 1 [4,7,8] (bv (oSl 1)) (gN 0) kYes G.qc)) aNil))))) sNil))
noncomputable def qe:MS:=(ar (gW 2 3 (aa (oV (aq 1 G.gC (aa (oSl 1) aNil))) (aa (oV (bm aNil)) aNil))) (ar (aw 4 (ax vDict (aa (oV (bf 1 [] (bv (oSl 1)) (gN 0) kYes G.kX)) aNil))) (ar (dr G.qd G.jd 1000000) (aX (ax vTuple (aa (oV (ax vSortM (aa (oSl 3) aNil))) aNil))))))
noncomputable def gD:Fn:=bo 2 9 [0,1] qe
noncomputable def qf (ks:KS):M Bool:=(kB (ad vLt (oV (ax vLen (aa (oSl 2) aNil))) (oV (ax vLen (aa (oSl 0) aNil)))))
noncomputable def qg (ks:KS):MS:=(df (cj dg 2 mAppend (aa (oV (aq 3 (G.fC ks) (aa (oSl 0) (aa (oSl 1) (aa (oV (ad vIx (oSl 2) (oV (du (eC (.int 1)))))) aNil))))) aNil)))
noncomputable def qh (ks:KS):MS:=(ar (aw 2 (bm (aa (oV (ad vIx (oSl 0) (oV (eC (.int 0))))) aNil))) (ar (dr (G.qf ks) (G.qg ks) 1000000) (aX (ax vTuple (aa (oSl 2) aNil)))))
noncomputable def eH (ks:KS):Fn:=bo 2 3 [0,1] (qh ks)
noncomputable def qi:MS:=(ar (aw 1 (ij (oSl 0) (oV (ax vMinL (aa (oSl 0) aNil))))) (aX (ad vAdd (oV (eSl (oSl 0) (j9 (bL 1)) pNone)) (oV (eSl (oSl 0) pNone (j9 (bL 1)))))))
noncomputable def gE:Fn:=bo 1 2 [0] qi
noncomputable def iq (ks:KS):MS:=(df (cj dg 7 mExtend (aa (oV (ax vList (aa (oSl 8) aNil))) aNil)))
noncomputable def qj (ks:KS):M Vl:=(bL 0)
noncomputable def qk (ks:KS):M Bool:=(kB (ad vEq (oV (fw (oSl 1) (oSl 0))) (oV (eC (.int 1)))))
noncomputable def ql (ks:KS):M Vl:=(ad vNotIn (oV (ad vIx (oSl 1) (oV (ad vSub (oSl 0) (oV (eC (.int 1))))))) (oSl 2))
noncomputable def qm (ks:KS):M Bool:=(kB (ad vIn (oV (ad vIx (oSl 1) (oSl 0))) (oSl 2)))
noncomputable def qo (ks:KS):M Vl:=(bL 0)
noncomputable def qp (ks:KS):M Bool:=(kB (ad vNe (oSl 0) (oSl 1)))
noncomputable def kY (ks:KS):M Vl:=(bL 0)
noncomputable def kZ (ks:KS):M Bool:=(kB (ad vNotIn (oSl 1) (oSl 0)))
noncomputable def k7 (ks:KS):M Vl:=(bL 0)
noncomputable def k8 (ks:KS):M Bool:=(kB (ad vNotIn (oSl 0) (oSl 1)))
noncomputable def ir (ks:KS):MS:=(ar (aw 7 (bm aNil)) (ar (cI (bv (oSl 4)) (gN 8) (G.iq ks)) (ar (aw 9 (bf 1 [7] (bv (oSl 3)) (gN 0) (G.qk ks) (G.qj ks))) (ar (aw 10 (ad vIx (oSl 9) (oV (aq 2 G.bi (aa (oSl 2) (aa (oV (ax vLen (aa (oSl 9) aNil))) aNil)))))) (ar (aw 11 (aq 1 G.eE (aa (oSl 10) aNil))) (ar (aw 12 (bf 1 [5,11] (iR1 (aa (oV (ax vLen (aa (oSl 5) aNil))) aNil)) (gN 0) (G.qm ks) (G.ql ks))) (ar (aw 3 (bf 1 [10] (bv (oSl 3)) (gN 0) (G.qp ks) (G.qo ks))) (ar (aw 4 (ax vTuple (aa (oV (bf 1 [10] (bv (oSl 4)) (gN 0) (G.kZ ks) (G.kY ks))) aNil))) (ar (aw 5 (aq 1 G.gE (aa (oV (bf 1 [11] (bv (oSl 5)) (gN 0) (G.k8 ks) (G.k7 ks))) aNil))) (sIf (kOr (kB (ad vNe (oV (fw (oSl 12) (oV (eC (.bl true))))) (oV (eC (.int 1))))) (kB (ad vNe (oV (ax vList (aa (oV (aq 2 (G.eH ks) (aa (oV (aq 1 G.eG (aa (oSl 3) aNil))) (aa (oSl 4) aNil)))) aNil))) (oSl 5)))) (aX (eC (.bl false))) sNil))))))))))
noncomputable def je (ks:KS):MS:=(ar (aw 2 (aq 2 G.gz (aa (oSl 0) (aa (oSl 1) aNil)))) (ar (aw 3 (aq 1 G.fE (aa (oSl 2) aNil))) (ar (aw 4 (aq 2 G.gD (aa (oSl 2) (aa (oSl 3) aNil)))) (ar (aw 5 (ax vList (aa (oV (aq 2 (G.eH ks) (aa (oV (aq 1 G.eG (aa (oSl 3) aNil))) (aa (oSl 4) aNil)))) aNil))) (cI (iR1 (aa (oV (ad vSub (oV (ax vLen (aa (oSl 3) aNil))) (oV (eC (.int 1))))) aNil)) (gN 6) (G.ir ks))))))
noncomputable def qr (ks:KS):MS:=(ar (cI (iR1 (aa (oV (ax vMaxM (aa (oV (eC (.int 1))) (aa (oV (ax vMinM (aa (oV (eC (.int 6))) (aa (oV (ax vLen (aa (oSl 0) aNil))) aNil)))) aNil)))) aNil)) (gN 1) (G.je ks)) (aX (eC (.bl true))))
noncomputable def gF (ks:KS):Fn:=bo 1 13 [0] (qr ks)
end G
namespace K43
open PySem L2 PyProof.Rows
noncomputable def top (i:Nat):Stmt:=PySem.Challenge.pw_mowfloor_k43_rings_of_leaves.main.body.getD i (.Pass ⟨0,0,0,0⟩)
structure Txt (mg:Str→Option Value):Prop where
 b_dict:mg "dict" = none
 b_int:mg "int" = none
 b_len:mg "len" = none
 b_list:mg "list" = none
 b_max:mg "max" = none
 b_min:mg "min" = none
 b_range:mg "range" = none
 b_sorted:mg "sorted" = none
 b_tuple:mg "tuple" = none
 c_SIDE:∃ t,mg "SIDE" = some (.int 2 t)
theorem qt:bootBuiltins "dict" = some (.type "dict"):=by decide +kernel
theorem xR:bootBuiltins "int" = some (.type "int"):=by decide +kernel
theorem dC:bootBuiltins "len" = some (.builtin "len"):=by decide +kernel
theorem k9:bootBuiltins "list" = some (.type "list"):=by decide +kernel
theorem qu:bootBuiltins "max" = some (.builtin "max"):=by decide +kernel
theorem lc:bootBuiltins "min" = some (.builtin "min"):=by decide +kernel
theorem jf:bootBuiltins "sorted" = some (.builtin "sorted"):=by decide +kernel
theorem jg:bootBuiltins "tuple" = some (.type "tuple"):=by decide +kernel
theorem am {A:Around}{k:Nat} (hr:Room k A):A.units+20<cLine:=by have:=hr.un;omega
theorem qv {A:Around}{k:Nat} (hr:Room k A):A.units+30<cLine:=by have:=hr.un;omega
noncomputable abbrev fF:Stmt:=top 1
noncomputable abbrev xS:List Str:=["one","other"]
noncomputable abbrev fG:Stmt:=top 4
noncomputable abbrev xT:List Str:=["field","cell"]
noncomputable abbrev fH:Stmt:=top 7
noncomputable abbrev xU:List Str:=["cell","way","many"]
noncomputable abbrev fI:Stmt:=top 8
noncomputable abbrev xV:List Str:=["field","tree","cell","block","ways"]
noncomputable abbrev fJ:Stmt:=top 9
noncomputable abbrev xW:List Str:=["field","tree","walk"]
noncomputable abbrev fK:Stmt:=top 11
noncomputable abbrev xX:List Str:=["_law_script","_law_k"]
noncomputable abbrev fL:Stmt:=top 12
noncomputable abbrev xY:List Str:=["_law_script","_law_k","_law_cell","_law_bound","_law_seed"]
noncomputable abbrev dU:Stmt:=top 13
noncomputable abbrev xZ:List Str:=["_law_hand_here","_law_many","_law_digit"]
noncomputable abbrev fM:Stmt:=top 14
noncomputable abbrev x5:List Str:=["_law_hand_here","_law_many","_law_some","_law_turn","_law_row","_law_column","_law_down","_law_right","_law_one"]
noncomputable abbrev eI:Stmt:=top 15
noncomputable abbrev x6:List Str:=["_law_block","_law_row","_law_column"]
noncomputable abbrev fN:Stmt:=top 16
noncomputable abbrev x8:List Str:=["_law_some","_law_cells","_law_block"]
noncomputable abbrev eJ:Stmt:=top 17
noncomputable abbrev x9:List Str:=["_law_some","_law_pairs_here","_law_row","_law_column"]
noncomputable abbrev dW:Stmt:=top 18
noncomputable abbrev ya:List Str:=["_law_hand_here","_law_some","_law_rest","_law_taken","_law_piece","_law_one","_law_other","_law_old","_law_new"]
noncomputable abbrev fO:Stmt:=top 19
noncomputable abbrev yb:List Str:=["_law_cells","_law_at"]
noncomputable abbrev cG:Stmt:=top 20
noncomputable abbrev yc:List Str:=["_law_script","_law_k","_law_hand_here","_law_some","_law_tree_here","_law_walk","_law_turn","_law_ends","_law_branch","_law_leaves","_law_leaf","_law_four_here","_law_ahead"]
section
variable {P:Program}{w:World}{K:PySem.W.Frag}{mg:Str→Option Value}{base:Heap}
theorem qw:FnScope xS ["one","other"] (aD fF):=⟨rfl,rfl,rfl,by decide +kernel,rfl,by decide +kernel,by decide +kernel⟩
set_option maxHeartbeats 4000000 in
theorem yd {f:Addr}{fd:FuncData} (F:Fun K "lesser_first" "lesser_first" fF f fd) (T:Txt mg):
  FnOk P w K mg base CX0 1 f fd ["one","other"] (spV 2 G.gu):=by
 have nd:=qw.nd
 refine fnV F qw rfl (by decide) (fun cdv A outer s H E hr=>?_)
 exact (aU (bN (bz (ag (ab (bM (oZ rfl (am hr)) (by rfl) T.b_min lc (ag (af (pv 0)) (ag (af (pv 1)) ah)))) (ag (ab (bM (oY rfl (am hr)) (by rfl) T.b_max qu (ag (af (pv 0)) (ag (af (pv 1)) ah)))) ah)))))
theorem qx:FnScope xT ["field","cell"] (aD fG):=⟨rfl,rfl,rfl,by decide +kernel,rfl,by decide +kernel,by decide +kernel⟩
set_option maxHeartbeats 4000000 in
theorem ye {f:Addr}{fd:FuncData} (F:Fun K "block_of" "block_of" fG f fd) (T:Txt mg):
  FnOk P w K mg base CX0 1 f fd ["field","cell"] (spV 2 G.gv):=by
 have nd:=qx.nd
 refine fnV F qx rfl (by decide) (fun cdv A outer s H E hr=>?_)
 exact (aU (bN (bz (ag (ab (az eh (ab (aF (aN (am hr)) (af (pv 1)) (ab ai) (fun _ _=>rfl))) (ab (az dO (ab (az eh (ab (aF (aN (am hr)) (af (pv 1)) (ab ai) (fun _ _=>rfl))) (ab (aF (aN (am hr)) (ab (aF (aN (am hr)) (af (pv 0)) (ab ai) (fun _ _=>rfl))) (ab ai) (fun _ _=>rfl))))) (ab (kc rfl T.c_SIDE.choose_spec)))))) (ag (ab (az eh (ab (aF (aN (am hr)) (af (pv 1)) (ab ai) (fun _ _=>rfl))) (ab (az dO (ab (az eh (ab (aF (aN (am hr)) (af (pv 1)) (ab ai) (fun _ _=>rfl))) (ab (aF (aN (am hr)) (ab (aF (aN (am hr)) (af (pv 0)) (ab ai) (fun _ _=>rfl))) (ab ai) (fun _ _=>rfl))))) (ab (kc rfl T.c_SIDE.choose_spec)))))) ah)))))
theorem qy:FnScope xU ["cell","way","many"] (aD fH):=⟨rfl,rfl,rfl,by decide +kernel,rfl,by decide +kernel,by decide +kernel⟩
set_option maxHeartbeats 4000000 in
theorem yf {f:Addr}{fd:FuncData} (F:Fun K "moved" "moved" fH f fd) (T:Txt mg)
  {ks:KS} (KT:KTab K P w ks.kt ks.kd) (KW:mg "WAYS" = some (.ref ks.wa)):
  FnOk P w K mg base CX0 1 f fd ["cell","way","many"] (spV 3 (G.dB ks)):=by
 have nd:=qy.nd
 refine fnV F qy rfl (by decide) (fun cdv A outer s H E hr=>?_)
 exact (aU (bN (bz (ag (ab (az bW (ab (aF (cZ (am hr) KT) (af (pv 0)) (ab ai) (fun _ _=>rfl))) (ab (az cW (ab (aF (cZ (am hr) KT) (af (pv 1)) (ab ai) (fun _ _=>rfl))) (af (pv 2)))))) (ag (ab (az bW (ab (aF (cZ (am hr) KT) (af (pv 0)) (ab ai) (fun _ _=>rfl))) (ab (az cW (ab (aF (cZ (am hr) KT) (af (pv 1)) (ab ai) (fun _ _=>rfl))) (af (pv 2)))))) ah)))))
theorem qz:FnScope xV ["field","tree","cell"] (aD fI):=⟨rfl,rfl,rfl,by decide +kernel,rfl,by decide +kernel,by decide +kernel⟩
set_option maxHeartbeats 4000000 in
theorem yg {f:Addr}{fd:FuncData} (F:Fun K "next_round" "next_round" fI f fd) (T:Txt mg)
  {ks:KS} (KT:KTab K P w ks.kt ks.kd) (KW:mg "WAYS" = some (.ref ks.wa))
  {f_block_of:Addr}{fd_block_of:FuncData} (U_block_of:Fun K "block_of" "block_of" fG f_block_of fd_block_of) (G_block_of:FnOk P w K mg base CX0 1 f_block_of fd_block_of ["field","cell"] (spV 2 G.gv)) (b_block_of:br K fd_block_of ["field","cell"] []) (m_block_of:mg "block_of" = some (.ref f_block_of))
  {f_lesser_first:Addr}{fd_lesser_first:FuncData} (U_lesser_first:Fun K "lesser_first" "lesser_first" fF f_lesser_first fd_lesser_first) (G_lesser_first:FnOk P w K mg base CX0 1 f_lesser_first fd_lesser_first ["one","other"] (spV 2 G.gu)) (b_lesser_first:br K fd_lesser_first ["one","other"] []) (m_lesser_first:mg "lesser_first" = some (.ref f_lesser_first))
  {f_moved:Addr}{fd_moved:FuncData} (U_moved:Fun K "moved" "moved" fH f_moved fd_moved) (G_moved:FnOk P w K mg base CX0 1 f_moved fd_moved ["cell","way","many"] (spV 3 (G.dB ks))) (b_moved:br K fd_moved ["cell","way","many"] []) (m_moved:mg "moved" = some (.ref f_moved)):
  FnOk P w K mg base CX0 2 f fd ["field","tree","cell"] (spV 3 (G.fC ks)):=by
 have nd:=qz.nd
 refine fnV F qz rfl (by decide) (fun cdv A outer s H E hr=>?_)
 exact (aE (bn (i:=3) nd rfl (by first | exact Or.inl rfl | exact Or.inr rfl) (aZ G_block_of (hr.mono (by omega)) rfl m_block_of U_block_of.kp b_block_of (ag (af (pv 0)) (ag (af (pv 2)) ah))) (by decide)) (aE (bn (i:=4) nd rfl (by first | exact Or.inl rfl | exact Or.inr rfl) (aF (cZ (am hr) KT) (ab (wE rfl KW)) (ab (bz (ag (ab (az eh (ab (aF (cZ (am hr) KT) (af (pv 2)) (ab ai) (fun _ _=>rfl))) (ab (aF (cZ (am hr) KT) (af (pv 3)) (ab ai) (fun _ _=>rfl))))) (ag (ab (az eh (ab (aF (cZ (am hr) KT) (af (pv 2)) (ab ai) (fun _ _=>rfl))) (ab (aF (cZ (am hr) KT) (af (pv 3)) (ab ai) (fun _ _=>rfl))))) ah)))) (fun _ _=>rfl)) (by decide)) (aE (fh (bT (kq (am hr)) (ab (aZ G_lesser_first (hr.mono (by omega)) rfl m_lesser_first U_lesser_first.kp b_lesser_first (ag (af (pv 3)) (ag (ab (aZ G_moved (hr.mono (by omega)) rfl m_moved U_moved.kp b_moved (ag (af (pv 3)) (ag (ab (aF (cZ (am hr) KT) (af (pv 4)) (ab ai) (fun _ _=>rfl))) (ag (ab (kc rfl T.c_SIDE.choose_spec)) ah))))) ah)))) (af (pv 1)) rfl) (aU (bN (aZ G_moved (hr.mono (by omega)) rfl m_moved U_moved.kp b_moved (ag (af (pv 2)) (ag (ab (aF (cZ (am hr) KT) (af (pv 4)) (ab ai) (fun _ _=>rfl))) (ag (ab ai) ah)))))) fg) (aU (bN (aZ G_moved (hr.mono (by omega)) rfl m_moved U_moved.kp b_moved (ag (af (pv 2)) (ag (ab (aF (cZ (am hr) KT) (af (pv 4)) (ab ai) (fun _ _=>rfl))) (ag (ab ai) ah)))))))))
theorem qA:FnScope xW ["field","tree"] (aD fJ):=⟨rfl,rfl,rfl,by decide +kernel,rfl,by decide +kernel,by decide +kernel⟩
set_option maxHeartbeats 4000000 in
theorem yh {f:Addr}{fd:FuncData} (F:Fun K "ring" "ring" fJ f fd) (T:Txt mg)
  {ks:KS} (KT:KTab K P w ks.kt ks.kd) (KW:mg "WAYS" = some (.ref ks.wa))
  {f_next_round:Addr}{fd_next_round:FuncData} (U_next_round:Fun K "next_round" "next_round" fI f_next_round fd_next_round) (G_next_round:FnOk P w K mg base CX0 2 f_next_round fd_next_round ["field","tree","cell"] (spV 3 (G.fC ks))) (b_next_round:br K fd_next_round ["field","tree","cell"] []) (m_next_round:mg "next_round" = some (.ref f_next_round)):
  FnOk P w K mg base CX0 3 f fd ["field","tree"] (spV 2 (G.eH ks)):=by
 have nd:=qA.nd
 refine fnV F qA rfl (by decide) (fun cdv A outer s H E hr=>?_)
 exact (aE (bn (i:=2) nd rfl (by first | exact Or.inl rfl | exact Or.inr rfl) (cS (ag (ab (aF (aN (am hr)) (af (pv 0)) (ab ai) (fun _ _=>rfl))) ah)) (by decide)) (aE (nt 1000000 PassesOwn.never (bT j6 (ab (bM dv (by rfl) T.b_len dC (ag (af (pv 2)) ah))) (ab (bM dv (by rfl) T.b_len dC (ag (af (pv 0)) ah))) (cH _)) (aU (f6 (fk dP PySem.F.plainAttrs_list PySem.F.slot_list_append PySem.F.type_list_append ke (pv 2) (ag (ab (aZ G_next_round (hr.mono (by omega)) rfl m_next_round U_next_round.kp b_next_round (ag (af (pv 0)) (ag (af (pv 1)) (ag (ab (aF (aN (am hr)) (af (pv 2)) (ab (iV ai)) (fun _ _=>rfl))) ah))))) ah))))) (aU (bN (dm iW rfl T.b_tuple jg (ag (af (pv 2)) ah))))))
theorem qB:FnScope xX ["_law_script","_law_k"] (aD fK):=⟨rfl,rfl,rfl,by decide +kernel,rfl,by decide +kernel,by decide +kernel⟩
set_option maxHeartbeats 4000000 in
theorem yi {f:Addr}{fd:FuncData} (F:Fun K "_law_cell_at" "_law_cell_at" fK f fd) (T:Txt mg):
  FnOk P w K mg base CX0 1 f fd ["_law_script","_law_k"] (spV 2 G.gw):=by
 have nd:=qB.nd
 refine fnV F qB rfl (by decide) (fun cdv A outer s H E hr=>?_)
 exact (aE (fh (bT j6 (af (pv 1)) (ab (bM dv (by rfl) T.b_len dC (ag (af (pv 0)) ah))) (cH _)) (aU (bN (aF (aN (am hr)) (af (pv 0)) (af (pv 1)) (fun _ _=>rfl)))) fg) (aU (bN ai)))
theorem qC:FnScope xY ["_law_script","_law_k"] (aD fL):=⟨rfl,rfl,rfl,by decide +kernel,rfl,by decide +kernel,by decide +kernel⟩
set_option maxHeartbeats 4000000 in
theorem yj {f:Addr}{fd:FuncData} (F:Fun K "_law_hand" "_law_hand" fL f fd) (T:Txt mg)
  {f_l_cell_at:Addr}{fd_l_cell_at:FuncData} (U_l_cell_at:Fun K "_law_cell_at" "_law_cell_at" fK f_l_cell_at fd_l_cell_at) (G_l_cell_at:FnOk P w K mg base CX0 1 f_l_cell_at fd_l_cell_at ["_law_script","_law_k"] (spV 2 G.gw)) (b_l_cell_at:br K fd_l_cell_at ["_law_script","_law_k"] []) (m_l_cell_at:mg "_law_cell_at" = some (.ref f_l_cell_at)):
  FnOk P w K mg base CX0 2 f fd ["_law_script","_law_k"] (spV 2 G.gz):=by
 have nd:=qC.nd
 refine fnV F qC rfl (by decide) (fun cdv A outer s H E hr=>?_)
 exact (aE (bn (i:=2) nd rfl (by first | exact Or.inl rfl | exact Or.inr rfl) (aZ G_l_cell_at (hr.mono (by omega)) rfl m_l_cell_at U_l_cell_at.kp b_l_cell_at (ag (af (pv 0)) (ag (af (pv 1)) ah))) (by decide)) (aE (bn (i:=3) nd rfl (by first | exact Or.inl rfl | exact Or.inr rfl) (az cW (ab (az cW (ab (az iS (ab ai) (ab ai))) (ab (az iS (ab ai) (ab ai))))) (ab (az iS (ab ai) (ab ai)))) (by decide)) (aE (bn (i:=4) nd rfl (by first | exact Or.inl rfl | exact Or.inr rfl) (az dO (ab (az cW (ab (az bW (ab (az bW (ab (az dO (af (pv 2)) (ab ai))) (ab (az cW (ab (az cW (ab ai) (af (pv 1)))) (af (pv 1)))))) (ab ai))) (ab ai))) (ab ai)) (by decide)) (aU (bN (cS (ag (ab (az cW (ab (az dO (af (pv 2)) (af (pv 3)))) (ab (dm wB rfl T.b_int xR (ag (ab (nh wt (af (pv 2)) (ab (az iS (ab ai) (ab ai))) (cH _))) ah))))) (ag (af (pv 4)) (ag (ab ai) ah)))))))))
theorem qD:FnScope xZ ["_law_hand_here","_law_many"] (aD dU):=⟨rfl,rfl,rfl,by decide +kernel,rfl,by decide +kernel,by decide +kernel⟩
set_option maxHeartbeats 4000000 in
theorem yk {f:Addr}{fd:FuncData} (F:Fun K "_law_pick" "_law_pick" dU f fd) (T:Txt mg):
  FnOk P w K mg base CX0 1 f fd ["_law_hand_here","_law_many"] (spV 2 G.bi):=by
 have nd:=qD.nd
 refine fnV F qD rfl (by decide) (fun cdv A outer s H E hr=>?_)
 exact (aE (fh (bT wq (ab (aF (aN (am hr)) (af (pv 0)) (ab ai) (fun _ _=>rfl))) (ab ai) (cH _)) (aE (bn (i:=2) nd rfl (by first | exact Or.inl rfl | exact Or.inr rfl) (az dO (ab (aF (aN (am hr)) (af (pv 0)) (ab ai) (fun _ _=>rfl))) (af (pv 1))) (by decide)) (aE (dL (az nO (ab (aF (aN (am hr)) (af (pv 0)) (ab ai) (fun _ _=>rfl))) (af (pv 1))) (kh (pv 0) ai (km (am hr)))) (aU (bN (dJ (pv 2)))))) fg) (aE (dL (az bW (ab (aF (aN (am hr)) (af (pv 0)) (ab ai) (fun _ _=>rfl))) (ab ai)) (kh (pv 0) ai (km (am hr)))) (aE (dL (az dO (ab (az bW (ab (az bW (ab (az cW (ab (aF (aN (am hr)) (af (pv 0)) (ab ai) (fun _ _=>rfl))) (ab ai))) (ab ai))) (ab (az cW (ab ai) (ab (aF (aN (am hr)) (af (pv 0)) (ab ai) (fun _ _=>rfl))))))) (ab ai)) (kh (pv 0) ai (km (am hr)))) (aU (bN (az dO (ab (az nO (ab (az dO (ab (az cW (ab (aF (aN (am hr)) (af (pv 0)) (ab ai) (fun _ _=>rfl))) (ab (aF (aN (am hr)) (af (pv 0)) (ab ai) (fun _ _=>rfl))))) (ab ai))) (ab ai))) (af (pv 1))))))))
theorem qE:FnScope x5 ["_law_hand_here"] (aD fM):=⟨rfl,rfl,rfl,by decide +kernel,rfl,by decide +kernel,by decide +kernel⟩
set_option maxHeartbeats 4000000 in
theorem yl {f:Addr}{fd:FuncData} (F:Fun K "_law_some_blocks" "_law_some_blocks" fM f fd) (T:Txt mg)
  {f_l_pick:Addr}{fd_l_pick:FuncData} (U_l_pick:Fun K "_law_pick" "_law_pick" dU f_l_pick fd_l_pick) (G_l_pick:FnOk P w K mg base CX0 1 f_l_pick fd_l_pick ["_law_hand_here","_law_many"] (spV 2 G.bi)) (b_l_pick:br K fd_l_pick ["_law_hand_here","_law_many"] []) (m_l_pick:mg "_law_pick" = some (.ref f_l_pick)):
  FnOk P w K mg base CX0 2 f fd ["_law_hand_here"] (spV 1 G.fE):=by
 have nd:=qE.nd
 refine fnV F qE rfl (by decide) (fun cdv A outer s H E hr=>?_)
 exact (aE (bn (i:=1) nd rfl (by first | exact Or.inl rfl | exact Or.inr rfl) (az bW (ab ai) (ab (aZ G_l_pick (hr.mono (by omega)) rfl m_l_pick U_l_pick.kp b_l_pick (ag (af (pv 0)) (ag (ab (aF (aN (am hr)) (ab (cS (ag (ab ai) (ag (ab ai) (ag (ab ai) (ag (ab ai) ah)))))) (ab (aZ G_l_pick (hr.mono (by omega)) rfl m_l_pick U_l_pick.kp b_l_pick (ag (af (pv 0)) (ag (ab ai) ah)))) (fun _ _=>rfl))) ah))))) (by decide)) (aE (bn (i:=2) nd rfl (by first | exact Or.inl rfl | exact Or.inr rfl) (cS (ag (ab (bz (ag (ab (aZ G_l_pick (hr.mono (by omega)) rfl m_l_pick U_l_pick.kp b_l_pick (ag (af (pv 0)) (ag (ab ai) ah)))) (ag (ab (aZ G_l_pick (hr.mono (by omega)) rfl m_l_pick U_l_pick.kp b_l_pick (ag (af (pv 0)) (ag (ab ai) ah)))) ah)))) ah)) (by decide)) (aE (gY (fx:=[0]) PassesOwn.never rfl (iQ rfl T.b_range (ag (ab (az cW (ab ai) (af (pv 1)))) ah)) (ba (i:=3) nd rfl (by first | exact Or.inl rfl | exact Or.inr rfl) (by decide)) (aE (dL (aF (aN (am hr)) (af (pv 2)) (ab (aZ G_l_pick (hr.mono (by omega)) rfl m_l_pick U_l_pick.kp b_l_pick (ag (af (pv 0)) (ag (ab (bM dv (by rfl) T.b_len dC (ag (af (pv 2)) ah))) ah)))) (fun _ _=>rfl)) (fj rfl (cC (ba (i:=4) nd rfl (by first | exact Or.inl rfl | exact Or.inr rfl) (by decide)) (cC (ba (i:=5) nd rfl (by first | exact Or.inl rfl | exact Or.inr rfl) (by decide)) fi)))) (aE (fh (bT (j8 (am hr)) (ab (aZ G_l_pick (hr.mono (by omega)) rfl m_l_pick U_l_pick.kp b_l_pick (ag (af (pv 0)) (ag (ab ai) ah)))) (ab ai) (cH _)) (aU (dL (aF (aN (am hr)) (af (pv 2)) (ab (iV ai)) (fun _ _=>rfl)) (fj rfl (cC (ba (i:=4) nd rfl (by first | exact Or.inl rfl | exact Or.inr rfl) (by decide)) (cC (ba (i:=5) nd rfl (by first | exact Or.inl rfl | exact Or.inr rfl) (by decide)) fi))))) fg) (aE (dL (aF (aN (am hr)) (ab (cS (ag (ab (bz (ag (ab ai) (ag (ab ai) ah)))) (ag (ab (bz (ag (ab ai) (ag (ab ai) ah)))) (ag (ab (bz (ag (ab ai) (ag (ab (iV ai)) ah)))) (ag (ab (bz (ag (ab (iV ai)) (ag (ab ai) ah)))) ah)))))) (ab (aZ G_l_pick (hr.mono (by omega)) rfl m_l_pick U_l_pick.kp b_l_pick (ag (af (pv 0)) (ag (ab ai) ah)))) (fun _ _=>rfl)) (fj rfl (cC (ba (i:=6) nd rfl (by first | exact Or.inl rfl | exact Or.inr rfl) (by decide)) (cC (ba (i:=7) nd rfl (by first | exact Or.inl rfl | exact Or.inr rfl) (by decide)) fi)))) (aE (bn (i:=8) nd rfl (by first | exact Or.inl rfl | exact Or.inr rfl) (bz (ag (ab (az bW (af (pv 4)) (af (pv 6)))) (ag (ab (az bW (af (pv 5)) (af (pv 7)))) ah))) (by decide)) (aU (fh (VW.vt (jT (bT (iX (am hr)) (af (pv 8)) (af (pv 2)) rfl) (jT (bT j6 (ab (bM dv (by rfl) T.b_len dC (ag (af (pv 2)) ah))) (af (pv 1)) (cH _)) (jT (oq iT iT (ab ai) (ab (aF (aN (am hr)) (af (pv 8)) (ab ai) (fun _ _=>rfl))) (ab ai)) (vW (oq iT iT (ab ai) (ab (aF (aN (am hr)) (af (pv 8)) (ab ai) (fun _ _=>rfl))) (ab ai))))))) (aU (f6 (fk dP PySem.F.plainAttrs_list PySem.F.slot_list_append PySem.F.type_list_append ke (pv 2) (ag (af (pv 8)) ah)))) fg)))))) (by decide) jY) (aU (bN (bM (i5 rfl (am hr)) (by rfl) T.b_sorted jf (ag (af (pv 2)) ah)))))))
theorem qF:FnScope x6 ["_law_block"] (aD eI):=⟨rfl,rfl,rfl,by decide +kernel,rfl,by decide +kernel,by decide +kernel⟩
set_option maxHeartbeats 4000000 in
theorem ym {f:Addr}{fd:FuncData} (F:Fun K "_law_four" "_law_four" eI f fd) (T:Txt mg):
  FnOk P w K mg base CX0 1 f fd ["_law_block"] (spV 1 G.eE):=by
 have nd:=qF.nd
 refine fnV F qF rfl (by decide) (fun cdv A outer s H E hr=>?_)
 exact (aE (dL (dJ (pv 0)) (fj rfl (cC (ba (i:=1) nd rfl (by first | exact Or.inl rfl | exact Or.inr rfl) (by decide)) (cC (ba (i:=2) nd rfl (by first | exact Or.inl rfl | exact Or.inr rfl) (by decide)) fi)))) (aU (bN (cS (ag (ab (bz (ag (af (pv 1)) (ag (af (pv 2)) ah)))) (ag (ab (bz (ag (af (pv 1)) (ag (ab (az bW (af (pv 2)) (ab ai))) ah)))) (ag (ab (bz (ag (ab (az bW (af (pv 1)) (ab ai))) (ag (ab (az bW (af (pv 2)) (ab ai))) ah)))) (ag (ab (bz (ag (ab (az bW (af (pv 1)) (ab ai))) (ag (af (pv 2)) ah)))) ah))))))))
theorem qG:FnScope x8 ["_law_some"] (aD fN):=⟨rfl,rfl,rfl,by decide +kernel,rfl,by decide +kernel,by decide +kernel⟩
set_option maxHeartbeats 4000000 in
theorem yn {f:Addr}{fd:FuncData} (F:Fun K "_law_field" "_law_field" fN f fd) (T:Txt mg)
  {f_l_four:Addr}{fd_l_four:FuncData} (U_l_four:Fun K "_law_four" "_law_four" eI f_l_four fd_l_four) (G_l_four:FnOk P w K mg base CX0 1 f_l_four fd_l_four ["_law_block"] (spV 1 G.eE)) (b_l_four:br K fd_l_four ["_law_block"] []) (m_l_four:mg "_law_four" = some (.ref f_l_four)):
  FnOk P w K mg base CX0 2 f fd ["_law_some"] (spV 1 G.eG):=by
 have nd:=qG.nd
 refine fnV F qG rfl (by decide) (fun cdv A outer s H E hr=>?_)
 exact (aE (bn (i:=1) nd rfl (by first | exact Or.inl rfl | exact Or.inr rfl) (cS ah) (by decide)) (aE (gY (fx:=[0]) PassesOwn.never rfl (dN (af (pv 0))) (ba (i:=2) nd rfl (by first | exact Or.inl rfl | exact Or.inr rfl) (by decide)) (aU (f6 (fk dP PySem.F.plainAttrs_list PySem.F.slot_list_extend PySem.F.type_list_extend kf (pv 1) (ag (ab (aZ G_l_four (hr.mono (by omega)) rfl m_l_four U_l_four.kp b_l_four (ag (af (pv 2)) ah))) ah)))) (by decide) (ny (by decide))) (aU (bN (dm iW rfl T.b_tuple jg (ag (ab (bM (i5 rfl (am hr)) (by rfl) T.b_sorted jf (ag (af (pv 1)) ah))) ah))))))
theorem qH:FnScope x9 ["_law_some"] (aD eJ):=⟨rfl,rfl,rfl,by decide +kernel,rfl,by decide +kernel,by decide +kernel⟩
set_option maxHeartbeats 4000000 in
theorem yo {f:Addr}{fd:FuncData} (F:Fun K "_law_pairs" "_law_pairs" eJ f fd) (T:Txt mg):
  FnOk P w K mg base CX0 1 f fd ["_law_some"] (spV 1 G.gC):=by
 have nd:=qH.nd
 refine fnV F qH rfl (by decide) (fun cdv A outer s H E hr=>?_)
 exact (aE (bn (i:=1) nd rfl (by first | exact Or.inl rfl | exact Or.inr rfl) (cS ah) (by decide)) (aE (xo (fx:=[0]) PassesOwn.never rfl (af (pv 0)) (fj rfl (cC (ba (i:=2) nd rfl (by first | exact Or.inl rfl | exact Or.inr rfl) (by decide)) (cC (ba (i:=3) nd rfl (by first | exact Or.inl rfl | exact Or.inr rfl) (by decide)) fi))) (aU (f6 (fk dP PySem.F.plainAttrs_list PySem.F.slot_list_extend PySem.F.type_list_extend kf (pv 1) (ag (ab (g7 (own:=["_law_one"]) (caps:=[0,2,3]) rfl (d4 (aD eJ) ["_law_some","_law_pairs_here","_law_row","_law_column"] (by decide +kernel)) (by decide) (dN (ab (cS (ag (ab (bz (ag (af (pv 2)) (ag (ab (az bW (af (pv 3)) (ab ai))) ah)))) (ag (ab (bz (ag (ab (az bW (af (pv 2)) (ab ai))) (ag (af (pv 3)) ah)))) ah))))) (fun Y=>(ba (i:=0) (show (["_law_one","_law_some","_law_row","_law_column"]:List Str).Nodup by decide +kernel) rfl (by first | exact Or.inl rfl | exact Or.inr rfl) (by decide))) (fun Y=>(f8 (bT (kq (am hr)) (af (pv 0)) (af (pv 1)) rfl))) (fun Y=>(bz (ag (ab (bz (ag (af (pv 2)) (ag (af (pv 3)) ah)))) (ag (af (pv 0)) ah)))))) ah)))) (by decide) (by decide)) (aU (bN (bM (i5 rfl (am hr)) (by rfl) T.b_sorted jf (ag (af (pv 1)) ah))))))
theorem qI:FnScope ya ["_law_hand_here","_law_some"] (aD dW):=⟨rfl,rfl,rfl,by decide +kernel,rfl,by decide +kernel,by decide +kernel⟩
set_option maxHeartbeats 4000000 in
theorem yp {f:Addr}{fd:FuncData} (F:Fun K "_law_tree" "_law_tree" dW f fd) (T:Txt mg)
  {f_l_pairs:Addr}{fd_l_pairs:FuncData} (U_l_pairs:Fun K "_law_pairs" "_law_pairs" eJ f_l_pairs fd_l_pairs) (G_l_pairs:FnOk P w K mg base CX0 1 f_l_pairs fd_l_pairs ["_law_some"] (spV 1 G.gC)) (b_l_pairs:br K fd_l_pairs ["_law_some"] []) (m_l_pairs:mg "_law_pairs" = some (.ref f_l_pairs))
  {f_l_pick:Addr}{fd_l_pick:FuncData} (U_l_pick:Fun K "_law_pick" "_law_pick" dU f_l_pick fd_l_pick) (G_l_pick:FnOk P w K mg base CX0 1 f_l_pick fd_l_pick ["_law_hand_here","_law_many"] (spV 2 G.bi)) (b_l_pick:br K fd_l_pick ["_law_hand_here","_law_many"] []) (m_l_pick:mg "_law_pick" = some (.ref f_l_pick)):
  FnOk P w K mg base CX0 2 f fd ["_law_hand_here","_law_some"] (spV 2 G.gD):=by
 have nd:=qI.nd
 refine fnV F qI rfl (by decide) (fun cdv A outer s H E hr=>?_)
 exact (aE (we (i:=2) (j:=3) rfl nd rfl rfl (by decide) rfl rfl (ag (ab (aZ G_l_pairs (hr.mono (by omega)) rfl m_l_pairs U_l_pairs.kp b_l_pairs (ag (af (pv 1)) ah))) (ag (ab (cS ah)) ah)) (by decide) (by decide) rfl) (aE (bn (i:=4) nd rfl (by first | exact Or.inl rfl | exact Or.inr rfl) (dm (oU rfl (qv hr)) rfl T.b_dict qt (ag (ab (g7 (own:=["_law_block"]) (caps:=[]) rfl (d4 (aD dW) ["_law_hand_here","_law_some","_law_rest","_law_taken","_law_piece","_law_one","_law_other","_law_old","_law_new"] (by decide +kernel)) (by decide) (dN (af (pv 1))) (fun Y=>(ba (i:=0) (show (["_law_block"]:List Str).Nodup by decide +kernel) rfl (by first | exact Or.inl rfl | exact Or.inr rfl) (by decide))) (fun Y=>nG) (fun Y=>(bz (ag (af (pv 0)) (ag (af (pv 0)) ah)))))) ah)) (by decide)) (aE (nt 1000000 PassesOwn.never (bT (g9 (am hr)) (af (pv 2)) (ab (cS ah)) (cH _)) (aE (dL (fk dP PySem.F.plainAttrs_list PySem.F.slot_list_pop PySem.F.type_list_pop wH (pv 2) (ag (ab (aZ G_l_pick (hr.mono (by omega)) rfl m_l_pick U_l_pick.kp b_l_pick (ag (af (pv 0)) (ag (ab (bM dv (by rfl) T.b_len dC (ag (af (pv 2)) ah))) ah)))) ah)) (fj rfl (cC (ba (i:=5) nd rfl (by first | exact Or.inl rfl | exact Or.inr rfl) (by decide)) (cC (ba (i:=6) nd rfl (by first | exact Or.inl rfl | exact Or.inr rfl) (by decide)) fi)))) (aU (fh (bT (g9 (am hr)) (ab (aF (aN (am hr)) (af (pv 4)) (af (pv 5)) (fun _ _=>rfl))) (ab (aF (aN (am hr)) (af (pv 4)) (af (pv 6)) (fun _ _=>rfl))) (cH _)) (aE (f6 (fk dP PySem.F.plainAttrs_list PySem.F.slot_list_append PySem.F.type_list_append ke (pv 3) (ag (ab (bz (ag (af (pv 5)) (ag (af (pv 6)) ah)))) ah))) (aE (dL (bz (ag (ab (aF (aN (am hr)) (af (pv 4)) (af (pv 5)) (fun _ _=>rfl))) (ag (ab (aF (aN (am hr)) (af (pv 4)) (af (pv 6)) (fun _ _=>rfl))) ah))) (fj rfl (cC (ba (i:=7) nd rfl (by first | exact Or.inl rfl | exact Or.inr rfl) (by decide)) (cC (ba (i:=8) nd rfl (by first | exact Or.inl rfl | exact Or.inr rfl) (by decide)) fi)))) (aU (bn (i:=4) nd rfl (by first | exact Or.inl rfl | exact Or.inr rfl) (dm (oU rfl (qv hr)) rfl T.b_dict qt (ag (ab (g7 (own:=["_law_block"]) (caps:=[4,7,8]) rfl (d4 (aD dW) ["_law_hand_here","_law_some","_law_rest","_law_taken","_law_piece","_law_one","_law_other","_law_old","_law_new"] (by decide +kernel)) (by decide) (dN (af (pv 1))) (fun Y=>(ba (i:=0) (show (["_law_block","_law_piece","_law_old","_law_new"]:List Str).Nodup by decide +kernel) rfl (by first | exact Or.inl rfl | exact Or.inr rfl) (by decide))) (fun Y=>nG) (fun Y=>(bz (ag (af (pv 0)) (ag (ab (vZ (bT (j8 (am hr)) (ab (aF (aN (am hr)) (af (pv 1)) (af (pv 0)) (fun _ _=>rfl))) (af (pv 2)) (cH _)) (dJ (pv 3)) (aF (aN (am hr)) (af (pv 1)) (af (pv 0)) (fun _ _=>rfl)))) ah)))))) ah)) (by decide))))) fg)))) (aU (bN (dm iW rfl T.b_tuple jg (ag (ab (bM (i5 rfl (am hr)) (by rfl) T.b_sorted jf (ag (af (pv 3)) ah))) ah)))))))
theorem qJ:FnScope yb ["_law_cells"] (aD fO):=⟨rfl,rfl,rfl,by decide +kernel,rfl,by decide +kernel,by decide +kernel⟩
set_option maxHeartbeats 4000000 in
theorem yq {f:Addr}{fd:FuncData} (F:Fun K "_law_begun" "_law_begun" fO f fd) (T:Txt mg):
  FnOk P w K mg base CX0 1 f fd ["_law_cells"] (spV 1 G.gE):=by
 have nd:=qJ.nd
 refine fnV F qJ rfl (by decide) (fun cdv A outer s H E hr=>?_)
 exact (aE (bn (i:=1) nd rfl (by first | exact Or.inl rfl | exact Or.inr rfl) (xl (am hr) (af (pv 0)) (ab (bM (xv rfl (am hr)) (by rfl) T.b_min lc (ag (af (pv 0)) ah)))) (by decide)) (aU (bN (az bW (ab (nT (af (pv 0)) (nR (dJ (pv 1))) nQ)) (ab (nT (af (pv 0)) nQ (nR (dJ (pv 1)))))))))
theorem qK:FnScope yc ["_law_script"] (aD cG):=⟨rfl,rfl,rfl,by decide +kernel,rfl,by decide +kernel,by decide +kernel⟩
set_option maxHeartbeats 4000000 in
theorem yr {f:Addr}{fd:FuncData} (F:Fun K "law" "law" cG f fd) (T:Txt mg)
  {ks:KS} (KT:KTab K P w ks.kt ks.kd) (KW:mg "WAYS" = some (.ref ks.wa))
  {f_l_hand:Addr}{fd_l_hand:FuncData} (U_l_hand:Fun K "_law_hand" "_law_hand" fL f_l_hand fd_l_hand) (G_l_hand:FnOk P w K mg base CX0 2 f_l_hand fd_l_hand ["_law_script","_law_k"] (spV 2 G.gz)) (b_l_hand:br K fd_l_hand ["_law_script","_law_k"] []) (m_l_hand:mg "_law_hand" = some (.ref f_l_hand))
  {f_l_some_blocks:Addr}{fd_l_some_blocks:FuncData} (U_l_some_blocks:Fun K "_law_some_blocks" "_law_some_blocks" fM f_l_some_blocks fd_l_some_blocks) (G_l_some_blocks:FnOk P w K mg base CX0 2 f_l_some_blocks fd_l_some_blocks ["_law_hand_here"] (spV 1 G.fE)) (b_l_some_blocks:br K fd_l_some_blocks ["_law_hand_here"] []) (m_l_some_blocks:mg "_law_some_blocks" = some (.ref f_l_some_blocks))
  {f_l_tree:Addr}{fd_l_tree:FuncData} (U_l_tree:Fun K "_law_tree" "_law_tree" dW f_l_tree fd_l_tree) (G_l_tree:FnOk P w K mg base CX0 2 f_l_tree fd_l_tree ["_law_hand_here","_law_some"] (spV 2 G.gD)) (b_l_tree:br K fd_l_tree ["_law_hand_here","_law_some"] []) (m_l_tree:mg "_law_tree" = some (.ref f_l_tree))
  {f_ring:Addr}{fd_ring:FuncData} (U_ring:Fun K "ring" "ring" fJ f_ring fd_ring) (G_ring:FnOk P w K mg base CX0 3 f_ring fd_ring ["field","tree"] (spV 2 (G.eH ks))) (b_ring:br K fd_ring ["field","tree"] []) (m_ring:mg "ring" = some (.ref f_ring))
  {f_l_field:Addr}{fd_l_field:FuncData} (U_l_field:Fun K "_law_field" "_law_field" fN f_l_field fd_l_field) (G_l_field:FnOk P w K mg base CX0 2 f_l_field fd_l_field ["_law_some"] (spV 1 G.eG)) (b_l_field:br K fd_l_field ["_law_some"] []) (m_l_field:mg "_law_field" = some (.ref f_l_field))
  {f_l_pick:Addr}{fd_l_pick:FuncData} (U_l_pick:Fun K "_law_pick" "_law_pick" dU f_l_pick fd_l_pick) (G_l_pick:FnOk P w K mg base CX0 1 f_l_pick fd_l_pick ["_law_hand_here","_law_many"] (spV 2 G.bi)) (b_l_pick:br K fd_l_pick ["_law_hand_here","_law_many"] []) (m_l_pick:mg "_law_pick" = some (.ref f_l_pick))
  {f_l_four:Addr}{fd_l_four:FuncData} (U_l_four:Fun K "_law_four" "_law_four" eI f_l_four fd_l_four) (G_l_four:FnOk P w K mg base CX0 1 f_l_four fd_l_four ["_law_block"] (spV 1 G.eE)) (b_l_four:br K fd_l_four ["_law_block"] []) (m_l_four:mg "_law_four" = some (.ref f_l_four))
  {f_l_begun:Addr}{fd_l_begun:FuncData} (U_l_begun:Fun K "_law_begun" "_law_begun" fO f_l_begun fd_l_begun) (G_l_begun:FnOk P w K mg base CX0 1 f_l_begun fd_l_begun ["_law_cells"] (spV 1 G.gE)) (b_l_begun:br K fd_l_begun ["_law_cells"] []) (m_l_begun:mg "_law_begun" = some (.ref f_l_begun)):
  FnOk P w K mg base CX0 4 f fd ["_law_script"] (spV 1 (G.gF ks)):=by
 have nd:=qK.nd
 refine fnV F qK rfl (by decide) (fun cdv A outer s H E hr=>?_)
 exact (aE (gY (fx:=[0]) PassesOwn.never rfl (iQ rfl T.b_range (ag (ab (bM (oY rfl (am hr)) (by rfl) T.b_max qu (ag (ab ai) (ag (ab (bM (oZ rfl (am hr)) (by rfl) T.b_min lc (ag (ab ai) (ag (ab (bM dv (by rfl) T.b_len dC (ag (af (pv 0)) ah))) ah)))) ah)))) ah)) (ba (i:=1) nd rfl (by first | exact Or.inl rfl | exact Or.inr rfl) (by decide)) (aE (bn (i:=2) nd rfl (by first | exact Or.inl rfl | exact Or.inr rfl) (aZ G_l_hand (hr.mono (by omega)) rfl m_l_hand U_l_hand.kp b_l_hand (ag (af (pv 0)) (ag (af (pv 1)) ah))) (by decide)) (aE (bn (i:=3) nd rfl (by first | exact Or.inl rfl | exact Or.inr rfl) (aZ G_l_some_blocks (hr.mono (by omega)) rfl m_l_some_blocks U_l_some_blocks.kp b_l_some_blocks (ag (af (pv 2)) ah)) (by decide)) (aE (bn (i:=4) nd rfl (by first | exact Or.inl rfl | exact Or.inr rfl) (aZ G_l_tree (hr.mono (by omega)) rfl m_l_tree U_l_tree.kp b_l_tree (ag (af (pv 2)) (ag (af (pv 3)) ah))) (by decide)) (aE (bn (i:=5) nd rfl (by first | exact Or.inl rfl | exact Or.inr rfl) (dm ka rfl T.b_list k9 (ag (ab (aZ G_ring (hr.mono (by omega)) rfl m_ring U_ring.kp b_ring (ag (ab (aZ G_l_field (hr.mono (by omega)) rfl m_l_field U_l_field.kp b_l_field (ag (af (pv 3)) ah))) (ag (af (pv 4)) ah)))) ah)) (by decide)) (aU (gY (fx:=[0]) PassesOwn.never rfl (iQ rfl T.b_range (ag (ab (az eh (ab (bM dv (by rfl) T.b_len dC (ag (af (pv 3)) ah))) (ab ai))) ah)) (ba (i:=6) nd rfl (by first | exact Or.inl rfl | exact Or.inr rfl) (by decide)) (aE (bn (i:=7) nd rfl (by first | exact Or.inl rfl | exact Or.inr rfl) (cS ah) (by decide)) (aE (gY (fx:=[4,0]) PassesOwn.never rfl (dN (af (pv 4))) (ba (i:=8) nd rfl (by first | exact Or.inl rfl | exact Or.inr rfl) (by decide)) (aU (f6 (fk dP PySem.F.plainAttrs_list PySem.F.slot_list_extend PySem.F.type_list_extend kf (pv 7) (ag (ab (dm ka rfl T.b_list k9 (ag (af (pv 8)) ah))) ah)))) (by decide) (ny (by decide))) (aE (ko (i:=9) (own:=["_law_block"]) (caps:=[7]) nd rfl (by first | exact Or.inl rfl | exact Or.inr rfl) rfl (d4 (aD cG) ["_law_script","_law_k","_law_hand_here","_law_some","_law_tree_here","_law_walk","_law_turn","_law_ends","_law_branch","_law_leaves","_law_leaf","_law_four_here","_law_ahead"] (by decide +kernel)) (by decide) (dN (af (pv 3))) (fun Y=>(ba (i:=0) (show (["_law_block","_law_ends"]:List Str).Nodup by decide +kernel) rfl (by first | exact Or.inl rfl | exact Or.inr rfl) (by decide))) (fun Y=>(f8 (bT (j8 (am hr)) (ab (pq (am hr) (af (pv 1)) (af (pv 0)))) (ab ai) (cH _)))) (fun Y=>(dJ (pv 0))) (by decide)) (aE (bn (i:=10) nd rfl (by first | exact Or.inl rfl | exact Or.inr rfl) (aF (aN (am hr)) (af (pv 9)) (ab (aZ G_l_pick (hr.mono (by omega)) rfl m_l_pick U_l_pick.kp b_l_pick (ag (af (pv 2)) (ag (ab (bM dv (by rfl) T.b_len dC (ag (af (pv 9)) ah))) ah)))) (fun _ _=>rfl)) (by decide)) (aE (bn (i:=11) nd rfl (by first | exact Or.inl rfl | exact Or.inr rfl) (aZ G_l_four (hr.mono (by omega)) rfl m_l_four U_l_four.kp b_l_four (ag (af (pv 10)) ah)) (by decide)) (aE (ko (i:=12) (own:=["_law_at"]) (caps:=[5,11]) nd rfl (by first | exact Or.inl rfl | exact Or.inr rfl) rfl (d4 (aD cG) ["_law_script","_law_k","_law_hand_here","_law_some","_law_tree_here","_law_walk","_law_turn","_law_ends","_law_branch","_law_leaves","_law_leaf","_law_four_here","_law_ahead"] (by decide +kernel)) (by decide) (iQ rfl T.b_range (ag (ab (bM dv (by rfl) T.b_len dC (ag (af (pv 5)) ah))) ah)) (fun Y=>(ba (i:=0) (show (["_law_at","_law_walk","_law_four_here"]:List Str).Nodup by decide +kernel) rfl (by first | exact Or.inl rfl | exact Or.inr rfl) (by decide))) (fun Y=>(f8 (bT (kq (am hr)) (ab (aF (aN (am hr)) (af (pv 1)) (af (pv 0)) (fun _ _=>rfl))) (af (pv 2)) rfl))) (fun Y=>(nh (iX (am hr)) (ab (aF (aN (am hr)) (af (pv 1)) (ab (az eh (af (pv 0)) (ab ai))) (fun _ _=>rfl))) (af (pv 2)) rfl)) (by decide)) (aE (ko (i:=3) (own:=["_law_block"]) (caps:=[10]) nd rfl (by first | exact Or.inl rfl | exact Or.inr rfl) rfl (d4 (aD cG) ["_law_script","_law_k","_law_hand_here","_law_some","_law_tree_here","_law_walk","_law_turn","_law_ends","_law_branch","_law_leaves","_law_leaf","_law_four_here","_law_ahead"] (by decide +kernel)) (by decide) (dN (af (pv 3))) (fun Y=>(ba (i:=0) (show (["_law_block","_law_leaf"]:List Str).Nodup by decide +kernel) rfl (by first | exact Or.inl rfl | exact Or.inr rfl) (by decide))) (fun Y=>(f8 (bT (g9 (am hr)) (af (pv 0)) (af (pv 1)) (cH _)))) (fun Y=>(dJ (pv 0))) (by decide)) (aE (bn (i:=4) nd rfl (by first | exact Or.inl rfl | exact Or.inr rfl) (dm iW rfl T.b_tuple jg (ag (ab (g7 (own:=["_law_branch"]) (caps:=[10]) rfl (d4 (aD cG) ["_law_script","_law_k","_law_hand_here","_law_some","_law_tree_here","_law_walk","_law_turn","_law_ends","_law_branch","_law_leaves","_law_leaf","_law_four_here","_law_ahead"] (by decide +kernel)) (by decide) (dN (af (pv 4))) (fun Y=>(ba (i:=0) (show (["_law_branch","_law_leaf"]:List Str).Nodup by decide +kernel) rfl (by first | exact Or.inl rfl | exact Or.inr rfl) (by decide))) (fun Y=>(f8 (bT (iX (am hr)) (af (pv 1)) (af (pv 0)) rfl))) (fun Y=>(dJ (pv 0))))) ah)) (by decide)) (aE (bn (i:=5) nd rfl (by first | exact Or.inl rfl | exact Or.inr rfl) (aZ G_l_begun (hr.mono (by omega)) rfl m_l_begun U_l_begun.kp b_l_begun (ag (ab (g7 (own:=["_law_cell"]) (caps:=[11]) rfl (d4 (aD cG) ["_law_script","_law_k","_law_hand_here","_law_some","_law_tree_here","_law_walk","_law_turn","_law_ends","_law_branch","_law_leaves","_law_leaf","_law_four_here","_law_ahead"] (by decide +kernel)) (by decide) (dN (af (pv 5))) (fun Y=>(ba (i:=0) (show (["_law_cell","_law_four_here"]:List Str).Nodup by decide +kernel) rfl (by first | exact Or.inl rfl | exact Or.inr rfl) (by decide))) (fun Y=>(f8 (bT (iX (am hr)) (af (pv 0)) (af (pv 1)) rfl))) (fun Y=>(dJ (pv 0))))) ah)) (by decide)) (aU (fh (VW.vt (vY (bT (g9 (am hr)) (ab (pq (am hr) (af (pv 12)) (ab jS))) (ab ai) (cH _)) (vX (bT (g9 (am hr)) (ab (dm ka rfl T.b_list k9 (ag (ab (aZ G_ring (hr.mono (by omega)) rfl m_ring U_ring.kp b_ring (ag (ab (aZ G_l_field (hr.mono (by omega)) rfl m_l_field U_l_field.kp b_l_field (ag (af (pv 3)) ah))) (ag (af (pv 4)) ah)))) ah))) (af (pv 5)) (cH _))))) (aU (bN jS)) fg))))))))))) (by decide) jY)))))) (by decide) jY) (aU (bN jS)))
end
end K43
namespace G
open PySem L2
noncomputable abbrev iI (i:Int):Vl:=.im (.int i)
noncomputable def cM (p:Int×Int):Im:=.tup [.int p.1,.int p.2]
noncomputable abbrev cT (ps:List (Int×Int)):Vl:=.im (.tup (ps.map cM))
noncomputable abbrev cL (ps:List (Int×Int)):Vl:=.lst (ps.map cM)
noncomputable abbrev lf (d s t:Int):Vl:=.lst [.int d,.int s,.int t]
noncomputable def LOk (n:Nat) (h:Vl):Prop:=∃ d s t,h=lf d s t∧0≤d∧0≤s∧s<2 ^ 62∧0≤t∧t+n<2 ^ 40
theorem LOk.mono {n m:Nat}{h:Vl} (x:LOk n h) (e:m≤n):LOk m h:=by
 obtain⟨d,s,t,rfl,h1,h2,h3,h4,h5⟩:=x
 exact⟨d,s,t,rfl,h1,h2,h3,h4,by lia⟩
theorem LOk.lst {n:Nat}{h:Vl} (x:LOk n h):∃ q,h=.lst q:=by
 obtain⟨d,s,t,rfl,_⟩:=x
 exact⟨_,rfl⟩
noncomputable def kM (p:Int×Int):List Im:=[.int p.1,.int p.2]
theorem lg (p:Int×Int):cM p=.tup (kM p):=rfl
theorem lh {a b:Int×Int} (h:kM a=kM b):a=b:=by
 unfold kM at h
 simp at h
 exact Prod.ext h.1 h.2
theorem yt {a b:Int×Int} (h:cM a=cM b):a=b:=by
 rw[lg,lg] at h
 exact lh (by injection h)
theorem yu (p:Int×Int):Im.keys 7 (kM p)=true:=rfl
noncomputable def uC:Im→Int×Int
 | .tup [.int a,.int b]=>(a,b)
 | _=>(0,0)
theorem qL (p:Int×Int):uC (cM p)=p:=rfl
theorem fP (p:Int×Int):Im.pl 8 (cM p)=true:=rfl
theorem fQ:∀ ps:List (Int×Int),Im.pls 8 (ps.map cM)=true
 | []=>rfl
 | p::r=>by rw[List.map_cons,Im.pls,fP,fQ r];rfl
theorem dD (a b:Int×Int):ap (cM a) (cM b)=decide (a=b):=by
 show ((a.1 == b.1) && ((a.2 == b.2) && true))=_
 obtain⟨a1,a2⟩:=a
 obtain⟨b1,b2⟩:=b
 by_cases h1:a1=b1<;>by_cases h2:a2=b2<;>simp[h1,h2]
theorem qM (ps:List (Int×Int)) (c:Int×Int):((ps.map cM).any fun x=>ap x (cM c))=decide (c∈ps):=by
 rw[List.any_map,Bool.eq_iff_iff,List.any_eq_true,decide_eq_true_iff]
 constructor
 ·rintro⟨x,hx,e⟩
  have:decide (x=c)=true:=by rw[← dD];exact e
  rw[← of_decide_eq_true this]
  exact hx
 ·intro h
  refine⟨c,h,?_⟩
  show ap (cM c) (cM c)=true
  rw[dD]
  exact decide_eq_true rfl
theorem qN:∀ (l:List Im) (ks:List (Int×Int)),(∀ x∈l,x∈ks.map cM)→l=(l.map uC).map cM
 | [],_,_=>rfl
 | x::l,ks,h=>by
  obtain⟨p,_,e⟩:=List.mem_map.mp (h x (.head _))
  rw[List.map_cons,List.map_cons,← qN l ks fun y hy=>h y (.tail _ hy),← e,qL]
theorem yw {l:List Im}{ks:List (Int×Int)} (h:l.Perm (ks.map cM)):∃ ms:List (Int×Int),ms.Perm ks∧l=ms.map cM:=by
 refine⟨l.map uC,?_,qN l ks fun x hx=>h.mem_iff.mp hx⟩
 have:=List.Perm.map uC h
 rw[List.map_map] at this
 have e:(uC ∘ cM:Int×Int→Int×Int)=id:=funext qL
 rw[e,List.map_id] at this
 exact this
theorem qO {ks:List (Int×Int)} (nd:ks.Nodup) (hl:ks.length≤1000):SrtOk (ks.map cM):=by
 refine⟨⟨by rw[List.length_map];exact hl,fun a ha b hb=>?_,?_⟩,.inl fun d hd=>?_⟩
 ·obtain⟨x,_,rfl⟩:=List.mem_map.mp ha
  obtain⟨y,_,rfl⟩:=List.mem_map.mp hb
  rfl
 ·exact List.Pairwise.map cM (fun a b n e=>n (yt e)) nd
 ·obtain⟨x,_,rfl⟩:=List.mem_map.mp hd
  rfl
noncomputable def mt (ks:List (Int×Int)):List (List Im×Im):=ks.map fun c=>(kM c,.bl true)
theorem yy {α:Type}{ws:List α} (h:ws≠[]):∃ w' w,ws=w'++[w]:=⟨ws.dropLast,ws.getLast h,(List.dropLast_concat_getLast h).symm⟩
theorem at0 (p:Int×Int):atI [Im.int p.1,.int p.2] 0=some (.int p.1):=rfl
theorem at1 (p:Int×Int):atI [Im.int p.1,.int p.2] 1=some (.int p.2):=rfl
theorem atC {cs:List (Int×Int)}{i:Int}{c:Int×Int} (h0:0≤i) (h:cs[i.toNat]?=some c):atI (cs.map cM) i=some (cM c):=kQ h0 (by rw[List.getElem?_map,h];rfl)
theorem jh (ps:List (Int×Int)) (c:Int×Int):inB (cM c) (cL ps)=some (decide (c∈ps)):=by
 rw[wN,fP,fQ,qM]
 rfl
theorem yz (ps:List (Int×Int)) (c:Int×Int):inB (cM c) (cT ps)=some (decide (c∈ps)):=by
 rw[om,fP,fQ,qM]
 rfl
theorem yA (i j:Int):vMaxM [.im (.int i),.im (.int j)]=some (.im (.int (if j > i then j else i))):=rfl
theorem yB (i j:Int):vMinM [.im (.int i),.im (.int j)]=some (.im (.int (if j<i then j else i))):=rfl
theorem qP {α β:Type} (f:α→β):∀ (l:List α) (k:Nat),(l.map f).eraseIdx k=(l.eraseIdx k).map f
 | [],_=>rfl
 | _::_,0=>rfl
 | a::l,k+1=>by simp[qP f l k]
noncomputable def mid:MS:=(sIf (kOr (kB (ad vEq (oSl 2) (oV (eC (.int 1))))) (kB (ad vEq (oSl 2) (oV (eC (.int 2)))))) (cI (iR1 (aa (oV (aq 2 G.io (aa (oSl 0) (aa (oV (ad vAdd (oV (eC (.int 1))) (oV (ad vDiv (oV (ax vLen (aa (oSl 5) aNil))) (oV (eC (.int 2))))))) aNil)))) aNil)) (gN 6) G.xO) (sIf (kB (ad vEq (oSl 2) (oV (eC (.int 3))))) (aw 5 (bf 1 [] (bv (oSl 5)) (gN 0) G.xQ G.xP)) (sIf (kB (ad vGt (oSl 2) (oV (eC (.int 3))))) (aw 5 (aq 2 G.xN (aa (oSl 0) (aa (oSl 1) aNil)))) sNil)))
noncomputable abbrev Ed:=(Int×Int)×(Int×Int)
noncomputable def kE (e:Ed):List Im:=[cM e.1,cM e.2]
noncomputable def eg (a b:Int×Int):Ed:=(if ltM (cM b) (cM a)=true then b else a,if ltM (cM a) (cM b)=true then b else a)
theorem yC (a b:Int×Int):vMinM [.im (cM a),.im (cM b)]=some (.im (cM (eg a b).1)):=by
 show (if bh 6 (cM b) (cM a)=true then some (Vl.im (if ltM (cM b) (cM a)=true then cM b else cM a)) else none)=some (.im (cM (if ltM (cM b) (cM a)=true then b else a)))
 rw[if_pos (show bh 6 (cM b) (cM a)=true from rfl)]
 split<;>rfl
theorem yD (a b:Int×Int):vMaxM [.im (cM a),.im (cM b)]=some (.im (cM (eg a b).2)):=by
 show (if bh 6 (cM b) (cM a)=true then some (Vl.im (if ltM (cM a) (cM b)=true then cM b else cM a)) else none)=some (.im (cM (if ltM (cM a) (cM b)=true then b else a)))
 rw[if_pos (show bh 6 (cM b) (cM a)=true from rfl)]
 split<;>rfl
noncomputable def qQ:List (Ed×Int)→Ed→List (Ed×Int)
 | [],e=>[(e,1)]
 | (f,n)::r,e=>if f=e then (f,n+1)::r else (f,n)::qQ r e
noncomputable def cnt (L:List (Ed×Int)) (ps:List Ed):List (Ed×Int):=ps.foldl (fun L p=>qQ L (eg p.1 p.2)) L
theorem yE (a b:Int×Int):gu [.im (cM a),.im (cM b)]=some (.im (.tup (kE (eg a b))),[.im (cM a),.im (cM b)]):=by
 have h1:=yC a b
 have h2:=yD a b
 simp -implicitDefEqProofs [gu,pO,h1,h2,kE]
noncomputable abbrev Ce:=Int×Int
noncomputable def cl (b:Ce):Nat→Ce
 | 0=>b
 | 1=>(b.1,b.2+1)
 | 2=>(b.1+1,b.2+1)
 | _=>(b.1+1,b.2)
noncomputable def ot (b:Ce):Nat→Ce
 | 0=>(b.1 - 2,b.2)
 | 1=>(b.1,b.2+2)
 | 2=>(b.1+2,b.2)
 | _=>(b.1,b.2 - 2)
noncomputable def ay (b:Ce):List Ce:=[b,(b.1,b.2+1),(b.1+1,b.2+1),(b.1+1,b.2)]
noncomputable def jn (T:List Ed) (a b:Ce):Bool:=decide ((a,b)∈T∨(b,a)∈T)
theorem ji (T:List Ed) (a b:Ce):jn T a b=jn T b a:=by
 unfold jn
 rw[Bool.eq_iff_iff,decide_eq_true_iff,decide_eq_true_iff]
 exact Or.comm
noncomputable def nx (T:List Ed) (p:Ce×Nat):Ce×Nat:=if jn T p.1 (ot p.1 p.2)=true then (ot p.1 p.2,(p.2+3) % 4) else (p.1,(p.2+1) % 4)
noncomputable def px (T:List Ed) (p:Ce×Nat):Ce×Nat:=if jn T p.1 (ot p.1 ((p.2+3) % 4))=true then (ot p.1 ((p.2+3) % 4),(p.2+1) % 4) else (p.1,(p.2+3) % 4)
theorem lj (T:List Ed) (b:Ce) {k:Nat} (hk:k<4):px T (nx T (b,k))=(b,k):=by
 unfold nx
 by_cases h:jn T b (ot b k)=true
 ·rw[if_pos h]
  rw[ji] at h
  have e:ot (ot b k) (((k+3) % 4+3) % 4)=b:=by
   match k,hk with
   | 0,_=>simp[ot]
   | 1,_=>simp[ot]
   | 2,_=>simp[ot]
   | 3,_=>simp[ot]
  unfold px
  dsimp only
  rw[e,if_pos h]
  exact Prod.ext rfl (by show ((k+3) % 4+1) % 4=k;lia)
 ·rw[if_neg h]
  have e:((k+1) % 4+3) % 4=k:=by lia
  unfold px
  dsimp only
  rw[e,if_neg h]
theorem yF (T:List Ed) (p:Ce×Nat):(nx T p).2<4:=by
 unfold nx
 split<;>exact Nat.mod_lt _ (by decide)
structure BOk (bs:List Ce):Prop where
 ne:bs≠[]
 nd:bs.Nodup
 len:bs.length≤40
 rng:∀ b∈bs,0≤b.1∧b.1≤29∧0≤b.2∧b.2≤29
 par:∀ a∈bs,∀ b∈bs,(a.1 - b.1) % 2=0∧(a.2 - b.2) % 2=0
 con:∀ p:Ce→Ce,(∀ a∈bs,∀ b∈bs,(b=(a.1,a.2+2)∨b=(a.1+2,a.2))→p a=p b)→∀ a∈bs,∀ b∈bs,p a=p b
theorem qR {b c:Ce}:c∈ay b↔(c.1=b.1∨c.1=b.1+1)∧(c.2=b.2∨c.2=b.2+1):=by
 obtain⟨x,y⟩:=c
 obtain⟨u,v⟩:=b
 simp only[ay,List.mem_cons,List.not_mem_nil,or_false,Prod.mk.injEq]
 constructor
 ·lia
 ·lia
theorem jl (b:Ce) {k:Nat} (hk:k<4):cl b k∈ay b:=by
 match k,hk with
 | 0,_=>simp[cl,ay]
 | 1,_=>simp[cl,ay]
 | 2,_=>simp[cl,ay]
 | 3,_=>simp[cl,ay]
theorem yG {b c:Ce} (h:c∈ay b):∃ k,k<4∧c=cl b k:=by
 simp only[ay,List.mem_cons,List.not_mem_nil,or_false] at h
 rcases h with h | h | h | h
 ·exact⟨0,by decide,h⟩
 ·exact⟨1,by decide,h⟩
 ·exact⟨2,by decide,h⟩
 ·exact⟨3,by decide,h⟩
theorem BOk.one {bs:List Ce} (B:BOk bs) {a b c:Ce} (ha:a∈bs) (hb:b∈bs) (h1:c∈ay a) (h2:c∈ay b):a=b:=by
 have p:=B.par a ha b hb
 rw[qR] at h1 h2
 exact Prod.ext (by lia) (by lia)
noncomputable def bl (o c:Ce):Ce:=(c.1 - (c.1 - o.1) % 2,c.2 - (c.2 - o.2) % 2)
noncomputable def kk (o c:Ce):Nat:=if (c.1 - o.1) % 2=0 then (if (c.2 - o.2) % 2=0 then 0 else 1) else (if (c.2 - o.2) % 2=0 then 3 else 2)
theorem yH {o b:Ce} (h1:(b.1 - o.1) % 2=0) (h2:(b.2 - o.2) % 2=0) {k:Nat} (hk:k<4):bl o (cl b k)=b∧kk o (cl b k)=k:=by
 match k,hk with
 | 0,_=>
  refine⟨Prod.ext ?_ ?_,?_⟩
  ·simp only[bl,cl];lia
  ·simp only[bl,cl];lia
  ·simp only[kk,cl];rw[if_pos h1,if_pos h2]
 | 1,_=>
  refine⟨Prod.ext ?_ ?_,?_⟩
  ·simp only[bl,cl];lia
  ·simp only[bl,cl];lia
  ·simp only[kk,cl];rw[if_pos h1,if_neg (by lia)]
 | 2,_=>
  refine⟨Prod.ext ?_ ?_,?_⟩
  ·simp only[bl,cl];lia
  ·simp only[bl,cl];lia
  ·simp only[kk,cl];rw[if_neg (by lia),if_neg (by lia)]
 | 3,_=>
  refine⟨Prod.ext ?_ ?_,?_⟩
  ·simp only[bl,cl];lia
  ·simp only[bl,cl];lia
  ·simp only[kk,cl];rw[if_neg (by lia),if_pos h2]
noncomputable def pc (p:Ce×Nat):Ce:=cl p.1 p.2
noncomputable def IsE (bs:List Ce) (e:Ed):Prop:=e.1∈bs∧e.2∈bs∧(e.2=(e.1.1,e.1.2+2)∨e.2=(e.1.1+2,e.1.2))
theorem yI {bs:List Ce}{T:List Ed} (hT:∀ e∈T,IsE bs e) {a b:Ce} (h:jn T a b=true):a∈bs∧b∈bs:=by
 rcases of_decide_eq_true h with h | h
 ·exact⟨(hT _ h).1,(hT _ h).2.1⟩
 ·exact⟨(hT _ h).2.1,(hT _ h).1⟩
theorem yJ {bs:List Ce}{T:List Ed} (hT:∀ e∈T,IsE bs e) {b:Ce} (hb:b∈bs) (k:Nat):(nx T (b,k)).1∈bs:=by
 unfold nx
 split
 ·rename_i h;exact (yI hT h).2
 ·exact hb
theorem qS {α:Type} [DecidableEq α]:∀ {l m:List α},l.Nodup→(∀ x∈l,x∈m)→m.length≤l.length→l.Perm m
 | [],m,_,_,h=>by rw[List.length_eq_zero_iff.mp (Nat.le_zero.mp h)]
 | x::l,m,nd,s,h=>by
  have hx:=s x (.head _)
  obtain⟨n1,n2⟩:=List.nodup_cons.mp nd
  have p:=List.perm_cons_erase hx
  refine .trans (.cons x (qS n2 (fun y hy=>(List.mem_erase_of_ne (fun e=>n1 (by rw[← e];exact hy))).mpr (s y (.tail _ hy))) ?_)) p.symm
  have:=p.length_eq
  simp at this h
  lia
noncomputable def cells (bs:List Ce):List Ce:=bs.flatMap ay
theorem qT {bs:List Ce}{c:Ce}:c∈cells bs↔∃ b∈bs,∃ k,k<4∧c=cl b k:=by
 unfold cells
 rw[List.mem_flatMap]
 constructor
 ·rintro⟨b,hb,h⟩
  exact⟨b,hb,yG h⟩
 ·rintro⟨b,hb,k,hk,rfl⟩
  exact⟨b,hb,jl b hk⟩
theorem yK (b:Ce):(ay b).Nodup:=by
 obtain⟨x,y⟩:=b
 simp[ay,List.nodup_cons]
 lia
theorem jm {α β:Type}{f:α→List β}:∀ {l:List α},l.Nodup→(∀ a∈l,(f a).Nodup)→(∀ a∈l,∀ b∈l,∀ x,x∈f a→x∈f b→a=b)→(l.flatMap f).Nodup
 | [],_,_,_=>by simp
 | a::l,nd,h1,h2=>by
  obtain⟨n1,n2⟩:=List.nodup_cons.mp nd
  rw[List.flatMap_cons,List.nodup_append]
  refine⟨h1 a (.head _),jm n2 (fun b hb=>h1 b (.tail _ hb)) (fun b hb c hc=>h2 b (.tail _ hb) c (.tail _ hc)),fun x hx y hy e=>?_⟩
  obtain⟨b,hb,hy⟩:=List.mem_flatMap.mp hy
  subst e
  have:=h2 a (.head _) b (.tail _ hb) x hx hy
  subst this
  exact n1 hb
theorem BOk.cells_nd {bs:List Ce} (B:BOk bs):(cells bs).Nodup:=jm B.nd (fun b _=>yK b) fun a ha b hb x h1 h2=>B.one ha hb h1 h2
theorem gG:∀ bs:List Ce,(cells bs).length=4 * bs.length
 | []=>rfl
 | b::bs=>by
  have:=gG bs
  unfold cells at *
  rw[List.flatMap_cons,List.length_append,this]
  simp[ay]
  lia
theorem lm {α β:Type}{f:α→β}{l:List α} (nd:l.Nodup) (h:∀ a∈l,∀ b∈l,f a=f b→a=b):(l.map f).Nodup:=by
 unfold List.Nodup
 rw[List.pairwise_map]
 exact List.Pairwise.imp_of_mem (fun ha hb n e=>n (h _ ha _ hb e)) nd
theorem dX {n:Nat}{h:Vl}{m:Int} (x:LOk (n+1) h) (hm0:0<m) (hm1:m<1073741824):∃ v h',bi [h,iI m]=some (iI v,[h',iI m])∧0≤v∧v<m∧LOk n h':=by
 obtain⟨d,s,t,rfl,h1,h2,h3,h4,h5⟩:=x
 have nz:¬ m=0:=by lia
 by_cases hd:0<d
 ·refine⟨d % m,lf (d / m) s t,?_,Int.emod_nonneg _ (by lia),Int.emod_lt_of_pos _ hm0,d / m,s,t,rfl,Int.ediv_nonneg h1 (by lia),h2,h3,h4,by lia⟩
  unfold bi kW
  have gt:vGt (iI d) (iI 0)=some (.im (.bl true)):=congrArg (fun b=>some (Vl.im (.bl b))) (decide_eq_true hd)
  refine cF [some (lf (d / m) s t),some (iI m),some (iI (d % m))] rfl (kR ((gr (kb_ (b_ (v_ (b_ (d:=iI d) rfl rfl rfl rfl rfl)) rfl rfl rfl gt))).trans ((aR ((i9 (b_ (v_ (b_ (d:=iI d) rfl rfl rfl rfl rfl)) rfl rfl rfl (dS hm0)) (show 2<3 by decide)).trans rfl)).trans ((aR (as_ (D2:=[some (lf (d / m) s t),some (iI m),some (iI (d % m))]) (b_ (v_ (b_ (d:=iI d) rfl rfl rfl rfl rfl)) rfl rfl rfl (pL hm0 hm1)) rfl)).trans rfl)))) rfl
 ·obtain⟨s',hs'⟩:∃ s':Int,s'=(s * 48271+12345+7919 * (t+1)) % 2147483647:=⟨_,rfl⟩
  have q0:0≤s':=by rw[hs'];exact Int.emod_nonneg _ (by decide)
  have q1:s'<2147483647:=by
   rw[hs']
   exact Int.emod_lt_of_pos _ (by decide)
  have m1:bP s 48271=true:=fA (by decide) (by decide)
  have m2:bP 7919 (t+1)=true:=kP (by decide) (by decide)
  have m3:bP s' s'=true:=fA (by lia) (by lia)
  refine⟨s' * s' % 1999999973 / 31 % m,lf d s' (t+1),?_,Int.emod_nonneg _ (by lia),Int.emod_lt_of_pos _ hm0,d,s',t+1,rfl,h1,q0,by lia,by lia,by lia⟩
  unfold bi kW
  have gt:vGt (iI d) (iI 0)=some (.im (.bl false)):=congrArg (fun b=>some (Vl.im (.bl b))) (decide_eq_false hd)
  have x1:ad vMul (oV (ad vIx (oSl 0) (oV (eC (.int 1))))) (oV (eC (.int 48271))) [some (lf d s (t+1)),some (iI m),none]=some (iI (s * 48271),[some (lf d s (t+1)),some (iI m),none]):=b_ (v_ (b_ (d:=iI s) rfl rfl rfl rfl rfl)) rfl rfl rfl (c4 m1)
  have x2:ad vMul (oV (eC (.int 7919))) (oV (ad vIx (oSl 0) (oV (eC (.int 2))))) [some (lf d s (t+1)),some (iI m),none]=some (iI (7919 * (t+1)),[some (lf d s (t+1)),some (iI m),none]):=b_ rfl (v_ (b_ (d:=iI (t+1)) rfl rfl rfl rfl rfl)) rfl rfl (c4 m2)
  have x3:ad vMod (oV (ad vAdd (oV (ad vAdd (oV (ad vMul (oV (ad vIx (oSl 0) (oV (eC (.int 1))))) (oV (eC (.int 48271))))) (oV (eC (.int 12345))))) (oV (ad vMul (oV (eC (.int 7919))) (oV (ad vIx (oSl 0) (oV (eC (.int 2))))))))) (oV (eC (.int 2147483647))) [some (lf d s (t+1)),some (iI m),none]=some (iI s',[some (lf d s (t+1)),some (iI m),none]):=by
   rw[hs']
   exact b_ (v_ (b_ (v_ (b_ (v_ x1) rfl rfl rfl rfl)) (v_ x2) rfl rfl rfl)) rfl rfl rfl (dS (by decide))
  have x4:ad vMul (oV (ad vIx (oSl 0) (oV (eC (.int 1))))) (oV (ad vIx (oSl 0) (oV (eC (.int 1))))) [some (lf d s' (t+1)),some (iI m),none]=some (iI (s' * s'),[some (lf d s' (t+1)),some (iI m),none]):=b_ (v_ (b_ (d:=iI s') rfl rfl rfl rfl rfl)) (v_ (b_ (d:=iI s') rfl rfl rfl rfl rfl)) rfl rfl (c4 m3)
  exact cF [some (lf d s' (t+1)),some (iI m),none] rfl ((aR ((gs (kb_ (b_ (v_ (b_ (d:=iI d) rfl rfl rfl rfl rfl)) rfl rfl rfl gt))).trans rfl)).trans ((aR (as_ (D2:=[some (lf d s (t+1)),some (iI m),none]) (b_ (d:=iI (t+1)) (v_ (b_ (d:=iI t) rfl rfl rfl rfl rfl)) rfl rfl rfl rfl) rfl)).trans ((aR (as_ (D2:=[some (lf d s' (t+1)),some (iI m),none]) x3 rfl)).trans (cN (b_ (v_ (b_ (v_ (b_ (v_ x4) rfl rfl rfl (dS (by decide)))) rfl rfl rfl (pL (by decide) (by decide)))) rfl rfl rfl (dS hm0)))))) rfl
theorem yL {ns:List Int}{k:Int} (hk:0≤k):∃ c,gw [.fz (ns.map .int),iI k]=some (iI c,[.fz (ns.map .int),iI k]):=by
 by_cases hl:k<(ns.length:Int)
 ·obtain⟨c,hc⟩:∃ c,ns[k.toNat]?=some c:=⟨ns[k.toNat]'(by lia),by simp⟩
  have hat:atI (ns.map Im.int) k=some (.int c):=kQ hk (by rw[List.getElem?_map,hc];rfl)
  have lt:vLt (iI k) (iI ((ns.map Im.int).length:Int))=some (.im (.bl true)):=congrArg (fun b=>some (Vl.im (.bl b))) (decide_eq_true (by rw[List.length_map];exact hl))
  have vi:vIx (.fz (ns.map .int)) (iI k)=some (iI c):=congrArg (Option.map Vl.im) hat
  unfold gw kU
  exact⟨c,cF [some (.fz (ns.map .int)),some (iI k)] rfl (kR ((gr (kb_ (b_ rfl (v_ (cb_ rfl rfl rfl)) rfl rfl lt))).trans (cN (b_ rfl rfl rfl rfl vi)))) rfl⟩
 ·have lt:vLt (iI k) (iI ((ns.map Im.int).length:Int))=some (.im (.bl false)):=congrArg (fun b=>some (Vl.im (.bl b))) (decide_eq_false (by rw[List.length_map];exact hl))
  unfold gw kU
  exact⟨0,cF [some (.fz (ns.map .int)),some (iI k)] rfl ((aR ((gs (kb_ (b_ rfl (v_ (cb_ rfl rfl rfl)) rfl rfl lt))).trans rfl)).trans rfl) rfl⟩
theorem yM {ns:List Int}{k:Int} (hk:0≤k) (hk2:k<1000):∃ h,gz [.fz (ns.map .int),iI k]=some (h,[.fz (ns.map .int),iI k])∧LOk 1000000 h:=by
 obtain⟨c,hc⟩:=yL (ns:=ns) hk
 have m1:bP 7919 k=true:=kP (by decide) (by decide)
 have m2:bP (7919 * k) k=true:=fA (by lia) (by lia)
 have m3:bP (c % 2147483629+7919 * k * k+11) 48271=true:=fA (by decide) (by decide)
 obtain⟨s,hs⟩:∃ s:Int,s=(c % 2147483629+7919 * k * k+11) * 48271 % 2147483647:=⟨_,rfl⟩
 have s0:0≤s:=by rw[hs];exact Int.emod_nonneg _ (by decide)
 have s1:s<2147483647:=by rw[hs];exact Int.emod_lt_of_pos _ (by decide)
 have p1:bP (10 ^ 60) (10 ^ 60)=true:=by decide +kernel
 have p2:bP (10 ^ 60 * 10 ^ 60) (10 ^ 60)=true:=by decide +kernel
 have p3:∀ (x:Int) (b:Bool),bP x (if b then 1 else 0)=true:=fun x b=>fA (by cases b<;>decide) (by cases b<;>decide)
 have q1:(0:Int)<10 ^ 60 * 10 ^ 60 * 10 ^ 60:=by decide
 have v6:vPow (iI 10) (iI 60)=some (iI (10 ^ (60:Int).toNat)):=pM (by decide)
 have v8:vPow (iI 10) (iI 18)=some (iI (10 ^ (18:Int).toNat)):=pM (by decide)
 rw[show (60:Int).toNat=60 from rfl] at v6
 rw[show (18:Int).toNat=18 from rfl] at v8
 have key:LOk 1000000 (lf (c % (10 ^ 60 * 10 ^ 60 * 10 ^ 60) * (if decide ((10:Int) ^ 18≤c) then 1 else 0)) s 0):=by
  have h1:=Int.emod_nonneg c (show (10 ^ 60 * 10 ^ 60 * 10 ^ 60:Int)≠0 by decide)
  refine⟨_,_,_,rfl,?_,s0,by lia,Int.le_refl 0,by decide⟩
  split
  ·rw[Int.mul_one];exact h1
  ·rw[Int.mul_zero];exact Int.le_refl 0
 refine⟨_,?_,key⟩
 generalize (10:Int) ^ 60=P at *
 generalize (10:Int) ^ 18=R at *
 unfold gz pS
 have s3:aw 4 (ad vMod (oV (ad vMul (oV (ad vAdd (oV (ad vAdd (oV (ad vMod (oSl 2) (oV (eC (.int 2147483629))))) (oV (ad vMul (oV (ad vMul (oV (eC (.int 7919))) (oSl 1))) (oSl 1))))) (oV (eC (.int 11))))) (oV (eC (.int 48271))))) (oV (eC (.int 2147483647)))) [some (.fz (ns.map .int)),some (iI k),some (iI c),some (iI (P * P * P)),none]=some (.nx,[some (.fz (ns.map .int)),some (iI k),some (iI c),some (iI (P * P * P)),some (iI s)]):=by
  rw[hs]
  exact bG (b_ (v_ (b_ (v_ (b_ (v_ (b_ (v_ (b_ rfl rfl rfl rfl (dS (by decide)))) (v_ (b_ (v_ (b_ rfl rfl rfl rfl (c4 m1))) rfl rfl rfl (c4 m2))) rfl rfl rfl)) rfl rfl rfl rfl)) rfl rfl rfl (c4 m3))) rfl rfl rfl (dS (by decide))) (show 4<5 by decide) rfl
 exact kT rfl (sq_ (bG (c_ rfl rfl rfl hc) (show 2<5 by decide) rfl) (sq_ (bG (b_ (v_ (b_ (v_ (b_ rfl rfl rfl rfl v6)) (v_ (b_ rfl rfl rfl rfl v6)) rfl rfl (c4 p1))) (v_ (b_ rfl rfl rfl rfl v6)) rfl rfl (c4 p2)) (show 3<5 by decide) rfl) (sq_ s3 (cN (li_ (a_ (v_ (b_ (v_ (b_ rfl rfl rfl rfl (dS q1))) (v_ (cb_ (a_ (v_ (b_ rfl (v_ (b_ rfl rfl rfl rfl v8)) rfl rfl rfl)) rfl) rfl rfl)) rfl rfl (c4 (p3 _ _)))) rfl) rfl (Nat.le_of_ble_eq_true rfl) rfl))))) rfl
structure Gr (m:Int) (bs:List Ce):Prop where
 ne:bs≠[]
 nd:bs.Nodup
 len:(bs.length:Int)≤m
 rng:∀ b∈bs,0≤b.1∧b.1≤29∧0≤b.2∧b.2≤29
 par:∀ a∈bs,∀ b∈bs,(a.1 - b.1) % 2=0∧(a.2 - b.2) % 2=0
 con:∀ p:Ce→Ce,(∀ a∈bs,∀ b∈bs,(b=(a.1,a.2+2)∨b=(a.1+2,a.2))→p a=p b)→∀ a∈bs,∀ b∈bs,p a=p b
noncomputable def sft:List Ce:=[(0,2),(2,0),(0,-2),(-2,0)]
theorem Gr.add {m:Int}{bs:List Ce} (g:Gr m bs) {c d:Ce} (hc:c∈bs) (hd:d∈sft) (hn:(c.1+d.1,c.2+d.2)∉bs) (hl:(bs.length:Int)<m) (hr:0≤c.1+d.1∧c.1+d.1≤29∧0≤c.2+d.2∧c.2+d.2≤29):Gr m (bs++[(c.1+d.1,c.2+d.2)]):=by
 have d2:d.1 % 2=0∧d.2 % 2=0:=by
  simp only[sft,List.mem_cons,List.not_mem_nil,or_false] at hd
  rcases hd with h | h | h | h<;>subst h<;>exact⟨by decide,by decide⟩
 refine⟨by simp,List.nodup_append.mpr ⟨g.nd,List.pairwise_singleton _ _,fun x hx y hy e=>hn (by rw[List.mem_singleton.mp hy] at e;rw[← e];exact hx)⟩,by simp;lia,fun b hb=>?_,fun a ha b hb=>?_,fun p hp a ha b hb=>?_⟩
 ·rcases List.mem_append.mp hb with h | h
  ·exact g.rng b h
  ·rw[List.mem_singleton.mp h];exact hr
 ·have key:∀ x∈bs,(x.1 - (c.1+d.1)) % 2=0∧(x.2 - (c.2+d.2)) % 2=0:=fun x hx=>by
   have:=g.par x hx c hc
   exact⟨by lia,by lia⟩
  rcases List.mem_append.mp ha with h1 | h1<;>rcases List.mem_append.mp hb with h2 | h2
  ·exact g.par a h1 b h2
  ·rw[List.mem_singleton.mp h2];exact key a h1
  ·rw[List.mem_singleton.mp h1]
   have:=key b h2
   exact⟨by show ((c.1+d.1) - b.1) % 2=0;lia,by show ((c.2+d.2) - b.2) % 2=0;lia⟩
  ·rw[List.mem_singleton.mp h1,List.mem_singleton.mp h2];exact⟨by simp,by simp⟩
 ·have q0:=g.con p fun a ha b hb=>hp a (List.mem_append_left _ ha) b (List.mem_append_left _ hb)
  have hc':c∈bs++[(c.1+d.1,c.2+d.2)]:=List.mem_append_left _ hc
  have hn':(c.1+d.1,c.2+d.2)∈bs++[(c.1+d.1,c.2+d.2)]:=List.mem_append_right _ (.head _)
  have q1:p c=p (c.1+d.1,c.2+d.2):=by
   simp only[sft,List.mem_cons,List.not_mem_nil,or_false] at hd
   rcases hd with h | h | h | h
   ·subst h;exact hp _ hc' _ hn' (.inl (Prod.ext (by simp) (by simp)))
   ·subst h;exact hp _ hc' _ hn' (.inr (Prod.ext (by simp) (by simp)))
   ·subst h;exact (hp _ hn' _ hc' (.inl (Prod.ext (by simp) (by simp;lia)))).symm
   ·subst h;exact (hp _ hn' _ hc' (.inr (Prod.ext (by simp;lia) (by simp)))).symm
  have q2:∀ x∈bs++[(c.1+d.1,c.2+d.2)],p x=p c:=fun x hx=>by
   rcases List.mem_append.mp hx with h | h
   ·exact q0 x h c hc
   ·rw[List.mem_singleton.mp h];exact q1.symm
  rw[q2 a ha,q2 b hb]
theorem apC {bs:List Ce}{o:Ce} (h:bs.length<100000):mAppend (cL bs) [.im (cM o)]=some (.im .non,cL (bs++[o])):=by
 have:mAppend (cL bs) [.im (cM o)]=some (.im .non,.lst (bs.map cM++[cM o])):=ap_ (by rw[List.length_map];exact h)
 rw[this]
 simp
theorem le1 (bs:List Ce):vLen [cL bs]=some (iI (bs.length:Int)):=by
 show some (iI ((bs.map cM).length:Int))=_
 rw[List.length_map]
theorem le2 (bs:List Ce):vLen [cT bs]=some (iI (bs.length:Int)):=by
 show some (iI ((bs.map cM).length:Int))=_
 rw[List.length_map]
theorem chn {ga gb gc:M Opd}{D:SD}{x y z:Opd}{a b c:Int} (e1:ga D=some (x,D)) (e2:gb D=some (y,D)) (e3:rsl D x=some (iI a)) (e4:rsl D y=some (iI b)) (e5:gc D=some (z,D)) (e6:rsl D z=some (iI c):=by rfl):kB (cY vLe vLe ga gb gc) D=some (decide (a≤b) && decide (b≤c),D):=by
 unfold kB cY
 rw[e1]
 show ((gb D).bind _).bind _=_
 rw[e2]
 show ((rsl D x).bind _).bind _=_
 rw[e3]
 show ((rsl D y).bind _).bind _=_
 rw[e4]
 show ((if decide (a≤b)=true then _ else _):Option (Vl×SD)).bind _=_
 cases decide (a≤b) with
 | false=>rfl
 | true=>
  rw[if_pos rfl]
  show ((gc D).bind _).bind _=_
  rw[e5]
  show ((rsl D y).bind _).bind _=_
  rw[e4]
  show ((rsl D z).bind _).bind _=_
  rw[e6]
  rfl
noncomputable abbrev sbD (h:Vl) (m:Int) (bs:List Ce) (k o4 o5 o6 o7 o8:Option Vl):SD:=[some h,some (iI m),some (cL bs),k,o4,o5,o6,o7,o8]
theorem yN {n:Nat}{h:Vl}{bs:List Ce}{m:Int}{k o4 o5 o6 o7 o8:Option Vl} (H:LOk (n+3) h) (g:Gr m bs) (hm:m≤40):
  ∃ h' bs' p4 p5 p6 p7 p8,jb (sbD h m bs k o4 o5 o6 o7 o8)=some (.nx,sbD h' m bs' k p4 p5 p6 p7 p8)∧LOk n h'∧Gr m bs':=by
 have hp:=List.length_pos_iff.mpr g.ne
 have hl:=g.len
 obtain⟨v1,h1,e1,a1,a2,H1⟩:=dX (n:=n+2) (m:=(bs.length:Int)) H (by lia) (by lia)
 obtain⟨c0,hc0⟩:∃ c,bs[v1.toNat]?=some c:=⟨bs[v1.toNat]'(by lia),by simp⟩
 obtain⟨v2,h2,e2,b1,b2,H2⟩:=dX (n:=n+1) (m:=3) H1 (by lia) (by lia)
 obtain⟨v3,h3,e3,d1,d2,H3⟩:=dX (n:=n) (m:=4) H2 (by lia) (by lia)
 obtain⟨d,hd⟩:∃ d,sft[v3.toNat]?=some d:=⟨sft[v3.toNat]'(by show v3.toNat<4;lia),by simp⟩
 have t1:=atC a1 hc0
 have t3:=atC d1 hd
 obtain⟨bs0,l,rfl⟩:=yy g.ne
 have t2:atI ((bs0++[l]).map cM) (-1)=some (cM l):=pG (by simp)
 obtain⟨q0,rfl⟩:=H.lst
 obtain⟨q1,rfl⟩:=H1.lst
 obtain⟨q2,rfl⟩:=H2.lst
 obtain⟨q3,rfl⟩:=H3.lst
 generalize hbs:bs0++[l]=bs at *
 have s1:bO (ad vIx (oSl 2) (oV (aq 2 G.bi (aa (oSl 0) (aa (oV (ax vLen (aa (oSl 2) aNil))) aNil))))) (gT 2 (bb (gN 4) (bb (gN 5) gNil'))) (sbD (.lst q0) m bs k o4 o5 o6 o7 o8)=some (.nx,sbD (.lst q1) m bs k (some (iI c0.1)) (some (iI c0.2)) o6 o7 o8):=by
  exact as_ (b_ rfl (v_ (c_ (a_ rfl (a_ (v_ (cb_ rfl rfl (le1 bs))) rfl)) rfl rfl e1)) rfl rfl (congrArg (Option.map Vl.im) t1)) rfl
 obtain⟨c,hc,s2⟩:∃ c∈bs,sIf (kB (ad vEq (oV (aq 2 G.bi (aa (oSl 0) (aa (oV (eC (.int 3))) aNil)))) (oV (eC (.int 0))))) (bO (ad vIx (oSl 2) (oV (du (eC (.int 1))))) (gT 2 (bb (gN 4) (bb (gN 5) gNil')))) sNil (sbD (.lst q1) m bs k (some (iI c0.1)) (some (iI c0.2)) o6 o7 o8)=some (.nx,sbD (.lst q2) m bs k (some (iI c.1)) (some (iI c.2)) o6 o7 o8):=by
  by_cases hz:v2=0
  ·have q:=kS v2 0
   rw[decide_eq_true hz] at q
   exact⟨l,by rw[← hbs];simp,xD (kb_ (b_ (v_ (c_ rfl rfl rfl e2)) rfl rfl rfl q)) (as_ (b_ rfl (v_ (ng_ rfl)) rfl rfl (congrArg (Option.map Vl.im) t2)) rfl)⟩
  ·have q:=kS v2 0
   rw[decide_eq_false hz] at q
   exact⟨c0,List.mem_of_getElem? hc0,pN (kb_ (b_ (v_ (c_ rfl rfl rfl e2)) rfl rfl rfl q)) rfl⟩
 have s3:bO (ad vIx (oV (bm (aa (oV (aI (aa (oV (eC (.int 0))) (aa (oV (eC (.int 2))) aNil)))) (aa (oV (aI (aa (oV (eC (.int 2))) (aa (oV (eC (.int 0))) aNil)))) (aa (oV (aI (aa (oV (eC (.int 0))) (aa (oV (du (eC (.int 2)))) aNil)))) (aa (oV (aI (aa (oV (du (eC (.int 2)))) (aa (oV (eC (.int 0))) aNil)))) aNil)))))) (oV (aq 2 G.bi (aa (oSl 0) (aa (oV (eC (.int 4))) aNil))))) (gT 2 (bb (gN 6) (bb (gN 7) gNil'))) (sbD (.lst q2) m bs k (some (iI c.1)) (some (iI c.2)) o6 o7 o8)=some (.nx,sbD (.lst q3) m bs k (some (iI c.1)) (some (iI c.2)) (some (iI d.1)) (some (iI d.2)) o8):=by
  have t3':atI [Im.tup [.int 0,.int 2],.tup [.int 2,.int 0],.tup [.int 0,.int (-2)],.tup [.int (-2),.int 0]] v3=some (.tup [.int d.1,.int d.2]):=t3
  exact as_ (b_ rfl (v_ (c_ rfl rfl rfl e3)) rfl rfl (congrArg (Option.map Vl.im) t3')) rfl
 obtain⟨o,ho⟩:∃ o:Ce,o=(c.1+d.1,c.2+d.2):=⟨_,rfl⟩
 obtain⟨D,hD⟩:∃ D:SD,D=sbD (.lst q3) m bs k (some (iI c.1)) (some (iI c.2)) (some (iI d.1)) (some (iI d.2)) (some (.im (cM o))):=⟨_,rfl⟩
 have s4:aw 8 (aI (aa (oV (ad vAdd (oSl 4) (oSl 6))) (aa (oV (ad vAdd (oSl 5) (oSl 7))) aNil))) (sbD (.lst q3) m bs k (some (iI c.1)) (some (iI c.2)) (some (iI d.1)) (some (iI d.2)) o8)=some (.nx,D):=by
  rw[hD,ho]
  rfl
 have hin:=jh bs o
 have g0:=at0 o
 have g1:=at1 o
 have n1:kB (ad vNotIn (oSl 8) (oSl 2)) D=some (!decide (o∈bs),D):=by
  rw[hD]
  show (((inB (cM o) (cL bs)).map fun r=>Vl.im (.bl (!r))).map fun d=>(d,_)).bind (fun p=>(asB p.1).map fun b=>(b,p.2))=_
  rw[hin]
  rfl
 have n2:kB (cY vLe vLe (oV (eC (.int 0))) (oV (ad vIx (oSl 8) (oV (eC (.int 0))))) (oV (eC (.int 29)))) D=some (decide (0≤o.1) && decide (o.1≤29),D):=by
  rw[hD]
  exact chn rfl rfl rfl rfl rfl
 have n3:kB (cY vLe vLe (oV (eC (.int 0))) (oV (ad vIx (oSl 8) (oV (eC (.int 1))))) (oV (eC (.int 29)))) D=some (decide (0≤o.2) && decide (o.2≤29),D):=by
  rw[hD]
  exact chn rfl rfl rfl rfl rfl
 have n4:kB (ad vLt (oV (ax vLen (aa (oSl 2) aNil))) (oSl 1)) D=some (decide ((bs.length:Int)<m),D):=by
  rw[hD]
  exact kb_ (b_ (v_ (cb_ rfl rfl (le1 bs))) rfl rfl rfl rfl)
 have fin:∀ b:Bool,b=(!decide (o∈bs) && (decide ((bs.length:Int)<m) && ((decide (0≤o.1) && decide (o.1≤29)) && (decide (0≤o.2) && decide (o.2≤29)))))→
   de (kB (ad vNotIn (oSl 8) (oSl 2))) (de (kB (ad vLt (oV (ax vLen (aa (oSl 2) aNil))) (oSl 1))) (de (kB (cY vLe vLe (oV (eC (.int 0))) (oV (ad vIx (oSl 8) (oV (eC (.int 0))))) (oV (eC (.int 29))))) (kB (cY vLe vLe (oV (eC (.int 0))) (oV (ad vIx (oSl 8) (oV (eC (.int 1))))) (oV (eC (.int 29))))))) D=some (b,D):=by
  intro b hb
  rw[hb]
  simp -implicitDefEqProofs only[de,n1,n2,n3,n4,Option.bind_some]
  generalize (decide (0≤o.1) && decide (o.1≤29))=y
  generalize (decide (0≤o.2) && decide (o.2≤29))=z
  cases decide (o∈bs)<;>cases decide ((bs.length:Int)<m)<;>cases y<;>rfl
 unfold jb
 by_cases hcond:o∉bs∧(bs.length:Int)<m∧0≤o.1∧o.1≤29∧0≤o.2∧o.2≤29
 ·have ht:=fin true (by simp[hcond])
  refine⟨.lst q3,bs++[o],some (iI c.1),some (iI c.2),some (iI d.1),some (iI d.2),some (.im (cM o)),(aR s1).trans ((aR s2).trans ((aR s3).trans ((aR s4).trans ((gr ht).trans ?_)))),H3,?_⟩
  ·have l2:bs.length<100000:=by lia
   rw[hD]
   exact ex_ (mu_ rfl rfl rfl rfl rfl (apC l2) rfl)
  ·rw[ho]
   rw[ho] at hcond
   exact g.add hc (List.mem_of_getElem? hd) hcond.1 hcond.2.1 hcond.2.2
 ·have hf:=fin false (by
   cases z:(!decide (o∈bs) && (decide ((bs.length:Int)<m) && ((decide (0≤o.1) && decide (o.1≤29)) && (decide (0≤o.2) && decide (o.2≤29))))) with
   | false=>rfl
   | true=>
    simp at z
    exact absurd ⟨z.1,by lia,z.2.2.1.1,z.2.2.1.2,z.2.2.2.1,z.2.2.2.2⟩ hcond)
  exact⟨.lst q3,bs,some (iI c.1),some (iI c.2),some (iI d.1),some (iI d.2),some (.im (cM o)),(aR s1).trans ((aR s2).trans ((aR s3).trans ((aR s4).trans ((gs hf).trans (by rw[hD];rfl))))),H3,g⟩
theorem ltC {a b:Ce}:ltM (cM a) (cM b)=true↔a.1<b.1∨(a.1=b.1∧a.2<b.2):=by
 obtain⟨x,y⟩:=a
 obtain⟨u,v⟩:=b
 show (if Im.beq (.int x) (.int u)=true then (if Im.beq (.int y) (.int v)=true then false else decide (y<v)) else decide (x<u))=true↔_
 have e:∀ i j:Int,Im.beq (.int i) (.int j)=decide (i=j):=fun i j=>by
  show (i == j)=_
  by_cases h:i=j<;>simp[h]
 rw[e,e]
 by_cases h1:x=u<;>by_cases h2:y=v<;>simp[h1,h2]
noncomputable def fR (l:List Ce):Prop:=(l.map cM).Pairwise (fun a b=>ltM a b=true)
theorem qU {ks:List Ce} (nd:ks.Nodup) (hl:ks.length≤1000):∃ ms:List Ce,ms.Perm ks∧dz (ks.map cM)=some (cL ms)∧fR ms:=by
 have so:=qO nd hl
 obtain⟨ms,pm,em⟩:=yw (eu (ks.map cM))
 refine⟨ms,pm,?_,?_⟩
 ·unfold dz
  rw[if_pos (ig.mpr so),em]
 ·unfold fR
  rw[← em]
  exact i4 so.1.3 so.1.2
theorem qV:∀ {x:List Im},(∀ d∈x,∃ r,d=.tup r)→vSortM [.lst x]=dz x
 | [],_=>rfl
 | d::x,h=>by
  obtain⟨r,rfl⟩:=h d (.head _)
  rfl
theorem qW {D:SD}{i:Nat}{ks ms:List Ce} (hD:D[i]?=some (some (cL ks))) (h:dz (ks.map cM)=some (cL ms)):ax vSortM (aa (oSl i) aNil) D=some (cL ms,D):=by
 have hv:vSortM [cL ks]=some (cL ms):=by
  rw[qV,h]
  intro d hd
  obtain⟨c,_,rfl⟩:=List.mem_map.mp hd
  exact⟨_,rfl⟩
 simp -implicitDefEqProofs only[ax,aa,oSl,i6,hD,Option.bind_some,Option.map_some,ik,i7,pE,Option.getD_some,hv]
theorem lq {D D1:SD}{g:M Vl}{x:List Im} (h:g D=some (.lst x,D1)):ax vTuple (aa (oV g) aNil) D=some (.im (.tup x),D1):=by
 simp -implicitDefEqProofs only[ax,aa,oV,i6,h,Option.bind_some,Option.map_some,ik,i7,pD,vTuple,dM]
theorem yO {n:Nat}{h:Vl} (H:LOk (n+1000) h):∃ h' bs,fE [h]=some (cL bs,[h'])∧LOk n h'∧BOk bs∧fR bs:=by
 obtain⟨v0,h0,e0,a1,a2,H0⟩:=dX (n:=n+999) (m:=4) H (by lia) (by lia)
 obtain⟨w,hw,w1,w2⟩:∃ w:Int,atI [Im.int 3,.int 8,.int 14,.int 40] v0=some (.int w)∧0<w∧w≤40:=by
  have:v0=0∨v0=1∨v0=2∨v0=3:=by lia
  rcases this with rfl | rfl | rfl | rfl
  ·exact⟨3,rfl,by decide,by decide⟩
  ·exact⟨8,rfl,by decide,by decide⟩
  ·exact⟨14,rfl,by decide,by decide⟩
  ·exact⟨40,rfl,by decide,by decide⟩
 obtain⟨v1,h1,e1,b1,b2,H1⟩:=dX (n:=n+998) (m:=w) H0 w1 (by lia)
 obtain⟨v2,h2,e2,c1,c2,H2⟩:=dX (n:=n+997) (m:=30) H1 (by lia) (by lia)
 obtain⟨v3,h3,e3,d1,d2,H3⟩:=dX (n:=n+996) (m:=30) H2 (by lia) (by lia)
 obtain⟨m,hm⟩:∃ m:Int,m=1+v1:=⟨_,rfl⟩
 have g0:Gr m [(v2,v3)]:=⟨by simp,by simp,by simp;lia,fun b hb=>by rw[List.mem_singleton.mp hb];exact⟨c1,by show v2≤29;lia,d1,by show v3≤29;lia⟩,fun a ha b hb=>by rw[List.mem_singleton.mp hb,List.mem_singleton.mp ha];exact⟨by simp,by simp⟩,fun p _ a ha b hb=>by rw[List.mem_singleton.mp hb,List.mem_singleton.mp ha]⟩
 obtain⟨D',lp,h4,bs,o3,o4,o5,o6,o7,o8,rfl,H4,g⟩:=pH (tg:=gN 3) (b:=jb) (xs:=bV 0 (3 * m).toNat) (fun i D=>∃ h bs o3 o4 o5 o6 o7 o8,D=sbD h m bs o3 o4 o5 o6 o7 o8∧LOk (n+996 - 3 * i) h∧Gr m bs) (D:=sbD h3 m [(v2,v3)] none none none none none none) ⟨h3,[(v2,v3)],none,none,none,none,none,none,rfl,H3,g0⟩
  (fun i x D hx hI=>by
   obtain⟨h,bs,o3,o4,o5,o6,o7,o8,rfl,HH,g⟩:=hI
   have hi:i<(3 * m).toNat:=by
    have:=(List.getElem?_eq_some_iff.mp hx).1
    rwa [bV,List.length_map,List.length_range] at this
   obtain⟨h',bs',p4,p5,p6,p7,p8,e,H',g'⟩:=yN (n:=n+996 - 3 * (i+1)) (k:=some (.im x)) (o4:=o4) (o5:=o5) (o6:=o6) (o7:=o7) (o8:=o8) (HH.mono (by lia)) g (by lia)
   exact⟨sbD h m bs (some (.im x)) o4 o5 o6 o7 o8,.nx,_,rfl,e,.inl rfl,h',bs',_,_,_,_,_,_,rfl,H',g'⟩)
 have lr:(bV 0 (3 * m).toNat).length=(3 * m).toNat:=by rw[bV,List.length_map,List.length_range]
 rw[lr] at H4
 have gl:=g.len
 obtain⟨ms,pm,es,rs⟩:=qU g.nd (by lia)
 refine⟨h4,ms,?_,H4.mono (by lia),⟨fun z=>?_,pm.nodup_iff.mpr g.nd,by rw[pm.length_eq];lia,fun b hb=>g.rng b (pm.mem_iff.mp hb),fun a ha b hb=>g.par a (pm.mem_iff.mp ha) b (pm.mem_iff.mp hb),fun p hp a ha b hb=>g.con p (fun a ha b hb=>hp a (pm.mem_iff.mpr ha) b (pm.mem_iff.mpr hb)) a (pm.mem_iff.mp ha) b (pm.mem_iff.mp hb)⟩,rs⟩
 ·obtain⟨q,rfl⟩:=H.lst
  obtain⟨q0,rfl⟩:=H0.lst
  obtain⟨q1,rfl⟩:=H1.lst
  obtain⟨q2,rfl⟩:=H2.lst
  obtain⟨q3,rfl⟩:=H3.lst
  obtain⟨q4,rfl⟩:=H4.lst
  have sm:d9 (3 * m):=⟨by lia,by lia⟩
  have mk:bP 3 m=true:=kP (by decide) (by decide)
  have s1:aw 1 (ad vAdd (oV (eC (.int 1))) (oV (aq 2 G.bi (aa (oSl 0) (aa (oV (ad vIx (oV (bm (aa (oV (eC (.int 3))) (aa (oV (eC (.int 8))) (aa (oV (eC (.int 14))) (aa (oV (eC (.int 40))) aNil)))))) (oV (aq 2 G.bi (aa (oSl 0) (aa (oV (eC (.int 4))) aNil)))))) aNil))))) [some (.lst q),none,none,none,none,none,none,none,none]=some (.nx,[some (.lst q1),some (iI m),none,none,none,none,none,none,none]):=by
   rw[hm]
   exact bG (b_ rfl (v_ (c_ (a_ rfl (a_ (v_ (b_ (v_ (li_ rfl rfl (Nat.le_of_ble_eq_true rfl) rfl)) (v_ (c_ rfl rfl rfl e0)) rfl rfl (congrArg (Option.map Vl.im) hw))) rfl)) rfl rfl e1)) rfl rfl rfl) (show 1<9 by decide) rfl
  have s2:aw 2 (bm (aa (oV (aI (aa (oV (aq 2 G.bi (aa (oSl 0) (aa (oV (eC (.int 30))) aNil)))) (aa (oV (aq 2 G.bi (aa (oSl 0) (aa (oV (eC (.int 30))) aNil)))) aNil)))) aNil)) [some (.lst q1),some (iI m),none,none,none,none,none,none,none]=some (.nx,sbD (.lst q3) m [(v2,v3)] none none none none none none):=
   bG (li_ (a_ (v_ (tu_ (a_ (v_ (c_ rfl rfl rfl e2)) (a_ (v_ (c_ rfl rfl rfl e3)) rfl)) rfl (Nat.le_of_ble_eq_true rfl) rfl)) rfl) rfl (Nat.le_of_ble_eq_true rfl) rfl) (show 2<9 by decide) rfl
  unfold fE pU
  exact kT rfl (sq_ s1 (sq_ s2 (sq_ (ja (rg_ (a_ (v_ (b_ rfl rfl rfl rfl (c4 mk))) rfl) rfl sm) lp rfl) (cN (qW rfl es))))) rfl
 ·subst z
  have:=pm.length_eq
  have h1:=List.length_pos_iff.mpr g.ne
  simp at this
  lia
theorem yP {n:Nat}{h:Vl} (H:LOk (n+1000) h):∃ h' bs,fE [h]=some (cL bs,[h'])∧LOk n h'∧BOk bs:=by
 obtain⟨h',bs,a,b,c,_⟩:=yO H
 exact⟨h',bs,a,b,c⟩
theorem qX (b:Ce):eE [.im (cM b)]=some (cL (ay b),[.im (cM b)]):=by
 unfold eE pV
 exact cF [some (.im (cM b)),some (iI b.1),some (iI b.2)] rfl rfl rfl
theorem qY:∀ (bs done:List Ce) (o0 o2:Option Vl),4 * (done.length+bs.length)≤1000→∃ o2',bA (gN 2) jc (bs.map cM) [o0,some (cL (cells done)),o2]=some (.nx,[o0,some (cL (cells (done++bs))),o2'])
 | [],done,o0,o2,_=>⟨o2,by rw[List.append_nil];rfl⟩
 | b::bs,done,o0,o2,hl=>by
  rw[List.length_cons] at hl
  obtain⟨o2',ih⟩:=qY bs (done++[b]) o0 (some (.im (cM b))) (by rw[List.length_append,List.length_singleton];lia)
  refine⟨o2',?_⟩
  have e:=qX b
  have cl:=gG done
  have l2:(cells done).length+4≤100000:=by lia
  have ea:(cells done).map cM++(ay b).map cM=(cells (done++[b])).map cM:=by
   unfold cells
   rw[List.flatMap_append]
   simp
  have l3:(cells done).length+(ay b).length≤100000:=l2
  rw[List.map_cons,bA]
  dsimp only
  rw[show gN 2 (.im (cM b)) [o0,some (cL (cells done)),o2]=some [o0,some (cL (cells done)),some (.im (cM b))] from rfl]
  show (jc _).bind _=_
  have me:mExtend (cL (cells done)) [cL (ay b)]=some (.im .non,cL (cells (done++[b]))):=by
   show _=some (Vl.im .non,Vl.lst ((cells (done++[b])).map cM))
   rw[← ea]
   exact if_pos (by rw[List.length_map,List.length_map];exact l3)
  rw[show jc [o0,some (cL (cells done)),some (.im (cM b))]=some (.nx,[o0,some (cL (cells (done++[b]))),some (.im (cM b))]) from ex_ (mu_ rfl rfl (a_ (v_ (c_ rfl rfl rfl e)) rfl) rfl rfl me (by rfl))]
  rw[show done++b::bs=done++[b]++bs by simp]
  exact ih
theorem qZ {bs:List Ce} (B:BOk bs):∃ fs,eG [cL bs]=some (cT fs,[cL bs])∧fs.Perm (cells bs)∧fR fs:=by
 have hl:=B.len
 have cl:=gG bs
 obtain⟨o2,lp⟩:=qY bs [] (some (.jk)) none (by simp;lia)
 obtain⟨fs,pm,es,rs⟩:=qU B.cells_nd (by lia)
 refine⟨fs,?_,pm,rs⟩
 unfold eG pX
 refine cF [some (cL bs),some (cL (cells bs)),o2] rfl ((aR (D1:=[some (cL bs),some (cL (cells [])),none]) rfl).trans ((aR ((pJ (o:=some (0,cL bs)) (xs:=bs.map cM) (D1:=[some .jk,some (cL (cells [])),none]) rfl lp).trans rfl)).trans (cN ?_))) rfl
 exact lq (qW (D:=[some (cL bs),some (cL (cells bs)),o2]) (i:=1) rfl es)
noncomputable def eM (e:Ed):Im:=.tup (kE e)
noncomputable abbrev eL (es:List Ed):Vl:=.lst (es.map eM)
noncomputable def uE:Im→Ed
 | .tup [a,b]=>(uC a,uC b)
 | _=>((0,0),(0,0))
theorem jo (e:Ed):uE (eM e)=e:=rfl
theorem yQ {a b:Ed} (h:eM a=eM b):a=b:=by rw[← jo a,h,jo]
theorem q9:∀ (l:List Im) (ks:List Ed),(∀ x∈l,x∈ks.map eM)→l=(l.map uE).map eM
 | [],_,_=>rfl
 | x::l,ks,h=>by
  obtain⟨p,_,e⟩:=List.mem_map.mp (h x (.head _))
  rw[List.map_cons,List.map_cons,← q9 l ks fun y hy=>h y (.tail _ hy),← e,jo]
theorem unE {l:List Im}{ks:List Ed} (h:l.Perm (ks.map eM)):∃ ms:List Ed,ms.Perm ks∧l=ms.map eM:=by
 refine⟨l.map uE,?_,q9 l ks fun x hx=>h.mem_iff.mp hx⟩
 have:=List.Perm.map uE h
 rw[List.map_map] at this
 have e:(uE ∘ eM:Ed→Ed)=id:=funext jo
 rw[e,List.map_id] at this
 exact this
theorem yR {ks:List Ed} (nd:ks.Nodup) (hl:ks.length≤1000):SrtOk (ks.map eM):=by
 refine⟨⟨by rw[List.length_map];exact hl,fun a ha b hb=>?_,?_⟩,.inr fun d hd=>?_⟩
 ·obtain⟨x,_,rfl⟩:=List.mem_map.mp ha
  obtain⟨y,_,rfl⟩:=List.mem_map.mp hb
  rfl
 ·exact List.Pairwise.map eM (fun a b n e=>n (yQ e)) nd
 ·obtain⟨x,_,rfl⟩:=List.mem_map.mp hd
  rfl
theorem ra {D:SD}{i:Nat}{ks:List Ed} (nd:ks.Nodup) (hl:ks.length≤1000) (hD:D[i]?=some (some (eL ks))):∃ ms:List Ed,ms.Perm ks∧ax vSortM (aa (oSl i) aNil) D=some (eL ms,D):=by
 have so:=yR nd hl
 obtain⟨ms,pm,em⟩:=unE (eu (ks.map eM))
 refine⟨ms,pm,?_⟩
 have hv:vSortM [eL ks]=some (eL ms):=by
  rw[qV]
  ·unfold dz
   rw[if_pos (ig.mpr so),em]
  ·intro d hd
   obtain⟨c,_,rfl⟩:=List.mem_map.mp hd
   exact⟨_,rfl⟩
 simp -implicitDefEqProofs only[ax,aa,oSl,i6,hD,Option.bind_some,Option.map_some,ik,i7,pE,Option.getD_some,hv]
noncomputable def prB (bs:List Ce) (b:Ce):List Ed:=([(b.1,b.2+2),(b.1+2,b.2)].filter fun o=>decide (o∈bs)).map fun o=>(b,o)
noncomputable def prA (bs:List Ce):List Ed:=bs.flatMap (prB bs)
theorem rb {bs:List Ce}{e:Ed}:e∈prA bs↔IsE bs e:=by
 unfold prA prB IsE
 simp only[List.mem_flatMap,List.mem_map,List.mem_filter,List.mem_cons,List.not_mem_nil,or_false,decide_eq_true_eq]
 constructor
 ·rintro⟨b,hb,o,⟨ho,h2⟩,rfl⟩
  exact⟨hb,h2,ho⟩
 ·rintro⟨h1,h2,h3⟩
  exact⟨e.1,h1,e.2,⟨h3,h2⟩,rfl⟩
theorem lu (bs:List Ce) (b:Ce):(prB bs b).length≤2:=by
 unfold prB
 rw[List.length_map]
 exact List.length_filter_le _ _
theorem lw (bs:List Ce):∀ l:List Ce,(l.flatMap (prB bs)).length≤2 * l.length
 | []=>Nat.le_refl _
 | b::l=>by
  rw[List.flatMap_cons,List.length_append,List.length_cons]
  have:=lw bs l
  have:=lu bs b
  lia
theorem rc {bs:List Ce} (nd:bs.Nodup):(prA bs).Nodup:=by
 refine jm nd (fun b _=>?_) fun a _ b _ x h1 h2=>?_
 ·unfold prB
  refine lm (List.Pairwise.filter _ ?_) fun a _ b _ e=>by injection e
  simp
  lia
 ·unfold prB at h1 h2
  obtain⟨o,_,rfl⟩:=List.mem_map.mp h1
  obtain⟨o',_,e⟩:=List.mem_map.mp h2
  injection e with e1 e2
  exact e1.symm
theorem yS {bs:List Ce}{ps:List Ed}{b:Ce} (hl:ps.length≤1000):ip [some (cL bs),some (eL ps),some (iI b.1),some (iI b.2)]=some (.nx,[some (cL bs),some (eL (ps++prB bs b)),some (iI b.1),some (iI b.2)]):=by
 have c1:bf 1 [0,2,3] (bv (oV (bm (aa (oV (aI (aa (oSl 2) (aa (oV (ad vAdd (oSl 3) (oV (eC (.int 2))))) aNil)))) (aa (oV (aI (aa (oV (ad vAdd (oSl 2) (oV (eC (.int 2))))) (aa (oSl 3) aNil)))) aNil))))) (gN 0) G.pZ G.pY [some (cL bs),some (eL ps),some (iI b.1),some (iI b.2)]=some (eL (prB bs b),[some (cL bs),some (eL ps),some (iI b.1),some (iI b.2)]):=by
  refine (i8 (xs:=[(b.1,b.2+2),(b.1+2,b.2)].map cM) (o:=none) (D1:=[some (cL bs),some (eL ps),some (iI b.1),some (iI b.2)]) ?_ (dR _ (fun o=>decide (o∈bs)) (fun o=>eM (b,o)) [(b.1,b.2+2),(b.1+2,b.2)] [] (fun o ho=>?_) (by show 0+2≤100000;decide))).trans ?_
  ·rfl
  ·refine⟨[some (.im (cM o)),some (cL bs),some (iI b.1),some (iI b.2)],[some (.im (cM o)),some (cL bs),some (iI b.1),some (iI b.2)],rfl,?_,fun _=>rfl,fun _=>⟨_,rfl,rfl⟩⟩
   have hin:=jh bs o
   show (((inB (cM o) (cL bs)).map fun r=>Vl.im (.bl r)).map fun d=>(d,_)).bind (fun p=>(asB p.1).map fun b=>(b,p.2))=_
   rw[hin]
   rfl
  ·show some (Vl.lst _,_)=some (Vl.lst ((prB bs b).map eM),_)
   unfold prB
   rw[List.map_map]
   rfl
 have pl:=lu bs b
 have l3:(ps.map eM).length+((prB bs b).map eM).length≤100000:=by rw[List.length_map,List.length_map];lia
 have hm:mExtend (eL ps) [eL (prB bs b)]=some (.im .non,eL (ps++prB bs b)):=by
  show (if _ then _ else _)=_
  rw[if_pos l3,← List.map_append]
 unfold ip
 exact ex_ (mu_ rfl rfl (a_ (v_ c1) rfl) rfl rfl hm rfl)
theorem rf (bs:List Ce) (r:SD):isL (some (cL bs)::r) 0 (bs.map cM)=true:=by
 unfold isL
 simp
theorem rg {bs:List Ce}:∀ (todo:List Ce) (ps:List Ed) (o2 o3:Option Vl),ps.length+2 * todo.length≤1000→∃ p2 p3,dA 0 (bs.map cM) (gT 2 (bb (gN 2) (bb (gN 3) gNil'))) ip (todo.map cM) [some (cL bs),some (eL ps),o2,o3]=some (.nx,[some (cL bs),some (eL (ps++todo.flatMap (prB bs))),p2,p3])
 | [],ps,o2,o3,_=>⟨o2,o3,by
  rw[List.map_nil,dA]
  dsimp only
  rw[if_pos (rf bs _),List.flatMap_nil,List.append_nil]⟩
 | b::todo,ps,o2,o3,hl=>by
  rw[List.length_cons] at hl
  have pl:=lu bs b
  obtain⟨p2,p3,ih⟩:=rg todo (ps++prB bs b) (some (iI b.1)) (some (iI b.2)) (by rw[List.length_append];lia)
  refine⟨p2,p3,?_⟩
  rw[List.map_cons,dA]
  dsimp only
  rw[if_pos (rf bs _),show gT 2 (bb (gN 2) (bb (gN 3) gNil')) (.im (cM b)) [some (cL bs),some (eL ps),o2,o3]=some [some (cL bs),some (eL ps),some (iI b.1),some (iI b.2)] from rfl]
  show (ip _).bind _=_
  rw[yS (by lia),List.flatMap_cons,← List.append_assoc]
  exact ih
theorem yT {bs:List Ce} (B:BOk bs):∃ ps,gC [cL bs]=some (eL ps,[cL bs])∧ps.Perm (prA bs):=by
 have hl:=B.len
 have pl:=lw bs bs
 obtain⟨p2,p3,lp⟩:=rg (bs:=bs) bs [] none none (by simp;lia)
 rw[List.nil_append] at lp
 obtain⟨ps,pm,e⟩:=ra (D:=[some (cL bs),some (eL (prA bs)),p2,p3]) (i:=1) (rc B.nd) (by show (bs.flatMap (prB bs)).length≤1000;lia) rfl
 refine⟨ps,?_,pm⟩
 unfold gC p0
 exact cF [some (cL bs),some (eL (prA bs)),p2,p3] rfl ((aR (D1:=[some (cL bs),some (eL []),none,none]) rfl).trans ((aR (D1:=[some (cL bs),some (eL (prA bs)),p2,p3]) lp).trans (cN e))) rfl
noncomputable def pd (bs:List Ce) (p:Ce→Ce):List (List Im×Im):=bs.map fun b=>(kM b,cM (p b))
theorem rh:∀ (l acc:List (List Im×Im)),((acc++l).map (·.1)).Nodup→l.foldl (fun a p=>gj a p.1 p.2) acc=acc++l
 | [],acc,_=>by simp
 | p::l,acc,nd=>by
  have h:¬ (acc.any fun kv=>decide (kv.1=p.1))=true:=fun z=>by
   obtain⟨q,hq,e⟩:=List.any_eq_true.mp z
   have e:=of_decide_eq_true e
   rw[List.map_append,List.nodup_append] at nd
   exact nd.2.2 q.1 (List.mem_map_of_mem hq) p.1 (by simp) e
  rw[List.foldl_cons,show gj acc p.1 p.2=acc++[p] by unfold gj;rw[if_neg h],rh l (acc++[p]) (by rw[List.append_assoc];exact nd),List.append_assoc]
  rfl
theorem yU {bs:List Ce} (nd:bs.Nodup) (p:Ce→Ce):eB (pd bs p)=pd bs p:=by
 unfold eB
 rw[rh _ [] ?_,List.nil_append]
 unfold pd
 rw[List.nil_append,List.map_map]
 exact lm nd fun a _ b _ e=>lh e
theorem yV {bs:List Ce} (p:Ce→Ce) {c:Ce} (h:c∈bs):bC (pd bs p) (kM c)=some (cM (p c)):=by
 induction bs with
 | nil=>cases h
 | cons b bs ih=>
  unfold bC pd
  rw[List.map_cons,List.find?_cons]
  by_cases e:b=c
  ·subst e
   simp
  ·rw[show decide (((kM b,cM (p b)):List Im×Im).1=kM c)=false from decide_eq_false fun z=>e (lh z)]
   exact ih ((List.mem_cons.mp h).resolve_left fun z=>e z.symm)
theorem yW (bs:List Ce) (p:Ce→Ce):prs? (bs.map fun b=>.tup [cM b,cM (p b)])=some (pd bs p):=by
 unfold pd
 induction bs with
 | nil=>rfl
 | cons c r ih=>
  rw[List.map_cons,lg,prs?,ih]
  rfl
theorem yX (bs:List Ce) (p:Ce→Ce):((pd bs p).all fun q=>Im.keys 7 q.1)=true:=by
 unfold pd
 rw[List.all_map,List.all_eq_true]
 intro c _
 rfl
theorem rj {D D1:SD}{g:M Vl}{bs:List Ce}{p:Ce→Ce} (nd:bs.Nodup) (hl:bs.length≤1000) (h:g D=some (.lst (bs.map fun b=>.tup [cM b,cM (p b)]),D1)):ax vDict (aa (oV g) aNil) D=some (.dT (pd bs p),D1):=by
 have l:(pd bs p).length≤1000:=by unfold pd;rw[List.length_map];exact hl
 have o:=yX bs p
 have f:=yU nd p
 have r:=yW bs p
 simp -implicitDefEqProofs only[ax,aa,oV,h,i6,Option.bind_some,Option.map_some,ik,pD,i7,vDict,r,o,l,f,and_self,if_true]
inductive Kr (bs:List Ce):List Ed→(Ce→Ce)→Prop where
 | nil:Kr bs [] fun b=>b
 | add {ts:List Ed}{p:Ce→Ce}{e:Ed}:Kr bs ts p→IsE bs e→p e.1≠p e.2→Kr bs (ts++[e]) fun b=>if p b=p e.1 then p e.2 else p b
theorem Kr.edge {bs:List Ce}{ts:List Ed}{p:Ce→Ce} (k:Kr bs ts p):∀ e∈ts,IsE bs e:=by
 induction k with
 | nil=>intro e h;cases h
 | add k h1 h2 ih=>
  intro e h
  rcases List.mem_append.mp h with h | h
  ·exact ih e h
  ·rw[List.mem_singleton.mp h];exact h1
structure KI (bs:List Ce) (rs ts:List Ed) (p:Ce→Ce):Prop where
 kr:Kr bs ts p
 nd:(ts++rs).Nodup
 len:ts.length+rs.length≤80
 ed:∀ e∈rs,IsE bs e
 cov:∀ e,IsE bs e→e∈rs∨p e.1=p e.2
theorem KI.drop {bs:List Ce}{rs ts:List Ed}{p:Ce→Ce} (K:KI bs rs ts p) {j:Nat}{e:Ed} (hj:rs[j]?=some e) (he:p e.1=p e.2):KI bs (rs.eraseIdx j) ts p:=by
 obtain⟨hl,ej⟩:=List.getElem?_eq_some_iff.mp hj
 refine⟨K.kr,K.nd.sublist (List.Sublist.append_left (List.eraseIdx_sublist _ _) _),?_,fun x hx=>K.ed x (List.mem_of_mem_eraseIdx hx),fun x hx=>?_⟩
 ·have:=K.len
  rw[List.length_eraseIdx,if_pos hl]
  lia
 ·rcases K.cov x hx with h | h
  ·by_cases z:x=e
   ·rw[z];exact .inr he
   ·left
    rw[List.mem_eraseIdx_iff_getElem?]
    obtain⟨i,hi⟩:=List.mem_iff_getElem?.mp h
    exact⟨i,fun q=>z (by rw[q,hj] at hi;exact (Option.some.inj hi).symm),hi⟩
  ·exact .inr h
theorem rk {α:Type}:∀ {l:List α}{j:Nat} (h:j<l.length),(l[j]::l.eraseIdx j).Perm l
 | a::l,0,_=>List.Perm.refl _
 | a::l,j+1,h=>(List.Perm.swap _ _ _).trans (.cons a (rk (Nat.lt_of_succ_lt_succ h)))
theorem KI.take {bs:List Ce}{rs ts:List Ed}{p:Ce→Ce} (K:KI bs rs ts p) {j:Nat}{e:Ed} (hj:rs[j]?=some e) (he:p e.1≠p e.2):KI bs (rs.eraseIdx j) (ts++[e]) (fun b=>if p b=p e.1 then p e.2 else p b):=by
 obtain⟨hl,ej⟩:=List.getElem?_eq_some_iff.mp hj
 have hp:(e::rs.eraseIdx j).Perm rs:=by
  rw[← ej]
  exact rk hl
 refine⟨.add K.kr (K.ed e (List.mem_of_getElem? hj)) he,?_,?_,fun x hx=>K.ed x (List.mem_of_mem_eraseIdx hx),fun x hx=>?_⟩
 ·rw[List.append_assoc]
  exact (List.Perm.append_left ts hp).nodup_iff.mpr K.nd
 ·have:=K.len
  rw[List.length_eraseIdx,if_pos hl,List.length_append,List.length_singleton]
  lia
 ·by_cases z:x=e
  ·right
   subst z
   show (if p x.1=p x.1 then _ else _)=(if p x.2=p x.1 then _ else _)
   rw[if_pos rfl]
   split<;>rfl
  ·rcases K.cov x hx with h | h
   ·left
    rcases List.mem_cons.mp (hp.mem_iff.mpr h) with h | h
    ·exact absurd h z
    ·exact h
   ·right
    show (if p x.1=p e.1 then _ else _)=(if p x.2=p e.1 then _ else _)
    rw[h]
noncomputable abbrev trD (h:Vl) (bs:List Ce) (rs ts:List Ed) (p:Ce→Ce) (o5 o6 o7 o8:Option Vl):SD:=[some h,some (cL bs),some (eL rs),some (eL ts),some (.dT (pd bs p)),o5,o6,o7,o8]
theorem rm (a b:Ce):vNe (.im (cM a)) (.im (cM b))=some (.im (.bl (!decide (a=b)))):=by
 have h:=dD a b
 show (if Im.pl 8 (cM a)=true then some (Vl.im (.bl (!ap (cM a) (cM b)))) else none)=_
 rw[if_pos (fP a),h]
theorem yY (a b:Ce):vEq (.im (cM a)) (.im (cM b))=some (.im (.bl (decide (a=b)))):=by
 have h:=dD a b
 show (if Im.pl 8 (cM a)=true then some (Vl.im (.bl (ap (cM a) (cM b)))) else none)=_
 rw[if_pos (fP a),h]
theorem lx {bs:List Ce} (p:Ce→Ce) {c:Ce} (h:c∈bs):vIx (.dT (pd bs p)) (.im (cM c))=some (.im (cM (p c))):=by
 have g:=yV p h
 show (if Im.keys 7 (kM c)=true then (bC (pd bs p) (kM c)).map Vl.im else none)=_
 rw[if_pos (yu c),g]
 rfl
theorem le3 (bs:List Ed):vLen [eL bs]=some (iI (bs.length:Int)):=by
 show some (iI ((bs.map eM).length:Int))=_
 rw[List.length_map]
theorem yZ {h:Vl}{bs:List Ce}{rs ts:List Ed}{p:Ce→Ce}{o w:Ce}{o5 o6:Option Vl} (hl:bs.length≤1000):bf 1 [4,7,8] (bv (oSl 1)) (gN 0) kYes G.qc (trD h bs rs ts p o5 o6 (some (.im (cM o))) (some (.im (cM w))))=some (.lst (bs.map fun b=>.tup [cM b,cM (if p b=o then w else p b)]),trD h bs rs ts p o5 o6 (some (.im (cM o))) (some (.im (cM w)))):=by
 refine (i8 (xs:=bs.map cM) (o:=some (1,cL bs)) (D1:=[some h,some .jk,some (eL rs),some (eL ts),some (.dT (pd bs p)),o5,o6,some (.im (cM o)),some (.im (cM w))]) rfl (pK _ (fun b=>.tup [cM b,cM (if p b=o then w else p b)]) bs (fun b hb=>?_) (by lia))).trans rfl
 have x:=lx p hb
 have q:=yY (p b) o
 refine⟨[some (.im (cM b)),some (.dT (pd bs p)),some (.im (cM o)),some (.im (cM w))],_,[some (.im (cM b)),some (.dT (pd bs p)),some (.im (cM o)),some (.im (cM w))],rfl,rfl,?_,rfl⟩
 by_cases z:p b=o
 ·rw[if_pos z]
  rw[decide_eq_true z] at q
  exact tu_ (a_ rfl (a_ (v_ (xF (kb_ (b_ (v_ (b_ rfl rfl rfl rfl x)) rfl rfl rfl q)) rfl)) rfl)) rfl (Nat.le_of_ble_eq_true rfl) rfl
 ·rw[if_neg z]
  rw[decide_eq_false z] at q
  exact tu_ (a_ rfl (a_ (v_ (xG (kb_ (b_ (v_ (b_ rfl rfl rfl rfl x)) rfl rfl rfl q)) (b_ rfl rfl rfl rfl x))) rfl)) rfl (Nat.le_of_ble_eq_true rfl) rfl
theorem y4 {n:Nat}{h:Vl}{bs:List Ce}{rs ts:List Ed}{p:Ce→Ce}{o5 o6 o7 o8:Option Vl} (B:BOk bs) (H:LOk (n+1) h) (K:KI bs rs ts p) (hne:rs≠[]):
  ∃ h' rs' ts' p' q5 q6 q7 q8,jd (trD h bs rs ts p o5 o6 o7 o8)=some (.nx,trD h' bs rs' ts' p' q5 q6 q7 q8)∧LOk n h'∧KI bs rs' ts' p'∧rs'.length<rs.length:=by
 have hp:=List.length_pos_iff.mpr hne
 have kl:=K.len
 have bl:=B.len
 obtain⟨v,h1,e1,a1,a2,H1⟩:=dX (n:=n) (m:=(rs.length:Int)) H (by lia) (by lia)
 obtain⟨e,he⟩:∃ e,rs[v.toNat]?=some e:=⟨rs[v.toNat]'(by lia),by simp⟩
 obtain⟨q0,rfl⟩:=H.lst
 obtain⟨q1,rfl⟩:=H1.lst
 have ie:=K.ed e (List.mem_of_getElem? he)
 have s1:bO (cj dg 2 mPopAt (aa (oV (aq 2 G.bi (aa (oSl 0) (aa (oV (ax vLen (aa (oSl 2) aNil))) aNil)))) aNil)) (gT 2 (bb (gN 5) (bb (gN 6) gNil'))) (trD (.lst q0) bs rs ts p o5 o6 o7 o8)=some (.nx,trD (.lst q1) bs (rs.eraseIdx v.toNat) ts p (some (.im (cM e.1))) (some (.im (cM e.2))) o7 o8):=by
  have hg:(rs.map eM)[v.toNat]?=some (eM e):=by rw[List.getElem?_map,he];rfl
  have hr:(0≤v∧v<((rs.map eM).length:Int)):=⟨a1,by rw[List.length_map];exact a2⟩
  have hee:=qP eM rs v.toNat
  have hm:mPopAt (eL rs) [iI v]=some (.im (eM e),eL (rs.eraseIdx v.toNat)):=by
   show (if 0≤v∧v<((rs.map eM).length:Int) then _ else none)=_
   rw[if_pos hr,hg,hee]
   rfl
  exact as_ (mu_ rfl rfl (a_ (v_ (c_ (a_ rfl (a_ (v_ (cb_ rfl rfl (le3 rs))) rfl)) rfl rfl e1)) rfl) rfl rfl hm (by rfl)) (by rfl)
 have ls:(rs.eraseIdx v.toNat).length<rs.length:=by rw[List.length_eraseIdx,if_pos (by lia)];lia
 have x1:=lx p ie.1
 have x2:=lx p ie.2.1
 have qq:=rm (p e.1) (p e.2)
 obtain⟨D,hD⟩:∃ D:SD,D=trD (.lst q1) bs (rs.eraseIdx v.toNat) ts p (some (.im (cM e.1))) (some (.im (cM e.2))) o7 o8:=⟨_,rfl⟩
 have c1:kB (ad vNe (oV (ad vIx (oSl 4) (oSl 5))) (oV (ad vIx (oSl 4) (oSl 6)))) D=some (!decide (p e.1=p e.2),D):=by
  rw[hD]
  exact kb_ (b_ (v_ (b_ rfl rfl rfl rfl x1)) (v_ (b_ rfl rfl rfl rfl x2)) rfl rfl qq)
 rw[← hD] at s1
 unfold jd
 by_cases z:p e.1=p e.2
 ·rw[decide_eq_true z] at c1
  exact⟨.lst q1,_,ts,p,some (.im (cM e.1)),some (.im (cM e.2)),o7,o8,(aR s1).trans ((gs c1).trans (by rw[hD];rfl)),H1,K.drop he z,ls⟩
 ·rw[decide_eq_false z] at c1
  refine⟨.lst q1,_,ts++[e],_,some (.im (cM e.1)),some (.im (cM e.2)),some (.im (cM (p e.1))),some (.im (cM (p e.2))),(aR s1).trans ((gr c1).trans ((aR (D1:=trD (.lst q1) bs (rs.eraseIdx v.toNat) (ts++[e]) p (some (.im (cM e.1))) (some (.im (cM e.2))) o7 o8) ?_).trans ((aR (D1:=trD (.lst q1) bs (rs.eraseIdx v.toNat) (ts++[e]) p (some (.im (cM e.1))) (some (.im (cM e.2))) (some (.im (cM (p e.1)))) (some (.im (cM (p e.2))))) ?_).trans ?_))),H1,K.take he z,ls⟩
  ·have l2:ts.length<100000:=by lia
   rw[hD]
   have hm:mAppend (eL ts) [.im (eM e)]=some (.im .non,eL (ts++[e])):=by
    have:mAppend (eL ts) [.im (eM e)]=some (.im .non,.lst (ts.map eM++[eM e])):=ap_ (by rw[List.length_map];exact l2)
    rw[this]
    simp
   exact ex_ (mu_ rfl rfl rfl rfl rfl hm rfl)
  ·exact as_ (tu_ (a_ (v_ (b_ rfl rfl rfl rfl x1)) (a_ (v_ (b_ rfl rfl rfl rfl x2)) rfl)) rfl (Nat.le_of_ble_eq_true rfl) rfl) rfl
  ·refine (i9 (rj B.nd (by lia) (yZ (by lia))) (show 4<9 by decide)).trans rfl
theorem y6 {n:Nat}{h:Vl}{bs:List Ce} (B:BOk bs) (H:LOk (n+100) h):∃ (h':Vl) (T ts:List Ed) (p:Ce→Ce),gD [h,cL bs]=some (.im (.tup (T.map eM)),[h',cL bs])∧LOk n h'∧T.Perm ts∧Kr bs ts p∧∀ e,IsE bs e→p e.1=p e.2:=by
 have bl:=B.len
 have pl:=lw bs bs
 obtain⟨ps,e0,pm⟩:=yT B
 have K0:KI bs ps [] (fun b=>b):=⟨.nil,by rw[List.nil_append];exact pm.nodup_iff.mpr (rc B.nd),by
  have:ps.length=(bs.flatMap (prB bs)).length:=pm.length_eq
  rw[List.length_nil]
  lia,fun e he=>rb.mp (pm.mem_iff.mp he),fun e he=>.inl (pm.mem_iff.mpr (rb.mpr he))⟩
 obtain⟨q0,rfl⟩:=H.lst
 have s1:gW 2 3 (aa (oV (aq 1 G.gC (aa (oSl 1) aNil))) (aa (oV (bm aNil)) aNil)) [some (.lst q0),some (cL bs),none,none,none,none,none,none,none]=some (.nx,[some (.lst q0),some (cL bs),some (eL ps),some (eL []),none,none,none,none,none]):=by
  refine xH (a_ (v_ (c_ rfl rfl rfl e0)) rfl) rfl (show 2<9 by decide) (show 3<9 by decide) rfl
 have c1:bf 1 [] (bv (oSl 1)) (gN 0) kYes G.kX [some (.lst q0),some (cL bs),some (eL ps),some (eL []),none,none,none,none,none]=some (.lst (bs.map fun b=>.tup [cM b,cM b]),[some (.lst q0),some (cL bs),some (eL ps),some (eL []),none,none,none,none,none]):=by
  refine (i8 (xs:=bs.map cM) (o:=some (1,cL bs)) (D1:=[some (.lst q0),some .jk,some (eL ps),some (eL []),none,none,none,none,none]) rfl (pK _ (fun c=>.tup [cM c,cM c]) _ (fun c hc=>?_) (by lia))).trans rfl
  exact⟨[some (.im (cM c))],_,[some (.im (cM c))],rfl,rfl,rfl,rfl⟩
 have s2:aw 4 (ax vDict (aa (oV (bf 1 [] (bv (oSl 1)) (gN 0) kYes G.kX)) aNil)) [some (.lst q0),some (cL bs),some (eL ps),some (eL []),none,none,none,none,none]=some (.nx,trD (.lst q0) bs ps [] (fun b=>b) none none none none):=
  (i9 (rj (p:=fun b=>b) B.nd (by lia) c1) (show 4<9 by decide)).trans rfl
 obtain⟨D',lp,h',ts,p,q5,q6,q7,q8,rfl,H',K'⟩:=pI (c:=qd) (b:=jd) (fun m D=>∃ h rs ts p q5 q6 q7 q8,D=trD h bs rs ts p q5 q6 q7 q8∧LOk (n+rs.length) h∧KI bs rs ts p∧rs.length≤m) (fun D=>∃ h ts p q5 q6 q7 q8,D=trD h bs [] ts p q5 q6 q7 q8∧LOk n h∧KI bs [] ts p)
  (fun m D hI=>by
   obtain⟨h,rs,ts,p,q5,q6,q7,q8,rfl,HH,KK,hm⟩:=hI
   cases rs with
   | nil=>exact⟨false,_,rfl,(fun z=>by cases z),fun _=>⟨h,ts,p,q5,q6,q7,q8,rfl,HH,KK⟩⟩
   | cons r rs=>
    refine⟨true,trD h bs (r::rs) ts p q5 q6 q7 q8,?_,fun _=>?_,(fun z=>by cases z)⟩
    ·have hp:Im.pls 8 ((r::rs).map eM)=true:=by
      have:∀ l:List Ed,Im.pls 8 (l.map eM)=true:=fun l=>by
       induction l with
       | nil=>rfl
       | cons a l ih=>rw[List.map_cons,Im.pls,ih];rfl
      exact this _
     have hv:vNe (eL (r::rs)) (.lst [])=some (.im (.bl true)):=by
      have hn:bw ((r::rs).map eM) []=false:=rfl
      simp only[vNe,hp,hn]
      rfl
     show (((vNe (eL (r::rs)) (.lst [])).map fun d=>(d,trD h bs (r::rs) ts p q5 q6 q7 q8)).bind fun p=>(asB p.1).map fun b=>(b,p.2))=_
     rw[hv]
     rfl
    ·obtain⟨h',rs',ts',p',r5,r6,r7,r8,e,H',K',l⟩:=y4 (n:=n+rs.length) (o5:=q5) (o6:=q6) (o7:=q7) (o8:=q8) B HH KK (by simp)
     rw[List.length_cons] at l hm
     exact⟨.nx,_,e,.inl rfl,rs'.length,by lia,h',rs',ts',p',r5,r6,r7,r8,rfl,H'.mono (by lia),K',Nat.le_refl _⟩) 1000000 ps.length _ ⟨.lst q0,ps,[],_,none,none,none,none,rfl,H.mono (by have:=K0.len;simp at this;lia),K0,Nat.le_refl _⟩ (by have:=K0.len;simp at this;lia)
 have kn:=K'.nd
 have kl:=K'.len
 rw[List.append_nil] at kn
 rw[List.length_nil] at kl
 obtain⟨T,pmT,eT⟩:=ra (D:=trD h' bs [] ts p q5 q6 q7 q8) (i:=3) kn (by lia) rfl
 refine⟨h',T,ts,p,?_,H',pmT,K'.kr,fun e he=>(K'.cov e he).resolve_left (by simp)⟩
 obtain⟨q1,rfl⟩:=H'.lst
 unfold gD qe
 exact cF (trD (.lst q1) bs [] ts p q5 q6 q7 q8) rfl ((aR s1).trans ((aR s2).trans ((aR lp).trans (cN (lq eT))))) rfl
noncomputable def WK (ks:KS) (i j d0 d1 e0 e1:Int):Prop:=∃ a x y,kAt ks.kd ks.wa [.int i,.int j]=some a∧kTu ks.kt a 0=some (.fn x)∧kTu ks.kt a 1=some (.fn y)∧kTu ks.kt x 0=some (.int d0)∧kTu ks.kt x 1=some (.int d1)∧kTu ks.kt y 0=some (.int e0)∧kTu ks.kt y 1=some (.int e1)
structure KOk (ks:KS):Prop where
 w0:WK ks 0 0 (-1) 0 0 1
 w1:WK ks 0 1 0 1 1 0
 w2:WK ks 1 1 1 0 0 (-1)
 w3:WK ks 1 0 0 (-1) (-1) 0
theorem lz {ks:KS}{c:Ce}{x:Addr}{d0 d1 m:Int} (h0:kTu ks.kt x 0=some (.int d0)) (h1:kTu ks.kt x 1=some (.int d1)) (m0:0≤m) (m1:m<10):dB ks [.im (cM c),.im (.fn x),iI m]=some (.im (cM (c.1+d0 * m,c.2+d1 * m)),[.im (cM c),.im (.fn x),iI m]):=by
 have k0:bP d0 m=true:=fA (by lia) (by lia)
 have k1:bP d1 m=true:=fA (by lia) (by lia)
 have c0:aP ks.kt ks.kd (.im (cM c)) (iI 0)=some (iI c.1):=rfl
 have c1:aP ks.kt ks.kd (.im (cM c)) (iI 1)=some (iI c.2):=rfl
 have x0:aP ks.kt ks.kd (.im (.fn x)) (iI 0)=some (iI d0):=congrArg (Option.map Vl.im) h0
 have x1:aP ks.kt ks.kd (.im (.fn x)) (iI 1)=some (iI d1):=congrArg (Option.map Vl.im) h1
 unfold dB pQ
 exact cF [some (.im (cM c)),some (.im (.fn x)),some (iI m)] rfl (cN (tu_ (a_ (v_ (b_ (v_ (b_ rfl rfl rfl rfl c0)) (v_ (b_ (v_ (b_ rfl rfl rfl rfl x0)) rfl rfl rfl (c4 k0))) rfl rfl rfl)) (a_ (v_ (b_ (v_ (b_ rfl rfl rfl rfl c1)) (v_ (b_ (v_ (b_ rfl rfl rfl rfl x1)) rfl rfl rfl (c4 k1))) rfl rfl rfl)) rfl)) rfl (Nat.le_of_ble_eq_true rfl) rfl)) rfl
theorem y7 {fs:List Ce}{o c:Ce} (ho:fs[0]?=some o):gv [cT fs,.im (cM c)]=some (.im (cM (bl o c)),[cT fs,.im (cM c)]):=by
 have t:atI (fs.map cM) 0=some (cM o):=atC (by decide) (by simpa using ho)
 have a0:vIx (.im (cM c)) (iI 0)=some (iI c.1):=rfl
 have a1:vIx (.im (cM c)) (iI 1)=some (iI c.2):=rfl
 have b0:vIx (.im (cM o)) (iI 0)=some (iI o.1):=rfl
 have b1:vIx (.im (cM o)) (iI 1)=some (iI o.2):=rfl
 have t':vIx (cT fs) (iI 0)=some (.im (cM o)):=by
  show (atI (fs.map cM) 0).map Vl.im=_
  rw[t]
  rfl
 unfold gv pP
 exact cF [some (cT fs),some (.im (cM c))] rfl (cN (tu_ (a_ (v_ (b_ (v_ (b_ rfl rfl rfl rfl a0)) (v_ (b_ (v_ (b_ (v_ (b_ rfl rfl rfl rfl a0)) (v_ (b_ (v_ (b_ rfl rfl rfl rfl t')) rfl rfl rfl b0)) rfl rfl rfl)) rfl rfl rfl (dS (by decide)))) rfl rfl rfl)) (a_ (v_ (b_ (v_ (b_ rfl rfl rfl rfl a1)) (v_ (b_ (v_ (b_ (v_ (b_ rfl rfl rfl rfl a1)) (v_ (b_ (v_ (b_ rfl rfl rfl rfl t')) rfl rfl rfl b1)) rfl rfl rfl)) rfl rfl rfl (dS (by decide)))) rfl rfl rfl)) rfl)) rfl (Nat.le_of_ble_eq_true rfl) rfl)) rfl
theorem rn (e:Ed):Im.pl 8 (eM e)=true:=rfl
theorem rp:∀ ps:List Ed,Im.pls 8 (ps.map eM)=true
 | []=>rfl
 | p::r=>by rw[List.map_cons,Im.pls,rn,rp r];rfl
theorem rq (a b:Ed):ap (eM a) (eM b)=decide (a=b):=by
 show (ap (cM a.1) (cM b.1) && (ap (cM a.2) (cM b.2) && true))=_
 rw[dD,dD]
 obtain⟨a1,a2⟩:=a
 obtain⟨b1,b2⟩:=b
 by_cases h1:a1=b1<;>by_cases h2:a2=b2<;>simp[h1,h2]
theorem y8 (ps:List Ed) (e:Ed):inB (eM e) (.im (.tup (ps.map eM)))=some (decide (e∈ps)):=by
 rw[om,rn,rp,List.any_map]
 show (if (true && true)=true then _ else _)=_
 rw[if_pos (show (true && true)=true from rfl)]
 congr 1
 rw[Bool.eq_iff_iff,List.any_eq_true,decide_eq_true_iff]
 constructor
 ·rintro⟨x,hx,h⟩
  have:decide (x=e)=true:=by rw[← rq];exact h
  rw[← of_decide_eq_true this]
  exact hx
 ·intro h
  refine⟨e,h,?_⟩
  show ap (eM e) (eM e)=true
  rw[rq]
  exact decide_eq_true rfl
noncomputable def Les (T:List Ed):Prop:=∀ e∈T,e.1.1<e.2.1∨(e.1.1=e.2.1∧e.1.2<e.2.2)
theorem Les.of {bs:List Ce}{T:List Ed} (h:∀ e∈T,IsE bs e):Les T:=fun e he=>by
 have:=(h e he).2.2
 rcases this with h | h
 ·rw[h];exact .inr ⟨rfl,by show e.1.2<e.1.2+2;lia⟩
 ·rw[h];exact .inl (by show e.1.1<e.1.1+2;lia)
theorem y9 {T:List Ed} (hT:Les T) (a b:Ce):decide (eg a b∈T)=jn T a b:=by
 unfold jn
 rw[Bool.eq_iff_iff,decide_eq_true_iff,decide_eq_true_iff]
 by_cases h1:ltM (cM a) (cM b)=true
 ·have g1:=ltC.mp h1
  have h2:¬ ltM (cM b) (cM a)=true:=fun z=>by have:=ltC.mp z;lia
  have e:eg a b=(a,b):=by unfold eg;rw[if_pos h1,if_neg h2]
  rw[e]
  constructor
  ·exact .inl
  ·rintro (h | h)
   ·exact h
   ·have:=hT _ h
    simp only at this
    lia
 ·by_cases h2:ltM (cM b) (cM a)=true
  ·have g2:=ltC.mp h2
   have e:eg a b=(b,a):=by unfold eg;rw[if_neg h1,if_pos h2]
   rw[e]
   constructor
   ·exact .inr
   ·rintro (h | h)
    ·have:=hT _ h
     simp only at this
     lia
    ·exact h
  ·have g1:=fun z=>h1 (ltC.mpr z)
   have g2:=fun z=>h2 (ltC.mpr z)
   have e:a=b:=Prod.ext (by lia) (by lia)
   subst e
   have e:eg a a=(a,a):=by unfold eg;rw[if_neg h1]
   rw[e]
   exact⟨.inl,fun h=>h.elim id id⟩
theorem zc {ks:KS}{fs:List Ce}{T:List Ed}{c b o:Ce}{i j d0 d1 e0 e1:Int} (hW:WK ks i j d0 d1 e0 e1) (ho:fs[0]?=some o) (hb:bl o c=b) (h1:c.1 - b.1=i) (h2:c.2 - b.2=j) (hT:Les T):
  fC ks [cT fs,.im (.tup (T.map eM)),.im (cM c)]=some (.im (cM (if jn T b (b.1+d0 * 2,b.2+d1 * 2)=true then (c.1+d0 * 1,c.2+d1 * 1) else (c.1+e0 * 1,c.2+e1 * 1))),[cT fs,.im (.tup (T.map eM)),.im (cM c)]):=by
 obtain⟨a,x,y,w0,w1,w2,w3,w4,w5,w6⟩:=hW
 have eb:=y7 (c:=c) ho
 rw[hb] at eb
 have m1:=lz (c:=b) (m:=2) w3 w4 (by decide) (by decide)
 have m2:=lz (c:=c) (m:=1) w3 w4 (by decide) (by decide)
 have m3:=lz (c:=c) (m:=1) w5 w6 (by decide) (by decide)
 have a0:aP ks.kt ks.kd (.im (cM c)) (iI 0)=some (iI c.1):=rfl
 have a1:aP ks.kt ks.kd (.im (cM c)) (iI 1)=some (iI c.2):=rfl
 have b0:aP ks.kt ks.kd (.im (cM b)) (iI 0)=some (iI b.1):=rfl
 have b1:aP ks.kt ks.kd (.im (cM b)) (iI 1)=some (iI b.2):=rfl
 have ky:aP ks.kt ks.kd (.im (.fn ks.wa)) (.im (.tup [.int i,.int j]))=some (.im (.fn a)):=by
  show (if Im.keys 7 [.int i,.int j]=true then (kAt ks.kd ks.wa [.int i,.int j]).map fun d=>Vl.im (.fn d) else none)=_
  rw[if_pos (show Im.keys 7 [.int i,.int j]=true from rfl),w0]
  rfl
 have y0:aP ks.kt ks.kd (.im (.fn a)) (iI 0)=some (.im (.fn x)):=by
  show (kTu ks.kt a 0).map Vl.im=_
  rw[w1]
  rfl
 have y1:aP ks.kt ks.kd (.im (.fn a)) (iI 1)=some (.im (.fn y)):=by
  show (kTu ks.kt a 1).map Vl.im=_
  rw[w2]
  rfl
 have le:=yE b (b.1+d0 * 2,b.2+d1 * 2)
 have ie:=y8 T (eg b (b.1+d0 * 2,b.2+d1 * 2))
 rw[y9 hT] at ie
 have hin:vIn (.im (.tup (kE (eg b (b.1+d0 * 2,b.2+d1 * 2))))) (.im (.tup (T.map eM)))=some (.im (.bl (jn T b (b.1+d0 * 2,b.2+d1 * 2)))):=by
  show (inB (eM (eg b (b.1+d0 * 2,b.2+d1 * 2))) (.im (.tup (T.map eM)))).map (fun r=>Vl.im (.bl r))=_
  rw[ie]
  rfl
 unfold fC pR
 obtain⟨D,hD⟩:∃ D:SD,D=[some (cT fs),some (.im (.tup (T.map eM))),some (.im (cM c)),some (.im (cM b)),some (.im (.fn a))]:=⟨_,rfl⟩
 have s1:aw 3 (aq 2 G.gv (aa (oSl 0) (aa (oSl 2) aNil))) [some (cT fs),some (.im (.tup (T.map eM))),some (.im (cM c)),none,none]=some (.nx,[some (cT fs),some (.im (.tup (T.map eM))),some (.im (cM c)),some (.im (cM b)),none]):=by
  exact bG (c_ rfl rfl rfl eb) (show 3<5 by decide) rfl
 have s2:aw 4 (ad (aP ks.kt ks.kd) (oV (eC (.fn ks.wa))) (oV (aI (aa (oV (ad vSub (oV (ad (aP ks.kt ks.kd) (oSl 2) (oV (eC (.int 0))))) (oV (ad (aP ks.kt ks.kd) (oSl 3) (oV (eC (.int 0))))))) (aa (oV (ad vSub (oV (ad (aP ks.kt ks.kd) (oSl 2) (oV (eC (.int 1))))) (oV (ad (aP ks.kt ks.kd) (oSl 3) (oV (eC (.int 1))))))) aNil))))) [some (cT fs),some (.im (.tup (T.map eM))),some (.im (cM c)),some (.im (cM b)),none]=some (.nx,D):=by
  rw[hD]
  subst h1
  subst h2
  exact bG (b_ rfl (v_ (tu_ (a_ (v_ (b_ (v_ (b_ rfl rfl rfl rfl a0)) (v_ (b_ rfl rfl rfl rfl b0)) rfl rfl rfl)) (a_ (v_ (b_ (v_ (b_ rfl rfl rfl rfl a1)) (v_ (b_ rfl rfl rfl rfl b1)) rfl rfl rfl)) rfl)) rfl (Nat.le_of_ble_eq_true rfl) rfl)) rfl rfl ky) (show 4<5 by decide) rfl
 have k1:kB (ad vIn (oV (aq 2 G.gu (aa (oSl 3) (aa (oV (aq 3 (G.dB ks) (aa (oSl 3) (aa (oV (ad (aP ks.kt ks.kd) (oSl 4) (oV (eC (.int 0))))) (aa (oV (eC (.int 2))) aNil))))) aNil)))) (oSl 1)) D=some (jn T b (b.1+d0 * 2,b.2+d1 * 2),D):=by
  rw[hD]
  exact kb_ (b_ (v_ (c_ (a_ rfl (a_ (v_ (c_ (a_ rfl (a_ (v_ (b_ rfl rfl rfl rfl y0)) rfl)) rfl rfl m1)) rfl)) rfl rfl le)) rfl rfl rfl hin)
 have r1:aX (aq 3 (G.dB ks) (aa (oSl 2) (aa (oV (ad (aP ks.kt ks.kd) (oSl 4) (oV (eC (.int 0))))) (aa (oV (eC (.int 1))) aNil)))) D=some (.rt (.im (cM (c.1+d0 * 1,c.2+d1 * 1))),D):=by
  rw[hD]
  exact cN (d_ (a_ rfl (a_ (v_ (b_ rfl rfl rfl rfl y0)) rfl)) rfl rfl m2 rfl)
 have r2:aX (aq 3 (G.dB ks) (aa (oSl 2) (aa (oV (ad (aP ks.kt ks.kd) (oSl 4) (oV (eC (.int 1))))) (aa (oV (eC (.int 1))) aNil)))) D=some (.rt (.im (cM (c.1+e0 * 1,c.2+e1 * 1))),D):=by
  rw[hD]
  exact cN (d_ (a_ rfl (a_ (v_ (b_ rfl rfl rfl rfl y1)) rfl)) rfl rfl m3 rfl)
 refine cF D rfl ((aR s1).trans ((aR s2).trans ?_)) (by rw[hD];rfl)
 by_cases z:jn T b (b.1+d0 * 2,b.2+d1 * 2)=true
 ·rw[if_pos z]
  rw[z] at k1
  exact kR ((gr k1).trans r1)
 ·rw[if_neg z]
  rw[Bool.not_eq_true] at z
  rw[z] at k1
  exact (aR (gs k1)).trans r2
noncomputable def st (b:Ce):Nat→Ce
 | 0=>(b.1 - 1,b.2)
 | 1=>(b.1,b.2+1)
 | 2=>(b.1+1,b.2)
 | _=>(b.1,b.2 - 1)
theorem zd (T:List Ed) (b:Ce) {k:Nat} (hk:k<4):pc (nx T (b,k))=if jn T b (ot b k)=true then st (cl b k) k else cl b ((k+1) % 4):=by
 unfold nx
 dsimp only
 split
 ·match k,hk with
  | 0,_=>simp[pc,cl,ot,st];lia
  | 1,_=>simp[pc,cl,ot,st];lia
  | 2,_=>simp[pc,cl,ot,st];lia
  | 3,_=>simp[pc,cl,ot,st];lia
 ·rfl
theorem ze {ks:KS} (KO:KOk ks) {bs fs:List Ce}{T:List Ed}{b o:Ce}{k:Nat} (B:BOk bs) (ho:fs[0]?=some o) (hob:o∈bs) (hb:b∈bs) (hk:k<4) (hT:Les T):
  fC ks [cT fs,.im (.tup (T.map eM)),.im (cM (cl b k))]=some (.im (cM (pc (nx T (b,k)))),[cT fs,.im (.tup (T.map eM)),.im (cM (cl b k))]):=by
 have pr:=B.par b hb o hob
 have hbl:=(yH pr.1 pr.2 hk).1
 rw[zd T b hk]
 have fin:∀ {d0 d1 e0 e1:Int},WK ks ((cl b k).1 - b.1) ((cl b k).2 - b.2) d0 d1 e0 e1→(b.1+d0 * 2,b.2+d1 * 2)=ot b k→((cl b k).1+d0 * 1,(cl b k).2+d1 * 1)=st (cl b k) k→((cl b k).1+e0 * 1,(cl b k).2+e1 * 1)=cl b ((k+1) % 4)→
   fC ks [cT fs,.im (.tup (T.map eM)),.im (cM (cl b k))]=some (.im (cM (if jn T b (ot b k)=true then st (cl b k) k else cl b ((k+1) % 4))),[cT fs,.im (.tup (T.map eM)),.im (cM (cl b k))]):=fun w q1 q2 q3=>by
  rw[zc w ho hbl rfl rfl hT,q1,q2,q3]
 match k,hk with
 | 0,_=>
  refine fin (d0 := -1) (d1:=0) (e0:=0) (e1:=1) ?_ (Prod.ext ?_ ?_) (Prod.ext ?_ ?_) (Prod.ext ?_ ?_)
  ·rw[show (cl b 0).1 - b.1=0 by simp[cl],show (cl b 0).2 - b.2=0 by simp[cl]];exact KO.w0
  all_goals (simp[cl,ot,st];try lia)
 | 1,_=>
  refine fin (d0:=0) (d1:=1) (e0:=1) (e1:=0) ?_ (Prod.ext ?_ ?_) (Prod.ext ?_ ?_) (Prod.ext ?_ ?_)
  ·rw[show (cl b 1).1 - b.1=0 by simp[cl],show (cl b 1).2 - b.2=1 by simp[cl];lia];exact KO.w1
  all_goals (simp[cl,ot,st])
 | 2,_=>
  refine fin (d0:=1) (d1:=0) (e0:=0) (e1 := -1) ?_ (Prod.ext ?_ ?_) (Prod.ext ?_ ?_) (Prod.ext ?_ ?_)
  ·rw[show (cl b 2).1 - b.1=1 by simp[cl];lia,show (cl b 2).2 - b.2=1 by simp[cl];lia];exact KO.w2
  all_goals (simp[cl,ot,st];try lia)
 | 3,_=>
  refine fin (d0:=0) (d1 := -1) (e0 := -1) (e1:=0) ?_ (Prod.ext ?_ ?_) (Prod.ext ?_ ?_) (Prod.ext ?_ ?_)
  ·rw[show (cl b 3).1 - b.1=1 by simp[cl];lia,show (cl b 3).2 - b.2=0 by simp[cl]];exact KO.w3
  all_goals (simp[cl,ot,st];try lia)
theorem rz {α:Type}{p:α→Bool}{b:α}:∀ {l:List α},l.Nodup→b∈l→p b=true→(∀ a∈l,p a=true→a=b)→l.filter p=[b]
 | [],_,h,_,_=>by cases h
 | a::l,nd,h,hb,hu=>by
  obtain⟨n1,n2⟩:=List.nodup_cons.mp nd
  by_cases e:a=b
  ·subst e
   rw[List.filter_cons,if_pos hb]
   congr 1
   rw[List.filter_eq_nil_iff]
   intro x hx q
   have:=hu x (.tail _ hx) q
   subst this
   exact n1 hx
  ·rw[List.filter_cons,if_neg fun q=>e (hu a (.head _) q)]
   exact rz n2 ((List.mem_cons.mp h).resolve_left fun z=>e z.symm) hb fun x hx=>hu x (.tail _ hx)
theorem rA {bs fs:List Ce} (B:BOk bs) (pm:fs.Perm (cells bs)) (rs:fR fs):∃ o,fs[0]?=some o∧o∈bs:=by
 cases fs with
 | nil=>
  have h1:=pm.length_eq
  rw[gG] at h1
  have:=List.length_pos_iff.mpr B.ne
  simp at h1
  lia
 | cons o r=>
  refine⟨o,rfl,?_⟩
  obtain⟨b,hb,k,hk,e⟩:=qT.mp (pm.mem_iff.mp (.head _))
  have hb':b∈o::r:=pm.mem_iff.mpr (qT.mpr ⟨b,hb,0,by decide,rfl⟩)
  by_cases z:b=o
  ·rw[← z];exact hb
  ·have hr:b∈r:=(List.mem_cons.mp hb').resolve_left z
   unfold fR at rs
   rw[List.map_cons,List.pairwise_cons] at rs
   have lt:=ltC.mp (rs.1 _ (List.mem_map_of_mem hr))
   have f:=qR.mp (jl b hk)
   rw[← e] at f
   lia
theorem zf {fs:List Ce}:vNe (cL fs) (cL fs)=some (.im (.bl false)):=by
 have hp:=fQ fs
 have hn:bw (fs.map cM) (fs.map cM)=true:=by
  induction fs with
  | nil=>rfl
  | cons a r ih=>
   show (ap (cM a) (cM a) && bw (r.map cM) (r.map cM))=true
   rw[dD,ih (fQ r)]
   simp
 simp only[vNe,hp,hn]
 rfl
theorem leF (ns:List Int):vLen [.fz (ns.map .int)]=some (iI (ns.length:Int)):=by
 show some (iI ((ns.map Im.int).length:Int))=_
 rw[List.length_map]
end G
namespace G
section
variable {α:Type} [DecidableEq α]
theorem fS:∀ {l m:List α},l.Nodup→(∀ x∈l,x∈m)→l.length≤m.length
 | [],m,_,_=>Nat.zero_le _
 | x::l,m,nd,s=>by
  have hx:=s x (.head _)
  obtain⟨n1,n2⟩:=List.nodup_cons.mp nd
  have p:=List.perm_cons_erase hx
  have:=fS n2 (m:=m.erase x) fun y hy=>(List.mem_erase_of_ne (fun e=>n1 (by rw[← e];exact hy))).mpr (s y (.tail _ hy))
  have q:=p.length_eq
  rw[List.length_cons] at q ⊢
  lia
noncomputable def itr (f:α→α) (s:α):Nat→α
 | 0=>s
 | n+1=>f (itr f s n)
theorem jp (f:α→α) (s:α) (m:Nat):∀ n,itr f s (m+n)=itr f (itr f s m) n
 | 0=>rfl
 | n+1=>congrArg f (jp f s m n)
structure Pm (f:α→α) (X:List α):Prop where
 inn:∀ x∈X,f x∈X
 inj:∀ x∈X,∀ y∈X,f x=f y→x=y
variable {f g:α→α}{X:List α}
theorem Pm.itr (P:Pm f X) {x:α} (h:x∈X):∀ n,itr f x n∈X
 | 0=>h
 | n+1=>P.inn _ (P.itr h n)
theorem Pm.back (P:Pm f X) {x:α} (h:x∈X):∀ {i d:Nat},G.itr f x (i+d)=G.itr f x i→G.itr f x d=x
 | 0,d,e=>by rw[Nat.zero_add] at e;exact e
 | i+1,d,e=>by
  rw[show i+1+d=(i+d)+1 by lia] at e
  exact P.back h (P.inj _ (P.itr h _) _ (P.itr h _) e)
theorem rB (P:Pm f X) {x:α} (h:x∈X) (N:Nat):(∃ d,0<d∧d<N∧G.itr f x d=x)∨((List.range N).map (G.itr f x)).Nodup:=by
 by_cases z:∃ d,0<d∧d<N∧G.itr f x d=x
 ·exact .inl z
 ·right
  refine lm List.nodup_range fun i hi j hj e=>?_
  have hi:=List.mem_range.mp hi
  have hj:=List.mem_range.mp hj
  rcases Nat.lt_trichotomy i j with l | l | l
  ·exfalso
   refine z ⟨j - i,by lia,by lia,P.back h (i:=i) ?_⟩
   rw[show i+(j - i)=j by lia]
   exact e.symm
  ·exact l
  ·exfalso
   refine z ⟨i - j,by lia,by lia,P.back h (i:=j) ?_⟩
   rw[show j+(i - j)=i by lia]
   exact e
theorem rC (P:Pm f X) {x:α} (h:x∈X):∃ n,G.itr f x (n+1)=x:=by
 rcases rB P h (X.length+1) with ⟨d,h1,h2,e⟩ | nd
 ·exact⟨d - 1,by rw[show d - 1+1=d by lia];exact e⟩
 ·have:=fS nd (m:=X) fun y hy=>by
   obtain⟨i,_,rfl⟩:=List.mem_map.mp hy
   exact P.itr h i
  rw[List.length_map,List.length_range] at this
  lia
inductive Lk (f:α→α) (X:List α):α→α→Prop where
 | step {x:α}:x∈X→Lk f X x (f x)
 | refl {x:α}:Lk f X x x
 | symm {x y:α}:Lk f X x y→Lk f X y x
 | trans {x y z:α}:Lk f X x y→Lk f X y z→Lk f X x z
theorem Lk.orbit (P:Pm f X) {o:α} (ho:o∈X) {a b:α} (h:Lk f X a b):(∃ n,G.itr f o n=a)↔∃ n,G.itr f o n=b:=by
 induction h with
 | @step x hx=>
  constructor
  ·rintro⟨n,e⟩
   exact⟨n+1,congrArg f e⟩
  ·rintro⟨n,e⟩
   cases n with
   | succ k=>exact⟨k,P.inj _ (P.itr ho k) _ hx e⟩
   | zero=>
    obtain⟨m,em⟩:=rC P ho
    exact⟨m,P.inj _ (P.itr ho m) _ hx (em.trans e)⟩
 | refl=>exact Iff.rfl
 | symm _ ih=>exact ih.symm
 | trans _ _ i j=>exact i.trans j
theorem zg (P:Pm f X) {x y:α} (hx:x∈X) (hy:y∈X) (gx:g x=f y) (gy:g y=f x) (ge:∀ c∈X,c≠x→c≠y→g c=f c) (no:∀ n,G.itr f x n≠y):
  (∀ a b,Lk f X a b→Lk g X a b)∧Lk g X x y:=by
 have path:∀ n,Lk g X (f x) (G.itr f x (n+1))∨Lk g X (f x) x:=fun n=>by
  induction n with
  | zero=>exact .inl .refl
  | succ n ih=>
   rcases ih with h | h
   ·by_cases z:G.itr f x (n+1)=x
    ·rw[z] at h;exact .inr h
    ·left
     have s:Lk g X (G.itr f x (n+1)) (g (G.itr f x (n+1))):=.step (P.itr hx _)
     rw[ge _ (P.itr hx _) z (no _)] at s
     exact h.trans s
   ·exact .inr h
 have fx:Lk g X (f x) x:=by
  obtain⟨n,e⟩:=rC P hx
  rcases path n with h | h
  ·rw[e] at h;exact h
  ·exact h
 have yx:Lk g X y x:=by
  have s:Lk g X y (g y):=.step hy
  rw[gy] at s
  exact s.trans fx
 have xfy:Lk g X x (f y):=by
  have s:Lk g X x (g x):=.step hx
  rw[gx] at s
  exact s
 refine⟨fun a b h=>?_,yx.symm⟩
 induction h with
 | @step c hc=>
  by_cases c1:c=x
  ·rw[c1];exact fx.symm
  ·by_cases c2:c=y
   ·rw[c2];exact yx.trans xfy
   ·have s:Lk g X c (g c):=.step hc
    rw[ge c hc c1 c2] at s
    exact s
 | refl=>exact .refl
 | symm _ ih=>exact ih.symm
 | trans _ _ i j=>exact i.trans j
theorem zh (P:Pm f X) (nd:X.Nodup) {o:α} (ho:o∈X) (all:∀ x∈X,Lk f X o x):((List.range X.length).map (G.itr f o)).Perm X∧G.itr f o X.length=o:=by
 have reach:∀ x∈X,∃ n,G.itr f o n=x:=fun x hx=>((all x hx).orbit P ho).mp ⟨0,rfl⟩
 have no:¬ ∃ d,0<d∧d<X.length∧G.itr f o d=o:=by
  rintro⟨d,h1,h2,e⟩
  have mul:∀ q,G.itr f o (d * q)=o:=fun q=>by
   induction q with
   | zero=>rfl
   | succ q ih=>rw[Nat.mul_succ,Nat.add_comm,jp,e,ih]
  have:=fS nd (m:=(List.range d).map (G.itr f o)) fun x hx=>by
   obtain⟨n,rfl⟩:=reach x hx
   refine List.mem_map.mpr ⟨n % d,List.mem_range.mpr (Nat.mod_lt _ h1),?_⟩
   conv=>rhs;rw[← Nat.div_add_mod n d,jp,mul]
  rw[List.length_map,List.length_range] at this
  lia
 have n2:((List.range X.length).map (G.itr f o)).Nodup:=(rB P ho X.length).resolve_left no
 have pm:=qS n2 (m:=X) (fun y hy=>by
  obtain⟨i,_,rfl⟩:=List.mem_map.mp hy
  exact P.itr ho i) (by rw[List.length_map,List.length_range];exact Nat.le_refl _)
 refine⟨pm,?_⟩
 obtain⟨i,hi,e⟩:=List.mem_map.mp (pm.mem_iff.mpr (P.itr ho X.length))
 have hi:=List.mem_range.mp hi
 have b:=P.back ho (i:=i) (d:=X.length - i) (by rw[show i+(X.length - i)=X.length by lia];exact e.symm)
 by_cases z:i=0
 ·subst z
  rw[Nat.sub_zero] at b
  exact b
 ·exact absurd ⟨X.length - i,by lia,by lia,b⟩ no
end
noncomputable def sts (bs:List Ce):List (Ce×Nat):=bs.flatMap fun b=>[(b,0),(b,1),(b,2),(b,3)]
theorem aM {bs:List Ce}{s:Ce×Nat}:s∈sts bs↔s.1∈bs∧s.2<4:=by
 unfold sts
 rw[List.mem_flatMap]
 constructor
 ·rintro⟨b,hb,h⟩
  simp only[List.mem_cons,List.not_mem_nil,or_false] at h
  rcases h with h | h | h | h<;>subst h<;>exact⟨hb,by simp⟩
 ·rintro⟨h1,h2⟩
  refine⟨s.1,h1,?_⟩
  obtain⟨b,k⟩:=s
  simp only[List.mem_cons,List.not_mem_nil,or_false,Prod.mk.injEq,true_and]
  simp only at h2
  lia
theorem lD:∀ bs:List Ce,(sts bs).length=4 * bs.length
 | []=>rfl
 | b::bs=>by
  have:=lD bs
  unfold sts at *
  rw[List.flatMap_cons,List.length_append,this]
  simp
  lia
theorem jq {bs:List Ce} (nd:bs.Nodup):(sts bs).Nodup:=jm nd (fun b _=>by simp) fun a _ b _ x h1 h2=>by
 simp only[List.mem_cons,List.not_mem_nil,or_false] at h1 h2
 have e1:x.1=a:=by rcases h1 with h | h | h | h<;>rw[h]
 have e2:x.1=b:=by rcases h2 with h | h | h | h<;>rw[h]
 exact e1.symm.trans e2
theorem iw {bs:List Ce}{T:List Ed} (hT:∀ e∈T,IsE bs e):Pm (nx T) (sts bs) where
 inn:=fun s hs=>by
  have h:=aM.mp hs
  exact aM.mpr ⟨yJ hT h.1 s.2,yF T s⟩
 inj:=fun x hx y hy e=>by
  have h1:=(aM.mp hx).2
  have h2:=(aM.mp hy).2
  have p1:=lj T x.1 h1
  have p2:=lj T y.1 h2
  rw[show ((x.1,x.2):Ce×Nat)=x from rfl] at p1
  rw[show ((y.1,y.2):Ce×Nat)=y from rfl] at p2
  rw[← p1,e,p2]
theorem ix {b:Ce}{k j:Nat} (hk:k<4) (hj:j<4) (h:ot b k=ot b j):k=j:=by
 obtain⟨x,y⟩:=b
 match k,hk,j,hj with
 | 0,_,0,_=>rfl
 | 1,_,1,_=>rfl
 | 2,_,2,_=>rfl
 | 3,_,3,_=>rfl
 | 0,_,1,_ | 0,_,2,_ | 0,_,3,_ | 1,_,0,_ | 1,_,2,_ | 1,_,3,_ | 2,_,0,_ | 2,_,1,_ | 2,_,3,_ | 3,_,0,_ | 3,_,1,_ | 3,_,2,_=>
  simp only[ot,Prod.mk.injEq] at h
  lia
theorem lE (T:List Ed) (e:Ed) (a b:Ce):jn (T++[e]) a b=(jn T a b || decide ((a,b)=e∨(b,a)=e)):=by
 unfold jn
 rw[Bool.eq_iff_iff,Bool.or_eq_true,decide_eq_true_iff,decide_eq_true_iff,decide_eq_true_iff,List.mem_append,List.mem_append,List.mem_singleton,List.mem_singleton]
 constructor
 ·rintro ((h | h) | (h | h))
  ·exact .inl (.inl h)
  ·exact .inr (.inl h)
  ·exact .inl (.inr h)
  ·exact .inr (.inr h)
 ·rintro ((h | h) | (h | h))
  ·exact .inl (.inl h)
  ·exact .inr (.inl h)
  ·exact .inl (.inr h)
  ·exact .inr (.inr h)
structure KrI (bs:List Ce) (ts:List Ed) (p:Ce→Ce):Prop where
 stay:∀ s∈sts bs,p (nx ts s).1=p s.1
 link:∀ a∈sts bs,∀ b∈sts bs,p a.1=p b.1→Lk (nx ts) (sts bs) a b
 ed:∀ e∈ts,p e.1=p e.2
theorem rD {bs:List Ce}{ts:List Ed}{p:Ce→Ce} (k:Kr bs ts p):KrI bs ts p:=by
 induction k with
 | nil=>
  have n0:∀ b k,nx [] (b,k)=(b,(k+1) % 4):=fun b k=>by
   unfold nx jn
   simp
  refine⟨fun s _=>by rw[show s=(s.1,s.2) from rfl,n0],fun a ha b hb e=>?_,(fun _ h=>by cases h)⟩
  have e:a.1=b.1:=e
  obtain⟨x,i⟩:=a
  obtain⟨y,j⟩:=b
  have e:x=y:=e
  subst e
  have hx:=(aM.mp ha).1
  have st:∀ k,k<4→Lk (nx []) (sts bs) (x,k) (x,(k+1) % 4):=fun k hk=>by
   have:=Lk.step (f:=nx []) (X:=sts bs) (x:=(x,k)) (aM.mpr ⟨hx,hk⟩)
   rw[n0] at this
   exact this
  have z:∀ k,k<4→Lk (nx []) (sts bs) (x,0) (x,k):=fun k hk=>by
   match k,hk with
   | 0,_=>exact .refl
   | 1,_=>exact st 0 (by decide)
   | 2,_=>exact (st 0 (by decide)).trans (st 1 (by decide))
   | 3,_=>exact ((st 0 (by decide)).trans (st 1 (by decide))).trans (st 2 (by decide))
  exact (z i (aM.mp ha).2).symm.trans (z j (aM.mp hb).2)
 | @add ts p e k he hne ih=>
  obtain⟨b1,b2⟩:=e
  obtain⟨h1,h2,h3⟩:=he
  have h1:b1∈bs:=h1
  have h2:b2∈bs:=h2
  have hne:p b1≠p b2:=hne
  obtain⟨k1,k2,l1,l2,o1,o2,q1,q2⟩:∃ k1 k2,k1<4∧k2<4∧ot b1 k1=b2∧ot b2 k2=b1∧(k1+3) % 4=(k2+1) % 4∧(k2+3) % 4=(k1+1) % 4:=by
   rcases h3 with h | h
   ·have h:b2=(b1.1,b1.2+2):=h
    refine⟨1,3,by decide,by decide,h.symm,?_,by decide,by decide⟩
    rw[h]
    exact Prod.ext rfl (by show b1.2+2 - 2=b1.2;lia)
   ·have h:b2=(b1.1+2,b1.2):=h
    refine⟨2,0,by decide,by decide,h.symm,?_,by decide,by decide⟩
    rw[h]
    exact Prod.ext (by show b1.1+2 - 2=b1.1;lia) rfl
  have P:Pm (nx ts) (sts bs):=iw k.edge
  have hx:(b1,k1)∈sts bs:=aM.mpr ⟨h1,l1⟩
  have hy:(b2,k2)∈sts bs:=aM.mpr ⟨h2,l2⟩
  have nj:jn ts b1 b2=false:=by
   unfold jn
   refine decide_eq_false ?_
   rintro (h | h)
   ·exact hne (ih.ed _ h)
   ·exact hne (ih.ed _ h).symm
  have nj':jn ts b2 b1=false:=by rw[ji];exact nj
  have fx:nx ts (b1,k1)=(b1,(k1+1) % 4):=by unfold nx;dsimp only;rw[o1,nj];rfl
  have fy:nx ts (b2,k2)=(b2,(k2+1) % 4):=by unfold nx;dsimp only;rw[o2,nj'];rfl
  have gx:nx (ts++[(b1,b2)]) (b1,k1)=nx ts (b2,k2):=by
   rw[fy]
   unfold nx
   dsimp only
   rw[o1,lE,decide_eq_true (.inl rfl),Bool.or_true,if_pos rfl,q1]
  have gy:nx (ts++[(b1,b2)]) (b2,k2)=nx ts (b1,k1):=by
   rw[fx]
   unfold nx
   dsimp only
   rw[o2,lE,decide_eq_true (.inr rfl),Bool.or_true,if_pos rfl,q2]
  have ge:∀ c∈sts bs,c≠(b1,k1)→c≠(b2,k2)→nx (ts++[(b1,b2)]) c=nx ts c:=fun c hc n1 n2=>by
   obtain⟨b,k⟩:=c
   have hk:k<4:=(aM.mp hc).2
   unfold nx
   dsimp only
   rw[lE,decide_eq_false,Bool.or_false]
   rintro (h | h)
   ·injection h with e1 e2
    subst e1
    exact n1 (by rw[ix hk l1 (e2.trans o1.symm)])
   ·injection h with e1 e2
    subst e2
    exact n2 (by rw[ix hk l2 (e1.trans o2.symm)])
  have stay:∀ n,p (itr (nx ts) (b1,k1) n).1=p b1:=fun n=>by
   induction n with
   | zero=>rfl
   | succ n i=>exact (ih.stay _ (P.itr hx n)).trans i
  obtain⟨mon,xy⟩:=zg P hx hy gx gy ge fun n e=>hne (by rw[← stay n,e])
  have p1:(if p b1=p b1 then p b2 else p b1)=p b2:=if_pos rfl
  have p2:(if p b2=p b1 then p b2 else p b2)=p b2:=by split<;>rfl
  refine⟨fun s hs=>?_,fun a ha b hb q=>?_,fun e he=>?_⟩
  ·show (if p (nx (ts++[(b1,b2)]) s).1=p b1 then p b2 else p (nx (ts++[(b1,b2)]) s).1)=(if p s.1=p b1 then p b2 else p s.1)
   by_cases c1:s=(b1,k1)
   ·rw[c1,gx,fy]
    exact p2.trans p1.symm
   ·by_cases c2:s=(b2,k2)
    ·rw[c2,gy,fx]
     exact p1.trans p2.symm
    ·rw[ge s hs c1 c2,ih.stay s hs]
  ·have q:(if p a.1=p b1 then p b2 else p a.1)=(if p b.1=p b1 then p b2 else p b.1):=q
   by_cases z:p a.1=p b.1
   ·exact mon _ _ (ih.link a ha b hb z)
   ·by_cases ca:p a.1=p b1
    ·rw[if_pos ca,if_neg fun w=>z (ca.trans w.symm)] at q
     exact ((mon _ _ (ih.link a ha _ hx ca)).trans xy).trans (mon _ _ (ih.link _ hy b hb q))
    ·rw[if_neg ca] at q
     by_cases cb:p b.1=p b1
     ·rw[if_pos cb] at q
      exact ((mon _ _ (ih.link a ha _ hy q)).trans xy.symm).trans (mon _ _ (ih.link _ hx b hb cb.symm))
     ·rw[if_neg cb] at q
      exact absurd q z
  ·show (if p e.1=p b1 then p b2 else p e.1)=(if p e.2=p b1 then p b2 else p e.2)
   rcases List.mem_append.mp he with h | h
   ·rw[ih.ed e h]
   ·rw[List.mem_singleton.mp h]
    exact p1.trans p2.symm
theorem zi {T ts:List Ed} (h:T.Perm ts) (a b:Ce):jn T a b=jn ts a b:=by
 unfold jn
 rw[Bool.eq_iff_iff,decide_eq_true_iff,decide_eq_true_iff,h.mem_iff,h.mem_iff]
theorem zj {T ts:List Ed} (h:T.Perm ts):nx T=nx ts:=by
 funext s
 unfold nx
 rw[zi h]
theorem zk {bs:List Ce}:(sts bs).map pc=cells bs:=by
 unfold sts cells
 induction bs with
 | nil=>rfl
 | cons b bs ih=>rw[List.flatMap_cons,List.flatMap_cons,List.map_append,ih];rfl
end G
namespace G
open PySem L2
noncomputable def wk (T:List Ed) (o:Ce) (n:Nat):List Ce:=(List.range n).map fun i=>pc (itr (nx T) (o,0) i)
theorem jr (T:List Ed) (o:Ce) (n:Nat):(wk T o n).length=n:=by unfold wk;rw[List.length_map,List.length_range]
theorem lG (T:List Ed) (o:Ce) (n:Nat):wk T o (n+1)=wk T o n++[pc (itr (nx T) (o,0) n)]:=by
 unfold wk
 rw[List.range_succ,List.map_append]
 rfl
theorem rE (T:List Ed) (o:Ce) (n:Nat):atI ((wk T o (n+1)).map cM) (-1)=some (cM (pc (itr (nx T) (o,0) n))):=by
 refine pG ?_
 rw[lG]
 simp
theorem rF {ks:KS} (KO:KOk ks) {bs fs:List Ce}{T:List Ed}{o:Ce} (B:BOk bs) (ho:fs[0]?=some o) (hob:o∈bs) (hT:Les T) (hE:∀ e∈T,IsE bs e) (hl:fs.length=4 * bs.length):
  eH ks [cT fs,.im (.tup (T.map eM))]=some (cT (wk T o (4 * bs.length)),[cT fs,.im (.tup (T.map eM))]):=by
 have bl:=B.len
 have bp:=List.length_pos_iff.mpr B.ne
 have P:=iw hE
 have ho':(o,0)∈sts bs:=aM.mpr ⟨hob,by simp⟩
 obtain⟨tM,htM⟩:∃ tM:Im,tM=.tup (T.map eM):=⟨_,rfl⟩
 have t0:vIx (cT fs) (iI 0)=some (.im (cM o)):=by
  show (atI (fs.map cM) 0).map Vl.im=_
  rw[atC (by decide) (by simpa using ho)]
  rfl
 have s1:aw 2 (bm (aa (oV (ad vIx (oSl 0) (oV (eC (.int 0))))) aNil)) [some (cT fs),some (.im tM),none]=some (.nx,[some (cT fs),some (.im tM),some (cL (wk T o 1))]):=by
  exact bG (li_ (a_ (v_ (b_ rfl rfl rfl rfl t0)) rfl) rfl (Nat.le_of_ble_eq_true rfl) rfl) (show 2<3 by decide) rfl
 obtain⟨D',lp,rfl⟩:=pI (c:=qf ks) (b:=qg ks) (fun m D=>∃ n,D=[some (cT fs),some (.im tM),some (cL (wk T o (n+1)))]∧n+1+m=4 * bs.length) (fun D=>D=[some (cT fs),some (.im tM),some (cL (wk T o (4 * bs.length)))])
  (fun m D hI=>by
   obtain⟨n,rfl,hm⟩:=hI
   refine⟨decide (n+1<4 * bs.length),[some (cT fs),some (.im tM),some (cL (wk T o (n+1)))],?_,fun hd=>?_,fun hd=>?_⟩
   ·have l1:=jr T o (n+1)
    have e1:=le1 (wk T o (n+1))
    have e2:=le2 fs
    rw[l1] at e1
    rw[hl] at e2
    refine (kb_ (b_ (v_ (cb_ rfl rfl e1)) (v_ (cb_ rfl rfl e2)) rfl rfl rfl)).trans ?_
    rw[show decide (((n+1:Nat):Int)<((4 * bs.length:Nat):Int))=decide (n+1<4 * bs.length) by rw[Bool.eq_iff_iff,decide_eq_true_iff,decide_eq_true_iff];lia]
   ·have hd:=of_decide_eq_true hd
    have hs:=aM.mp (P.itr ho' n)
    have la:vIx (cL (wk T o (n+1))) (iI (-1))=some (.im (cM (cl (itr (nx T) (o,0) n).1 (itr (nx T) (o,0) n).2))):=by
     show (atI ((wk T o (n+1)).map cM) (-1)).map Vl.im=_
     rw[rE]
     rfl
    have re:=ze KO (T:=T) B ho hob hs.1 hs.2 hT
    rw[← htM] at re
    have l1:=jr T o (n+1)
    have l2:(wk T o (n+1)).length<100000:=by lia
    refine⟨.nx,[some (cT fs),some (.im tM),some (cL (wk T o (n+1+1)))],?_,.inl rfl,m - 1,by lia,n+1,rfl,by lia⟩
    have e2:(wk T o (n+1)).map cM++[cM (pc (nx T (itr (nx T) (o,0) n)))]=(wk T o (n+1+1)).map cM:=by
     rw[lG T o (n+1),List.map_append]
     rfl
    rw[show (((itr (nx T) (o,0) n).1,(itr (nx T) (o,0) n).2):Ce×Nat)=itr (nx T) (o,0) n from rfl] at re
    have hm:mAppend (cL (wk T o (n+1))) [.im (cM (pc (nx T (itr (nx T) (o,0) n))))]=some (.im .non,cL (wk T o (n+1+1))):=by
     rw[lG T o (n+1)]
     exact apC l2
    exact ex_ (mu_ rfl rfl (a_ (v_ (c_ (a_ rfl (a_ rfl (a_ (v_ (b_ rfl (v_ (ng_ rfl)) rfl rfl la)) rfl))) rfl rfl re)) rfl) rfl rfl hm (by rfl))
   ·have hd:=of_decide_eq_false hd
    rw[show n+1=4 * bs.length by lia]) 1000000 (4 * bs.length - 1) _ ⟨0,rfl,by lia⟩ (by lia)
 rw[← htM]
 unfold eH qh
 exact cF [some (cT fs),some (.im tM),some (cL (wk T o (4 * bs.length)))] rfl ((aR s1).trans ((aR lp).trans (cN rfl))) rfl
end G
namespace G
theorem zl {bs:List Ce} (nd:bs.Nodup) {ts:List Ed}{p:Ce→Ce} (k:Kr bs ts p):∃ vs:List Ce,vs.Nodup∧(∀ x,x∈vs↔∃ b∈bs,p b=x)∧vs.length+ts.length=bs.length:=by
 induction k with
 | nil=>exact⟨bs,nd,fun x=>⟨fun h=>⟨x,h,rfl⟩,fun ⟨b,hb,e⟩=>by rw[← e];exact hb⟩,rfl⟩
 | @add ts p e k he hne ih=>
  obtain⟨vs,n1,n2,n3⟩:=ih
  have m1:p e.1∈vs:=(n2 _).mpr ⟨e.1,he.1,rfl⟩
  refine⟨vs.erase (p e.1),n1.erase _,fun x=>?_,?_⟩
  ·rw[n1.mem_erase_iff,n2]
   constructor
   ·rintro⟨h1,b,hb,rfl⟩
    exact⟨b,hb,if_neg h1⟩
   ·rintro⟨b,hb,h⟩
    have h:(if p b=p e.1 then p e.2 else p b)=x:=h
    by_cases c:p b=p e.1
    ·rw[if_pos c] at h
     rw[← h]
     exact⟨fun z=>hne z.symm,e.2,he.2.1,rfl⟩
    ·rw[if_neg c] at h
     rw[← h]
     exact⟨c,b,hb,rfl⟩
  ·rw[List.length_erase_of_mem m1,List.length_append,List.length_singleton]
   have:=List.length_pos_of_mem m1
   lia
theorem zm {bs:List Ce} (B:BOk bs) {ts:List Ed}{p:Ce→Ce} (k:Kr bs ts p) (al:∀ e,IsE bs e→p e.1=p e.2):ts.length+1=bs.length:=by
 obtain⟨vs,n1,n2,n3⟩:=zl B.nd k
 have c:=B.con p fun a ha b hb h=>al (a,b) ⟨ha,hb,h⟩
 obtain⟨b,r,hb⟩:∃ b r,bs=b::r:=by
  cases hbs:bs with
  | nil=>exact absurd hbs B.ne
  | cons b r=>exact⟨b,r,rfl⟩
 have hb':b∈bs:=by rw[hb];exact .head _
 have:vs.length=1:=by
  have h1:p b∈vs:=(n2 _).mpr ⟨b,hb',rfl⟩
  have h2:=fS n1 (m:=[p b]) fun x hx=>by
   obtain⟨a,ha,rfl⟩:=(n2 x).mp hx
   rw[c a ha b hb']
   exact .head _
  have:=List.length_pos_of_mem h1
  simp at h2
  lia
 lia
theorem zn {bs:List Ce}{ts:List Ed}{p:Ce→Ce} (k:Kr bs ts p):ts.Nodup:=by
 induction k with
 | nil=>exact List.nodup_nil
 | @add ts p e k he hne ih=>exact List.nodup_append.mpr ⟨ih,List.pairwise_singleton _ _,fun x hx y hy z=>hne ((rD k).ed e (by rw[List.mem_singleton.mp hy] at z;rw[← z];exact hx))⟩
structure Tr (bs:List Ce) (T:List Ed):Prop where
 ne:bs≠[]
 nd:bs.Nodup
 len:bs.length≤40
 rng:∀ b∈bs,0≤b.1∧b.1≤29∧0≤b.2∧b.2≤29
 par:∀ a∈bs,∀ b∈bs,(a.1 - b.1) % 2=0∧(a.2 - b.2) % 2=0
 ed:∀ e∈T,IsE bs e
 tnd:T.Nodup
 cnt:T.length+1=bs.length
 one:∀ a∈sts bs,∀ b∈sts bs,Lk (nx T) (sts bs) a b
theorem zo {bs:List Ce}{T:List Ed} (hT:∀ e∈T,IsE bs e) {a b:Ce} (h:jn T a b=true):a∈bs∧b∈bs∧((b=(a.1,a.2+2)∨b=(a.1+2,a.2))∨(a=(b.1,b.2+2)∨a=(b.1+2,b.2))):=by
 rcases of_decide_eq_true h with h | h
 ·have:=hT _ h
  exact⟨this.1,this.2.1,.inl this.2.2⟩
 ·have:=hT _ h
  exact⟨this.2.1,this.1,.inr this.2.2⟩
theorem Tr.bok {bs:List Ce}{T:List Ed} (t:Tr bs T):BOk bs:=by
 refine⟨t.ne,t.nd,t.len,t.rng,t.par,fun p hp a ha b hb=>?_⟩
 have st:∀ s∈sts bs,p (nx T s).1=p s.1:=fun s hs=>by
  unfold nx
  split
  ·rename_i h
   obtain⟨h1,h2,h3⟩:=zo t.ed h
   rcases h3 with h3 | h3
   ·exact (hp _ h1 _ h2 h3).symm
   ·exact hp _ h2 _ h1 h3
  ·rfl
 have lk:∀ x y,Lk (nx T) (sts bs) x y→p x.1=p y.1:=fun x y h=>by
  induction h with
  | step hx=>exact (st _ hx).symm
  | refl=>rfl
  | symm _ ih=>exact ih.symm
  | trans _ _ i j=>exact i.trans j
 exact lk (a,0) (b,0) (t.one _ (aM.mpr ⟨ha,by simp⟩) _ (aM.mpr ⟨hb,by simp⟩))
theorem Tr.of {bs:List Ce}{T ts:List Ed}{p:Ce→Ce} (B:BOk bs) (pm:T.Perm ts) (tn:T.Nodup) (kr:Kr bs ts p) (al:∀ e,IsE bs e→p e.1=p e.2):Tr bs T:=by
 have c:=B.con p fun a ha b hb h=>al (a,b) ⟨ha,hb,h⟩
 refine⟨B.ne,B.nd,B.len,B.rng,B.par,fun e he=>kr.edge e (pm.mem_iff.mp he),tn,by rw[pm.length_eq];exact zm B kr al,fun a ha b hb=>?_⟩
 rw[zj pm]
 exact (rD kr).link a ha b hb (c _ (aM.mp ha).1 _ (aM.mp hb).1)
theorem Tr.ring {bs:List Ce}{T:List Ed} (t:Tr bs T) {o:Ce} (ho:o∈bs):((List.range (4 * bs.length)).map (itr (nx T) (o,0))).Perm (sts bs)∧itr (nx T) (o,0) (4 * bs.length)=(o,0):=by
 have ho':(o,0)∈sts bs:=aM.mpr ⟨ho,by simp⟩
 have:=zh (iw t.ed) (jq t.nd) ho' fun s hs=>t.one _ ho' s hs
 rw[lD] at this
 exact this
noncomputable def au (T:List Ed):List Ce:=T.flatMap fun e=>[e.1,e.2]
theorem lH:∀ T:List Ed,(au T).length=2 * T.length
 | []=>rfl
 | e::T=>by
  have:=lH T
  unfold au at *
  rw[List.flatMap_cons,List.length_append,this]
  simp
  lia
theorem zp {bs:List Ce}{T:List Ed} (hT:∀ e∈T,IsE bs e):∀ x∈au T,x∈bs:=fun x hx=>by
 obtain⟨e,he,h⟩:=List.mem_flatMap.mp hx
 have:=hT e he
 simp only[List.mem_cons,List.not_mem_nil,or_false] at h
 rcases h with rfl | rfl
 ·exact this.1
 ·exact this.2.1
theorem rG {bs:List Ce} (nd:bs.Nodup):∀ l:List Ce,(∀ x∈l,x∈bs)→(bs.map fun b=>l.count b).sum=l.length
 | [],_=>by
  have:(bs.map fun b=>([]:List Ce).count b)=bs.map fun _=>0:=List.map_congr_left fun b _=>rfl
  rw[this]
  have z:∀ r:List Ce,(r.map fun _=>0).sum=0:=fun r=>by
   induction r with
   | nil=>rfl
   | cons b r ih=>rw[List.map_cons,List.sum_cons,ih]
  exact z bs
 | x::l,h=>by
  have ih:=rG nd l fun y hy=>h y (.tail _ hy)
  have hx:=h x (.head _)
  have key:∀ (bs:List Ce),bs.Nodup→x∈bs→(bs.map fun b=>(x::l).count b).sum=(bs.map fun b=>l.count b).sum+1:=by
   intro bs
   induction bs with
   | nil=>intro _ h;cases h
   | cons b r i=>
    intro nd hx
    obtain⟨n1,n2⟩:=List.nodup_cons.mp nd
    rw[List.map_cons,List.map_cons,List.sum_cons,List.sum_cons,List.count_cons]
    by_cases c:x=b
    ·subst c
     have:(r.map fun b=>(x::l).count b)=r.map fun b=>l.count b:=List.map_congr_left fun y hy=>by
      rw[List.count_cons,if_neg (by simp;intro z;rw[z] at n1;exact n1 hy)]
      rfl
     rw[this]
     simp
     lia
    ·rw[i n2 ((List.mem_cons.mp hx).resolve_left c)]
     simp[c]
     lia
  rw[key bs nd hx,ih,List.length_cons]
theorem Tr.leaf {bs:List Ce}{T:List Ed} (t:Tr bs T) (h2:2≤bs.length):∃ v∈bs,(au T).count v=1:=by
 by_cases z:∃ v∈bs,(au T).count v=1
 ·exact z
 exfalso
 have two:∀ b∈bs,2≤(au T).count b:=fun b hb=>by
  have n1:(au T).count b≠1:=fun e=>z ⟨b,hb,e⟩
  have n0:(au T).count b≠0:=fun e=>by
   have hno:∀ x,jn T b x=false:=fun x=>by
    cases q:jn T b x with
    | false=>rfl
    | true=>
     exfalso
     have:b∈au T:=by
      rcases of_decide_eq_true q with h | h
      ·exact List.mem_flatMap.mpr ⟨_,h,by simp⟩
      ·exact List.mem_flatMap.mpr ⟨_,h,by simp⟩
     exact List.count_eq_zero.mp e this
   have lk:∀ x y,Lk (nx T) (sts bs) x y→(x.1=b↔y.1=b):=fun x y h=>by
    induction h with
    | @step x hx=>
     unfold nx
     split
     ·rename_i q
      constructor
      ·intro w
       rw[w,hno] at q
       cases q
      ·intro w
       have w:ot x.1 x.2=b:=w
       rw[w,ji,hno] at q
       cases q
     ·exact Iff.rfl
    | refl=>exact Iff.rfl
    | symm _ ih=>exact ih.symm
    | trans _ _ i j=>exact i.trans j
   obtain⟨c,hc,hcb⟩:∃ c∈bs,c≠b:=by
    by_cases w:∃ c∈bs,c≠b
    ·exact w
    ·exfalso
     have:=fS t.nd (m:=[b]) fun x hx=>by
      by_cases e:x=b
      ·rw[e];exact .head _
      ·exact absurd ⟨x,hx,e⟩ w
     simp at this
     lia
   exact hcb ((lk (b,0) (c,0) (t.one _ (aM.mpr ⟨hb,by simp⟩) _ (aM.mpr ⟨hc,by simp⟩))).mp rfl)
  lia
 have s:=rG t.nd (au T) (zp t.ed)
 rw[lH] at s
 have le:∀ l:List Ce,(∀ b∈l,2≤(au T).count b)→2 * l.length≤(l.map fun b=>(au T).count b).sum:=fun l h=>by
  induction l with
  | nil=>exact Nat.le_refl _
  | cons b r ih=>
   rw[List.map_cons,List.sum_cons,List.length_cons]
   have:=ih fun x hx=>h x (.tail _ hx)
   have:=h b (.head _)
   lia
 have:=le bs two
 have:=t.cnt
 lia
end G
namespace G
section
variable {α:Type} [DecidableEq α]
noncomputable def Pt (f:α→α):α→List α→α→Prop
 | a,[],b=>a=b
 | a,x::l,b=>a=x∧Pt f (f x) l b
variable {f g:α→α}
theorem Pt.app:∀ {l1 l2:List α}{a b:α},Pt f a (l1++l2) b→∃ c,Pt f a l1 c∧Pt f c l2 b
 | [],l2,a,b,h=>⟨a,rfl,h⟩
 | x::l1,l2,a,b,h=>by
  obtain⟨h1,h2⟩:=h
  obtain⟨c,c1,c2⟩:=Pt.app h2
  exact⟨c,⟨h1,c1⟩,c2⟩
theorem Pt.glue:∀ {l1 l2:List α}{a b c:α},Pt f a l1 c→Pt f c l2 b→Pt f a (l1++l2) b
 | [],l2,a,b,c,h1,h2=>by cases (show a=c from h1);exact h2
 | x::l1,l2,a,b,c,h1,h2=>⟨h1.1,Pt.glue h1.2 h2⟩
theorem Pt.turn {l1 l2:List α}{a:α} (h:Pt f a (l1++l2) a):∃ c,Pt f c (l2++l1) c:=by
 obtain⟨c,c1,c2⟩:=Pt.app h
 exact⟨c,Pt.glue c2 c1⟩
theorem js (f:α→α) (a:α) (n:Nat):itr f a (n+1)=itr f (f a) n:=by
 rw[Nat.add_comm,jp]
 rfl
theorem Pt.is:∀ {l:List α}{a b:α},Pt f a l b→l=(List.range l.length).map (itr f a)∧itr f a l.length=b
 | [],a,b,h=>⟨rfl,h⟩
 | x::l,a,b,h=>by
  obtain⟨rfl,h2⟩:=h
  obtain⟨e1,e2⟩:=Pt.is h2
  refine⟨?_,by rw[List.length_cons,js];exact e2⟩
  rw[List.length_cons,List.range_succ_eq_map,List.map_cons,List.map_map]
  show a::l=itr f a 0::_
  congr 1
  conv=>lhs;rw[e1]
  exact List.map_congr_left fun i _=>(js f a i).symm
theorem Pt.of (f:α→α):∀ (n:Nat) (a:α),Pt f a ((List.range n).map (itr f a)) (itr f a n)
 | 0,a=>rfl
 | n+1,a=>by
  rw[List.range_succ_eq_map,List.map_cons,List.map_map]
  refine⟨rfl,?_⟩
  have:=Pt.of f n (f a)
  rw[← js] at this
  have e:(List.range n).map (itr f a ∘ Nat.succ)=(List.range n).map (itr f (f a)):=List.map_congr_left fun i _=>js f a i
  rw[e]
  exact this
theorem Pt.filter {p:α→Bool}{π:α→α}:∀ {l:List α}{a b:α},(∀ x∈l,p x=true→π x=x∧g x=π (f x))→(∀ x∈l,p x=false→π x=π (f x))→Pt f a l b→Pt g (π a) (l.filter p) (π b)
 | [],a,b,_,_,h=>congrArg π h
 | x::l,a,b,h1,h2,h=>by
  obtain⟨rfl,h⟩:=h
  have ih:=Pt.filter (fun y hy=>h1 y (.tail _ hy)) (fun y hy=>h2 y (.tail _ hy)) h
  rw[List.filter_cons]
  cases c:p a with
  | true=>
   obtain⟨e1,e2⟩:=h1 a (.head _) c
   rw[if_pos rfl,e1]
   refine⟨rfl,?_⟩
   rw[e2]
   exact ih
  | false=>
   rw[if_neg Bool.false_ne_true,h2 a (.head _) c]
   exact ih
end
noncomputable def tch (v:Ce) (e:Ed):Bool:=decide (e.1=v∨e.2=v)
theorem zq {T:List Ed}{v:Ce} (h:∀ e∈T,e.1≠e.2):(au T).count v=T.countP (tch v):=by
 induction T with
 | nil=>rfl
 | cons e T ih=>
  have hne:=h e (.head _)
  have i:=ih fun x hx=>h x (.tail _ hx)
  unfold au at i ⊢
  rw[List.flatMap_cons,List.count_append,i,List.countP_cons]
  have:List.count v [e.1,e.2]=if tch v e=true then 1 else 0:=by
   unfold tch
   by_cases c1:e.1=v
   ·have c2:¬ e.2=v:=fun z=>hne (c1.trans z.symm)
    simp[List.count_cons,c1,c2]
   ·by_cases c2:e.2=v
    ·simp[List.count_cons,c1,c2]
    ·simp[List.count_cons,c1,c2]
  rw[this]
  lia
structure Lf (bs:List Ce) (T:List Ed) (v u:Ce) (k:Nat):Prop where
 hu:u∈bs
 ne:u≠v
 k4:k<4
 ot:ot v k=u
 back:G.ot u ((k+2) % 4)=v
 jn:jn T v u=true
 only:∀ x,G.jn T v x=true→x=u
 few:(T.filter fun e=>!tch v e).length+1=T.length
theorem Tr.lf {bs:List Ce}{T:List Ed} (t:Tr bs T) {v:Ce} (hc:(au T).count v=1):∃ u k,Lf bs T v u k:=by
 have ne:∀ e∈T,e.1≠e.2:=fun e he z=>by
  have:=(t.ed e he).2.2
  rw[← z] at this
  rcases this with h | h
  ·have:=congrArg Prod.snd h
   simp only at this
   lia
  ·have:=congrArg Prod.fst h
   simp only at this
   lia
 rw[zq ne,List.countP_eq_length_filter] at hc
 obtain⟨e0,he0⟩:=List.length_eq_one_iff.mp hc
 have m0:e0∈T∧tch v e0=true:=List.mem_filter.mp (by rw[he0];exact .head _)
 have un:∀ e∈T,tch v e=true→e=e0:=fun e he h=>by
  have:e∈T.filter (tch v):=List.mem_filter.mpr ⟨he,h⟩
  rw[he0] at this
  exact List.mem_singleton.mp this
 have few:(T.filter fun e=>!tch v e).length+1=T.length:=by
  have:=List.length_eq_countP_add_countP (p:=tch v) (l:=T)
  rw[List.countP_eq_length_filter,List.countP_eq_length_filter,he0] at this
  simp at this
  have e:(T.filter fun e=>!tch v e)=T.filter fun e=>decide (tch v e=false):=by congr 1;funext e;cases tch v e<;>rfl
  rw[e]
  lia
 have ie:=t.ed e0 m0.1
 have n0:=ne e0 m0.1
 obtain⟨a,b⟩:=e0
 have tv:a=v∨b=v:=of_decide_eq_true m0.2
 have only:∀ x,jn T v x=true→(v,x)=(a,b)∨(x,v)=(a,b):=fun x h=>by
  rcases of_decide_eq_true h with h | h
  ·exact .inl (un _ h (decide_eq_true (.inl rfl)))
  ·exact .inr (un _ h (decide_eq_true (.inr rfl)))
 rcases tv with rfl | rfl
 ·refine⟨b,?_⟩
  have on:∀ x,jn T a x=true→x=b:=fun x h=>by
   rcases only x h with e | e
   ·injection e
   ·injection e with e1 e2
    exact absurd e2 n0
  have jj:jn T a b=true:=decide_eq_true (.inl m0.1)
  rcases ie.2.2 with h | h
  ·have h:b=(a.1,a.2+2):=h
   exact⟨1,ie.2.1,fun z=>n0 z.symm,by decide,h.symm,by rw[h];exact Prod.ext rfl (by simp[ot]),jj,on,few⟩
  ·have h:b=(a.1+2,a.2):=h
   exact⟨2,ie.2.1,fun z=>n0 z.symm,by decide,h.symm,by rw[h];exact Prod.ext (by simp[ot]) rfl,jj,on,few⟩
 ·refine⟨a,?_⟩
  have on:∀ x,jn T b x=true→x=a:=fun x h=>by
   rcases only x h with e | e
   ·injection e with e1 e2
    exact absurd e1.symm n0
   ·injection e
  have jj:jn T b a=true:=decide_eq_true (.inr m0.1)
  rcases ie.2.2 with h | h
  ·have h:b=(a.1,a.2+2):=h
   exact⟨3,ie.1,n0,by decide,by rw[h];exact Prod.ext rfl (by simp[ot]),h.symm,jj,on,few⟩
  ·have h:b=(a.1+2,a.2):=h
   exact⟨0,ie.1,n0,by decide,by rw[h];exact Prod.ext (by simp[ot]) rfl,h.symm,jj,on,few⟩
noncomputable abbrev bY (T:List Ed) (v:Ce):List Ed:=T.filter fun e=>!tch v e
noncomputable abbrev aV (bs:List Ce) (v:Ce):List Ce:=bs.filter fun b=>decide (b≠v)
theorem zr {T:List Ed}{v a b:Ce} (ha:a≠v) (hb:b≠v):jn (bY T v) a b=jn T a b:=by
 unfold jn
 rw[Bool.eq_iff_iff,decide_eq_true_iff,decide_eq_true_iff,List.mem_filter,List.mem_filter]
 have e1:(!tch v (a,b))=true:=by unfold tch;simp[ha,hb]
 have e2:(!tch v (b,a))=true:=by unfold tch;simp[ha,hb]
 rw[e1,e2]
 simp
theorem zt {T:List Ed}{v a:Ce}:jn (bY T v) a v=false:=by
 unfold jn
 refine decide_eq_false ?_
 rintro (h | h)
 ·have:=(List.mem_filter.mp h).2
  unfold tch at this
  simp at this
 ·have:=(List.mem_filter.mp h).2
  unfold tch at this
  simp at this
noncomputable def skp (v u:Ce) (k:Nat) (s:Ce×Nat):Ce×Nat:=if s.1=v then (u,(k+3) % 4) else s
section
variable {bs:List Ce}{T:List Ed}{v u:Ce}{k:Nat}
theorem Lf.at_leaf (l:Lf bs T v u k) {j:Nat} (hj:j<4):nx T (v,j)=if j=k then (u,(k+3) % 4) else (v,(j+1) % 4):=by
 by_cases c:j=k
 ·subst c
  rw[if_pos rfl]
  unfold nx
  dsimp only
  rw[l.ot,if_pos l.jn]
 ·rw[if_neg c]
  unfold nx
  dsimp only
  rw[if_neg]
  intro h
  have:=l.only _ h
  rw[← l.ot] at this
  exact c (ix hj l.k4 this)
theorem Lf.skip (l:Lf bs T v u k) {s:Ce×Nat} (h1:s.1=v) (h2:s.2<4):skp v u k s=skp v u k (nx T s):=by
 obtain⟨b,j⟩:=s
 have h1:b=v:=h1
 subst h1
 rw[l.at_leaf h2]
 unfold skp
 rw[if_pos rfl]
 split
 ·rw[if_neg l.ne]
 ·rfl
theorem Lf.keep (l:Lf bs T v u k) {s:Ce×Nat} (h1:s.1≠v) (h2:s.2<4):skp v u k s=s∧nx (bY T v) s=skp v u k (nx T s):=by
 obtain⟨b,j⟩:=s
 have h1:b≠v:=h1
 have h2:j<4:=h2
 refine⟨if_neg h1,?_⟩
 unfold nx
 dsimp only
 by_cases c:G.ot b j=v
 ·rw[c,zt,if_neg Bool.false_ne_true]
  by_cases q:G.jn T b v=true
  ·rw[if_pos q]
   rw[ji] at q
   have e:=l.only b q
   subst e
   have ej:j=(k+2) % 4:=ix h2 (Nat.mod_lt _ (by decide)) (c.trans l.back.symm)
   unfold skp
   rw[if_pos rfl,ej]
   exact Prod.ext rfl (by show ((k+2) % 4+1) % 4=(k+3) % 4;lia)
  ·rw[if_neg q]
   exact (if_neg h1).symm
 ·rw[zr h1 c]
  split
  ·exact (if_neg c).symm
  ·exact (if_neg h1).symm
theorem Tr.cut (t:Tr bs T) (hv:v∈bs) (h2:2≤bs.length) (l:Lf bs T v u k):Tr (aV bs v) (bY T v):=by
 have mm:∀ b,b∈aV bs v↔b∈bs∧b≠v:=fun b=>by rw[List.mem_filter,decide_eq_true_iff]
 have len:(aV bs v).length+1=bs.length:=by
  have e:aV bs v=bs.erase v:=by
   rw[t.nd.erase_eq_filter]
   exact List.filter_congr fun b _=>by rw[Bool.eq_iff_iff,decide_eq_true_iff,bne_iff_ne]
  rw[e,List.length_erase_of_mem hv]
  lia
 have sm:∀ s,s∈sts (aV bs v)↔s∈sts bs∧s.1≠v:=fun s=>by
  rw[aM,aM,mm]
  exact⟨fun h=>⟨⟨h.1.1,h.2⟩,h.1.2⟩,fun h=>⟨⟨h.1.1,h.2⟩,h.1.2⟩⟩
 refine⟨fun z=>?_,t.nd.filter _,by have:=t.len;lia,fun b hb=>t.rng b ((mm b).mp hb).1,fun a ha b hb=>t.par a ((mm a).mp ha).1 b ((mm b).mp hb).1,fun e he=>?_,t.tnd.filter _,?_,fun a ha b hb=>?_⟩
 ·rw[z] at len
  simp at len
  lia
 ·obtain⟨e1,e2⟩:=List.mem_filter.mp he
  have:=t.ed e e1
  unfold tch at e2
  simp at e2
  exact⟨(mm _).mpr ⟨this.1,e2.1⟩,(mm _).mpr ⟨this.2.1,e2.2⟩,this.2.2⟩
 ·have:=l.few
  have:=t.cnt
  lia
 ·have key:∀ x y,Lk (nx T) (sts bs) x y→Lk (nx (bY T v)) (sts (aV bs v)) (skp v u k x) (skp v u k y):=fun x y h=>by
   induction h with
   | @step x hx=>
    have h4:=(aM.mp hx).2
    by_cases c:x.1=v
    ·rw[l.skip c h4]
     exact .refl
    ·obtain⟨e1,e2⟩:=l.keep c h4
     rw[e1,← e2]
     exact .step ((sm x).mpr ⟨hx,c⟩)
   | refl=>exact .refl
   | symm _ ih=>exact ih.symm
   | trans _ _ i j=>exact i.trans j
  have a':=(sm a).mp ha
  have b':=(sm b).mp hb
  have:=key a b (t.one a a'.1 b b'.1)
  rw[(l.keep a'.2 (aM.mp a'.1).2).1,(l.keep b'.2 (aM.mp b'.1).2).1] at this
  exact this
end
end G
namespace G
section
variable {bs:List Ce}{T:List Ed}{v u o o':Ce}{k:Nat}
theorem zu {b:Ce}:b∈aV bs v↔b∈bs∧b≠v:=by rw[List.mem_filter,decide_eq_true_iff]
theorem zv (nd:bs.Nodup) (hv:v∈bs):(aV bs v).length+1=bs.length:=by
 have e:aV bs v=bs.erase v:=by
  rw[nd.erase_eq_filter]
  exact List.filter_congr fun b _=>by rw[Bool.eq_iff_iff,decide_eq_true_iff,bne_iff_ne]
 rw[e,List.length_erase_of_mem hv]
 have:=List.length_pos_of_mem hv
 lia
noncomputable abbrev rl (T:List Ed) (o:Ce) (n:Nat):List (Ce×Nat):=(List.range n).map (itr (nx T) (o,0))
theorem zw (t:Tr bs T) (hv:v∈bs) (h2:2≤bs.length) (l:Lf bs T v u k) (ho:o∈bs) (ho':o'∈aV bs v):
  ∃ l1 l2,(rl T o (4 * bs.length)).filter (fun s=>decide (s.1≠v))=l1++(o',0)::l2∧(o',0)::l2++l1=rl (bY T v) o' (4 * (aV bs v).length)∧(l1++(o',0)::l2).Nodup:=by
 obtain⟨pm,cl⟩:=t.ring ho
 have P:=Pt.of (nx T) (4 * bs.length) (o,0)
 rw[cl] at P
 have inW:∀ x∈rl T o (4 * bs.length),x∈sts bs:=fun x hx=>pm.mem_iff.mp hx
 have PF:=Pt.filter (g:=nx (bY T v)) (p:=fun s=>decide (s.1≠v)) (π:=skp v u k) (fun x hx h=>l.keep (of_decide_eq_true h) (aM.mp (inW x hx)).2) (fun x hx h=>l.skip (by simpa using h) (aM.mp (inW x hx)).2) P
 have mF:∀ x,x∈(rl T o (4 * bs.length)).filter (fun s=>decide (s.1≠v))↔x∈sts (aV bs v):=fun x=>by
  rw[List.mem_filter,pm.mem_iff,decide_eq_true_iff,aM,aM,zu]
  exact⟨fun h=>⟨⟨h.1.1,h.2⟩,h.1.2⟩,fun h=>⟨⟨h.1.1,h.2⟩,h.1.2⟩⟩
 have nF:((rl T o (4 * bs.length)).filter (fun s=>decide (s.1≠v))).Nodup:=(pm.nodup_iff.mpr (jq t.nd)).filter _
 have nS:(sts (aV bs v)).Nodup:=jq (t.nd.filter _)
 have lF:((rl T o (4 * bs.length)).filter (fun s=>decide (s.1≠v))).length=4 * (aV bs v).length:=by
  rw[← lD (aV bs v)]
  exact Nat.le_antisymm (fS nF fun x hx=>(mF x).mp hx) (fS nS fun x hx=>(mF x).mpr hx)
 obtain⟨l1,l2,e⟩:=List.append_of_mem ((mF (o',0)).mpr (aM.mpr ⟨ho',by simp⟩))
 rw[e] at PF nF lF
 obtain⟨c,hc⟩:=Pt.turn PF
 have ec:c=(o',0):=hc.1
 subst ec
 refine⟨l1,l2,e,?_,nF⟩
 have:=(Pt.is hc).1
 rw[this,← lF]
 congr 2
 simp
 lia
theorem rH (l:Lf bs T v u k) {j:Nat} (hj:j<4):((px T (v,j)).1≠v)↔j=(k+1) % 4:=by
 unfold px
 dsimp only
 have hk:=l.k4
 by_cases c:(j+3) % 4=k
 ·rw[c,l.ot,if_pos l.jn]
  exact⟨fun _=>by lia,fun _=>l.ne⟩
 ·rw[if_neg]
  ·exact⟨fun h=>absurd rfl h,fun h=>by exfalso;apply c;lia⟩
  ·intro h
   have:=l.only _ h
   rw[← l.ot] at this
   exact c (ix (Nat.mod_lt _ (by decide)) hk this)
theorem zx (t:Tr bs T) (hv:v∈bs) (l:Lf bs T v u k) (ho:o∈bs):(rl T o (4 * bs.length)).countP (fun s=>decide (s.1=v) && decide ((px T s).1≠v))=1:=by
 obtain⟨pm,_⟩:=t.ring ho
 rw[pm.countP_eq,List.countP_eq_length_filter]
 have q:(v,(k+1) % 4)∈sts bs:=aM.mpr ⟨hv,Nat.mod_lt _ (by decide)⟩
 rw[rz (b:=(v,(k+1) % 4)) (jq t.nd) q]
 ·rfl
 ·simp only[decide_true,Bool.true_and]
  exact decide_eq_true ((rH l (Nat.mod_lt _ (by decide))).mpr rfl)
 ·intro a ha h
  rw[Bool.and_eq_true] at h
  obtain⟨b,j⟩:=a
  have e:b=v:=of_decide_eq_true h.1
  subst e
  have:=(rH l (aM.mp ha).2).mp (of_decide_eq_true h.2)
  rw[show j=(k+1) % 4 from this]
theorem zy (t:Tr bs T) (ho:o∈bs) {i:Nat} (hi:i<4 * bs.length):itr (nx T) (o,0) (if i=0 then 4 * bs.length - 1 else i - 1)=px T (itr (nx T) (o,0) i):=by
 obtain⟨_,cl⟩:=t.ring ho
 have P:=iw t.ed
 have ho':(o,0)∈sts bs:=aM.mpr ⟨ho,by simp⟩
 have back:∀ n,px T (itr (nx T) (o,0) (n+1))=itr (nx T) (o,0) n:=fun n=>by
  have h4:=(aM.mp (P.itr ho' n)).2
  exact lj T (itr (nx T) (o,0) n).1 h4
 by_cases c:i=0
 ·rw[if_pos c,c]
  have:=back (4 * bs.length - 1)
  rw[show 4 * bs.length - 1+1=4 * bs.length by lia,cl] at this
  exact this.symm
 ·rw[if_neg c]
  have:=back (i - 1)
  rw[show i - 1+1=i by lia] at this
  exact this.symm
end
end G
namespace G
open PySem L2
theorem zz (l:List Ce) (b:Ce):cntM (l.map cM) (cM b)=l.count b:=by
 unfold cntM
 rw[List.countP_map,List.count]
 refine List.countP_congr fun x _=>?_
 show ap (cM x) (cM b)=true↔_
 rw[dD]
 simp
theorem zA (l:List Ce) (b:Ce):fu (cL l) (.im (cM b))=some (iI (l.count b:Nat)):=by
 have h1:=fP b
 have h2:=fQ l
 show (if (Im.pl 8 (cM b) && Im.pls 8 (l.map cM))=true then some (Vl.im (.int (cntM (l.map cM) (cM b):Nat))) else none)=_
 rw[if_pos (by rw[h1,h2];rfl),zz]
theorem rJ:∀ l:List Bool,Im.pls 8 (l.map Im.bl)=true
 | []=>rfl
 | b::l=>by rw[List.map_cons,Im.pls,rJ l];rfl
theorem zB (l:List Bool):fu (.lst (l.map .bl)) (.im (.bl true))=some (iI (l.countP id:Nat)):=by
 have h2:=rJ l
 show (if (Im.pl 8 (.bl true) && Im.pls 8 (l.map Im.bl))=true then some (Vl.im (.int (cntM (l.map Im.bl) (.bl true):Nat))) else none)=_
 rw[if_pos (by rw[h2];rfl)]
 unfold cntM
 rw[List.countP_map]
 rw[List.countP_congr (q:=id) fun b _=>by cases b<;>decide]
theorem cn_ {D D1 D2:SD}{go ga:M Opd}{x y:Opd}{l d1 d2 d:Vl} (e1:go D=some (x,D1)) (e2:rsl D1 x=some l) (e3:gq l=true) (e4:ga D1=some (y,D2)) (e5:rsl D2 x=some d1) (e6:rsl D2 y=some d2) (e7:fu d1 d2=some d):fw go ga D=some (d,D2):=by
 unfold fw;rw[e1];show (rsl D1 x).bind _=_;rw[e2];show (if gq l=true then _ else _)=_;rw[if_pos e3,e4];show (rsl D2 x).bind _=_;rw[e5];show (rsl D2 y).bind _=_;rw[e6];show (fu d1 d2).map _=_;rw[e7];rfl
theorem rK {l2:List Ce}{o:Ce}:∀ {l1:List Ce},o∉l1→dh ((l1++o::l2).map cM) (cM o)=some l1.length
 | [],_=>by
  show (if ap (cM o) (cM o)=true then some 0 else _)=_
  rw[dD,if_pos (decide_eq_true rfl)]
  rfl
 | x::l1,h=>by
  show (if ap (cM x) (cM o)=true then some 0 else (dh ((l1++o::l2).map cM) (cM o)).map (·+1))=_
  rw[dD,if_neg (by simp;exact fun e=>h (by rw[e];exact .head _)),rK fun z=>h (.tail _ z)]
  rfl
theorem zC {fc fs l1 l2:List Ce}{o:Ce} (e:fc=l1++o::l2) (nd:fc.Nodup) (hl:fc.length≤1000) (pm:fs.Perm fc) (rs:fR fs) (ho:fs[0]?=some o):gE [cL fc]=some (cL (o::l2++l1),[cL fc]):=by
 have so:=qO nd hl
 have sr:b8 ltM (fc.map cM)=fs.map cM:=(kG so.1 (pm.map cM) rs).symm
 have vm:vMinL [cL fc]=some (.im (cM o)):=by
  show (if ic (fc.map cM)=true then (b8 ltM (fc.map cM)).head?.map Vl.im else none)=_
  rw[if_pos (ig.mpr so),sr,List.head?_map,List.head?_eq_getElem?,ho]
  rfl
 have no:o∉l1:=fun z=>by
  rw[e,List.nodup_append] at nd
  exact nd.2.2 o z o (.head _) rfl
 have l1l:l1.length≤1000:=by rw[e,List.length_append] at hl;lia
 have vi:gp (cL fc) (.im (cM o))=some (iI (l1.length:Nat)):=by
  have p1:=fP o
  have p2:=fQ fc
  show (if (Im.pl 8 (cM o) && Im.pls 8 (fc.map cM))=true∧(fc.map cM).length≤100000 then (dh (fc.map cM) (cM o)).map fun (j:Nat)=>Vl.im (.int (j:Int)) else none)=_
  rw[if_pos ⟨by rw[p1,p2];rfl,by rw[List.length_map];lia⟩]
  have:=rK (l2:=l2) no
  rw[← e] at this
  rw[this]
  rfl
 have x1:ci (fc.map cM) (some ((l1.length:Nat):Int)) none=(fc.map cM).drop l1.length:=xw _ _
 have x2:ci (fc.map cM) none (some ((l1.length:Nat):Int))=(fc.map cM).take l1.length:=xx _ _
 have v1:vSl (cL fc) (some ((l1.length:Nat):Int)) none=some (cL (o::l2)):=by
  show some (Vl.lst (ci (fc.map cM) (some ((l1.length:Nat):Int)) none))=_
  rw[x1,e,← List.map_drop,List.drop_left]
 have v2:vSl (cL fc) none (some ((l1.length:Nat):Int))=some (cL l1):=by
  show some (Vl.lst (ci (fc.map cM) none (some ((l1.length:Nat):Int))))=_
  rw[x2,e,← List.map_take,List.take_left]
 have va:vAdd (cL (o::l2)) (cL l1)=some (cL (o::l2++l1)):=by
  have:vAdd (cL (o::l2)) (cL l1)=some (.lst ((o::l2).map cM++l1.map cM)):=if_pos (by
   rw[List.length_map,List.length_map]
   rw[e,List.length_append] at hl
   lia)
  rw[this,← List.map_append]
 unfold gE qi
 exact cF [some (cL fc),some (iI (l1.length:Nat))] rfl (sq_ (bG (ix_ rfl rfl rfl (v_ (cb_ rfl rfl vm)) rfl rfl vi) (show 1<2 by decide) rfl) (cN (b_ (v_ (sl_ rfl rfl rfl rfl v1)) (v_ (sl_ rfl rfl rfl rfl v2)) rfl rfl va))) rfl
noncomputable abbrev uD (ns:List Int) (k:Int) (h:Vl) (bs:List Ce) (T:List Ed) (w:List Ce) (o6 o7 o8 o9 oA oB oC:Option Vl):SD:=[some (.fz (ns.map .int)),some (iI k),some h,some (cL bs),some (.im (.tup (T.map eM))),some (cL w),o6,o7,o8,o9,oA,oB,oC]
theorem rL {ks:KS}{o0 o1 o2 o3 o4 o5 o6 o9 oA oB oC:Option Vl}:∀ (todo done:List Ed) (o8:Option Vl),2 * (done.length+todo.length)≤1000→
  ∃ p8,bA (gN 8) (iq ks) (todo.map eM) [o0,o1,o2,o3,o4,o5,o6,some (cL (au done)),o8,o9,oA,oB,oC]=some (.nx,[o0,o1,o2,o3,o4,o5,o6,some (cL (au (done++todo))),p8,o9,oA,oB,oC])
 | [],done,o8,_=>⟨o8,by rw[List.append_nil];rfl⟩
 | e::todo,done,o8,hl=>by
  rw[List.length_cons] at hl
  obtain⟨p8,ih⟩:=rL (ks:=ks) (o0:=o0) (o1:=o1) (o2:=o2) (o3:=o3) (o4:=o4) (o5:=o5) (o6:=o6) (o9:=o9) (oA:=oA) (oB:=oB) (oC:=oC) todo (done++[e]) (some (.im (eM e))) (by rw[List.length_append,List.length_singleton];lia)
  refine⟨p8,?_⟩
  have el:=lH done
  have me:mExtend (cL (au done)) [cL [e.1,e.2]]=some (.im .non,cL (au (done++[e]))):=by
   have:mExtend (cL (au done)) [cL [e.1,e.2]]=some (.im .non,.lst ((au done).map cM++[e.1,e.2].map cM)):=if_pos (by rw[List.length_map,List.length_map];show (au done).length+2≤100000;lia)
   rw[this,← List.map_append]
   unfold au
   rw[List.flatMap_append]
   rfl
  rw[List.map_cons,bA]
  dsimp only
  rw[show gN 8 (.im (eM e)) [o0,o1,o2,o3,o4,o5,o6,some (cL (au done)),o8,o9,oA,oB,oC]=some [o0,o1,o2,o3,o4,o5,o6,some (cL (au done)),some (.im (eM e)),o9,oA,oB,oC] from rfl]
  show (iq ks _).bind _=_
  rw[show iq ks [o0,o1,o2,o3,o4,o5,o6,some (cL (au done)),some (.im (eM e)),o9,oA,oB,oC]=some (.nx,[o0,o1,o2,o3,o4,o5,o6,some (cL (au (done++[e]))),some (.im (eM e)),o9,oA,oB,oC]) from
   ex_ (mu_ rfl rfl (a_ (v_ (cb_ rfl rfl rfl)) rfl) rfl rfl me (by rfl))]
  rw[show done++e::todo=done++[e]++todo by simp]
  exact ih
theorem lJ {bs:List Ce} (B:BOk bs) {v:Ce} (hv:v∈bs) {s:Ce×Nat} (hs:s∈sts bs):pc s∈ay v↔s.1=v:=by
 have h:=aM.mp hs
 constructor
 ·intro q
  exact B.one h.1 hv (jl _ h.2) q
 ·intro q
  rw[← q]
  exact jl _ h.2
theorem zD (l:List Ce) (c:Ce):vIn (.im (cM c)) (cL l)=some (.im (.bl (decide (c∈l)))):=by
 show (inB (cM c) (cL l)).map (fun r=>Vl.im (.bl r))=_
 rw[jh]
 rfl
theorem rM (l:List Ce) (c:Ce):vNotIn (.im (cM c)) (cL l)=some (.im (.bl (!decide (c∈l)))):=by
 show (inB (cM c) (cL l)).map (fun r=>Vl.im (.bl (!r)))=_
 rw[jh]
 rfl
theorem zE (l:List Ce) (c:Ce):vNotIn (.im (cM c)) (cT l)=some (.im (.bl (!decide (c∈l)))):=by
 show (inB (cM c) (cT l)).map (fun r=>Vl.im (.bl (!r)))=_
 rw[yz]
 rfl
section
variable {ks:KS}{bs:List Ce}{T:List Ed}{v u o:Ce}{k:Nat}
theorem rN (T:List Ed) (o:Ce) {N i:Nat} (h:i<N):vIx (cL (wk T o N)) (iI (i:Int))=some (.im (cM (pc (itr (nx T) (o,0) i)))):=by
 show (atI ((wk T o N).map cM) (i:Int)).map Vl.im=_
 rw[kQ (d:=cM (pc (itr (nx T) (o,0) i))) (by lia) (by unfold wk;simp[h])]
 rfl
theorem zF (T:List Ed) (o:Ce) {N i:Nat} (h:i<N):vIx (cL (wk T o N)) (iI ((i:Int) - 1))=some (.im (cM (pc (itr (nx T) (o,0) (if i=0 then N - 1 else i - 1))))):=by
 by_cases c:i=0
 ·rw[if_pos c,c]
  obtain⟨M,rfl⟩:∃ M,N=M+1:=⟨N - 1,by lia⟩
  have:=rE T o M
  exact congrArg (Option.map Vl.im) this
 ·rw[if_neg c,show (i:Int) - 1=((i - 1:Nat):Int) by lia]
  exact rN T o (by lia)
theorem zG {D:SD} (t:Tr bs T) (hv:v∈bs) (ho:o∈bs) (h5:D[5]?=some (some (cL (wk T o (4 * bs.length))))) (h11:D[11]?=some (some (cL (ay v)))) (hp:cD [5,11] [some (cL (wk T o (4 * bs.length))),some (cL (ay v))] D=D):
  bf 1 [5,11] (iR1 (aa (oV (ax vLen (aa (oSl 5) aNil))) aNil)) (gN 0) (G.qm ks) (G.ql ks) D=some (.lst ((((List.range (4 * bs.length)).filter fun i=>decide ((itr (nx T) (o,0) i).1=v)).map fun i=>decide ((px T (itr (nx T) (o,0) i)).1≠v)).map .bl),D):=by
 have bl:=t.len
 have B:=t.bok
 have P:=iw t.ed
 have ho':(o,0)∈sts bs:=aM.mpr ⟨ho,by simp⟩
 have le:=le1 (wk T o (4 * bs.length))
 rw[jr] at le
 have sm:d9 ((4 * bs.length:Nat):Int):=⟨by lia,by lia⟩
 have os:oSl 5 D=some (.sl 5,D):=by unfold oSl;rw[h5]
 have r5:rsl D (.sl 5)=some (cL (wk T o (4 * bs.length))):=by show (D[5]?).getD none=_;rw[h5];rfl
 have len:ax vLen (aa (oSl 5) aNil) D=some (iI ((4 * bs.length:Nat):Int),D):=cb_ (a_ os rfl) (by rw[ik,r5];rfl) le
 have cap:cU [5,11] D=[some (cL (wk T o (4 * bs.length))),some (cL (ay v))]:=by
  unfold cU
  simp only[List.map_cons,List.map_nil,List.getD_eq_getElem?_getD,h5,h11]
  rfl
 have e:(((List.range (4 * bs.length)).filter fun i=>decide ((itr (nx T) (o,0) i).1=v)).map fun i=>decide ((px T (itr (nx T) (o,0) i)).1≠v)).map Im.bl=[]++((List.range (4 * bs.length)).filter fun i=>decide ((itr (nx T) (o,0) i).1=v)).map fun i=>Im.bl (decide ((px T (itr (nx T) (o,0) i)).1≠v)):=by
  rw[List.map_map]
  rfl
 rw[e]
 refine cp_ (xs:=bV 0 (4 * bs.length)) (o:=none) (rg_ (a_ (v_ len) rfl) rfl sm) (C':=[some (cL (wk T o (4 * bs.length))),some (cL (ay v))]) ?_ hp
 rw[cap]
 refine dR (fun (i:Nat)=>Im.int (0+(i:Int))) (fun i=>decide ((itr (nx T) (o,0) i).1=v)) (fun i=>.bl (decide ((px T (itr (nx T) (o,0) i)).1≠v))) (List.range (4 * bs.length)) [] (fun i hi=>?_) (by simp;lia)
 have hi:=List.mem_range.mp hi
 have si:=P.itr ho' i
 have b:=zy t ho hi
 have sp:=P.itr ho' (if i=0 then 4 * bs.length - 1 else i - 1)
 rw[b] at sp
 have v1:=rN T o hi
 have v2:=zF T o hi
 rw[b] at v2
 have n1:=zD (ay v) (pc (itr (nx T) (o,0) i))
 have n2:=rM (ay v) (pc (px T (itr (nx T) (o,0) i)))
 rw[show decide (pc (itr (nx T) (o,0) i)∈ay v)=decide ((itr (nx T) (o,0) i).1=v) by rw[Bool.eq_iff_iff,decide_eq_true_iff,decide_eq_true_iff];exact lJ B hv si] at n1
 rw[show (!decide (pc (px T (itr (nx T) (o,0) i))∈ay v))=decide ((px T (itr (nx T) (o,0) i)).1≠v) by
  rw[Bool.eq_iff_iff,Bool.not_eq_true',decide_eq_false_iff_not,decide_eq_true_iff]
  exact not_congr (lJ B hv sp)] at n2
 rw[Int.zero_add]
 refine⟨[some (iI (i:Int)),some (cL (wk T o (4 * bs.length))),some (cL (ay v))],[some (iI (i:Int)),some (cL (wk T o (4 * bs.length))),some (cL (ay v))],rfl,kb_ (b_ (v_ (b_ rfl rfl rfl rfl v1)) rfl rfl rfl n1),fun _=>rfl,fun _=>⟨[some (iI (i:Int)),some (cL (wk T o (4 * bs.length))),some (cL (ay v))],b_ (v_ (b_ rfl (v_ (b_ rfl rfl rfl rfl rfl)) rfl rfl v2)) rfl rfl rfl n2,rfl⟩⟩
theorem zH (t:Tr bs T) (hv:v∈bs) (l:Lf bs T v u k) (ho:o∈bs):(((List.range (4 * bs.length)).filter fun i=>decide ((itr (nx T) (o,0) i).1=v)).map fun i=>decide ((px T (itr (nx T) (o,0) i)).1≠v)).countP id=1:=by
 rw[← zx t hv l ho,List.countP_map,List.countP_filter,List.countP_map]
 refine List.countP_congr fun i _=>?_
 show (id (decide _) && decide _)=true↔(decide _ && decide _)=true
 rw[Bool.and_comm]
 exact Iff.rfl
end
theorem zI {ks:KS} (KO:KOk ks) {ns:List Int}{kk:Int}{n:Nat}{h:Vl}{bs:List Ce}{T:List Ed}{o:Ce}{o6 o7 o8 o9 oA oB oC:Option Vl} (t:Tr bs T) (h2:2≤bs.length) (ho:o∈bs) (H:LOk (n+1) h):
  ∃ h' bs' T' o' p7 p8 p9 pA pB pC,ir ks (uD ns kk h bs T (wk T o (4 * bs.length)) o6 o7 o8 o9 oA oB oC)=some (.nx,uD ns kk h' bs' T' (wk T' o' (4 * bs'.length)) o6 p7 p8 p9 pA pB pC)∧LOk n h'∧Tr bs' T'∧o'∈bs'∧bs'.length+1=bs.length:=by
 have bl:=t.len
 have B:=t.bok
 have tl:=t.cnt
 -- au
 obtain⟨p8,lp⟩:=rL (ks:=ks) (o0:=some (.fz (ns.map .int))) (o1:=some (iI kk)) (o2:=some h) (o3:=some (cL bs)) (o4:=some (.im (.tup (T.map eM)))) (o5:=some (cL (wk T o (4 * bs.length)))) (o6:=o6) (o9:=o9) (oA:=oA) (oB:=oB) (oC:=oC) T [] o8 (by simp;lia)
 rw[List.nil_append] at lp
 -- leaves
 obtain⟨lv,hlv⟩:∃ lv,lv=bs.filter fun b=>decide ((au T).count b=1):=⟨_,rfl⟩
 have lne:lv≠[]:=by
  obtain⟨v,hv,hc⟩:=t.leaf h2
  exact List.ne_nil_of_mem (by rw[hlv];exact List.mem_filter.mpr ⟨hv,decide_eq_true hc⟩:v∈lv)
 have lpos:=List.length_pos_iff.mpr lne
 have llen:lv.length≤40:=by rw[hlv];exact Nat.le_trans (List.length_filter_le _ _) bl
 obtain⟨j,h1,e1,a1,a2,H1⟩:=dX (n:=n) (m:=(lv.length:Int)) H (by lia) (by lia)
 obtain⟨v,hvj⟩:∃ v,lv[j.toNat]?=some v:=⟨lv[j.toNat]'(by lia),by simp⟩
 have hvl:v∈lv:=List.mem_of_getElem? hvj
 rw[hlv] at hvl
 obtain⟨hv,hc⟩:=List.mem_filter.mp hvl
 have hc:=of_decide_eq_true hc
 obtain⟨u,k,l⟩:=t.lf hc
 have t':=t.cut hv h2 l
 have B':=t'.bok
 have bl':=zv t.nd hv
 obtain⟨fs,ef,pm,rs⟩:=qZ B'
 obtain⟨o',ho',hob⟩:=rA B' pm rs
 have fl:fs.length=4 * (aV bs v).length:=by rw[pm.length_eq,gG]
 have re:=rF KO B' ho' hob (Les.of t'.ed) t'.ed fl
 obtain⟨l1,l2,eF,eW,nF⟩:=zw t hv h2 l ho hob
 -- the walk without the leaf's cells
 obtain⟨pW,_⟩:=t.ring ho
 have inW:∀ s∈rl T o (4 * bs.length),s∈sts bs:=fun s hs=>pW.mem_iff.mp hs
 have efc:(wk T o (4 * bs.length)).filter (fun c=>!decide (c∈ay v))=l1.map pc++o'::l2.map pc:=by
  have e:wk T o (4 * bs.length)=(rl T o (4 * bs.length)).map pc:=by unfold wk;rw[List.map_map];rfl
  rw[e,List.filter_map]
  have:(rl T o (4 * bs.length)).filter ((fun c=>!decide (c∈ay v)) ∘ pc)=(rl T o (4 * bs.length)).filter fun s=>decide (s.1≠v):=List.filter_congr fun s hs=>by
   show (!decide (pc s∈ay v))=_
   rw[Bool.eq_iff_iff,Bool.not_eq_true',decide_eq_false_iff_not,decide_eq_true_iff]
   exact not_congr (lJ B hv (inW s hs))
  rw[this,eF,List.map_append,List.map_cons]
  rfl
 have eW':o'::l2.map pc++l1.map pc=wk (bY T v) o' (4 * (aV bs v).length):=by
  have:=congrArg (List.map pc) eW
  rw[List.map_append,List.map_cons,List.map_map] at this
  exact this
 obtain⟨pW',_⟩:=t'.ring hob
 have pfc:fs.Perm (l1.map pc++o'::l2.map pc):=by
  refine pm.trans ?_
  rw[← zk]
  refine (pW'.symm.map pc).trans ?_
  have:(rl (bY T v) o' (4 * (aV bs v).length)).map pc=o'::l2.map pc++l1.map pc:=by rw[← eW,List.map_append,List.map_cons];rfl
  rw[this]
  exact List.perm_append_comm
 have nfc:(l1.map pc++o'::l2.map pc).Nodup:=pfc.nodup_iff.mp (pm.nodup_iff.mpr B'.cells_nd)
 have lfc:(l1.map pc++o'::l2.map pc).length≤1000:=by rw[← pfc.length_eq,fl];lia
 have eb:=zC (l1:=l1.map pc) (l2:=l2.map pc) rfl nfc lfc pfc rs ho'
 rw[eW'] at eb
 obtain⟨q0,rfl⟩:=H.lst
 obtain⟨q1,rfl⟩:=H1.lst
 refine⟨.lst q1,aV bs v,bY T v,o',some (cL (au T)),p8,some (cL lv),some (.im (cM v)),some (cL (ay v)),some (.lst ((((List.range (4 * bs.length)).filter fun i=>decide ((itr (nx T) (o,0) i).1=v)).map fun i=>decide ((px T (itr (nx T) (o,0) i)).1≠v)).map .bl)),?_,H1,t',hob,bl'⟩
 have ac:=zH t hv l ho
 generalize hal:((((List.range (4 * bs.length)).filter fun i=>decide ((itr (nx T) (o,0) i).1=v)).map fun i=>decide ((px T (itr (nx T) (o,0) i)).1≠v)))=al at ac
 have wl:=jr T o (4 * bs.length)
 -- the statements
 have s3:aw 9 (bf 1 [7] (bv (oSl 3)) (gN 0) (G.qk ks) (G.qj ks)) (uD ns kk (.lst q0) bs T (wk T o (4 * bs.length)) o6 (some (cL (au T))) p8 o9 oA oB oC)=some (.nx,uD ns kk (.lst q0) bs T (wk T o (4 * bs.length)) o6 (some (cL (au T))) p8 (some (cL lv)) oA oB oC):=by
  rw[hlv]
  refine bG (cp_ (xs:=bs.map cM) (o:=some (3,cL bs)) rfl (C':=[some (cL (au T))]) (dR cM (fun b=>decide ((au T).count b=1)) cM bs [] (fun b _=>?_) (by simp;lia)) rfl) (show 9<13 by decide) rfl
  have q:=kS ((au T).count b:Nat) 1
  rw[show decide ((((au T).count b:Nat):Int)=1)=decide ((au T).count b=1) by rw[Bool.eq_iff_iff,decide_eq_true_iff,decide_eq_true_iff];lia] at q
  exact⟨[some (.im (cM b)),some (cL (au T))],[some (.im (cM b)),some (cL (au T))],rfl,kb_ (b_ (v_ (cn_ rfl rfl rfl rfl rfl rfl (zA (au T) b))) rfl rfl rfl q),fun _=>rfl,fun _=>⟨_,rfl,rfl⟩⟩
 have s4:aw 10 (ad vIx (oSl 9) (oV (aq 2 G.bi (aa (oSl 2) (aa (oV (ax vLen (aa (oSl 9) aNil))) aNil))))) (uD ns kk (.lst q0) bs T (wk T o (4 * bs.length)) o6 (some (cL (au T))) p8 (some (cL lv)) oA oB oC)=some (.nx,uD ns kk (.lst q1) bs T (wk T o (4 * bs.length)) o6 (some (cL (au T))) p8 (some (cL lv)) (some (.im (cM v))) oB oC):=
  bG (b_ rfl (v_ (c_ (a_ rfl (a_ (v_ (cb_ rfl rfl (le1 lv))) rfl)) rfl rfl e1)) rfl rfl (congrArg (Option.map Vl.im) (atC a1 hvj))) (show 10<13 by decide) rfl
 have s5:aw 11 (aq 1 G.eE (aa (oSl 10) aNil)) (uD ns kk (.lst q1) bs T (wk T o (4 * bs.length)) o6 (some (cL (au T))) p8 (some (cL lv)) (some (.im (cM v))) oB oC)=some (.nx,uD ns kk (.lst q1) bs T (wk T o (4 * bs.length)) o6 (some (cL (au T))) p8 (some (cL lv)) (some (.im (cM v))) (some (cL (ay v))) oC):=
  bG (c_ rfl rfl rfl (qX v)) (show 11<13 by decide) rfl
 have ae:=zG (ks:=ks) (D:=uD ns kk (.lst q1) bs T (wk T o (4 * bs.length)) o6 (some (cL (au T))) p8 (some (cL lv)) (some (.im (cM v))) (some (cL (ay v))) oC) t hv ho rfl rfl rfl
 rw[hal] at ae
 have s6:=bG (i:=12) (D2:=uD ns kk (.lst q1) bs T (wk T o (4 * bs.length)) o6 (some (cL (au T))) p8 (some (cL lv)) (some (.im (cM v))) (some (cL (ay v))) (some (.lst (al.map .bl)))) ae (show 12<13 by decide) rfl
 have s7:aw 3 (bf 1 [10] (bv (oSl 3)) (gN 0) (G.qp ks) (G.qo ks)) (uD ns kk (.lst q1) bs T (wk T o (4 * bs.length)) o6 (some (cL (au T))) p8 (some (cL lv)) (some (.im (cM v))) (some (cL (ay v))) (some (.lst (al.map .bl))))=some (.nx,uD ns kk (.lst q1) (aV bs v) T (wk T o (4 * bs.length)) o6 (some (cL (au T))) p8 (some (cL lv)) (some (.im (cM v))) (some (cL (ay v))) (some (.lst (al.map .bl)))):=by
  refine bG (cp_ (xs:=bs.map cM) (o:=some (3,cL bs)) rfl (C':=[some (.im (cM v))]) (dR cM (fun b=>decide (b≠v)) cM bs [] (fun b _=>?_) (by simp;lia)) rfl) (show 3<13 by decide) rfl
  have q:=rm b v
  rw[show (!decide (b=v))=decide (b≠v) by rw[Bool.eq_iff_iff,Bool.not_eq_true',decide_eq_false_iff_not,decide_eq_true_iff]] at q
  exact⟨[some (.im (cM b)),some (.im (cM v))],[some (.im (cM b)),some (.im (cM v))],rfl,kb_ (b_ rfl rfl rfl rfl q),fun _=>rfl,fun _=>⟨_,rfl,rfl⟩⟩
 have c8:bf 1 [10] (bv (oSl 4)) (gN 0) (G.kZ ks) (G.kY ks) (uD ns kk (.lst q1) (aV bs v) T (wk T o (4 * bs.length)) o6 (some (cL (au T))) p8 (some (cL lv)) (some (.im (cM v))) (some (cL (ay v))) (some (.lst (al.map .bl))))=some (.lst ((bY T v).map eM),uD ns kk (.lst q1) (aV bs v) T (wk T o (4 * bs.length)) o6 (some (cL (au T))) p8 (some (cL lv)) (some (.im (cM v))) (some (cL (ay v))) (some (.lst (al.map .bl)))):=by
  refine cp_ (xs:=T.map eM) (o:=none) rfl (C':=[some (.im (cM v))]) (dR eM (fun e=>!tch v e) eM T [] (fun e _=>?_) (by simp;lia)) rfl
  have q:=zE [e.1,e.2] v
  rw[show (!decide (v∈[e.1,e.2]))=!tch v e by
   unfold tch
   congr 1
   rw[Bool.eq_iff_iff,decide_eq_true_iff,decide_eq_true_iff]
   simp[eq_comm]] at q
  exact⟨[some (.im (eM e)),some (.im (cM v))],[some (.im (eM e)),some (.im (cM v))],rfl,kb_ (b_ rfl rfl rfl rfl q),fun _=>rfl,fun _=>⟨_,rfl,rfl⟩⟩
 have s8:aw 4 (ax vTuple (aa (oV (bf 1 [10] (bv (oSl 4)) (gN 0) (G.kZ ks) (G.kY ks))) aNil)) (uD ns kk (.lst q1) (aV bs v) T (wk T o (4 * bs.length)) o6 (some (cL (au T))) p8 (some (cL lv)) (some (.im (cM v))) (some (cL (ay v))) (some (.lst (al.map .bl))))=some (.nx,uD ns kk (.lst q1) (aV bs v) (bY T v) (wk T o (4 * bs.length)) o6 (some (cL (au T))) p8 (some (cL lv)) (some (.im (cM v))) (some (cL (ay v))) (some (.lst (al.map .bl)))):=
  bG (lq c8) (show 4<13 by decide) rfl
 have c9:bf 1 [11] (bv (oSl 5)) (gN 0) (G.k8 ks) (G.k7 ks) (uD ns kk (.lst q1) (aV bs v) (bY T v) (wk T o (4 * bs.length)) o6 (some (cL (au T))) p8 (some (cL lv)) (some (.im (cM v))) (some (cL (ay v))) (some (.lst (al.map .bl))))=some (cL (l1.map pc++o'::l2.map pc),uD ns kk (.lst q1) (aV bs v) (bY T v) (wk T o (4 * bs.length)) o6 (some (cL (au T))) p8 (some (cL lv)) (some (.im (cM v))) (some (cL (ay v))) (some (.lst (al.map .bl)))):=by
  rw[← efc]
  refine cp_ (xs:=(wk T o (4 * bs.length)).map cM) (o:=some (5,cL (wk T o (4 * bs.length)))) rfl (C':=[some (cL (ay v))]) (dR cM (fun c=>!decide (c∈ay v)) cM (wk T o (4 * bs.length)) [] (fun c _=>?_) (by simp;lia)) rfl
  exact⟨[some (.im (cM c)),some (cL (ay v))],[some (.im (cM c)),some (cL (ay v))],rfl,kb_ (b_ rfl rfl rfl rfl (rM (ay v) c)),fun _=>rfl,fun _=>⟨_,rfl,rfl⟩⟩
 obtain⟨D,hD⟩:∃ D:SD,D=uD ns kk (.lst q1) (aV bs v) (bY T v) (wk (bY T v) o' (4 * (aV bs v).length)) o6 (some (cL (au T))) p8 (some (cL lv)) (some (.im (cM v))) (some (cL (ay v))) (some (.lst (al.map .bl))):=⟨_,rfl⟩
 have s9:aw 5 (aq 1 G.gE (aa (oV (bf 1 [11] (bv (oSl 5)) (gN 0) (G.k8 ks) (G.k7 ks))) aNil)) (uD ns kk (.lst q1) (aV bs v) (bY T v) (wk T o (4 * bs.length)) o6 (some (cL (au T))) p8 (some (cL lv)) (some (.im (cM v))) (some (cL (ay v))) (some (.lst (al.map .bl))))=some (.nx,D):=by
  rw[hD]
  exact bG (c_ (a_ (v_ c9) rfl) rfl rfl eb) (show 5<13 by decide) rfl
 have k1:kB (ad vNe (oV (fw (oSl 12) (oV (eC (.bl true))))) (oV (eC (.int 1)))) D=some (false,D):=by
  have vb:=zB al
  rw[ac] at vb
  have q:vNe (iI ((1:Nat):Int)) (iI 1)=some (.im (.bl false)):=xC 1 1
  rw[hD]
  exact kb_ (b_ (v_ (cn_ rfl rfl rfl rfl rfl rfl vb)) rfl rfl rfl q)
 have k2:kB (ad vNe (oV (ax vList (aa (oV (aq 2 (G.eH ks) (aa (oV (aq 1 G.eG (aa (oSl 3) aNil))) (aa (oSl 4) aNil)))) aNil))) (oSl 5)) D=some (false,D):=by
  rw[hD]
  exact kb_ (b_ (v_ (cb_ (a_ (v_ (d_ (a_ (v_ (c_ rfl rfl rfl ef)) rfl) rfl rfl re (by rfl))) rfl) rfl rfl)) rfl rfl rfl zf)
 have s1:aw 7 (bm aNil) (uD ns kk (.lst q0) bs T (wk T o (4 * bs.length)) o6 o7 o8 o9 oA oB oC)=some (.nx,uD ns kk (.lst q0) bs T (wk T o (4 * bs.length)) o6 (some (cL (au []))) o8 o9 oA oB oC):=rfl
 have s2:cI (bv (oSl 4)) (gN 8) (G.iq ks) (uD ns kk (.lst q0) bs T (wk T o (4 * bs.length)) o6 (some (cL (au []))) o8 o9 oA oB oC)=some (.nx,uD ns kk (.lst q0) bs T (wk T o (4 * bs.length)) o6 (some (cL (au T))) p8 o9 oA oB oC):=ja (o:=none) (xs:=T.map eM) rfl lp rfl
 unfold ir
 refine sq_ s1 (sq_ s2 (sq_ s3 (sq_ s4 (sq_ s5 (sq_ s6 (sq_ s7 (sq_ s8 (sq_ s9 (pN (xE k1 k2) ?_)))))))))
 rw[hD]
 rfl
theorem rO {ks:KS} (KO:KOk ks) {ns:List Int}{kk:Int}:∀ (xs:List Im) (n:Nat) {h:Vl}{bs:List Ce}{T:List Ed}{o:Ce}{o6 o7 o8 o9 oA oB oC:Option Vl},Tr bs T→xs.length+1=bs.length→o∈bs→LOk (n+xs.length) h→
  ∃ p2 p3 p4 p5 p6 p7 p8 p9 pA pB pC,bA (gN 6) (ir ks) xs (uD ns kk h bs T (wk T o (4 * bs.length)) o6 o7 o8 o9 oA oB oC)=some (.nx,[some (.fz (ns.map .int)),some (iI kk),p2,p3,p4,p5,p6,p7,p8,p9,pA,pB,pC])
 | [],n,h,bs,T,o,o6,o7,o8,o9,oA,oB,oC,_,_,_,_=>⟨_,_,_,_,_,_,_,_,_,_,_,rfl⟩
 | x::xs,n,h,bs,T,o,o6,o7,o8,o9,oA,oB,oC,t,hl,ho,H=>by
  rw[List.length_cons] at hl H
  obtain⟨h',bs',T',o',p7,p8,p9,pA,pB,pC,e,H',t',ho',bl⟩:=zI KO (ns:=ns) (kk:=kk) (n:=n+xs.length) (o6:=some (.im x)) (o7:=o7) (o8:=o8) (o9:=o9) (oA:=oA) (oB:=oB) (oC:=oC) t (by lia) ho H
  obtain⟨a2,a3,a4,a5,a6,a7,a8,a9,aA,aB,aC,ih⟩:=rO KO (ns:=ns) (kk:=kk) xs n (o6:=some (.im x)) (o7:=p7) (o8:=p8) (o9:=p9) (oA:=pA) (oB:=pB) (oC:=pC) t' (by lia) ho' H'
  refine⟨a2,a3,a4,a5,a6,a7,a8,a9,aA,aB,aC,?_⟩
  rw[bA]
  dsimp only
  rw[show gN 6 (.im x) (uD ns kk h bs T (wk T o (4 * bs.length)) o6 o7 o8 o9 oA oB oC)=some (uD ns kk h bs T (wk T o (4 * bs.length)) (some (.im x)) o7 o8 o9 oA oB oC) from rfl]
  show (ir ks _).bind _=_
  rw[e]
  exact ih
theorem zJ {ks:KS} (KO:KOk ks) {ns:List Int}{k:Int}{o2 o3 o4 o5 o6 o7 o8 o9 oA oB oC:Option Vl} (hk0:0≤k) (hk1:k<6):
  ∃ p2 p3 p4 p5 p6 p7 p8 p9 pA pB pC,je ks [some (.fz (ns.map .int)),some (iI k),o2,o3,o4,o5,o6,o7,o8,o9,oA,oB,oC]=some (.nx,[some (.fz (ns.map .int)),some (iI k),p2,p3,p4,p5,p6,p7,p8,p9,pA,pB,pC]):=by
 obtain⟨h1,e1,H1⟩:=yM (ns:=ns) (k:=k) hk0 (by lia)
 obtain⟨h2,bs,e2,H2,B⟩:=yP (n:=2000) (H1.mono (by lia))
 obtain⟨fs,e3,pm,rs⟩:=qZ B
 obtain⟨h3,T,ts,p,e4,H3,pT,kr,al⟩:=y6 (n:=100) B (H2.mono (by lia))
 have bl:=B.len
 have bp:=List.length_pos_iff.mpr B.ne
 have t:Tr bs T:=Tr.of B pT (pT.nodup_iff.mpr (zn kr)) kr al
 have hE:=t.ed
 have hT:=Les.of hE
 obtain⟨o,ho,hob⟩:=rA B pm rs
 have fl:fs.length=4 * bs.length:=by rw[pm.length_eq,gG]
 have re:=rF KO B ho hob hT hE fl
 obtain⟨q1,rfl⟩:=H1.lst
 obtain⟨q2,rfl⟩:=H2.lst
 obtain⟨q3,rfl⟩:=H3.lst
 have lr:(bV 0 (bs.length - 1)).length=bs.length - 1:=by rw[bV,List.length_map,List.length_range]
 obtain⟨a2,a3,a4,a5,a6,a7,a8,a9,aA,aB,aC,lp⟩:=rO KO (ns:=ns) (kk:=k) (bV 0 (bs.length - 1)) 0 (o6:=o6) (o7:=o7) (o8:=o8) (o9:=o9) (oA:=oA) (oB:=oB) (oC:=oC) t (by rw[lr];lia) hob (H3.mono (by rw[lr];lia))
 refine⟨a2,a3,a4,a5,a6,a7,a8,a9,aA,aB,aC,?_⟩
 have s1:aw 2 (aq 2 G.gz (aa (oSl 0) (aa (oSl 1) aNil))) [some (.fz (ns.map .int)),some (iI k),o2,o3,o4,o5,o6,o7,o8,o9,oA,oB,oC]=some (.nx,[some (.fz (ns.map .int)),some (iI k),some (.lst q1),o3,o4,o5,o6,o7,o8,o9,oA,oB,oC]):=bG (c_ rfl rfl rfl e1) (show 2<13 by decide) rfl
 have s2:aw 3 (aq 1 G.fE (aa (oSl 2) aNil)) [some (.fz (ns.map .int)),some (iI k),some (.lst q1),o3,o4,o5,o6,o7,o8,o9,oA,oB,oC]=some (.nx,[some (.fz (ns.map .int)),some (iI k),some (.lst q2),some (cL bs),o4,o5,o6,o7,o8,o9,oA,oB,oC]):=bG (c_ rfl rfl rfl e2) (show 3<13 by decide) rfl
 have s3:aw 4 (aq 2 G.gD (aa (oSl 2) (aa (oSl 3) aNil))) [some (.fz (ns.map .int)),some (iI k),some (.lst q2),some (cL bs),o4,o5,o6,o7,o8,o9,oA,oB,oC]=some (.nx,[some (.fz (ns.map .int)),some (iI k),some (.lst q3),some (cL bs),some (.im (.tup (T.map eM))),o5,o6,o7,o8,o9,oA,oB,oC]):=bG (c_ rfl rfl rfl e4) (show 4<13 by decide) rfl
 have s4:aw 5 (ax vList (aa (oV (aq 2 (G.eH ks) (aa (oV (aq 1 G.eG (aa (oSl 3) aNil))) (aa (oSl 4) aNil)))) aNil)) [some (.fz (ns.map .int)),some (iI k),some (.lst q3),some (cL bs),some (.im (.tup (T.map eM))),o5,o6,o7,o8,o9,oA,oB,oC]=some (.nx,uD ns k (.lst q3) bs T (wk T o (4 * bs.length)) o6 o7 o8 o9 oA oB oC):=
  bG (cb_ (a_ (v_ (c_ (a_ (v_ (c_ rfl rfl rfl e3)) rfl) rfl rfl re)) rfl) rfl rfl) (show 5<13 by decide) rfl
 have sm:d9 ((bs.length:Int) - 1):=⟨by lia,by lia⟩
 have en:((bs.length:Int) - 1).toNat=bs.length - 1:=by lia
 rw[← en] at lp
 unfold je
 exact sq_ s1 (sq_ s2 (sq_ s3 (sq_ s4 (ja (o:=none) (rg_ (a_ (v_ (b_ (v_ (cb_ rfl rfl (le1 bs))) rfl rfl rfl rfl)) rfl) rfl sm) lp rfl))))
theorem zK {ks:KS} (KO:KOk ks) (ns:List Int) (hl:ns.length<100000):∃ outs,gF ks [.fz (ns.map .int)]=some (.im (.bl true),outs):=by
 obtain⟨m,hm,m0,m1⟩:∃ m:Int,m=(if (if (ns.length:Int)<6 then (ns.length:Int) else 6) > 1 then (if (ns.length:Int)<6 then (ns.length:Int) else 6) else 1)∧1≤m∧m≤6:=⟨_,rfl,by split<;>lia,by split<;>(try split)<;>lia⟩
 obtain⟨D',lp,r,hr⟩:=pH (tg:=gN 1) (b:=je ks) (xs:=bV 0 m.toNat) (fun i D=>∃ o1 o2 o3 o4 o5 o6 o7 o8 o9 oA oB oC,D=[some (.fz (ns.map .int)),o1,o2,o3,o4,o5,o6,o7,o8,o9,oA,oB,oC]) (D:=[some (.fz (ns.map .int)),none,none,none,none,none,none,none,none,none,none,none,none]) ⟨none,none,none,none,none,none,none,none,none,none,none,none,rfl⟩
  (fun i x D hx hI=>by
   obtain⟨o1,o2,o3,o4,o5,o6,o7,o8,o9,oA,oB,oC,rfl⟩:=hI
   obtain⟨hi,hx'⟩:=List.getElem?_eq_some_iff.mp hx
   have hi':i<m.toNat:=by rwa [bV,List.length_map,List.length_range] at hi
   have ex:x=.int (0+(i:Int)):=by
    rw[← hx']
    simp[bV]
   subst ex
   obtain⟨p2,p3,p4,p5,p6,p7,p8,p9,pA,pB,pC,e⟩:=zJ KO (ns:=ns) (k:=0+(i:Int)) (o2:=o2) (o3:=o3) (o4:=o4) (o5:=o5) (o6:=o6) (o7:=o7) (o8:=o8) (o9:=o9) (oA:=oA) (oB:=oB) (oC:=oC) (by lia) (by lia)
   exact⟨[some (.fz (ns.map .int)),some (iI (0+(i:Int))),o2,o3,o4,o5,o6,o7,o8,o9,oA,oB,oC],.nx,_,rfl,e,.inl rfl,_,_,_,_,_,_,_,_,_,_,_,_,rfl⟩)
 obtain⟨o2,o3,o4,o5,o6,o7,o8,o9,oA,oB,oC,rfl⟩:=hr
 have sm:d9 m:=⟨by lia,by lia⟩
 have a1:=yB 6 (ns.length:Int)
 have a2:=yA 1 (if (ns.length:Int)<6 then (ns.length:Int) else 6)
 rw[← hm] at a2
 unfold gF qr
 exact⟨[.fz (ns.map .int)],kT rfl (sq_ (ja (o:=none) (rg_ (a_ (v_ (cb_ (a_ rfl (a_ (v_ (cb_ (a_ rfl (a_ (v_ (cb_ rfl rfl (leF ns))) rfl)) rfl a1)) rfl)) rfl a2)) rfl) rfl sm) lp rfl) rfl) rfl⟩
end G
namespace L2
open PySem PySem.Spec PyProof.Rows
noncomputable def iy:List (Addr×Obj)→Bool
 | []=>true
 | (_,o)::r=>(match o.data with
  | .seq _ _=>(match o.cls with | .type n=>n != "list" | _=>true)
  | _=>true) && iy r
theorem zL {K:List (Addr×Obj)}{a:Addr}{o:Obj}{its:Array Value}{n:Nat} (h:iy K=true) (e:K.lookup a=some o) (hc:o.cls=.type "list") (hd:o.data=.seq its n):False:=by
 induction K with
 | nil=>cases e
 | cons p r ih=>
  obtain⟨b,x⟩:=p
  rw[iy,Bool.and_eq_true] at h
  simp only[List.lookup] at e
  split at e
  ·cases e
   have h1:=h.1
   rw[hd] at h1
   dsimp only at h1
   rw[hc] at h1
   exact absurd h1 (by decide)
  ·exact ih h.2 e
theorem rP {H:Hp}:∀ ns:List Int,ak H (ns.map .int) (ns.map V.int)
 | []=>rfl
 | n::r=>⟨.int n,_,rfl,rfl,rP r⟩
theorem zM {G:Fn}{K:PySem.W.Frag} (hK:iy K=true) (H:Hp) (a:Addr) (ns:List Int) (hO:iF H) (hS:SqL K H a (ns.map V.int)) (ht:∃ outs,G [.fz (ns.map .int)]=some (.im (.bl true),outs)) {E:XK}:spV 1 G [.ref a] H (fun v _=>v=.bl true) E:=by
 obtain⟨outs,ht⟩:=ht
 have hf:∃ o,H a=some (.frz o (.lst (ns.map V.int))):=by
  rcases hS with (h | h) | ⟨o,its,n,h1,h2,h3,h4,_⟩
  ·rcases hO a with e | ⟨o,xs,e⟩
   ·rw[e] at h;cases h
   ·rw[e] at h;cases h
  ·exact h
  ·exact (zL hK h1 h2 h4).elim
 obtain⟨o,ho⟩:=hf
 refine⟨rfl,[.fz (ns.map .int)],[],.im (.bl true),outs,⟨_,_,[],[],rfl,⟨a,_,o,rfl,ho,rP ns,rfl⟩,⟨rfl,rfl⟩,rfl⟩,List.nodup_nil,ht,fun v H' R R' h _ _=>?_⟩
 exact h.1
end L2
namespace K43
open PySem L2 PyProof.Rows
set_option maxHeartbeats 4000000 in
theorem all_mk {l:PySem.W.OpenLaw}{w:World}{K:PySem.W.Frag}{h:Heap}{mg:Str→Option Value}{fa f_w0 f_w1 f_w2 f_w3 f_w4 f_w5 f_w6 f_w7 f_w8 f_w9 f_w10 f_w11 f_w12 f_w13 f_law:Addr} (X:K.In h) (Gg:h.Ns mainGlobals mg) (hfa:mg "law" = some (.ref fa))
  {odw0 anw0 odw1 anw1 odw2 anw2 odw3 anw3 odw4 anw4 odw5 anw5 odw6 anw6 odw7 anw7 odw8 anw8 odw9 anw9 odw10 anw10 odw11 anw11 odw12 anw12 odw13 anw13 odlaw anlaw:Option Addr}{slw0 slw1 slw2 slw3 slw4 slw5 slw6 slw7 slw8 slw9 slw10 slw11 slw12 slw13 sllaw:Array (Option Value)}{ocw0 kVw0 dcw0 pmw0 cdw0 ctw0 ocw1 kVw1 dcw1 pmw1 cdw1 ctw1 ocw2 kVw2 dcw2 pmw2 cdw2 ctw2 ocw3 kVw3 dcw3 pmw3 cdw3 ctw3 ocw4 kVw4 dcw4 pmw4 cdw4 ctw4 ocw5 kVw5 dcw5 pmw5 cdw5 ctw5 ocw6 kVw6 dcw6 pmw6 cdw6 ctw6 ocw7 kVw7 dcw7 pmw7 cdw7 ctw7 ocw8 kVw8 dcw8 pmw8 cdw8 ctw8 ocw9 kVw9 dcw9 pmw9 cdw9 ctw9 ocw10 kVw10 dcw10 pmw10 cdw10 ctw10 ocw11 kVw11 dcw11 pmw11 cdw11 ctw11 ocw12 kVw12 dcw12 pmw12 cdw12 ctw12 ocw13 kVw13 dcw13 pmw13 cdw13 ctw13 oclaw kVlaw dclaw pmlaw cdlaw ctlaw:Value}
  {t_SIDE:Tok}
  (aw0:PySem.W.nsIn K mainGlobals "lesser_first" = some (some (.ref f_w0))) (lw0:K.lookup f_w0=some ⟨ocw0,odw0,.func (PySem.W.fnOf "lesser_first" "lesser_first" (bD fF) (bx fF) (aD fF) .none kVw0 dcw0 pmw0 anw0 cdw0 ctw0),slw0⟩) (cw0:PySem.W.codeIn K cdw0 "lesser_first" = true) (kw0:PySem.W.keepIn K (.ref f_w0)=true)
  (aw1:PySem.W.nsIn K mainGlobals "block_of" = some (some (.ref f_w1))) (lw1:K.lookup f_w1=some ⟨ocw1,odw1,.func (PySem.W.fnOf "block_of" "block_of" (bD fG) (bx fG) (aD fG) .none kVw1 dcw1 pmw1 anw1 cdw1 ctw1),slw1⟩) (cw1:PySem.W.codeIn K cdw1 "block_of" = true) (kw1:PySem.W.keepIn K (.ref f_w1)=true)
  (aw2:PySem.W.nsIn K mainGlobals "moved" = some (some (.ref f_w2))) (lw2:K.lookup f_w2=some ⟨ocw2,odw2,.func (PySem.W.fnOf "moved" "moved" (bD fH) (bx fH) (aD fH) .none kVw2 dcw2 pmw2 anw2 cdw2 ctw2),slw2⟩) (cw2:PySem.W.codeIn K cdw2 "moved" = true) (kw2:PySem.W.keepIn K (.ref f_w2)=true)
  (aw3:PySem.W.nsIn K mainGlobals "next_round" = some (some (.ref f_w3))) (lw3:K.lookup f_w3=some ⟨ocw3,odw3,.func (PySem.W.fnOf "next_round" "next_round" (bD fI) (bx fI) (aD fI) .none kVw3 dcw3 pmw3 anw3 cdw3 ctw3),slw3⟩) (cw3:PySem.W.codeIn K cdw3 "next_round" = true) (kw3:PySem.W.keepIn K (.ref f_w3)=true)
  (aw4:PySem.W.nsIn K mainGlobals "ring" = some (some (.ref f_w4))) (lw4:K.lookup f_w4=some ⟨ocw4,odw4,.func (PySem.W.fnOf "ring" "ring" (bD fJ) (bx fJ) (aD fJ) .none kVw4 dcw4 pmw4 anw4 cdw4 ctw4),slw4⟩) (cw4:PySem.W.codeIn K cdw4 "ring" = true) (kw4:PySem.W.keepIn K (.ref f_w4)=true)
  (aw5:PySem.W.nsIn K mainGlobals "_law_cell_at" = some (some (.ref f_w5))) (lw5:K.lookup f_w5=some ⟨ocw5,odw5,.func (PySem.W.fnOf "_law_cell_at" "_law_cell_at" (bD fK) (bx fK) (aD fK) .none kVw5 dcw5 pmw5 anw5 cdw5 ctw5),slw5⟩) (cw5:PySem.W.codeIn K cdw5 "_law_cell_at" = true) (kw5:PySem.W.keepIn K (.ref f_w5)=true)
  (aw6:PySem.W.nsIn K mainGlobals "_law_hand" = some (some (.ref f_w6))) (lw6:K.lookup f_w6=some ⟨ocw6,odw6,.func (PySem.W.fnOf "_law_hand" "_law_hand" (bD fL) (bx fL) (aD fL) .none kVw6 dcw6 pmw6 anw6 cdw6 ctw6),slw6⟩) (cw6:PySem.W.codeIn K cdw6 "_law_hand" = true) (kw6:PySem.W.keepIn K (.ref f_w6)=true)
  (aw7:PySem.W.nsIn K mainGlobals "_law_pick" = some (some (.ref f_w7))) (lw7:K.lookup f_w7=some ⟨ocw7,odw7,.func (PySem.W.fnOf "_law_pick" "_law_pick" (bD dU) (bx dU) (aD dU) .none kVw7 dcw7 pmw7 anw7 cdw7 ctw7),slw7⟩) (cw7:PySem.W.codeIn K cdw7 "_law_pick" = true) (kw7:PySem.W.keepIn K (.ref f_w7)=true)
  (aw8:PySem.W.nsIn K mainGlobals "_law_some_blocks" = some (some (.ref f_w8))) (lw8:K.lookup f_w8=some ⟨ocw8,odw8,.func (PySem.W.fnOf "_law_some_blocks" "_law_some_blocks" (bD fM) (bx fM) (aD fM) .none kVw8 dcw8 pmw8 anw8 cdw8 ctw8),slw8⟩) (cw8:PySem.W.codeIn K cdw8 "_law_some_blocks" = true) (kw8:PySem.W.keepIn K (.ref f_w8)=true)
  (aw9:PySem.W.nsIn K mainGlobals "_law_four" = some (some (.ref f_w9))) (lw9:K.lookup f_w9=some ⟨ocw9,odw9,.func (PySem.W.fnOf "_law_four" "_law_four" (bD eI) (bx eI) (aD eI) .none kVw9 dcw9 pmw9 anw9 cdw9 ctw9),slw9⟩) (cw9:PySem.W.codeIn K cdw9 "_law_four" = true) (kw9:PySem.W.keepIn K (.ref f_w9)=true)
  (aw10:PySem.W.nsIn K mainGlobals "_law_field" = some (some (.ref f_w10))) (lw10:K.lookup f_w10=some ⟨ocw10,odw10,.func (PySem.W.fnOf "_law_field" "_law_field" (bD fN) (bx fN) (aD fN) .none kVw10 dcw10 pmw10 anw10 cdw10 ctw10),slw10⟩) (cw10:PySem.W.codeIn K cdw10 "_law_field" = true) (kw10:PySem.W.keepIn K (.ref f_w10)=true)
  (aw11:PySem.W.nsIn K mainGlobals "_law_pairs" = some (some (.ref f_w11))) (lw11:K.lookup f_w11=some ⟨ocw11,odw11,.func (PySem.W.fnOf "_law_pairs" "_law_pairs" (bD eJ) (bx eJ) (aD eJ) .none kVw11 dcw11 pmw11 anw11 cdw11 ctw11),slw11⟩) (cw11:PySem.W.codeIn K cdw11 "_law_pairs" = true) (kw11:PySem.W.keepIn K (.ref f_w11)=true)
  (aw12:PySem.W.nsIn K mainGlobals "_law_tree" = some (some (.ref f_w12))) (lw12:K.lookup f_w12=some ⟨ocw12,odw12,.func (PySem.W.fnOf "_law_tree" "_law_tree" (bD dW) (bx dW) (aD dW) .none kVw12 dcw12 pmw12 anw12 cdw12 ctw12),slw12⟩) (cw12:PySem.W.codeIn K cdw12 "_law_tree" = true) (kw12:PySem.W.keepIn K (.ref f_w12)=true)
  (aw13:PySem.W.nsIn K mainGlobals "_law_begun" = some (some (.ref f_w13))) (lw13:K.lookup f_w13=some ⟨ocw13,odw13,.func (PySem.W.fnOf "_law_begun" "_law_begun" (bD fO) (bx fO) (aD fO) .none kVw13 dcw13 pmw13 anw13 cdw13 ctw13),slw13⟩) (cw13:PySem.W.codeIn K cdw13 "_law_begun" = true) (kw13:PySem.W.keepIn K (.ref f_w13)=true)
  (alaw:PySem.W.nsIn K mainGlobals "law" = some (some (.ref f_law))) (llaw:K.lookup f_law=some ⟨oclaw,odlaw,.func (PySem.W.fnOf "law" "law" (bD cG) (bx cG) (aD cG) .none kVlaw dclaw pmlaw anlaw cdlaw ctlaw),sllaw⟩) (claw:PySem.W.codeIn K cdlaw "law" = true) (klaw:PySem.W.keepIn K (.ref f_law)=true)
  {aW k0 k1 k2 k3 o0 x0 y0 o1 x1 y1 o2 x2 y2 o3 x3 y3:Addr}{hs0 hs1 hs2 hs3:Int}{nW:Nat}{dd_k0 dd_k1 dd_k2 dd_k3 dd_x0 dd_y0 dd_x1 dd_y1 dd_x2 dd_y2 dd_x3 dd_y3 dd_o0 dd_o1 dd_o2 dd_o3:Option Addr}{nn_k0 nn_k1 nn_k2 nn_k3 nn_x0 nn_y0 nn_x1 nn_y1 nn_x2 nn_y2 nn_x3 nn_y3 nn_o0 nn_o1 nn_o2 nn_o3:Nat}{ta_k0 tb_k0 ta_k1 tb_k1 ta_k2 tb_k2 ta_k3 tb_k3 ta_x0 tb_x0 ta_y0 tb_y0 ta_x1 tb_x1 ta_y1 tb_y1 ta_x2 tb_x2 ta_y2 tb_y2 ta_x3 tb_x3 ta_y3 tb_y3:Tok}{ss_k0 ss_k1 ss_k2 ss_k3 ss_x0 ss_y0 ss_x1 ss_y1 ss_x2 ss_y2 ss_x3 ss_y3 ss_o0 ss_o1 ss_o2 ss_o3:Array (Option Value)}
  (gWAYS:PySem.W.nsIn K mainGlobals "WAYS" = some (some (.ref aW))) (lWAYS:K.lookup aW=some ⟨.type "dict",none,.dict #[⟨hs0,.ref k0,.ref o0⟩,⟨hs1,.ref k1,.ref o1⟩,⟨hs2,.ref k2,.ref o2⟩,⟨hs3,.ref k3,.ref o3⟩] nW,#[]⟩)
  (q_o0:K.lookup o0=some ⟨.type "tuple",dd_o0,.seq #[.ref x0,.ref y0] nn_o0,ss_o0⟩)
  (q_o1:K.lookup o1=some ⟨.type "tuple",dd_o1,.seq #[.ref x1,.ref y1] nn_o1,ss_o1⟩)
  (q_o2:K.lookup o2=some ⟨.type "tuple",dd_o2,.seq #[.ref x2,.ref y2] nn_o2,ss_o2⟩)
  (q_o3:K.lookup o3=some ⟨.type "tuple",dd_o3,.seq #[.ref x3,.ref y3] nn_o3,ss_o3⟩)
  (q_k0:K.lookup k0=some ⟨.type "tuple",dd_k0,.seq #[.int 0 ta_k0,.int 0 tb_k0] nn_k0,ss_k0⟩)
  (q_k1:K.lookup k1=some ⟨.type "tuple",dd_k1,.seq #[.int 0 ta_k1,.int 1 tb_k1] nn_k1,ss_k1⟩)
  (q_k2:K.lookup k2=some ⟨.type "tuple",dd_k2,.seq #[.int 1 ta_k2,.int 1 tb_k2] nn_k2,ss_k2⟩)
  (q_k3:K.lookup k3=some ⟨.type "tuple",dd_k3,.seq #[.int 1 ta_k3,.int 0 tb_k3] nn_k3,ss_k3⟩)
  (q_x0:K.lookup x0=some ⟨.type "tuple",dd_x0,.seq #[.int (-1) ta_x0,.int 0 tb_x0] nn_x0,ss_x0⟩)
  (q_y0:K.lookup y0=some ⟨.type "tuple",dd_y0,.seq #[.int 0 ta_y0,.int 1 tb_y0] nn_y0,ss_y0⟩)
  (q_x1:K.lookup x1=some ⟨.type "tuple",dd_x1,.seq #[.int 0 ta_x1,.int 1 tb_x1] nn_x1,ss_x1⟩)
  (q_y1:K.lookup y1=some ⟨.type "tuple",dd_y1,.seq #[.int 1 ta_y1,.int 0 tb_y1] nn_y1,ss_y1⟩)
  (q_x2:K.lookup x2=some ⟨.type "tuple",dd_x2,.seq #[.int 1 ta_x2,.int 0 tb_x2] nn_x2,ss_x2⟩)
  (q_y2:K.lookup y2=some ⟨.type "tuple",dd_y2,.seq #[.int 0 ta_y2,.int (-1) tb_y2] nn_y2,ss_y2⟩)
  (q_x3:K.lookup x3=some ⟨.type "tuple",dd_x3,.seq #[.int 0 ta_x3,.int (-1) tb_x3] nn_x3,ss_x3⟩)
  (q_y3:K.lookup y3=some ⟨.type "tuple",dd_y3,.seq #[.int (-1) ta_y3,.int 0 tb_y3] nn_y3,ss_y3⟩)
  (hh0:hs0=imH w (.tup [.int 0,.int 0]))
  (hh1:hs1=imH w (.tup [.int 0,.int 1]))
  (hh2:hs2=imH w (.tup [.int 1,.int 1]))
  (hh3:hs3=imH w (.tup [.int 1,.int 0]))
  (g_SIDE:PySem.W.nsIn K mainGlobals "SIDE" = some (some (.int 2 t_SIDE)))
  (z_dict:PySem.W.nsIn K mainGlobals "dict" = some none) (z_int:PySem.W.nsIn K mainGlobals "int" = some none) (z_len:PySem.W.nsIn K mainGlobals "len" = some none) (z_list:PySem.W.nsIn K mainGlobals "list" = some none) (z_max:PySem.W.nsIn K mainGlobals "max" = some none) (z_min:PySem.W.nsIn K mainGlobals "min" = some none) (z_range:PySem.W.nsIn K mainGlobals "range" = some none) (z_sorted:PySem.W.nsIn K mainGlobals "sorted" = some none) (z_tuple:PySem.W.nsIn K mainGlobals "tuple" = some none):
  ∃ fd:FuncData,(∀ (s:Shared) (v:Value),BindsTo s fd ⟨[v],[]⟩ [("_law_script",v)])∧∀ base:Heap,K.In base→base.Ns mainGlobals mg→FnOk l.prog w K mg base CX0 4 fa fd ["_law_script"] (spV 1 (G.gF (cE aW o0 x0 y0 o1 x1 y1 o2 x2 y2 o3 x3 y3))):=by
 have e:=hfa.symm.trans (PySem.W.mg_of X Gg alaw)
 cases e
 have T:Txt mg:=⟨PySem.W.mg_none_of X Gg z_dict,PySem.W.mg_none_of X Gg z_int,PySem.W.mg_none_of X Gg z_len,PySem.W.mg_none_of X Gg z_list,PySem.W.mg_none_of X Gg z_max,PySem.W.mg_none_of X Gg z_min,PySem.W.mg_none_of X Gg z_range,PySem.W.mg_none_of X Gg z_sorted,PySem.W.mg_none_of X Gg z_tuple,⟨t_SIDE,PySem.W.mg_of X Gg g_SIDE⟩⟩
 have U_w0:=cf (st:=fF) lw0 cw0 kw0
 have U_w1:=cf (st:=fG) lw1 cw1 kw1
 have U_w2:=cf (st:=fH) lw2 cw2 kw2
 have U_w3:=cf (st:=fI) lw3 cw3 kw3
 have U_w4:=cf (st:=fJ) lw4 cw4 kw4
 have U_w5:=cf (st:=fK) lw5 cw5 kw5
 have U_w6:=cf (st:=fL) lw6 cw6 kw6
 have U_w7:=cf (st:=dU) lw7 cw7 kw7
 have U_w8:=cf (st:=fM) lw8 cw8 kw8
 have U_w9:=cf (st:=eI) lw9 cw9 kw9
 have U_w10:=cf (st:=fN) lw10 cw10 kw10
 have U_w11:=cf (st:=eJ) lw11 cw11 kw11
 have U_w12:=cf (st:=dW) lw12 cw12 kw12
 have U_w13:=cf (st:=fO) lw13 cw13 kw13
 have U_law:=cf (st:=cG) llaw claw klaw
 have b_w0:=U_w0.binds (ps:=["one","other"]) fun _ _ _ _ _ _ us hl=>match us,hl with | [_,_],_=>rfl
 have m_w0:=PySem.W.mg_of X Gg aw0
 have b_w1:=U_w1.binds (ps:=["field","cell"]) fun _ _ _ _ _ _ us hl=>match us,hl with | [_,_],_=>rfl
 have m_w1:=PySem.W.mg_of X Gg aw1
 have b_w2:=U_w2.binds (ps:=["cell","way","many"]) fun _ _ _ _ _ _ us hl=>match us,hl with | [_,_,_],_=>rfl
 have m_w2:=PySem.W.mg_of X Gg aw2
 have b_w3:=U_w3.binds (ps:=["field","tree","cell"]) fun _ _ _ _ _ _ us hl=>match us,hl with | [_,_,_],_=>rfl
 have m_w3:=PySem.W.mg_of X Gg aw3
 have b_w4:=U_w4.binds (ps:=["field","tree"]) fun _ _ _ _ _ _ us hl=>match us,hl with | [_,_],_=>rfl
 have m_w4:=PySem.W.mg_of X Gg aw4
 have b_w5:=U_w5.binds (ps:=["_law_script","_law_k"]) fun _ _ _ _ _ _ us hl=>match us,hl with | [_,_],_=>rfl
 have m_w5:=PySem.W.mg_of X Gg aw5
 have b_w6:=U_w6.binds (ps:=["_law_script","_law_k"]) fun _ _ _ _ _ _ us hl=>match us,hl with | [_,_],_=>rfl
 have m_w6:=PySem.W.mg_of X Gg aw6
 have b_w7:=U_w7.binds (ps:=["_law_hand_here","_law_many"]) fun _ _ _ _ _ _ us hl=>match us,hl with | [_,_],_=>rfl
 have m_w7:=PySem.W.mg_of X Gg aw7
 have b_w8:=U_w8.binds (ps:=["_law_hand_here"]) fun _ _ _ _ _ _ us hl=>match us,hl with | [_],_=>rfl
 have m_w8:=PySem.W.mg_of X Gg aw8
 have b_w9:=U_w9.binds (ps:=["_law_block"]) fun _ _ _ _ _ _ us hl=>match us,hl with | [_],_=>rfl
 have m_w9:=PySem.W.mg_of X Gg aw9
 have b_w10:=U_w10.binds (ps:=["_law_some"]) fun _ _ _ _ _ _ us hl=>match us,hl with | [_],_=>rfl
 have m_w10:=PySem.W.mg_of X Gg aw10
 have b_w11:=U_w11.binds (ps:=["_law_some"]) fun _ _ _ _ _ _ us hl=>match us,hl with | [_],_=>rfl
 have m_w11:=PySem.W.mg_of X Gg aw11
 have b_w12:=U_w12.binds (ps:=["_law_hand_here","_law_some"]) fun _ _ _ _ _ _ us hl=>match us,hl with | [_,_],_=>rfl
 have m_w12:=PySem.W.mg_of X Gg aw12
 have b_w13:=U_w13.binds (ps:=["_law_cells"]) fun _ _ _ _ _ _ us hl=>match us,hl with | [_],_=>rfl
 have m_w13:=PySem.W.mg_of X Gg aw13
 have KT:KTab K l.prog w (cE aW o0 x0 y0 o1 x1 y1 o2 x2 y2 o3 x3 y3).kt (cE aW o0 x0 y0 o1 x1 y1 o2 x2 y2 o3 x3 y3).kd:=xn lWAYS hh0 hh1 hh2 hh3 ⟨_,_,_,_,_,q_k0⟩ ⟨_,_,_,_,_,q_k1⟩ ⟨_,_,_,_,_,q_k2⟩ ⟨_,_,_,_,_,q_k3⟩ ⟨_,_,_,q_o0⟩ ⟨_,_,_,q_o1⟩ ⟨_,_,_,q_o2⟩ ⟨_,_,_,q_o3⟩ ⟨_,_,_,_,_,q_x0⟩ ⟨_,_,_,_,_,q_y0⟩ ⟨_,_,_,_,_,q_x1⟩ ⟨_,_,_,_,_,q_y1⟩ ⟨_,_,_,_,_,q_x2⟩ ⟨_,_,_,_,_,q_y2⟩ ⟨_,_,_,_,_,q_x3⟩ ⟨_,_,_,_,_,q_y3⟩
 have KW:=PySem.W.mg_of X Gg gWAYS
 refine⟨PySem.W.fnOf "law" "law" (bD cG) (bx cG) (aD cG) .none kVlaw dclaw pmlaw anlaw cdlaw ctlaw,fun s v=>.of_eq rfl,fun base _ _=>?_⟩
 have G_w0:=yd (P:=l.prog) (w:=w) (base:=base) U_w0 T 
 have G_w1:=ye (P:=l.prog) (w:=w) (base:=base) U_w1 T 
 have G_w2:=yf (P:=l.prog) (w:=w) (base:=base) (ks:=(cE aW o0 x0 y0 o1 x1 y1 o2 x2 y2 o3 x3 y3)) U_w2 T KT KW 
 have G_w3:=yg (P:=l.prog) (w:=w) (base:=base) (ks:=(cE aW o0 x0 y0 o1 x1 y1 o2 x2 y2 o3 x3 y3)) U_w3 T KT KW U_w1 G_w1 b_w1 m_w1 U_w0 G_w0 b_w0 m_w0 U_w2 G_w2 b_w2 m_w2
 have G_w4:=yh (P:=l.prog) (w:=w) (base:=base) (ks:=(cE aW o0 x0 y0 o1 x1 y1 o2 x2 y2 o3 x3 y3)) U_w4 T KT KW U_w3 G_w3 b_w3 m_w3
 have G_w5:=yi (P:=l.prog) (w:=w) (base:=base) U_w5 T 
 have G_w6:=yj (P:=l.prog) (w:=w) (base:=base) U_w6 T U_w5 G_w5 b_w5 m_w5
 have G_w7:=yk (P:=l.prog) (w:=w) (base:=base) U_w7 T 
 have G_w8:=yl (P:=l.prog) (w:=w) (base:=base) U_w8 T U_w7 G_w7 b_w7 m_w7
 have G_w9:=ym (P:=l.prog) (w:=w) (base:=base) U_w9 T 
 have G_w10:=yn (P:=l.prog) (w:=w) (base:=base) U_w10 T U_w9 G_w9 b_w9 m_w9
 have G_w11:=yo (P:=l.prog) (w:=w) (base:=base) U_w11 T 
 have G_w12:=yp (P:=l.prog) (w:=w) (base:=base) U_w12 T U_w11 G_w11 b_w11 m_w11 U_w7 G_w7 b_w7 m_w7
 have G_w13:=yq (P:=l.prog) (w:=w) (base:=base) U_w13 T 
 exact yr (ks:=(cE aW o0 x0 y0 o1 x1 y1 o2 x2 y2 o3 x3 y3)) U_law T KT KW U_w6 G_w6 b_w6 m_w6 U_w8 G_w8 b_w8 m_w8 U_w12 G_w12 b_w12 m_w12 U_w4 G_w4 b_w4 m_w4 U_w10 G_w10 b_w10 m_w10 U_w7 G_w7 b_w7 m_w7 U_w9 G_w9 b_w9 m_w9 U_w13 G_w13 b_w13 m_w13
theorem walk {aW o0 x0 y0 o1 x1 y1 o2 x2 y2 o3 x3 y3:Addr}{l:PySem.W.OpenLaw}{q:Program}{loose:List Str}{XP:(Str→Option Value)→Heap→Prop}{YP:World→Heap→Prop}{d:DefRec}{K:Params→PySem.W.Frag} (hn:l.most=some 63) (hdf:d.params.defaults=[])
  (hY:∀ (w:World) (h:Heap),YP w h→(K w.params).In h) (hK:∀ p,iy (K p)=true)
  (F:∀ (w:World) (mg:Str→Option Value) (fa:Addr) (h:Heap),(K w.params).In h→h.Ns mainGlobals mg→mg d.name=some (.ref fa)→
   ∃ fd:FuncData,(∀ (s:Shared) (u:Value),BindsTo s fd ⟨[u],[]⟩ [("_law_script",u)])∧∀ base:Heap,(K w.params).In base→base.Ns mainGlobals mg→FnOk l.prog w (K w.params) mg base CX0 4 fa fd ["_law_script"] (spV 1 (G.gF (cE aW o0 x0 y0 o1 x1 y1 o2 x2 y2 o3 x3 y3)))) (KO:G.KOk (cE aW o0 x0 y0 o1 x1 y1 o2 x2 y2 o3 x3 y3)):
  PySem.W.WalkO q loose XP YP l.row.toRowW d [] (fun f vs=>PySem.call f vs):=
 L2.vd (n:=63) (k:=4) (x := "_law_script") (CX:=fun _=>CX0) (sp:=fun w=>spV 1 (G.gF (cE aW o0 x0 y0 o1 x1 y1 o2 x2 y2 o3 x3 y3))) hn (by decide) hdf ⟨rfl,by decide,by decide,rfl⟩ hY F (fun w H a ns hl hO hS=>zM (hK w.params) H a ns hO hS (G.zK KO ns (Nat.lt_of_le_of_lt hl (by decide)))) fun _ _ _ _ _ z=>z
end K43
open PySem PySem.W PyProof.Rows
set_option maxRecDepth 100000 in
set_option maxHeartbeats 0 in
theorem PySem.Challenge.cw_mowfloor_k43_rings_of_leaves_holds : PySem.Challenge.rw_mowfloor_k43_rings_of_leaves.Holds := by
  w_on; o_law; k_head; (case hw => w_witness2)
  k_fill
  refine' K43.walk (l := PySem.Challenge.rw_mowfloor_k43_rings_of_leaves) rfl rfl (fun w h Y => PySem.W.kIn_of Y) ?hK ?F ?KO
  case hK => intro p; rfl
  case F =>
    intro w mg fa h KX G hmg
    refine' K43.all_mk KX G hmg ?aw0 ?lw0 ?cw0 ?kw0 ?aw1 ?lw1 ?cw1 ?kw1 ?aw2 ?lw2 ?cw2 ?kw2 ?aw3 ?lw3 ?cw3 ?kw3 ?aw4 ?lw4 ?cw4 ?kw4 ?aw5 ?lw5 ?cw5 ?kw5 ?aw6 ?lw6 ?cw6 ?kw6 ?aw7 ?lw7 ?cw7 ?kw7 ?aw8 ?lw8 ?cw8 ?kw8 ?aw9 ?lw9 ?cw9 ?kw9 ?aw10 ?lw10 ?cw10 ?kw10 ?aw11 ?lw11 ?cw11 ?kw11 ?aw12 ?lw12 ?cw12 ?kw12 ?aw13 ?lw13 ?cw13 ?kw13 ?alaw ?llaw ?claw ?klaw ?gWAYS ?lWAYS ?q_o0 ?q_o1 ?q_o2 ?q_o3 ?q_k0 ?q_k1 ?q_k2 ?q_k3 ?q_x0 ?q_y0 ?q_x1 ?q_y1 ?q_x2 ?q_y2 ?q_x3 ?q_y3 ?hh0 ?hh1 ?hh2 ?hh3 ?g_SIDE ?z_dict ?z_int ?z_len ?z_list ?z_max ?z_min ?z_range ?z_sorted ?z_tuple
    (case aw0 => k_is)
    (case lw0 => k_is)
    (case cw0 => k_is)
    (case kw0 => k_is)
    (case aw1 => k_is)
    (case lw1 => k_is)
    (case cw1 => k_is)
    (case kw1 => k_is)
    (case aw2 => k_is)
    (case lw2 => k_is)
    (case cw2 => k_is)
    (case kw2 => k_is)
    (case aw3 => k_is)
    (case lw3 => k_is)
    (case cw3 => k_is)
    (case kw3 => k_is)
    (case aw4 => k_is)
    (case lw4 => k_is)
    (case cw4 => k_is)
    (case kw4 => k_is)
    (case aw5 => k_is)
    (case lw5 => k_is)
    (case cw5 => k_is)
    (case kw5 => k_is)
    (case aw6 => k_is)
    (case lw6 => k_is)
    (case cw6 => k_is)
    (case kw6 => k_is)
    (case aw7 => k_is)
    (case lw7 => k_is)
    (case cw7 => k_is)
    (case kw7 => k_is)
    (case aw8 => k_is)
    (case lw8 => k_is)
    (case cw8 => k_is)
    (case kw8 => k_is)
    (case aw9 => k_is)
    (case lw9 => k_is)
    (case cw9 => k_is)
    (case kw9 => k_is)
    (case aw10 => k_is)
    (case lw10 => k_is)
    (case cw10 => k_is)
    (case kw10 => k_is)
    (case aw11 => k_is)
    (case lw11 => k_is)
    (case cw11 => k_is)
    (case kw11 => k_is)
    (case aw12 => k_is)
    (case lw12 => k_is)
    (case cw12 => k_is)
    (case kw12 => k_is)
    (case aw13 => k_is)
    (case lw13 => k_is)
    (case cw13 => k_is)
    (case kw13 => k_is)
    (case alaw => k_is)
    (case llaw => k_is)
    (case claw => k_is)
    (case klaw => k_is)
    (case gWAYS => k_is)
    (case lWAYS => k_is)
    (case q_o0 => k_is)
    (case q_o1 => k_is)
    (case q_o2 => k_is)
    (case q_o3 => k_is)
    (case q_k0 => k_is)
    (case q_k1 => k_is)
    (case q_k2 => k_is)
    (case q_k3 => k_is)
    (case q_x0 => k_is)
    (case q_y0 => k_is)
    (case q_x1 => k_is)
    (case q_y1 => k_is)
    (case q_x2 => k_is)
    (case q_y2 => k_is)
    (case q_x3 => k_is)
    (case q_y3 => k_is)
    (case hh0 => kernel_rfl)
    (case hh1 => kernel_rfl)
    (case hh2 => kernel_rfl)
    (case hh3 => kernel_rfl)
    (case g_SIDE => k_is)
    (case z_dict => k_is)
    (case z_int => k_is)
    (case z_len => k_is)
    (case z_list => k_is)
    (case z_max => k_is)
    (case z_min => k_is)
    (case z_range => k_is)
    (case z_sorted => k_is)
    (case z_tuple => k_is)
  case KO => exact ⟨⟨_, _, _, rfl, rfl, rfl, rfl, rfl, rfl, rfl⟩, ⟨_, _, _, rfl, rfl, rfl, rfl, rfl, rfl, rfl⟩, ⟨_, _, _, rfl, rfl, rfl, rfl, rfl, rfl, rfl⟩, ⟨_, _, _, rfl, rfl, rfl, rfl, rfl, rfl, rfl⟩⟩
