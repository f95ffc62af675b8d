import PyProof.Rows.All
import Wide.All
import OpenK.AllK
import Wide.FinOn
import Lean
import PyProof.EqAt
import PyProof.EqKinds
import PyProof.TupleCall
import PyProof.IsiNone
import PyProof.NeKinds
import PyProof.MaxThree
import PyProof.Rows.SetFrom
import PyProof.WalksMore
import PyProof.CallStr
import PySem.Challenge.RW_mowfloor_k01_floors_of_anything
set_option Elab.async false
set_option linter.all false
set_option maxRecDepth 100000
namespace L2
open PySem PySem.Spec PyProof.Rows
inductive Im where
 | non | bl (b:Bool) | int (i:Int) | str (x:Str) | tup (ds:List Im) | fn (a:Addr) | fl (ds:List Im) | fd
mutual
noncomputable def Im.beq:Im→Im→Bool
 | .non,.non=>true
 | .bl a,.bl b=>a == b
 | .int i,.int j=>decide (i=j)
 | .str x,.str y=>decide (x=y)
 | .tup a,.tup b=>Im.beqs a b
 | .fn a,.fn b=>decide (a=b)
 | .fl a,.fl b=>Im.beqs a b
 | .fd,.fd=>true
 | _,_=>false
noncomputable def Im.beqs:List Im→List Im→Bool
 | [],[]=>true
 | a::r,b::t=>Im.beq a b && Im.beqs r t
 | _,_=>false
end
mutual
theorem Im.beq_iff:∀ a b:Im,Im.beq a b=true↔a=b
 | .non,b=>by cases b<;>simp[Im.beq]
 | .bl a,b=>by cases b<;>simp[Im.beq]
 | .int i,b=>by cases b<;>simp[Im.beq]
 | .str x,b=>by cases b<;>simp[Im.beq]
 | .tup x,b=>by
  cases b with
  | tup y=>rw[Im.beq,Im.beqs_iff x y];simp
  | _=>simp[Im.beq]
 | .fn a,b=>by cases b<;>simp[Im.beq]
 | .fl x,b=>by
  cases b with
  | fl y=>rw[Im.beq,Im.beqs_iff x y];simp
  | _=>simp[Im.beq]
 | .fd,b=>by cases b<;>simp[Im.beq]
theorem Im.beqs_iff:∀ a b:List Im,Im.beqs a b=true↔a=b
 | [],b=>by cases b<;>simp[Im.beqs]
 | x::r,b=>by
  cases b with
  | nil=>simp[Im.beqs]
  | cons y t=>rw[Im.beqs,Bool.and_eq_true,Im.beq_iff x y,Im.beqs_iff r t];simp
end
noncomputable instance:DecidableEq Im:=fun a b=>decidable_of_iff (Im.beq a b=true) (Im.beq_iff a b)
mutual
noncomputable def ImV (h:Heap):Im→Value→Prop
 | .non,v=>v=.none
 | .bl b,v=>v=.bool b
 | .int i,v=>∃ t,v=.int i t
 | .str x,v=>∃ t,v=.str x t
 | .fn a,v=>v=.ref a
 | .fl _,v=>∃ a,v=.ref a
 | .fd,v=>∃ a,v=.ref a
 | .tup ds,v=>∃ a o items n,v=.ref a∧h.get? a=some o∧o.cls=.type "tuple" ∧ o.data=.seq items n∧aD h ds items.toList
noncomputable def aD (h:Heap):List Im→List Value→Prop
 | [],vs=>vs=[]
 | d::ds,vs=>∃ v r,vs=v::r∧ImV h d v∧aD h ds r
end
mutual
noncomputable def Im.key:Nat→Im→Bool
 | _,.int _=>true
 | _,.str _=>true
 | n+1,.tup ds=>Im.keys n ds
 | _,_=>false
noncomputable def Im.keys:Nat→List Im→Bool
 | _,[]=>true
 | n,d::ds=>Im.key n d && Im.keys n ds
end
mutual
noncomputable def imH (w:World):Im→Int
 | .int i=>hashInt i
 | .str x=>hashStr w x
 | .tup ds=>reduceHash (Builtin.Tuple.tupleHashOf (ce w ds))
 | _=>0
noncomputable def ce (w:World):List Im→List Int
 | []=>[]
 | d::ds=>imH w d::ce w ds
end
mutual
noncomputable def imD:Im→Nat
 | .tup ds=>cS ds+1
 | _=>1
noncomputable def cS:List Im→Nat
 | []=>0
 | d::ds=>imD d+cS ds
end
theorem jC (w:World):∀ a b:List Im,ce w (a++b)=ce w a++ce w b
 | [],b=>rfl
 | d::a,b=>by rw[List.cons_append,ce,ce,jC w a b,List.cons_append]
theorem jD:∀ a b:List Im,cS (a++b)=cS a+cS b
 | [],b=>by simp[cS]
 | d::a,b=>by rw[List.cons_append,cS,cS,jD a b];lia
theorem md {n:Nat}:∀ {a b:List Im},Im.keys n (a++b)=true→Im.keys n b=true
 | [],b,h=>h
 | d::a,b,h=>by rw[List.cons_append,Im.keys,Bool.and_eq_true] at h;exact md h.2
theorem aD.length {h:Heap}:∀ {ds:List Im}{vs:List Value},aD h ds vs→ds.length=vs.length
 | [],vs,e=>by rw[show vs=[] from e];rfl
 | d::ds,vs,e=>by
  obtain⟨v,r,rfl,_,e⟩:=e
  rw[List.length_cons,List.length_cons,aD.length e]
noncomputable def iB (h h':Heap):Prop:=∀ a o items n,h.get? a=some o→o.cls=.type "tuple" → o.data=.seq items n→h'.get? a=some o
mutual
theorem ImV.keep {h h':Heap} (k:iB h h'):∀ {d:Im}{v:Value},ImV h d v→ImV h' d v
 | .non,_,e=>e
 | .bl _,_,e=>e
 | .int _,_,e=>e
 | .str _,_,e=>e
 | .fn _,_,e=>e
 | .fl _,_,e=>e
 | .fd,_,e=>e
 | .tup ds,_,e=>by
  obtain⟨a,o,items,n,rfl,h1,h2,h3,h4⟩:=e
  exact⟨a,o,items,n,rfl,k a o items n h1 h2 h3,h2,h3,aD.keep k h4⟩
theorem aD.keep {h h':Heap} (k:iB h h'):∀ {ds:List Im}{vs:List Value},aD h ds vs→aD h' ds vs
 | [],_,e=>e
 | d::ds,_,e=>by
  obtain⟨v,r,rfl,h1,h2⟩:=e
  exact⟨v,r,rfl,ImV.keep k h1,aD.keep k h2⟩
end
theorem me {h:Heap}:∀ (n:Nat) {x y:Im}{v:Value},Im.key n x=true→Im.key n y=true→ImV h x v→ImV h y v→x=y
 | n,.int i,y,v,_,ky,hx,hy=>by
  obtain⟨t,rfl⟩:=hx
  cases y with
  | int j=>obtain⟨u,e⟩:=hy;injection e with e;rw[e]
  | str z=>obtain⟨u,e⟩:=hy;cases e
  | tup ds=>obtain⟨_,_,_,_,e,_⟩:=hy;cases e
  | _=>cases n<;>cases ky
 | n,.str z,y,v,_,ky,hx,hy=>by
  obtain⟨t,rfl⟩:=hx
  cases y with
  | int j=>obtain⟨u,e⟩:=hy;cases e
  | str z=>obtain⟨u,e⟩:=hy;injection e with e;rw[e]
  | tup ds=>obtain⟨_,_,_,_,e,_⟩:=hy;cases e
  | _=>cases n<;>cases ky
 | n+1,.tup ds,y,v,kx,ky,hx,hy=>by
  obtain⟨a,o,items,m,rfl,h1,h2,h3,h4⟩:=hx
  cases y with
  | int j=>obtain⟨u,e⟩:=hy;cases e
  | str z=>obtain⟨u,e⟩:=hy;cases e
  | tup es=>
   obtain⟨a',o',items',m',e,g1,g2,g3,g4⟩:=hy
   cases e
   rw[h1] at g1
   cases g1
   rw[h3] at g3
   injection g3 with g3 _
   subst g3
   have all:∀ (ds es:List Im) (vs:List Value),Im.keys n ds=true→Im.keys n es=true→aD h ds vs→aD h es vs→ds=es:=by
    intro ds
    induction ds with
    | nil=>
     intro es vs _ _ a b
     cases es with
     | nil=>rfl
     | cons e es=>obtain⟨_,_,q,_⟩:=b;rw[show vs=[] from a] at q;cases q
    | cons d ds ih=>
     intro es vs k1 k2 a b
     obtain⟨v,r,rfl,a1,a2⟩:=a
     cases es with
     | nil=>cases (show v::r=[] from b)
     | cons e es=>
      obtain⟨v',r',q,b1,b2⟩:=b
      cases q
      rw[Im.keys,Bool.and_eq_true] at k1 k2
      rw[me n k1.1 k2.1 a1 b1,ih es r k1.2 k2.2 a2 b2]
   rw[all ds es _ kx ky h4 g4]
  | _=>cases ky
 | _,.non,_,_,k,_,_,_=>by cases ‹Nat›<;>cases k
 | _,.bl _,_,_,k,_,_,_=>by cases ‹Nat›<;>cases k
 | _,.fn _,_,_,k,_,_,_=>by cases ‹Nat›<;>cases k
 | _,.fl _,_,_,k,_,_,_=>by cases ‹Nat›<;>cases k
 | _,.fd,_,_,k,_,_,_=>by cases ‹Nat›<;>cases k
 | 0,.tup _,_,_,k,_,_,_=>by cases k
section
variable {prog:Program}{w:World}
theorem mf:∀ (n:Nat) {A:Around}{E:Value→Shared→Prop}{s:Shared}{d:Im}{v:Value}{Q:Int→Shared→Prop},Im.key n d=true→A.units+n<cLine→ImV s.heap d v→Q (imH w d) { s with toks:=s.toks+imD d }→
  wpAny (model prog w) A (pyHash v) Q E s
 | n,A,E,s,.int i,v,Q,_,_,hv,h=>by
  obtain⟨t,rfl⟩:=hv
  exact wpAny_pyHash_int h
 | n,A,E,s,.str i,v,Q,_,_,hv,h=>by
  obtain⟨t,rfl⟩:=hv
  exact wpAny_pyHash_str h
 | n+1,A,E,s,.tup ds,v,Q,k,hu,hv,h=>by
  obtain⟨a,o,items,m,rfl,ho,hc,hd,hi⟩:=hv
  have hT:s.TypeIs (.ref a) "tuple" := ⟨o,ho,hc⟩
  unfold pyHash
  first | unfold pyHashByItsType | skip
  first | refine wpAny_bind (wpAny_cRoomFor_or (.inr (by lia)) ?_) | skip
  refine wpAny_bind (wpAny_specialOf hT F.slot_tuple_hash.lookup ?_)
  show wpAny _ _ (if (some (Value.builtin "tuple.__hash__") == some Value.none)=true then _ else _) Q E s
  rw[if_neg (by rw[beq_builtin_none];exact Bool.false_ne_true)]
  refine wpAny_bind (wpAny_specialOf hT F.slot_tuple_hash.lookup ?_)
  show wpAny _ _ (callSpecialIfBoundUnlessNone? (.ref a) "__hash__" _ >>= _) Q E s
  refine wpAny_bind (wpAny_callSpecialIfBoundUnlessNone?_slot hT F.slot_tuple_hash (wpAny_call_entry F.slot_tuple_hash hT F.entry_tuple_hash ?_ (F.args_tuple_hash_1 _)))
  show wpAny _ _ (Builtin.Tuple.tupleItemsOf (.ref a) >>= _) _ _ s
  refine wpAny_bind (wpAny_tupleItemsOf ho hd ?_)
  refine wpAny_bind ?_
  rw[← Array.forIn_toList]
  refine wpAny_forIn_list _
   (fun rest (b:Array Int) s'=>∃ done left,ds=done++left∧aD s.heap left rest∧b.toList=ce w done∧s'={ s with toks:=s.toks+cS done })
   _ ?_ ?_ _ _ ⟨[],ds,rfl,hi,rfl,rfl⟩
  ·rintro x rest b s' ⟨done,left,rfl,hl,hb,rfl⟩
   cases left with
   | nil=>cases (show x::rest=[] from hl)
   | cons d left=>
    obtain⟨v,r,e,h1,hl'⟩:=hl
    cases e
    have k2:=md (a:=done) (show Im.keys n (done++d::left)=true from k)
    rw[Im.keys,Bool.and_eq_true] at k2
    refine wpAny_bind (mf n k2.1 (by show A.units+1+n<cLine;lia) h1 ?_)
    first
     | exact wpAny_pure ⟨done++[d],left,by simp,hl',by simp[hb,jC,ce],by simp[jD,cS,Nat.add_assoc]⟩
     | exact wpAny_bind (wpAny_pure (wpAny_pure ⟨done++[d],left,by simp,hl',by simp[hb,jC,ce],by simp[jD,cS,Nat.add_assoc]⟩))
  ·rintro b s' ⟨done,left,rfl,hl,hb,rfl⟩
   cases left with
   | cons d left=>obtain⟨_,_,e,_⟩:=hl;cases e
   | nil=>
   rw[List.append_nil] at h
   show wpAny _ _ (retInt (Builtin.Tuple.tupleHashOf b.toList)) _ _ _
   rw[hb]
   refine wpAny_ret_mkInt ?_
   show wpAny _ _ (if (decide (-(2:Int) ^ 63≤Builtin.Tuple.tupleHashOf (ce w done)) && decide (Builtin.Tuple.tupleHashOf (ce w done)<2 ^ 63))=true then _ else _) Q E _
   rw[imH,imD] at h
   unfold reduceHash at h
   by_cases hr:(decide (-(2:Int) ^ 63≤Builtin.Tuple.tupleHashOf (ce w done)) && decide (Builtin.Tuple.tupleHashOf (ce w done)<2 ^ 63))=true
   ·rw[if_pos hr]
    rw[if_pos hr] at h
    exact wpAny_pure (by simpa [Nat.add_assoc] using h)
   ·rw[if_neg hr]
    rw[if_neg hr] at h
    exact wpAny_bind (wpAny_rule (wpAny_pure (by simpa [Nat.add_assoc] using h)))
 | _,_,_,_,.non,_,_,k,_,_,_=>by cases ‹Nat›<;>cases k
 | _,_,_,_,.bl _,_,_,k,_,_,_=>by cases ‹Nat›<;>cases k
 | _,_,_,_,.fn _,_,_,k,_,_,_=>by cases ‹Nat›<;>cases k
 | _,_,_,_,.fl _,_,_,k,_,_,_=>by cases ‹Nat›<;>cases k
 | _,_,_,_,.fd,_,_,k,_,_,_=>by cases ‹Nat›<;>cases k
 | 0,_,_,_,.tup _,_,_,k,_,_,_=>by cases k
mutual
noncomputable def aw:Im→Im→Bool
 | .non,.non=>true
 | .bl a,.bl b=>a == b
 | .bl a,.int j=>(if a then 1 else 0) == j
 | .int i,.bl b=>i == (if b then 1 else 0)
 | .int i,.int j=>i == j
 | .str x,.str y=>x == y
 | .tup a,.tup b=>bn a b
 | _,_=>false
noncomputable def bn:List Im→List Im→Bool
 | [],[]=>true
 | a::r,b::t=>aw a b && bn r t
 | _,_=>false
end
mutual
noncomputable def Im.pl:Nat→Im→Bool
 | _,.non=>true
 | _,.bl _=>true
 | _,.int _=>true
 | _,.str _=>true
 | n+1,.tup ds=>Im.pls n ds
 | _,_=>false
noncomputable def Im.pls:Nat→List Im→Bool
 | _,[]=>true
 | n,d::ds=>Im.pl n d && Im.pls n ds
end
theorem cU {n:Nat}:∀ {ds:List Im}{j:Nat}{d:Im},Im.pls n ds=true→ds[j]?=some d→Im.pl n d=true
 | [],j,d,_,h=>by simp at h
 | e::ds,0,d,k,h=>by
  rw[Im.pls,Bool.and_eq_true] at k
  simp at h
  subst h
  exact k.1
 | e::ds,j+1,d,k,h=>by
  rw[Im.pls,Bool.and_eq_true] at k
  exact cU k.2 (by simpa using h)
theorem aD.get {h:Heap}:∀ {ds:List Im}{vs:List Value}{j:Nat}{v:Value},aD h ds vs→vs[j]?=some v→∃ d,ds[j]?=some d∧ImV h d v
 | [],vs,j,v,a,e=>by rw[show vs=[] from a] at e;simp at e
 | d::ds,vs,0,v,a,e=>by
  obtain⟨u,r,rfl,a1,a2⟩:=a
  simp at e
  subst e
  exact⟨d,rfl,a1⟩
 | d::ds,vs,j+1,v,a,e=>by
  obtain⟨u,r,rfl,a1,a2⟩:=a
  obtain⟨d',h1,h2⟩:=aD.get (j:=j) a2 (by simpa using e)
  exact⟨d',by simpa using h1,h2⟩
theorem mh {h:Heap}:∀ (n:Nat) {x y:Im}{v:Value},Im.pl n x=true→Im.pl n y=true→ImV h x v→ImV h y v→aw x y=true
 | n,.non,y,v,_,ky,hx,hy=>by
  cases (show v=.none from hx)
  cases y with
  | non=>rfl
  | bl b=>cases hy
  | int j=>obtain⟨u,e⟩:=hy;cases e
  | str z=>obtain⟨u,e⟩:=hy;cases e
  | tup ds=>obtain⟨_,_,_,_,e,_⟩:=hy;cases e
  | fn a=>cases n<;>cases ky
  | fl a=>cases n<;>cases ky
  | fd=>cases n<;>cases ky
 | n,.bl b,y,v,_,ky,hx,hy=>by
  cases (show v=.bool b from hx)
  cases y with
  | non=>cases hy
  | bl c=>cases hy;simp[aw]
  | int j=>obtain⟨u,e⟩:=hy;cases e
  | str z=>obtain⟨u,e⟩:=hy;cases e
  | tup ds=>obtain⟨_,_,_,_,e,_⟩:=hy;cases e
  | fn a=>cases n<;>cases ky
  | fl a=>cases n<;>cases ky
  | fd=>cases n<;>cases ky
 | n,.int i,y,v,_,ky,hx,hy=>by
  obtain⟨t,rfl⟩:=hx
  cases y with
  | non=>cases hy
  | bl c=>cases hy
  | int j=>obtain⟨u,e⟩:=hy;cases e;simp[aw]
  | str z=>obtain⟨u,e⟩:=hy;cases e
  | tup ds=>obtain⟨_,_,_,_,e,_⟩:=hy;cases e
  | fn a=>cases n<;>cases ky
  | fl a=>cases n<;>cases ky
  | fd=>cases n<;>cases ky
 | n,.str i,y,v,_,ky,hx,hy=>by
  obtain⟨t,rfl⟩:=hx
  cases y with
  | non=>cases hy
  | bl c=>cases hy
  | int j=>obtain⟨u,e⟩:=hy;cases e
  | str z=>obtain⟨u,e⟩:=hy;cases e;simp[aw]
  | tup ds=>obtain⟨_,_,_,_,e,_⟩:=hy;cases e
  | fn a=>cases n<;>cases ky
  | fl a=>cases n<;>cases ky
  | fd=>cases n<;>cases ky
 | n+1,.tup ds,y,v,kx,ky,hx,hy=>by
  obtain⟨a,o,items,m,rfl,h1,h2,h3,h4⟩:=hx
  cases y with
  | non=>cases hy
  | bl c=>cases hy
  | int j=>obtain⟨u,e⟩:=hy;cases e
  | str z=>obtain⟨u,e⟩:=hy;cases e
  | fn a=>cases ky
  | fl a=>cases ky
  | fd=>cases ky
  | tup es=>
   obtain⟨a',o',items',m',e,g1,g2,g3,g4⟩:=hy
   cases e
   rw[h1] at g1
   cases g1
   rw[h3] at g3
   injection g3 with g3 _
   subst g3
   have all:∀ (ds es:List Im) (vs:List Value),Im.pls n ds=true→Im.pls n es=true→aD h ds vs→aD h es vs→bn ds es=true:=by
    intro ds
    induction ds with
    | nil=>
     intro es vs _ _ a b
     cases es with
     | nil=>rfl
     | cons e es=>obtain⟨_,_,q,_⟩:=b;rw[show vs=[] from a] at q;cases q
    | cons d ds ih=>
     intro es vs k1 k2 a b
     obtain⟨v,r,rfl,a1,a2⟩:=a
     cases es with
     | nil=>cases (show v::r=[] from b)
     | cons e es=>
      obtain⟨v',r',q,b1,b2⟩:=b
      cases q
      rw[Im.pls,Bool.and_eq_true] at k1 k2
      rw[bn,mh n k1.1 k2.1 a1 b1,ih es r k1.2 k2.2 a2 b2]
      rfl
   rw[aw]
   exact all ds es _ kx ky h4 g4
 | n,.fn _,_,_,k,_,_,_=>by cases n<;>cases k
 | n,.fl _,_,_,k,_,_,_=>by cases n<;>cases k
 | n,.fd,_,_,k,_,_,_=>by cases n<;>cases k
 | 0,.tup _,_,_,k,_,_,_=>by cases k
theorem gC {e:Nat→Bool}:∀ {ds es:List Im},(∀ (j:Nat) (x y:Im),ds[j]?=some x→es[j]?=some y→e j=aw x y)→((List.range (min ds.length es.length)).all e && ds.length == es.length)=bn ds es:=by
 have key:∀ (ds es:List Im) (f:Nat→Bool),(∀ (j:Nat) (x y:Im),ds[j]?=some x→es[j]?=some y→f j=aw x y)→((List.range (min ds.length es.length)).all f && ds.length == es.length)=bn ds es:=by
  intro ds
  induction ds with
  | nil=>intro es f _;cases es<;>simp[bn]
  | cons d ds ih=>
   intro es f h
   cases es with
   | nil=>simp[bn]
   | cons c es=>
    have:=ih es (fun j=>f (j+1)) fun j x y a b=>h (j+1) x y (by simpa using a) (by simpa using b)
    rw[bn,← this,← h 0 d c rfl rfl]
    rw[List.length_cons,List.length_cons,show min (ds.length+1) (es.length+1)=min ds.length es.length+1 by lia,List.range_succ_eq_map,List.all_cons,List.all_map,Bool.and_assoc]
    congr 2
    rw[Bool.eq_iff_iff]
    simp
 exact fun {ds es} h=>key ds es e h
theorem c7 {s:Shared}:∀ (n:Nat) {A:Around}{x y:Im}{u v:Value},Im.pl n x=true→Im.pl n y=true→A.units+n+1<cLine→ImV s.heap x u→ImV s.heap y v→SeqAt.EqAt A s u v (aw x y)
 | n,A,.non,y,u,v,_,ky,hu,hx,hy=>by
  cases (show u=.none from hx)
  cases y with
  | non=>cases (show v=.none from hy);exact SeqAt.EqAt.same _
  | bl b=>cases (show v=.bool b from hy);exact SeqAt.EqAt.none_bool b
  | int j=>obtain⟨t,rfl⟩:=hy;exact SeqAt.EqAt.none_int j t
  | str z=>obtain⟨t,rfl⟩:=hy;exact SeqAt.EqAt.none_str z t
  | tup ds=>obtain⟨a,o,items,m,rfl,h1,h2,h3,_⟩:=hy;exact SeqAt.EqAt.none_tuple ⟨o,h1,h2,m,h3⟩ (by lia)
  | fn a=>cases n<;>cases ky
  | fl a=>cases n<;>cases ky
  | fd=>cases n<;>cases ky
 | n,A,.bl b,y,u,v,_,ky,hu,hx,hy=>by
  cases (show u=.bool b from hx)
  cases y with
  | non=>cases (show v=.none from hy);exact SeqAt.EqAt.bool_none b
  | bl c=>cases (show v=.bool c from hy);exact SeqAt.EqAt.bool_bool b c
  | int j=>obtain⟨t,rfl⟩:=hy;exact SeqAt.EqAt.bool_int b j t
  | str z=>obtain⟨t,rfl⟩:=hy;exact SeqAt.EqAt.bool_str b z t
  | tup ds=>obtain⟨a,o,items,m,rfl,h1,h2,h3,_⟩:=hy;exact SeqAt.EqAt.bool_tuple b ⟨o,h1,h2,m,h3⟩ (by lia)
  | fn a=>cases n<;>cases ky
  | fl a=>cases n<;>cases ky
  | fd=>cases n<;>cases ky
 | n,A,.int i,y,u,v,_,ky,hu,hx,hy=>by
  obtain⟨t0,rfl⟩:=hx
  cases y with
  | non=>cases (show v=.none from hy);exact SeqAt.EqAt.int_none i t0
  | bl c=>cases (show v=.bool c from hy);exact SeqAt.EqAt.int_bool i t0 c
  | int j=>obtain⟨t,rfl⟩:=hy;exact SeqAt.EqAt.int_int i t0 j t
  | str z=>obtain⟨t,rfl⟩:=hy;exact SeqAt.EqAt.int_str i t0 z t
  | tup ds=>obtain⟨a,o,items,m,rfl,h1,h2,h3,_⟩:=hy;exact SeqAt.EqAt.int_tuple i t0 ⟨o,h1,h2,m,h3⟩ (by lia)
  | fn a=>cases n<;>cases ky
  | fl a=>cases n<;>cases ky
  | fd=>cases n<;>cases ky
 | n,A,.str i,y,u,v,_,ky,hu,hx,hy=>by
  obtain⟨t0,rfl⟩:=hx
  cases y with
  | non=>cases (show v=.none from hy);exact SeqAt.EqAt.str_none i t0
  | bl c=>cases (show v=.bool c from hy);exact SeqAt.EqAt.str_bool i t0 c
  | int j=>obtain⟨t,rfl⟩:=hy;exact SeqAt.EqAt.str_int i t0 j t
  | str z=>obtain⟨t,rfl⟩:=hy;exact SeqAt.EqAt.str_str i t0 z t
  | tup ds=>obtain⟨a,o,items,m,rfl,h1,h2,h3,_⟩:=hy;exact SeqAt.EqAt.str_tuple i t0 ⟨o,h1,h2,m,h3⟩ (by lia)
  | fn a=>cases n<;>cases ky
  | fl a=>cases n<;>cases ky
  | fd=>cases n<;>cases ky
 | n+1,A,.tup ds,y,u,v,kx,ky,hu,hx,hy=>by
  have hx':=hx
  obtain⟨a,o,items,m,rfl,h1,h2,h3,h4⟩:=hx
  have ta:s.heap.IsTuple a items:=⟨o,h1,h2,m,h3⟩
  cases y with
  | non=>cases (show v=.none from hy);exact SeqAt.EqAt.tuple_none ta (by lia)
  | bl c=>cases (show v=.bool c from hy);exact SeqAt.EqAt.tuple_bool c ta (by lia)
  | int j=>obtain⟨t,rfl⟩:=hy;exact SeqAt.EqAt.tuple_int j t ta (by lia)
  | str z=>obtain⟨t,rfl⟩:=hy;exact SeqAt.EqAt.tuple_str z t ta (by lia)
  | fn a=>cases ky
  | fl a=>cases ky
  | fd=>cases ky
  | tup es=>
   have hy':=hy
   obtain⟨b,o',items',m',rfl,g1,g2,g3,g4⟩:=hy
   by_cases e:a=b
   ·subst e
    rw[mh (n+1) kx ky hx' hy']
    exact SeqAt.EqAt.same _
   ·have tb:s.heap.IsTuple b items':=⟨o',g1,g2,m',g3⟩
    have l1:=h4.length
    have l2:=g4.length
    have l3:items.toList.length=items.size:=by simp
    have l4:items'.toList.length=items'.size:=by simp
    rw[l3] at l1
    rw[l4] at l2
    have q:=SeqAt.EqAt.of_refs (A:=A) e (SeqAt.RcAt.tuples (e:=fun j=>aw (ds.getD j .non) (es.getD j .non)) ta tb (by lia) fun j j1 j2=>by
     obtain⟨d1,e1,r1⟩:=h4.get (j:=j) (v:=items[j]) (by rw[Array.getElem?_toList];simp[j1])
     obtain⟨d2,e2,r2⟩:=g4.get (j:=j) (v:=items'[j]) (by rw[Array.getElem?_toList];simp[j2])
     rw[List.getD_eq_getElem?_getD,e1,List.getD_eq_getElem?_getD,e2]
     exact c7 n (cU kx e1) (cU ky e2) (by show A.units+1+n+1<cLine;lia) r1 r2)
    rw[← l1,← l2,gC (ds:=ds) (es:=es) (fun j x y a b=>by rw[List.getD_eq_getElem?_getD,a,List.getD_eq_getElem?_getD,b];rfl)] at q
    rw[aw]
    exact q
 | n,A,.fn _,_,_,_,k,_,_,_,_=>by cases n<;>cases k
 | n,A,.fl _,_,_,_,k,_,_,_,_=>by cases n<;>cases k
 | n,A,.fd,_,_,_,k,_,_,_,_=>by cases n<;>cases k
 | 0,A,.tup _,_,_,_,k,_,_,_,_=>by cases k
mutual
theorem jE:∀ {n:Nat}{d:Im},Im.key n d=true→Im.pl n d=true
 | n,.int _,_=>by cases n<;>rfl
 | n,.str _,_=>by cases n<;>rfl
 | n+1,.tup ds,h=>by rw[Im.key] at h;rw[Im.pl];exact mk h
 | 0,.tup _,h=>by cases h
 | n,.non,h=>by cases n<;>cases h
 | n,.bl _,h=>by cases n<;>cases h
 | n,.fn _,h=>by cases n<;>cases h
 | n,.fl _,h=>by cases n<;>cases h
 | n,.fd,h=>by cases n<;>cases h
theorem mk:∀ {n:Nat}{ds:List Im},Im.keys n ds=true→Im.pls n ds=true
 | n,[],_=>by rw[Im.pls]
 | n,d::ds,h=>by rw[Im.keys,Bool.and_eq_true] at h;rw[Im.pls,jE h.1,mk h.2];rfl
end
mutual
theorem mo:∀ {n:Nat}{x y:Im},Im.key n x=true→Im.key n y=true→aw x y=decide (x=y)
 | n,.int i,y,_,hy=>by
  cases y with
  | int j=>rw[aw];by_cases e:i=j<;>simp[e]
  | str z=>simp[aw]
  | tup z=>simp[aw]
  | _=>cases n<;>cases hy
 | n,.str i,y,_,hy=>by
  cases y with
  | int j=>simp[aw]
  | str z=>rw[aw];by_cases e:i=z<;>simp[e]
  | tup z=>simp[aw]
  | _=>cases n<;>cases hy
 | n+1,.tup ds,y,hx,hy=>by
  cases y with
  | int j=>simp[aw]
  | str z=>simp[aw]
  | tup es=>
   rw[Im.key] at hx hy
   rw[aw,jF hx hy]
   simp
  | _=>cases hy
 | 0,.tup _,_,h,_=>by cases h
 | n,.non,_,h,_=>by cases n<;>cases h
 | n,.bl _,_,h,_=>by cases n<;>cases h
 | n,.fn _,_,h,_=>by cases n<;>cases h
 | n,.fl _,_,h,_=>by cases n<;>cases h
 | n,.fd,_,h,_=>by cases n<;>cases h
theorem jF:∀ {n:Nat}{x y:List Im},Im.keys n x=true→Im.keys n y=true→bn x y=decide (x=y)
 | n,[],y,_,_=>by cases y<;>simp[bn]
 | n,d::ds,[],_,_=>by simp[bn]
 | n,d::ds,e::es,hx,hy=>by
  rw[Im.keys,Bool.and_eq_true] at hx hy
  rw[bn,mo hx.1 hy.1,jF hx.2 hy.2]
  by_cases h1:d=e<;>by_cases h2:ds=es<;>simp[h1,h2]
end
theorem iC:∀ (n:Nat) {A:Around}{E:Value→Shared→Prop}{s:Shared}{d:Im}{v:Value}{Q:Bool→Shared→Prop},Im.key n d=true→ImV s.heap d v→Q true s→wpAny (model prog w) A (eqIsQuiet n v) Q E s
 | n,A,E,s,.int i,v,Q,_,hv,h=>by
  obtain⟨t,rfl⟩:=hv
  rw[eqIsQuiet_byValue n rfl]
  exact wpAny_pure h
 | n,A,E,s,.str i,v,Q,_,hv,h=>by
  obtain⟨t,rfl⟩:=hv
  rw[eqIsQuiet_byValue n rfl]
  exact wpAny_pure h
 | n+1,A,E,s,.tup ds,v,Q,k,hv,h=>by
  obtain⟨a,o,items,m,rfl,ho,hc,hd,hi⟩:=hv
  have hT:s.TypeIs (.ref a) "tuple" := ⟨o,ho,hc⟩
  unfold eqIsQuiet
  refine wpAny_bind (wpAny_specialOf hT F.slot_tuple_eq.lookup ?_)
  show wpAny _ _ (isInstance (.ref a) (.type "tuple") >>= _) _ _ s
  refine wpAny_bind (wpAny_isInstance hT isSubtype_tuple_tuple ?_)
  simp only[Bool.not_true,Bool.false_eq_true,if_false]
  refine wpAny_bind (wpAny_seqItems ho hd ?_)
  refine wpAny_bind ?_
  show wpAny _ _ (forIn items _ _) _ _ s
  rw[← Array.forIn_toList]
  rw[Im.key] at k
  refine wpAny_forIn_list _ (fun rest r s'=>r.1=none∧s'=s∧∃ left,Im.keys n left=true∧aD s.heap left rest) _ ?_ ?_ _ _ ⟨rfl,rfl,ds,k,hi⟩
  ·rintro v rest r s' ⟨hr,rfl,left,hk,hl⟩
   cases left with
   | nil=>cases (show v::rest=[] from hl)
   | cons d left=>
    obtain⟨v',r',e,h1,hl'⟩:=hl
    cases e
    rw[Im.keys,Bool.and_eq_true] at hk
    refine wpAny_bind (iC n hk.1 h1 ?_)
    simp only[Bool.not_true,Bool.false_eq_true,if_false]
    exact wpAny_pure ⟨rfl,rfl,left,hk.2,hl'⟩
  ·rintro⟨r1,r2⟩ s' ⟨hr,rfl,_⟩
   simp only at hr
   subst hr
   exact wpAny_pure h
 | _,_,_,_,.non,_,_,k,_,_=>by cases ‹Nat›<;>cases k
 | _,_,_,_,.bl _,_,_,k,_,_=>by cases ‹Nat›<;>cases k
 | _,_,_,_,.fn _,_,_,k,_,_=>by cases ‹Nat›<;>cases k
 | _,_,_,_,.fl _,_,_,k,_,_=>by cases ‹Nat›<;>cases k
 | _,_,_,_,.fd,_,_,k,_,_=>by cases ‹Nat›<;>cases k
 | 0,_,_,_,.tup _,_,_,k,_,_=>by cases k
noncomputable def bh (prog:Program) (w:World):HeapKind prog w (List Im) where
 is:=fun h ds a=>Im.keys 7 ds=true∧ImV h (.tup ds) (.ref a)
 hash:=fun ds=>imH w (.tup ds)
 draws:=fun ds=>imD (.tup ds)
 room:=fun A=>A.units+10<cLine
 inj:=fun hx hy=>by
  have:=me 8 (x:=.tup _) (y:=.tup _) hx.1 hy.1 hx.2 hy.2
  injection this
 keeps:=fun {h h' k a d o es ep} x ho hd hs=>⟨x.1,x.2.keep fun b u items n hb hc hd'=>by
  have hne:b≠d:=by
   rintro rfl
   rw[ho] at hb
   cases hb
   rw[hd] at hd'
   cases hd'
  exact (hs.2 b hne).trans hb⟩
 pyHash:=fun hu hk h=>mf 8 (d:=.tup _) hk.1 (show _ < _ by have:_+10<cLine:=hu;lia) hk.2 h
 eqBool:=fun {A E s x y a b Q} hu hx hy h=>by
  have q:=c7 (s:=s) 8 (A:=A) (x:=.tup x) (y:=.tup y) (jE (n:=8) (d:=.tup x) hx.1) (jE (n:=8) (d:=.tup y) hy.1) (show _ < _ by have:A.units+10<cLine:=hu;lia) hx.2 hy.2
  rw[mo (n:=8) (x:=.tup x) (y:=.tup y) hx.1 hy.1] at q
  exact q _ _ E Q (by simpa using h)
 quiet:=fun hk h=>iC 8 (d:=.tup _) hk.1 hk.2 h
end
noncomputable abbrev Key:=Sum Int Str
noncomputable def fL:Key→Value→Bool
 | .inl k,v=>Value.isInt k v
 | .inr x,v=>Value.isStrOf x v
noncomputable def re (w:World):Key→Int
 | .inl k=>hashInt k
 | .inr x=>hashStr w x
theorem dv:∀ {k:Key}{v:Value},fL k v=true→(∃ i t,k=Sum.inl i∧v=Value.int i t)∨(∃ x t,k=Sum.inr x∧v=Value.str x t)
 | .inl i,v,h=>by
  obtain⟨t,e⟩:=Value.isInt_shape (k:=i) (v:=v) h
  exact .inl ⟨i,t,rfl,e⟩
 | .inr x,v,h=>by
  obtain⟨t,e⟩:=Value.isStrOf_shape (x:=x) (v:=v) h
  exact .inr ⟨x,t,rfl,e⟩
theorem rf (i:Int) (t:Tok):fL (.inl i) (.int i t)=true:=by simp[fL,Value.isInt]
theorem rg (x:Str) (t:Tok):fL (.inr x) (.str x t)=true:=by simp[fL,Value.isStrOf]
theorem rh (a b:Int):decide ((Sum.inl a:Key)=Sum.inl b)=(a == b):=by
 by_cases e:a=b
 ·subst e;simp
 ·have h:¬ (Sum.inl a:Key)=Sum.inl b:=fun q=>e (Sum.inl.inj q)
  rw[decide_eq_false h]
  exact (beq_eq_false_iff_ne.mpr e).symm
theorem rj (a b:Str):decide ((Sum.inr a:Key)=Sum.inr b)=decide (a=b):=by
 by_cases e:a=b
 ·subst e;simp
 ·have h:¬ (Sum.inr a:Key)=Sum.inr b:=fun q=>e (Sum.inr.inj q)
  rw[decide_eq_false h,decide_eq_false e]
theorem rk (a:Int) (b:Str):decide ((Sum.inl a:Key)=Sum.inr b)=false:=decide_eq_false (fun q=>nomatch q)
theorem rl (a:Str) (b:Int):decide ((Sum.inr a:Key)=Sum.inl b)=false:=decide_eq_false (fun q=>nomatch q)
noncomputable def dO (prog:Program) (w:World):PySem.KeyKind prog w Key where
 is:=fL
 hash:=re w
 inj:=fun v a b ha hb=>by
  rcases dv ha with ⟨i,t,rfl,rfl⟩ | ⟨x,t,rfl,rfl⟩
  ·rcases dv hb with ⟨j,u,rfl,e⟩ | ⟨y,u,rfl,e⟩
   ·injection e with e1 _;rw[e1]
   ·exact nomatch e
  ·rcases dv hb with ⟨j,u,rfl,e⟩ | ⟨y,u,rfl,e⟩
   ·exact nomatch e
   ·injection e with e1 _;rw[e1]
 byValue:=fun k v h=>by
  rcases dv h with ⟨i,t,rfl,rfl⟩ | ⟨x,t,rfl,rfl⟩<;>rfl
 pyHash:=fun hv h=>by
  rcases dv hv with ⟨i,t,rfl,rfl⟩ | ⟨x,t,rfl,rfl⟩
  ·exact wpAny_pyHash_int h
  ·exact wpAny_pyHash_str h
 eqBool:=fun hu hv h=>by
  rcases dv hu with ⟨i,t,rfl,rfl⟩ | ⟨x,t,rfl,rfl⟩
  ·rcases dv hv with ⟨j,u,rfl,rfl⟩ | ⟨y,u,rfl,rfl⟩
   ·rw[rh] at h;exact wpAny_eqBool_int h
   ·rw[rk] at h;exact SeqAt.EqAt.int_str i t y u _ _ _ _ h
  ·rcases dv hv with ⟨j,u,rfl,rfl⟩ | ⟨y,u,rfl,rfl⟩
   ·rw[rl] at h;exact SeqAt.EqAt.str_int x t j u _ _ _ _ h
   ·rw[rj] at h;exact wpAny_eqBool_str h
 «strs»:=fun k x t v h=>by
  rcases dv h with ⟨i,u,rfl,e⟩ | ⟨y,u,rfl,e⟩
  ·exact nomatch e
  ·injection e with e1 _
   subst e1
   cases v<;>rfl
theorem rm (prog:Program) (w:World) (i:Int) (t:Tok):(dO prog w).is (.inl i) (.int i t)=true:=rf i t
theorem rn (prog:Program) (w:World) (x:Str) (t:Tok):(dO prog w).is (.inr x) (.str x t)=true:=rg x t
inductive V where
 | non | bl (b:Bool) | int (i:Int) | str (x:Str) | byt (b:Array UInt8) | flt (b:UInt64) | ref (a:Addr) | ty (n:String)
 deriving DecidableEq
noncomputable def ao:V→Value→Prop
 | .non,u=>u=Value.none
 | .bl b,u=>u=Value.bool b
 | .int i,u=>∃ t,u=Value.int i t
 | .str x,u=>∃ t,u=Value.str x t
 | .byt b,u=>∃ t,u=Value.bytes b t
 | .flt b,u=>∃ t,u=Value.float b t
 | .ref a,u=>u=Value.ref a
 | .ty n,u=>u=Value.type n
noncomputable abbrev am:List V→List Value→Prop:=Paired ao
theorem am.length {xs:List V}{us:List Value} (r:am xs us):xs.length=us.length:=Paired.length r
theorem am.get:∀ {xs:List V}{us:List Value}{i:Nat}{x:V},am xs us→xs[i]?=some x→∃ u,us[i]?=some u∧ao x u
 | _,_,_,_,.nil,e=>by simp at e
 | _,_,0,_,.cons r _,e=>by simp at e;subst e;exact⟨_,rfl,r⟩
 | _,_,i+1,x,.cons _ t,e=>by
  obtain⟨u,h1,h2⟩:=am.get (i:=i) (x:=x) t (by simpa using e)
  exact⟨u,by simpa using h1,h2⟩
theorem am.set {x:V}{u:Value} (r:ao x u):∀ {xs:List V}{us:List Value} (i:Nat),am xs us→am (xs.set i x) (us.set i u)
 | _,_,_,.nil=>.nil
 | _,_,0,.cons _ t=>.cons r t
 | _,_,i+1,.cons q t=>.cons q (am.set r i t)
theorem am.append:∀ {xs ys:List V}{us ws:List Value},am xs us→am ys ws→am (xs++ys) (us++ws)
 | _,_,_,_,.nil,s=>s
 | _,_,_,_,.cons r t,s=>.cons r (am.append t s)
theorem am.take:∀ {xs:List V}{us:List Value} (n:Nat),am xs us→am (xs.take n) (us.take n)
 | _,_,0,_=>.nil
 | _,_,_+1,.nil=>.nil
 | _,_,n+1,.cons r t=>.cons r (am.take n t)
theorem am.drop:∀ {xs:List V}{us:List Value} (n:Nat),am xs us→am (xs.drop n) (us.drop n)
 | _,_,0,r=>r
 | _,_,_+1,.nil=>.nil
 | _,_,n+1,.cons _ t=>am.drop n t
noncomputable def c8:Option V→Option Value→Prop
 | some v,some u=>ao v u
 | none,none=>True
 | _,_=>False
noncomputable def KV {κ:Type}:List (κ×V)→List (κ×Value)→Prop:=Paired fun (p:κ×V) (q:κ×Value)=>p.1=q.1∧ao p.2 q.2
noncomputable def kV:Key→V
 | .inl i=>.int i
 | .inr x=>.str x
inductive HO where
 /-- a list -/
 | lst (xs:List V)
 /-- a tuple (never changes) -/
 | tup (xs:List V)
 /-- a dict whose keys are ints and texts;one whose keys are tuples of ints and texts (the empty one is both) -/
 | dK (kvs:List (Key×V)) | dT (kvs:List (List Im×V))
 /-- a set of ints: its members,its size -/
 | set (S:Int→Bool) (n:Nat)
 /-- an instance of the class at C,its dict at dx,its attributes -/
 | ins (C dx:Addr) (fs:List (Str×V))
 /-- the dict of the instance at x -/
 | own (x:Addr)
 /-- the dict of an exception -/
 | xd (fs:List (Str×V))
 /-- a bound method,f of x -/
 | met (f x:Addr)
 /-- a range object lo,lo+1,.. below hi -/
 | rng (lo hi:Int)
 /-- a thing that is known to the object (the script;a dict while a loop walks it): read,never written while it is so -/
 | frz (o:Obj) (u:HO)
 /-- a code object's table -/
 | tbl (ps:Array Value)
 /-- any other thing,by what is true of its one object (a def of one's own: SetO a S n:=HO.ext fun h=>..) -/
 | ext (φ:Heap→Prop)
noncomputable abbrev Hp:=Addr→Option HO
noncomputable def upd (H:Hp) (a:Addr) (o:HO):Hp:=fun b=>if b=a then some o else H b
theorem bi {H:Hp}{a:Addr}{o:HO}:upd H a o a=some o:=by unfold upd;rw[if_pos rfl]
theorem aA {H:Hp}{a b:Addr}{o:HO} (h:b≠a):upd H a o b=H b:=by unfold upd;rw[if_neg h]
theorem rp {H:Hp}{a b:Addr}{o u:HO} (h:H a=some o) (h':H b=some u) (d:o≠u):a≠b:=by
 intro e;subst e;rw[h] at h';exact d (Option.some.inj h')
theorem bK {H:Hp}{a b:Addr}{o:HO} (h:H a=some o) (h':H b=none):a≠b:=by
 intro e;subst e;rw[h] at h';cases h'
mutual
noncomputable def IsI (H:Hp):Im→V→Prop
 | .non,v=>v=.non
 | .bl b,v=>v=.bl b
 | .int i,v=>v=.int i
 | .str x,v=>v=.str x
 | .fn a,v=>v=.ref a
 | .fl ds,v=>∃ a xs o,v=.ref a∧H a=some (.frz o (.lst xs))∧aj H ds xs
 | .fd,v=>∃ a o,v=.ref a∧H a=some (.frz o (.dT []))
 | .tup ds,v=>∃ a xs,v=.ref a∧H a=some (.tup xs)∧aj H ds xs
noncomputable def aj (H:Hp):List Im→List V→Prop
 | [],vs=>vs=[]
 | d::ds,vs=>∃ v r,vs=v::r∧IsI H d v∧aj H ds r
end
noncomputable def gD (H H':Hp):Prop:=∀ a xs,H a=some (.tup xs)→H' a=some (.tup xs)
structure TupS (H H':Hp):Prop where
 t:gD H H'
 z:∀ a o u,H a=some (.frz o u)→H' a=some (.frz o u)
noncomputable instance {H H':Hp}:CoeFun (TupS H H') (fun _=>∀ a xs,H a=some (.tup xs)→H' a=some (.tup xs)):=⟨fun t=>t.t⟩
mutual
theorem IsI.mono {H H':Hp} (k:TupS H H'):∀ {d:Im}{v:V},IsI H d v→IsI H' d v
 | .non,_,e=>e
 | .bl _,_,e=>e
 | .int _,_,e=>e
 | .str _,_,e=>e
 | .fn _,_,e=>e
 | .tup ds,_,e=>by
  obtain⟨a,xs,rfl,h1,h2⟩:=e
  exact⟨a,xs,rfl,k.t a xs h1,aj.mono k h2⟩
 | .fl ds,_,e=>by
  obtain⟨a,xs,o,rfl,h1,h2⟩:=e
  exact⟨a,xs,o,rfl,k.z a _ _ h1,aj.mono k h2⟩
 | .fd,_,e=>by
  obtain⟨a,o,rfl,h1⟩:=e
  exact⟨a,o,rfl,k.z a _ _ h1⟩
theorem aj.mono {H H':Hp} (k:TupS H H'):∀ {ds:List Im}{vs:List V},aj H ds vs→aj H' ds vs
 | [],_,e=>e
 | d::ds,_,e=>by
  obtain⟨v,r,rfl,h1,h2⟩:=e
  exact⟨v,r,rfl,IsI.mono k h1,aj.mono k h2⟩
end
noncomputable def KAd (H:Hp) (k:List Im) (b:Addr):Prop:=Im.keys 7 k=true∧IsI H (.tup k) (.ref b)
mutual
theorem IsI.monoK {H H':Hp} (k:gD H H'):∀ {d:Im}{n:Nat}{v:V},Im.key n d=true→IsI H d v→IsI H' d v
 | .non,_,_,_,e=>e
 | .bl _,_,_,_,e=>e
 | .int _,_,_,_,e=>e
 | .str _,_,_,_,e=>e
 | .fn _,_,_,_,e=>e
 | .tup ds,n+1,_,q,e=>by
  obtain⟨a,xs,rfl,h1,h2⟩:=e
  exact⟨a,xs,rfl,k a xs h1,aj.monoK k q h2⟩
 | .tup ds,0,_,q,e=>nomatch q
 | .fl ds,0,_,q,e=>nomatch q
 | .fl ds,n+1,_,q,e=>nomatch q
 | .fd,0,_,q,e=>nomatch q
 | .fd,n+1,_,q,e=>nomatch q
theorem aj.monoK {H H':Hp} (k:gD H H'):∀ {ds:List Im}{n:Nat}{vs:List V},Im.keys n ds=true→aj H ds vs→aj H' ds vs
 | [],_,_,_,e=>e
 | d::ds,n,_,q,e=>by
  obtain⟨v,r,rfl,h1,h2⟩:=e
  rw[Im.keys,Bool.and_eq_true] at q
  exact⟨v,r,rfl,IsI.monoK k q.1 h1,aj.monoK k q.2 h2⟩
end
theorem KAd.mono {H H':Hp}{k:List Im}{b:Addr} (h:KAd H k b) (t:gD H H'):KAd H' k b:=by
 obtain⟨h0,a,xs,e,h1,h2⟩:=h
 exact⟨h0,a,xs,e,t a xs h1,h2.monoK t h0⟩
section
variable (P:Program) (w:World)
noncomputable def aW (H:Hp) (h:Heap) (a:Addr):HO→Prop
 | .lst xs=>xs.length≤sizeLine∧∃ (its:List Value) (n:Nat),am xs its∧h.get? a=some { cls:=.type "list",data:=.seq its.toArray n }
 | .tup xs=>xs.length≤sizeLine∧∃ its:List Value,am xs its∧IsTup h a its.toArray
 | .dK kvs=>kvs.length≤sizeLine∧(a == sysModules)=false∧∃ vs,KV kvs vs∧h.DictOf (dO P w) a vs
 | .dT kvs=>kvs.length≤sizeLine∧(a == sysModules)=false∧∃ xs:List (List Im×Addr×Value),
   Paired (fun (p:List Im×V) (q:List Im×Addr×Value)=>p.1=q.1∧KAd H p.1 q.2.1∧ao p.2 q.2.2) kvs xs∧
   ∃ o es ep,h.get? a=some o∧o.ExactDict∧o.data=.dict es ep∧es.toList=xs.map (entryOfKey (bh P w))∧(xs.map (·.1)).Nodup
 | .set S n=>h.SetOf (intKind P w) a S n
 | .ins C dx fs=>H dx=some (.own a)∧fs.length≤1000∧dx≠a∧h.get? a=some (PySem.W.instObj C dx)∧
   ∃ mA,h.Ns1 dx mA∧(∀ f,c8 (fs.lookup f) (mA f))∧PySem.Within mA (fs.map (·.1))
 | .own _=>∃ o,h.get? a=some o
 | .xd fs=>∃ mA,h.Ns1 a mA∧∀ f,c8 (fs.lookup f) (mA f)
 | .rng lo hi=>∃ t u v,h.get? a=some { cls:=.type "range",data:=.fields #[.int lo t,.int hi u,.int 1 v] }
 | .frz o u=>h.get? a=some o∧aW H h a u
 | .tbl ps=>h.get? a=some { cls:=.none,data:=.fields ps }
 | .met f x=>h.get? a=some (PySem.W.methodObj (.ref f) (.ref x))
 | .ext φ=>φ h∧(∃ o,h.get? a=some o)∧∀ h1 h2:Heap,φ h1→(∀ o,h1.get? a=some o→h2.get? a=some o)→φ h2
noncomputable def HOk (H:Hp) (h:Heap):Prop:=∀ a o,H a=some o→aW P w H h a o
end
section
variable {P:Program}{w:World}{H H':Hp}{h h':Heap}{a:Addr}{o:HO}
theorem aW.lt (x:aW P w H h a o):a<h.objs.size:=by
 cases o with
 | lst xs=>obtain⟨_,_,_,_,e⟩:=x;exact Heap.lt_size e
 | tup xs=>obtain⟨_,_,_,p⟩:=x;exact p.lt
 | dK kvs=>obtain⟨_,_,_,_,o,_,_,e,_⟩:=x;exact Heap.lt_size e
 | dT kvs=>obtain⟨_,_,_,_,o,_,_,e,_⟩:=x;exact Heap.lt_size e
 | set S n=>obtain⟨o,_,_,_,e,_⟩:=x;exact Heap.lt_size e
 | ins C dx fs=>obtain⟨_,_,_,e,_⟩:=x;exact Heap.lt_size e
 | own y=>obtain⟨_,e⟩:=x;exact Heap.lt_size e
 | xd fs=>obtain⟨_,⟨_,_,_,e,_⟩,_⟩:=x;exact Heap.lt_size e
 | rng lo hi=>obtain⟨_,_,_,e⟩:=x;exact Heap.lt_size e
 | frz ob u=>obtain⟨e,_⟩:=x;exact Heap.lt_size e
 | tbl ps=>exact Heap.lt_size (show h.get? a=some _ from x)
 | met f y=>exact Heap.lt_size (show h.get? a=some _ from x)
 | ext φ=>obtain⟨_,⟨_,e⟩,_⟩:=x;exact Heap.lt_size e
theorem Paired.mapP {α β:Type}{F G:α→β→Prop}:∀ {l₁:List α}{l₂:List β},Paired F l₁ l₂→(∀ a b,F a b→G a b)→Paired G l₁ l₂
 | _,_,.nil,_=>.nil
 | _,_,.cons r t,f=>.cons (f _ _ r) (Paired.mapP t f)
theorem aW.stay (x:aW P w H h a o) (k:∀ b u,(b=a∨H b=some (.own a))→h.get? b=some u→h'.get? b=some u)
  (ho:∀ b,H b=some (.own a)→H' b=some (.own a)) (ht:∀ b xs,H b=some (.tup xs)→H' b=some (.tup xs)):aW P w H' h' a o:=by
 induction o with
 | lst xs=>obtain⟨z,its,n,r,e⟩:=x;exact⟨z,its,n,r,k _ _ (.inl rfl) e⟩
 | tup xs=>obtain⟨z,its,r,ob,e,c⟩:=x;exact⟨z,its,r,ob,k _ _ (.inl rfl) e,c⟩
 | dK kvs=>obtain⟨z,y,vs,r,ob,es,ep,e,c⟩:=x;exact⟨z,y,vs,r,ob,es,ep,k _ _ (.inl rfl) e,c⟩
 | dT kvs=>
  obtain⟨z,y,xs,r,ob,es,ep,e,c⟩:=x
  exact⟨z,y,xs,Paired.mapP r fun p q z=>⟨z.1,z.2.1.mono ht,z.2.2⟩,ob,es,ep,k _ _ (.inl rfl) e,c⟩
 | set S n=>obtain⟨ob,es,ep,t,e,c⟩:=x;exact⟨ob,es,ep,t,k _ _ (.inl rfl) e,c⟩
 | ins C dx fs=>
  obtain⟨d,z,ne,e,mA,⟨od,es,ep,e2,c⟩,r⟩:=x
  exact⟨ho _ d,z,ne,k _ _ (.inl rfl) e,mA,⟨od,es,ep,k _ _ (.inr d) e2,c⟩,r⟩
 | own y=>obtain⟨ob,e⟩:=x;exact⟨ob,k _ _ (.inl rfl) e⟩
 | xd fs=>obtain⟨mA,⟨od,es,ep,e,c⟩,r⟩:=x;exact⟨mA,⟨od,es,ep,k _ _ (.inl rfl) e,c⟩,r⟩
 | rng lo hi=>obtain⟨t,u,v,e⟩:=x;exact⟨t,u,v,k _ _ (.inl rfl) e⟩
 | frz ob u ih=>obtain⟨e,q⟩:=x;exact⟨k _ _ (.inl rfl) e,ih q⟩
 | tbl ps=>
  have e:h.get? a=some { cls:=.none,data:=.fields ps }:=x
  show h'.get? a=some { cls:=.none,data:=.fields ps }
  exact k a _ (.inl rfl) e
 | met f y=>
  have e:h.get? a=some (PySem.W.methodObj (.ref f) (.ref y)):=x
  show h'.get? a=some (PySem.W.methodObj (.ref f) (.ref y))
  exact k a _ (.inl rfl) e
 | ext φ=>obtain⟨p,⟨o,e⟩,st⟩:=x;exact⟨st _ _ p fun o q=>k _ _ (.inl rfl) q,⟨o,k _ _ (.inl rfl) e⟩,st⟩
theorem HOk.lt (x:HOk P w H h) (e:H a=some o):a<h.objs.size:=(x a o e).lt
theorem HOk.fresh (x:HOk P w H h) (e:h.objs.size≤a):H a=none:=by
 cases q:H a with
 | none=>rfl
 | some u=>exact absurd (Nat.lt_of_lt_of_le (x.lt q) e) (Nat.lt_irrefl _)
theorem HOk.kept (x:HOk P w H h) (k:∀ b u,h.get? b=some u→h'.get? b=some u):HOk P w H h':=fun a o e=>
 (x a o e).stay (fun b u _ q=>k b u q) (fun _ q=>q) fun _ _ q=>q
theorem HOk.laid (x:HOk P w H h) (k:∀ b u,h.get? b=some u→h'.get? b=some u) (hp:h.objs.size≤a) (new:aW P w (upd H a o) h' a o):HOk P w (upd H a o) h':=fun b u e=>by
 have hn:=x.fresh hp
 by_cases hb:b=a
 ·subst hb;rw[bi] at e;cases e;exact new
 ·rw[aA hb] at e
  exact (x b u e).stay (fun c v _ q=>k c v q) (fun c q=>by rw[aA (bK q hn)];exact q) fun c xs q=>by rw[aA (bK q hn)];exact q
end
noncomputable def Rd (H:Hp) (a:Addr) (u:HO):Prop:=H a=some u∨∃ o,H a=some (.frz o u)
theorem Rd.ok {P:Program}{w:World}{H:Hp}{h:Heap}{a:Addr}{u:HO} (r:Rd H a u) (x:HOk P w H h):aW P w H h a u:=by
 rcases r with r | ⟨o,r⟩
 ·exact x a u r
 ·obtain⟨_,q⟩:=x a _ r
  exact q
noncomputable def Mut:Option HO→Prop
 | some (.lst _)=>True
 | some (.dK _)=>True
 | some (.dT _)=>True
 | some (.set _ _)=>True
 | some (.ins _ _ _)=>True
 | some (.ext _)=>True
 | _=>False
section
variable {P:Program}{w:World}{H:Hp}{h h':Heap}{x e:Addr}{o':HO}
theorem HOk.write (ok:HOk P w H h) (mu:Mut (H x)) (he:e=x∨H e=some (.own x)) (k:∀ b u,b≠e→h.get? b=some u→h'.get? b=some u) (heo:∃ u,h'.get? e=some u)
  (new:aW P w (upd H x o') h' x o'):HOk P w (upd H x o') h':=fun b u q=>by
 have nown:∀ c y,H c=some (.own y)→c≠x:=fun c y r z=>by subst z;rw[r] at mu;exact mu
 have ntup:∀ c xs,H c=some (.tup xs)→c≠x:=fun c xs r z=>by subst z;rw[r] at mu;exact mu
 by_cases hb:b=x
 ·subst hb;rw[bi] at q;cases q;exact new
 ·rw[aA hb] at q
  by_cases hbe:b=e
  ·have q':H b=some (.own x):=by
    rcases he with z | z
    ·exact absurd (hbe.trans z) hb
    ·rw[hbe];exact z
   rw[q] at q';cases q'
   obtain⟨v,hv⟩:=heo
   exact⟨v,by rw[hbe];exact hv⟩
  ·refine (ok b u q).stay (fun c v hc r=>k c v ?_ r) (fun c r=>by rw[aA (nown c b r)];exact r) fun c xs r=>by rw[aA (ntup c xs r)];exact r
   rcases hc with rfl | hc
   ·exact hbe
   ·rintro rfl
    rcases he with z | z
    ·exact nown c b hc z
    ·rw[hc] at z;cases z;exact hb rfl
end
structure Un (fs ex:List Addr) (H H':Hp) (h h':Heap):Prop where
 keep:∀ b o,h.get? b=some o→H b=none→b∉fs→b∉ex→h'.get? b=some o
 slot:∀ b o,h.get? b=some o→H b=none→b∈fs→b∉ex→∃ sl,h'.get? b=some { o with slots:=sl }
 free:∀ b o,h.get? b=some o→H b=none→b∉ex→H' b=none
 there:∀ b o,h.get? b=some o→b∉ex→∃ o',h'.get? b=some o'
 tups:∀ b xs,H b=some (.tup xs)→H' b=some (.tup xs)
 frzs:∀ b o u,H b=some (.frz o u)→H' b=some (.frz o u)
 tbls:∀ b ps,H b=some (.tbl ps)→∃ more,H' b=some (.tbl (ps++more))
section
variable {fs fs' ex ex':List Addr}{H H1 H2:Hp}{h h1 h2 h':Heap}{a x e:Addr}{o:HO}
theorem Un.any (u:Un fs ex H H1 h h1) {b:Addr}{ob:Obj} (q:h.get? b=some ob) (n:H b=none) (hx:b∉ex):∃ sl,h1.get? b=some { ob with slots:=sl }:=by
 by_cases hb:b∈fs
 ·exact u.slot b ob q n hb hx
 ·exact⟨ob.slots,u.keep b ob q n hb hx⟩
theorem Un.kept (k:∀ b u,h.get? b=some u→h'.get? b=some u):Un fs ex H H h h':=
 ⟨fun b ob q _ _ _=>k b ob q,fun b ob q _ _ _=>⟨ob.slots,k b ob q⟩,fun _ _ _ n _=>n,fun b ob q _=>⟨ob,k b ob q⟩,fun _ _ q=>q,fun _ _ _ q=>q,fun _ ps q=>⟨#[],by rw[q];simp⟩⟩
theorem Un.refl:Un fs ex H H h h:=Un.kept fun _ _ q=>q
theorem Un.laid (k:∀ b u,h.get? b=some u→h'.get? b=some u) (hp:h.objs.size≤a) (hn:H a=none):Un fs ex H (upd H a o) h h' where
 keep:=fun b u q _ _ _=>k b u q
 slot:=fun b u q _ _ _=>⟨u.slots,k b u q⟩
 free:=fun b u q n _=>by rw[aA (Nat.ne_of_lt (Nat.lt_of_lt_of_le (Heap.lt_size q) hp))];exact n
 there:=fun b u q _=>⟨u,k b u q⟩
 tups:=fun b xs q=>by rw[aA (bK q hn)];exact q
 frzs:=fun b u xs q=>by rw[aA (bK q hn)];exact q
 tbls:=fun b ps q=>⟨#[],by rw[aA (bK q hn),q];simp⟩
theorem Un.write (mu:Mut (H x)) (he:e=x∨H e=some (.own x)) (k:∀ b u,b≠e→h.get? b=some u→h'.get? b=some u) (heo:∃ u,h'.get? e=some u):Un fs ex H (upd H x o) h h':=by
 have hx:∀ b,H b=none→b≠x:=fun b n z=>by subst z;rw[n] at mu;exact mu
 have hb:∀ b,H b=none→b≠e:=fun b n z=>by
  subst z
  rcases he with r | r
  ·exact hx b n r
  ·rw[n] at r;cases r
 have hm:∀ b u,H b=some u→¬ Mut (some u)→b≠x:=fun b u q nm z=>by subst z;rw[q] at mu;exact nm mu
 refine⟨fun b u q n _ _=>k b u (hb b n) q,fun b u q n _ _=>⟨u.slots,k b u (hb b n) q⟩,fun b u q n _=>by rw[aA (hx b n)];exact n,fun b u q _=>?_,
  fun b xs q=>by rw[aA (hm b _ q fun z=>z)];exact q,fun b u xs q=>by rw[aA (hm b _ q fun z=>z)];exact q,fun b ps q=>⟨#[],by rw[aA (hm b _ q fun z=>z),q];simp⟩⟩
 by_cases hbe:b=e
 ·subst hbe;exact heo
 ·exact⟨u,k b u hbe q⟩
end
noncomputable def trk (h:Heap) (H:Hp):List Addr:=(List.range h.objs.size).filter fun a=>(H a).isSome
noncomputable def dw (h:Heap) (H:Hp):Heap:=PySem.W.hideAll h (trk h H)
theorem rq (h:Heap) (H:Hp):(dw h H).objs.size=h.objs.size:=PySem.W.hideAll_size _ _
theorem rz {h:Heap}{H:Hp}{b:Addr}{o:Obj} (e:h.get? b=some o) (n:H b=none):(dw h H).get? b=some o:=
 PySem.W.hideAll_get _ e fun hm=>by
  have q:(H b).isSome=true:=(List.mem_filter.mp hm).2
  rw[n] at q;simp at q
theorem rA {h:Heap}{H:Hp}{b:Addr}{o:Obj} (e:(dw h H).get? b=some o):h.get? b=some o∧H b=none:=by
 have e':h.get? b=some o:=PySem.W.of_hideAll (trk h H) e
 refine⟨e',?_⟩
 cases q:H b with
 | none=>rfl
 | some x=>
  have hm:b∈trk h H:=List.mem_filter.mpr ⟨List.mem_range.mpr (Heap.lt_size e'),by simp[q]⟩
  have z:(dw h H).get? b=none:=PySem.W.hideAll_none (trk h H) hm
  rw[z] at e;cases e
noncomputable def rB (g h:Heap) (L:Addr):List (Addr×Obj):=(List.range h.objs.size).filterMap fun a=>if a=L∨(g.get? a).isSome=true then none else (h.get? a).map fun o=>(a,o)
noncomputable def rest (g h:Heap) (L d:Addr):List (Addr×Obj):=(rB g h L).filter fun p=>decide (p.1≠d)
structure Mod (K:PySem.W.Frag) (mg:Str→Option Value) (base:Heap):Prop where
 kin:K.In base
 glob:base.Ns mainGlobals mg
 blt:∃ mb,base.Ns builtinsNs mb∧∀ x:Str,x ≠ "__name__" → mb x=bootBuiltins x
 nolimit:base.NoLimit
structure Cx where
 prog:Program
 w:World
 K:PySem.W.Frag
 mg:Str→Option Value
 base:Heap
 A:Around
 N:List Str
 s₀:Shared
 H₀:Hp
 env:Env
 outer:List Env
 stack:List Env
 ex:List Addr
 fn:Str→Bool
 calm:Bool
 pn:List (Addr×Obj)
 xe:Value→Shared→Prop
noncomputable def frs (l:List Env):List Addr:=l.filterMap (·.frame)
noncomputable abbrev Cx.fs (X:Cx):List Addr:=frs X.outer
noncomputable def Vis (sc:Scope) (x:Str):Prop:=sc.names.lookup x=some .local∨sc.names.lookup x=some .cell∨sc.names.lookup x=some .free
noncomputable def Loc (sc:Scope) (x:Str):Prop:=sc.names.lookup x=some .local∨sc.names.lookup x=some .cell
noncomputable def rC (env:Env) (h:Heap) (m:Str→Option Value) (x:Str) (u:Value):Prop:=
 (env.kindOf x=some .local∧m x=some u)∨((env.kindOf x=some .cell∨env.kindOf x=some .free)∧∃ c,env.cells.lookup x=some c∧h.IsCell c (some u))
structure Cx.Ok (X:Cx):Prop where
 mod:Mod X.K X.mg X.base
 kind:X.env.scope.kind=.function
 glob:X.env.globals=mainGlobals
 blt:X.env.builtins=builtinsNs
 above:X.s₀.heap.objs.size≤X.env.locals
 inj:∀ x y c,X.env.cells.lookup x=some c→X.env.cells.lookup y=some c→x=y
 has:∀ x,(X.env.kindOf x=some .cell∨X.env.kindOf x=some .free)→∃ c,X.env.cells.lookup x=some c
 cab:∀ x c,X.fn x=true→X.env.cells.lookup x=some c→X.s₀.heap.objs.size≤c
 hd:X.calm=true→X.A.handled=none
 frames:X.A.frames=some X.stack
 stk:X.stack=X.outer∨(X.stack=X.env::X.outer∧X.env.frame=some X.env.locals)
 exf:∀ b∈X.ex,b≠X.env.locals∧∀ x c,X.env.cells.lookup x=some c→c≠b
 bs:∀ b o,X.base.get? b=some o→X.s₀.heap.get? b=some o∧X.H₀ b=none
 bsz:X.base.objs.size≤X.s₀.heap.objs.size
 noex:∀ b o,X.base.get? b=some o→b∉X.ex
 exfs:∀ b∈X.ex,b∉X.fs
 funs:X.s₀.heap.FunFrames X.base X.outer
 frf:∀ b∈X.fs,X.H₀ b=none
structure Inv (X:Cx) (pins:List (Addr×Obj)) (σ:List (Option V)) (H:Hp) (s:Shared):Prop where
 ok:X.Ok
 os:s.os=X.s₀.os
 bare:AllBare s.gens
 base:Un X.fs X.ex X.H₀ H X.s₀.heap s.heap
 loc:∃ m,s.heap.Ns X.env.locals m∧∀ (i:Nat) (x:Str) (v:V),X.N[i]?=some x→σ[i]?=some (some v)→Vis X.env.scope x→∃ u,ao v u∧rC X.env s.heap m x u
 cell:∀ x c,X.env.cells.lookup x=some c→∃ v,s.heap.IsCell c v
 free:H X.env.locals=none
 freeC:∀ x c,X.env.cells.lookup x=some c→H c=none
 pin:∀ p∈X.pn++pins,s.heap.get? p.1=some p.2∧H p.1=none∧p.1≠X.env.locals∧p.1∉X.fs∧∀ v,p.2.data≠.cell v
 hok:HOk X.prog X.w H s.heap
 len:σ.length=X.N.length
section
variable {X:Cx}{pins:List (Addr×Obj)}{σ:List (Option V)}{H H':Hp}{s:Shared}{h':Heap}
theorem Cx.Ok.nofr (ok:X.Ok) {b:Addr}{o:Obj} (e:X.base.get? b=some o):b∉X.fs:=fun hb=>by
 have:=(ok.funs.mem hb).1
 rw[e] at this;cases this
theorem Inv.bs (I:Inv X pins σ H s):∀ b o,X.base.get? b=some o→s.heap.get? b=some o∧H b=none:=fun b o e=>
 ⟨I.base.keep b o (I.ok.bs b o e).1 (I.ok.bs b o e).2 (I.ok.nofr e) (I.ok.noex b o e),I.base.free b o (I.ok.bs b o e).1 (I.ok.bs b o e).2 (I.ok.noex b o e)⟩
theorem Inv.bk (I:Inv X pins σ H s):∀ b o,X.base.get? b=some o→s.heap.get? b=some o:=fun b o e=>(I.bs b o e).1
theorem Inv.mod (I:Inv X pins σ H s):Mod X.K X.mg X.base:=I.ok.mod
theorem Inv.kIn (I:Inv X pins σ H s):X.K.In s.heap:=I.ok.mod.kin.keeps I.bk
theorem Inv.fr (I:Inv X pins σ H s):∃ m,Fr X.base X.env.locals s.heap m:=
 let ⟨m,hn,_⟩:=I.loc
 ⟨m,hn,I.bk,Nat.le_trans I.ok.bsz I.ok.above⟩
theorem Inv.lt (I:Inv X pins σ H s):X.env.locals<s.heap.objs.size:=let ⟨_,hn,_⟩:=I.loc;hn.lt
theorem Inv.sz (I:Inv X pins σ H s):X.s₀.heap.objs.size≤s.heap.objs.size:=Nat.le_trans I.ok.above (Nat.le_of_lt I.lt)
theorem Inv.nofs (I:Inv X pins σ H s) {a:Addr} (h:s.heap.objs.size≤a):a∉X.fs:=fun hb=>by
 obtain⟨_,o,ho,_⟩:=I.ok.funs.mem hb
 exact absurd (Nat.lt_of_lt_of_le (Heap.lt_size ho) (Nat.le_trans I.sz h)) (Nat.lt_irrefl _)
theorem Inv.cne (I:Inv X pins σ H s):∀ x c,X.env.cells.lookup x=some c→c≠X.env.locals:=fun x c e z=>by
 obtain⟨v,o,ho,hd⟩:=I.cell x c e
 obtain⟨m,⟨o',es,ep,ho',hd',_⟩,_⟩:=I.loc
 rw[z,ho'] at ho;cases ho;rw[hd'] at hd;cases hd
theorem Inv.funs (I:Inv X pins σ H s):s.heap.FunFrames X.base X.outer:=by
 have all:∀ (l:List Env),(∀ b∈frs l,b∈X.fs)→X.s₀.heap.FunFrames X.base l→s.heap.FunFrames X.base l:=by
  intro l
  induction l with
  | nil=>intro _ _;trivial
  | cons env r ih=>
   intro hs hl
   obtain⟨hk,⟨L,o,hf,hn,ho,hd⟩,hr⟩:=hl
   have hL:L∈X.fs:=hs L (by unfold frs;rw[List.filterMap_cons,hf];exact List.mem_cons_self)
   obtain⟨sl,e⟩:=I.base.slot L o ho (I.ok.frf L hL) hL fun z=>I.ok.exfs L z hL
   exact⟨hk,⟨L,_,hf,hn,e,hd⟩,ih (fun b hb=>hs b (by unfold frs;rw[List.filterMap_cons,hf];exact List.mem_cons_of_mem _ hb)) hr⟩
 exact all X.outer (fun _ hb=>hb) I.ok.funs
theorem Inv.stack (I:Inv X pins σ H s):s.heap.FunFrames X.base X.stack:=by
 rcases I.ok.stk with e | ⟨e,hf⟩
 ·rw[e];exact I.funs
 ·rw[e]
  obtain⟨m,hn,_⟩:=I.loc
  refine .cons (by rw[I.ok.kind];decide) hf hn ?_ I.funs
  exact Heap.get?_none_of_le (Nat.le_trans I.ok.bsz I.ok.above)
theorem Inv.stkSub (I:Inv X pins σ H s):∀ b∈frs X.stack,b∈X.env.locals::X.fs:=fun b hb=>by
 rcases I.ok.stk with e | ⟨e,hf⟩
 ·rw[e] at hb;exact List.mem_cons_of_mem _ hb
 ·rw[e] at hb
  unfold frs at hb
  rw[List.filterMap_cons,hf] at hb
  exact hb
theorem Inv.stkFree (I:Inv X pins σ H s):∀ b∈frs X.stack,H b=none:=fun b hb=>by
 rcases List.mem_cons.mp (I.stkSub b hb) with e | hb
 ·rw[e];exact I.free
 ·obtain⟨_,o,ho,_⟩:=I.ok.funs.mem hb
  exact I.base.free b o ho (I.ok.frf b hb) fun z=>I.ok.exfs b z hb
theorem Inv.step {g':Array GenState}{t':Nat}{d':Drawn}{ch:List Addr} (I:Inv X pins σ H s)
  (hch:∀ b∈ch,(b∈X.ex∨X.s₀.heap.objs.size≤b)∧b≠X.env.locals∧(∀ x c,X.env.cells.lookup x=some c→c≠b)∧∀ p∈X.pn++pins,p.1≠b)
  (keep:∀ b o,b≠X.env.locals→b∉X.fs→b∉ch→s.heap.get? b=some o→H b=none→h'.get? b=some o)
  (slot:∀ b o,b≠X.env.locals→b∈X.fs→b∉ch→s.heap.get? b=some o→H b=none→∃ sl,h'.get? b=some { o with slots:=sl }) (free:∀ b o,b∉ch→s.heap.get? b=some o→H b=none→H' b=none)
  (there:∀ b o,b∉ch→s.heap.get? b=some o→∃ o',h'.get? b=some o')
  (tups:∀ b xs,H b=some (.tup xs)→H' b=some (.tup xs)) (frzs:∀ b o u,H b=some (.frz o u)→H' b=some (.frz o u)) (tbls:∀ b ps,H b=some (.tbl ps)→∃ more,H' b=some (.tbl (ps++more)))
  (ns:∀ m,s.heap.Ns X.env.locals m→h'.Ns X.env.locals m) (hok:HOk X.prog X.w H' h') (hg:AllBare g'):
  Inv X pins σ H' { s with heap:=h',gens:=g',drawn:=d',toks:=t' }:=by
 have neL:∀ b o,X.s₀.heap.get? b=some o→b≠X.env.locals:=fun b o e=>Nat.ne_of_lt (Nat.lt_of_lt_of_le (Heap.lt_size e) I.ok.above)
 have neC:∀ b o,X.s₀.heap.get? b=some o→b∉X.ex→b∉ch:=fun b o e hx hb=>by
  rcases (hch b hb).1 with z | z
  ·exact hx z
  ·exact absurd (Nat.lt_of_lt_of_le (Heap.lt_size e) z) (Nat.lt_irrefl _)
 have cellK:∀ x c,X.env.cells.lookup x=some c→∀ v,s.heap.IsCell c v→h'.IsCell c v:=fun x c e v ⟨o,ho,hd⟩=>by
  have nch:c∉ch:=fun z=>(hch c z).2.2.1 x c e rfl
  by_cases hc:c∈X.fs
  ·obtain⟨sl,q⟩:=slot c o (I.cne x c e) hc nch ho (I.freeC x c e)
   exact⟨_,q,hd⟩
  ·exact⟨o,keep c o (I.cne x c e) hc nch ho (I.freeC x c e),hd⟩
 refine⟨I.ok,I.os,hg,⟨fun b o e n hb hx=>?_,fun b o e n hb hx=>?_,fun b o e n hx=>?_,fun b o e hx=>?_,fun b xs e=>tups b xs (I.base.tups b xs e),fun b o xs e=>frzs b o xs (I.base.frzs b o xs e),fun b ps e=>?_⟩,?_,fun x c e=>?_,?_,fun x c e=>?_,fun p hp=>?_,hok,I.len⟩
 ·exact keep b o (neL b o e) hb (neC b o e hx) (I.base.keep b o e n hb hx) (I.base.free b o e n hx)
 ·obtain⟨sl,e1⟩:=I.base.slot b o e n hb hx
  obtain⟨sl',e2⟩:=slot b _ (neL b o e) hb (neC b o e hx) e1 (I.base.free b o e n hx)
  exact⟨sl',e2⟩
 ·obtain⟨o',e1⟩:=I.base.there b o e hx
  exact free b o' (neC b o e hx) e1 (I.base.free b o e n hx)
 ·obtain⟨o',e1⟩:=I.base.there b o e hx
  exact there b o' (neC b o e hx) e1
 ·obtain⟨m1,e1⟩:=I.base.tbls b ps e
  obtain⟨m2,e2⟩:=tbls b _ e1
  exact⟨m1++m2,by rw[e2,Array.append_assoc]⟩
 ·obtain⟨m,hn,hl⟩:=I.loc
  refine⟨m,ns m hn,fun i x v e1 e2 e3=>?_⟩
  obtain⟨u,r,l⟩:=hl i x v e1 e2 e3
  refine⟨u,r,?_⟩
  rcases l with l | ⟨k,c,e,z⟩
  ·exact .inl l
  ·exact .inr ⟨k,c,e,cellK x c e _ z⟩
 ·obtain⟨v,z⟩:=I.cell x c e
  exact⟨v,cellK x c e v z⟩
 ·obtain⟨m,⟨o,_,_,ho,_⟩,_⟩:=I.loc
  exact free _ o (fun z=>(hch _ z).2.1 rfl) ho I.free
 ·obtain⟨v,o,ho,hd⟩:=I.cell x c e
  exact free c o (fun z=>(hch c z).2.2.1 x c e rfl) ho (I.freeC x c e)
 ·obtain⟨e,n,ne,nf,d⟩:=I.pin p hp
  have nch:p.1∉ch:=fun z=>(hch p.1 z).2.2.2 p hp rfl
  exact⟨keep p.1 p.2 ne nf nch e n,free p.1 p.2 nch e n,ne,nf,d⟩
theorem Inv.un {t':Nat} (I:Inv X pins σ H s) (u:Un X.fs [] H H' s.heap h') (hok:HOk X.prog X.w H' h'):Inv X pins σ H' { s with heap:=h',toks:=t' }:=by
 obtain⟨m,⟨o,es,ep,ho,r⟩,_⟩:=id I.loc
 obtain⟨sl,hL⟩:=u.any ho I.free (by simp)
 exact I.step (g':=s.gens) (d':=s.drawn) (ch:=[]) (fun _ z=>nomatch z) (fun b o _ hb _ e n=>u.keep b o e n hb (by simp)) (fun b o _ hb _ e n=>u.slot b o e n hb (by simp)) (fun b o _ e n=>u.free b o e n (by simp)) (fun b o _ e=>u.there b o e (by simp)) u.tups u.frzs u.tbls (fun m' hm=>by
  obtain⟨o',es',ep',ho',r'⟩:=hm
  rw[ho] at ho';cases ho'
  exact⟨_,es',ep',hL,r'⟩) hok I.bare
theorem Inv.call {g':Array GenState}{t':Nat}{d':Drawn}{ch:List Addr} (I:Inv X pins σ H s) (u:Un (frs X.stack) ch H H' s.heap h') (hok:HOk X.prog X.w H' h') (hg:AllBare g')
  (hch:∀ b∈ch,(b∈X.ex∨X.s₀.heap.objs.size≤b)∧b≠X.env.locals∧(∀ x c,X.env.cells.lookup x=some c→c≠b)∧∀ p∈X.pn++pins,p.1≠b):
  Inv X pins σ H' { s with heap:=h',gens:=g',drawn:=d',toks:=t' }:=by
 obtain⟨m,⟨o,es,ep,ho,r⟩,_⟩:=id I.loc
 obtain⟨sl,hL⟩:=u.any ho I.free fun z=>(hch _ z).2.1 rfl
 exact I.step (ch:=ch) hch (fun b o hL hb hc e n=>u.keep b o e n (fun z=>(List.mem_cons.mp (I.stkSub b z)).elim hL hb) hc) (fun b o _ _ hc e n=>u.any e n hc) (fun b o hc e n=>u.free b o e n hc) (fun b o hc e=>u.there b o e hc) u.tups u.frzs u.tbls (fun m' hm=>by
  obtain⟨o',es',ep',ho',r'⟩:=hm
  rw[ho] at ho';cases ho'
  exact⟨_,es',ep',hL,r'⟩) hok hg
theorem Inv.turned {t':Nat}{it:Addr} (I:Inv X pins σ H s) (k:∀ b o,b≠it→s.heap.get? b=some o→h'.get? b=some o) (hn:H it=none) (hL:it≠X.env.locals)
  (h1:it∈X.ex∨X.s₀.heap.objs.size≤it) (h2:∀ x c,X.env.cells.lookup x=some c→c≠it) (h3:∀ p∈X.pn++pins,p.1≠it):Inv X pins σ H { s with heap:=h',toks:=t' }:=by
 have nit:∀ b u,H b=some u→b≠it:=fun b u e z=>by rw[z,hn] at e;cases e
 refine I.step (g':=s.gens) (d':=s.drawn) (ch:=[it]) (fun b hb=>?_) (fun b o _ _ hc e _=>k b o (fun z=>hc (by simp[z])) e) (fun b o _ _ hc e _=>⟨o.slots,k b o (fun z=>hc (by simp[z])) e⟩) (fun _ _ _ _ n=>n)
  (fun b o hc e=>⟨o,k b o (fun z=>hc (by simp[z])) e⟩) (fun _ _ e=>e) (fun _ _ _ e=>e) (fun b ps e=>⟨#[],by rw[e];simp⟩) (fun m hm=>?_) (fun b u e=>?_) I.bare
 ·have e:b=it:=by simpa using hb
  subst e
  exact⟨h1,hL,h2,h3⟩
 ·obtain⟨o,es,ep,ho,r⟩:=hm
  exact⟨o,es,ep,k _ o (Ne.symm hL) ho,r⟩
 ·refine (I.hok b u e).stay (fun c v hc q=>k c v ?_ q) (fun _ q=>q) fun _ _ q=>q
  rcases hc with z | z
  ·rw[z];exact nit b u e
  ·exact nit c _ z
theorem Inv.tok (I:Inv X pins σ H s) (t:Nat):Inv X pins σ H { s with toks:=t }:=I.un (h':=s.heap) (t':=t) Un.refl I.hok
theorem Inv.kept {t':Nat} (I:Inv X pins σ H s) (k:∀ b u,s.heap.get? b=some u→h'.get? b=some u):Inv X pins σ H { s with heap:=h',toks:=t' }:=I.un (Un.kept k) (I.hok.kept k)
theorem Inv.laid {a:Addr}{o:HO}{t':Nat} (I:Inv X pins σ H s) (k:∀ b u,s.heap.get? b=some u→h'.get? b=some u) (hp:s.heap.objs.size≤a) (new:aW X.prog X.w (upd H a o) h' a o):
  Inv X pins σ (upd H a o) { s with heap:=h',toks:=t' }:=I.un (Un.laid k hp (I.hok.fresh hp)) (I.hok.laid k hp new)
theorem Inv.write {x e:Addr}{o:HO}{t':Nat} (I:Inv X pins σ H s) (mu:Mut (H x)) (he:e=x∨H e=some (.own x)) (k:∀ b u,b≠e→s.heap.get? b=some u→h'.get? b=some u) (heo:∃ u,h'.get? e=some u)
  (new:aW X.prog X.w (upd H x o) h' x o):Inv X pins σ (upd H x o) { s with heap:=h',toks:=t' }:=I.un (Un.write mu he k heo) (I.hok.write mu he k heo new)
theorem Inv.weak {σ':List (Option V)} (I:Inv X pins σ H s) (hl:σ'.length=σ.length) (w:∀ (i:Nat) v,σ'[i]?=some (some v)→σ[i]?=some (some v)):Inv X pins σ' H s:=
 ⟨I.ok,I.os,I.bare,I.base,let ⟨m,hn,hl'⟩:=I.loc;⟨m,hn,fun i x v e1 e2 e3=>hl' i x v e1 (w i v e2) e3⟩,I.cell,I.free,I.freeC,I.pin,I.hok,hl.trans I.len⟩
theorem Inv.pins_of {pins':List (Addr×Obj)} (I:Inv X pins σ H s) (h:∀ p∈pins',s.heap.get? p.1=some p.2∧H p.1=none∧p.1≠X.env.locals∧p.1∉X.fs∧∀ v,p.2.data≠.cell v):Inv X pins' σ H s:=
 ⟨I.ok,I.os,I.bare,I.base,I.loc,I.cell,I.free,I.freeC,fun p hp=>(List.mem_append.mp hp).elim (fun z=>I.pin p (List.mem_append_left _ z)) (h p),I.hok,I.len⟩
theorem mq {N:List Str} (hN:N.Nodup) {i j:Nat}{x:Str} (a:N[i]?=some x) (b:N[j]?=some x):i=j:=by
 obtain⟨h1,e1⟩:=List.getElem?_eq_some_iff.mp a
 obtain⟨h2,e2⟩:=List.getElem?_eq_some_iff.mp b
 exact (List.getElem_inj hN).mp (e1.trans e2.symm)
theorem rD {M:Model}{A:Around}{E:Value→Shared→Prop}{i:Nat}{x:Str}{v:V}{u:Value}{Q:Unit→Shared→Prop} (I:Inv X pins σ H s) (hN:X.N.Nodup) (hi:X.N[i]?=some x) (hx:Loc X.env.scope x) (r:ao v u)
  (h:∀ s',Inv X pins (σ.set i (some v)) H s'→(∃ a,Heap.SameBut a s.heap s'.heap∧(a=X.env.locals∨X.env.cells.lookup x=some a))→Q () s') (hf:X.fn x=true∨X.env.scope.names.lookup x=some .local:=by first | exact .inl rfl | exact .inr rfl | assumption):wpAny M A (storeName X.env x u) Q E s:=by
 obtain⟨m,hn,hl⟩:=id I.loc
 have hcls:(X.env.scope.kind == .class || (X.env.scope.kind == .module && X.env.locals != X.env.globals))=false:=by rw[I.ok.kind];rfl
 have hiσ:i < σ.length:=by rw[I.len];exact (List.getElem?_eq_some_iff.mp hi).1
 have cne:=I.cne
 have tracked:∀ {a:Addr}{h':Heap},(∃ o,s.heap.get? a=some o∧H a=none)→Heap.SameBut a s.heap h'→HOk X.prog X.w H h':=fun {a h'} ha hs b ob e=>by
  obtain⟨_,_,hfree⟩:=ha
  refine (I.hok b ob e).stay (fun c w' hc q=>(hs.2 c ?_).trans q) (fun _ q=>q) fun _ _ q=>q
  rintro rfl
  rcases hc with rfl | hc
  ·rw[hfree] at e;cases e
  ·rw[hfree] at hc;cases hc
 rcases hx with hk | hk
 ·refine wpAny_storeName_local hk hn (fun h' hn' hs=>?_) hcls
  obtain⟨oL,_,_,hoL,_⟩:=id hn
  refine h _ ⟨I.ok,I.os,I.bare,⟨fun b o e n hb hx=>?_,fun b o e n hb hx=>?_,I.base.free,fun b o e hx=>?_,I.base.tups,I.base.frzs,I.base.tbls⟩,⟨_,hn',fun j y v' e1 e2 e3=>?_⟩,fun y c e=>?_,I.free,I.freeC,fun p hp=>?_,tracked ⟨oL,hoL,I.free⟩ hs,by simpa using I.len⟩ ⟨_,hs,.inl rfl⟩
  ·exact (hs.2 b (Nat.ne_of_lt (Nat.lt_of_lt_of_le (Heap.lt_size e) I.ok.above))).trans (I.base.keep b o e n hb hx)
  ·obtain⟨sl,e1⟩:=I.base.slot b o e n hb hx
   exact⟨sl,(hs.2 b (Nat.ne_of_lt (Nat.lt_of_lt_of_le (Heap.lt_size e) I.ok.above))).trans e1⟩
  ·obtain⟨o',e1⟩:=I.base.there b o e hx
   exact⟨o',(hs.2 b (Nat.ne_of_lt (Nat.lt_of_lt_of_le (Heap.lt_size e) I.ok.above))).trans e1⟩
  ·by_cases hj:j=i
   ·subst hj
    rw[hi] at e1;cases e1
    rw[List.getElem?_set_self hiσ] at e2
    cases e2
    exact⟨u,r,.inl ⟨hk,by simp⟩⟩
   ·rw[List.getElem?_set_ne (Ne.symm hj)] at e2
    obtain⟨u',r',q⟩:=hl j y v' e1 e2 e3
    refine⟨u',r',?_⟩
    rcases q with ⟨k,e⟩ | ⟨k,c,e,z⟩
    ·refine .inl ⟨k,?_⟩
     have:y≠x:=fun e=>hj (mq hN e1 (e ▸ hi))
     simp[this,e]
    ·exact .inr ⟨k,c,e,z.sameBut hs (cne y c e)⟩
  ·obtain⟨w',z⟩:=I.cell y c e
   exact⟨w',z.sameBut hs (cne y c e)⟩
  ·obtain⟨e,n,ne,nf,d⟩:=I.pin p hp
   exact⟨(hs.2 p.1 ne).trans e,n,ne,nf,d⟩
 ·have hfn:X.fn x=true:=by
   rcases hf with z | z
   ·exact z
   ·rw[z] at hk;cases hk
  obtain⟨c,hc⟩:=I.ok.has x (.inl hk)
  obtain⟨w',z⟩:=I.cell x c hc
  refine wpAny_storeName_cell I.ok.kind hk hc z (fun h' hc' hs=>?_)
  obtain⟨oc,hoc,hocd⟩:=id z
  refine h { s with heap:=h' } ⟨I.ok,I.os,I.bare,⟨fun b o e n hb hx=>?_,fun b o e n hb hx=>?_,I.base.free,fun b o e hx=>?_,I.base.tups,I.base.frzs,I.base.tbls⟩,⟨m,hn.sameBut hs (Ne.symm (cne x c hc)),fun j y v' e1 e2 e3=>?_⟩,fun y c' e=>?_,I.free,I.freeC,fun p hp=>?_,tracked ⟨oc,hoc,I.freeC x c hc⟩ hs,by simpa using I.len⟩ ⟨c,hs,.inr hc⟩
  ·exact (hs.2 b (Nat.ne_of_lt (Nat.lt_of_lt_of_le (Heap.lt_size e) (I.ok.cab x c hfn hc)))).trans (I.base.keep b o e n hb hx)
  ·obtain⟨sl,e1⟩:=I.base.slot b o e n hb hx
   exact⟨sl,(hs.2 b (Nat.ne_of_lt (Nat.lt_of_lt_of_le (Heap.lt_size e) (I.ok.cab x c hfn hc)))).trans e1⟩
  ·obtain⟨o',e1⟩:=I.base.there b o e hx
   exact⟨o',(hs.2 b (Nat.ne_of_lt (Nat.lt_of_lt_of_le (Heap.lt_size e) (I.ok.cab x c hfn hc)))).trans e1⟩
  ·by_cases hj:j=i
   ·subst hj
    rw[hi] at e1;cases e1
    rw[List.getElem?_set_self hiσ] at e2
    cases e2
    exact⟨u,r,.inr ⟨.inl hk,c,hc,hc'⟩⟩
   ·rw[List.getElem?_set_ne (Ne.symm hj)] at e2
    obtain⟨u',r',q⟩:=hl j y v' e1 e2 e3
    refine⟨u',r',?_⟩
    rcases q with q | ⟨k,c',e,z'⟩
    ·exact .inl q
    ·refine .inr ⟨k,c',e,z'.sameBut hs ?_⟩
     rintro rfl
     exact hj (mq hN e1 (I.ok.inj _ _ _ e hc ▸ hi))
  ·by_cases hcc:c'=c
   ·subst hcc;exact⟨_,hc'⟩
   ·obtain⟨w2,z2⟩:=I.cell y c' e
    exact⟨w2,z2.sameBut hs hcc⟩
  ·obtain⟨e,n,ne,nf,d⟩:=I.pin p hp
   refine⟨(hs.2 p.1 ?_).trans e,n,ne,nf,d⟩
   intro q
   rw[q,hoc] at e
   have q':oc=p.2:=Option.some.inj e
   exact d w' (by rw[← q'];exact hocd)
theorem iD {M:Model}{A:Around}{E:Value→Shared→Prop}{i:Nat}{x:Str}{v:V}{u:Value}{Q:Unit→Shared→Prop} (I:Inv X pins σ H s) (hN:X.N.Nodup) (hi:X.N[i]?=some x) (hx:Loc X.env.scope x) (r:ao v u)
  (h:∀ s',Inv X pins (σ.set i (some v)) H s'→Q () s') (hf:X.fn x=true∨X.env.scope.names.lookup x=some .local:=by first | exact .inl rfl | exact .inr rfl | assumption):wpAny M A (storeName X.env x u) Q E s:=
 rD I hN hi hx r (fun s' I' _=>h s' I') hf
theorem Inv.call' {s':Shared}{ch:List Addr} (I:Inv X pins σ H s) (ho:s'.os=s.os) (u:Un (frs X.stack) ch H H' s.heap s'.heap) (hok:HOk X.prog X.w H' s'.heap) (hg:AllBare s'.gens)
  (hch:∀ b∈ch,(b∈X.ex∨X.s₀.heap.objs.size≤b)∧b≠X.env.locals∧(∀ x c,X.env.cells.lookup x=some c→c≠b)∧∀ p∈X.pn++pins,p.1≠b):Inv X pins σ H' s':=by
 obtain⟨h',g',d',t',o'⟩:=s'
 have e:o'=s.os:=ho
 subst e
 exact I.call (g':=g') (t':=t') (d':=d') u hok hg hch
end
noncomputable abbrev XK:=Value→Option Addr→Hp→Prop
noncomputable abbrev St:=List (Option V)
noncomputable abbrev VK:=V→Hp→Prop
noncomputable abbrev TE:=St→Hp→VK→Prop
noncomputable abbrev TT:=St→Hp→(Bool→Hp→Prop)→Prop
noncomputable abbrev TA:=St→Hp→(List V→Hp→Prop)→Prop
structure Ends where
 nx:St→Hp→Prop
 rt:VK
 bk:St→Hp→Prop:=fun _ _=>False
 ct:St→Hp→Prop:=fun _ _=>False
noncomputable abbrev TS:=Ends→St→Hp→Prop
noncomputable def EP (X:Cx) (pins:List (Addr×Obj)) (σ:St) (Q:VK) (u:Value) (s':Shared):Prop:=∃ v H',Inv X pins σ H' s'∧ao v u∧Q v H'
noncomputable def TP (X:Cx) (pins:List (Addr×Obj)) (σ:St) (Q:Bool→Hp→Prop) (b:Bool) (s':Shared):Prop:=∃ H',Inv X pins σ H' s'∧Q b H'
noncomputable def AP (X:Cx) (pins:List (Addr×Obj)) (σ:St) (Q:List V→Hp→Prop) (us:List Value) (s':Shared):Prop:=∃ vs H',Inv X pins σ H' s'∧am vs us∧Q vs H'
noncomputable def SP (X:Cx) (pins:List (Addr×Obj)) (D:Ends) (f:Flow) (s':Shared):Prop:=
 match f with
 | .next=>∃ σ' H',Inv X pins σ' H' s'∧D.nx σ' H'
 | .brk=>∃ σ' H',Inv X pins σ' H' s'∧D.bk σ' H'
 | .cont=>∃ σ' H',Inv X pins σ' H' s'∧D.ct σ' H'
 | .ret u=>∃ v σ' H',Inv X pins σ' H' s'∧ao v u∧D.rt v H'
noncomputable def PE (X:Cx) (e:Expr) (t:TE):Prop:=
 ∀ (pins:List (Addr×Obj)) (s:Shared) (σ:St) (H:Hp) (Q:VK),Inv X pins σ H s→t σ H Q→wpAny (model X.prog X.w) X.A (eval e X.env) (EP X pins σ Q) X.xe s
noncomputable def PT (X:Cx) (e:Expr) (t:TT):Prop:=
 ∀ (pins:List (Addr×Obj)) (s:Shared) (σ:St) (H:Hp) (Q:Bool→Hp→Prop),Inv X pins σ H s→t σ H Q→wpAny (model X.prog X.w) X.A (isTrue e X.env (eval e X.env)) (TP X pins σ Q) X.xe s
noncomputable def PW (X:Cx) (e:Expr) (t:TT):Prop:=
 ∀ (whole:Sem Value) (pins:List (Addr×Obj)) (s:Shared) (σ:St) (H:Hp) (Q:Bool→Hp→Prop),Inv X pins σ H s→t σ H Q→wpAny (model X.prog X.w) X.A (isTrue e X.env whole) (TP X pins σ Q) X.xe s
theorem PW.pt {X:Cx}{e:Expr}{t:TT} (h:PW X e t):PT X e t:=h _
noncomputable def PA (X:Cx) (es:List Expr) (t:TA):Prop:=
 ∀ (pos:Pos) (pins:List (Addr×Obj)) (s:Shared) (σ:St) (H:Hp) (Q:List V→Hp→Prop),Inv X pins σ H s→t σ H Q→wpAny (model X.prog X.w) X.A (spliced (backTo pos (starEach es X.env))) (AP X pins σ Q) X.xe s
noncomputable def PS (X:Cx) (st:Stmt) (t:TS):Prop:=
 ∀ (pins:List (Addr×Obj)) (s:Shared) (σ:St) (H:Hp) (D:Ends),Inv X pins σ H s→t D σ H→wpAny (model X.prog X.w) X.A (exec st X.env) (SP X pins D) X.xe s
noncomputable def PSs (X:Cx) (st:List Stmt) (t:TS):Prop:=
 ∀ (pins:List (Addr×Obj)) (s:Shared) (σ:St) (H:Hp) (D:Ends),Inv X pins σ H s→t D σ H→wpAny (model X.prog X.w) X.A (execs st X.env) (SP X pins D) X.xe s
theorem thn {α:Type}{t:Sem α}{Q Q':α→Shared→Prop}{M:Model}{A:Around}{E:Value→Shared→Prop}{s:Shared} (h:wpAny M A t Q E s) (hQ:∀ a s,Q a s→Q' a s):wpAny M A t Q' E s:=wpAny_mono h hQ fun _ _ x=>x
section
variable {X:Cx}
theorem bin {a b:Expr}{ta tb:TE} (ha:PE X a ta) (hb:PE X b tb) {pins:List (Addr×Obj)}{s:Shared}{σ:St}{H:Hp}{R:V→V→Hp→Prop} (I:Inv X pins σ H s) (h:ta σ H fun x H1=>tb σ H1 fun y H2=>R x y H2)
  {α:Type}{Q:α→Shared→Prop}{f:Value→Value→Sem α}
  (hf:∀ v u s2 x y H2,Inv X pins σ H2 s2→ao x v→ao y u→R x y H2→wpAny (model X.prog X.w) X.A (f v u) Q X.xe s2):
  wpAny (model X.prog X.w) X.A (eval a X.env) (fun v s₁=>wpAny (model X.prog X.w) X.A (eval b X.env) (fun u s₂=>wpAny (model X.prog X.w) X.A (f v u) Q X.xe s₂) X.xe s₁) X.xe s:=by
 refine thn (ha pins s σ H _ I h) fun v s1 ⟨x,H1,I1,r1,q1⟩=>?_
 refine thn (hb pins s1 σ H1 _ I1 q1) fun u s2 ⟨y,H2,I2,r2,q2⟩=>?_
 exact hf v u s2 x y H2 I2 r1 r2 q2
noncomputable def eF (i:Nat):TE:=fun σ H Q=>∃ v,σ[i]?=some (some v)∧Q v H
noncomputable def tC (v:V):TE:=fun _ H Q=>Q v H
theorem rE {i:Nat}{x:Str}{pos:Pos} (hN:X.N[i]?=some x) (hv:Vis X.env.scope x) (hd:(x == ("__debug__" : Str))=false:=by decide) (hcd:(x == ("__classdict__" : Str))=false:=by decide):PE X (.Name x pos) (eF i):=by
 intro pins s σ H Q I h
 obtain⟨v,e,h⟩:=h
 obtain⟨m,hn,hl⟩:=I.loc
 obtain⟨u,r,l⟩:=hl i x v hN e hv
 have fin:EP X pins σ Q u s:=⟨v,H,I,r,h⟩
 rcases l with ⟨hk,hm⟩ | ⟨hk,c,hc,hcell⟩
 ·exact wpAny_Name (wpAny_loadName_local I.ok.kind hk hn hm fin) hd
 ·rcases hk with hk | hk
  ·exact wpAny_Name (wpAny_loadName_cell I.ok.kind hk hc hcell fin) hd
  ·exact wpAny_Name (wpAny_loadName_free I.ok.kind hk hc hcell fin hcd) hd
theorem rF {i j pos}:PE X (.Constant (.int i) j pos) (tC (.int i)):=fun _ _ _ H _ I h=>wpAny_Constant_int ⟨.int i,H,I.tok _,⟨_,rfl⟩,h⟩
theorem rG {b j pos}:PE X (.Constant (.bool b) j pos) (tC (.bl b)):=fun _ _ _ H _ I h=>Constant_bool ⟨.bl b,H,I,rfl,h⟩
theorem rH {j pos}:PE X (.Constant .none j pos) (tC .non):=fun _ _ _ H _ I h=>Constant_none ⟨.non,H,I,rfl,h⟩
theorem rJ {x j pos}:PE X (.Constant (.str x) j pos) (tC (.str x)):=fun _ _ _ H _ I h=>Calls.Constant_str ⟨.str x,H,I.tok _,⟨_,rfl⟩,h⟩
noncomputable def Gl (X:Cx) (x:Str):Prop:=X.env.kindOf x=some .globalImplicit
theorem mr {E:Value→Shared→Prop}{pins:List (Addr×Obj)}{s:Shared}{σ:St}{H:Hp}{x:Str}{u:Value}{pos:Pos}{Q:Value→Shared→Prop} (I:Inv X pins σ H s) (hg:Gl X x) (hm:X.mg x=some u) (h:Q u s)
  (hd:(x == ("__debug__" : Str))=false:=by decide):wpAny (model X.prog X.w) X.A (eval (.Name x pos) X.env) Q E s:=
 Calls.Name_function_global I.ok.kind hg (Calls.loadGlobal_global (by rw[I.ok.glob];exact I.mod.glob.keeps I.bk) hm h) hd
theorem eG {E:Value→Shared→Prop}{pins:List (Addr×Obj)}{s:Shared}{σ:St}{H:Hp}{x:Str}{u:Value}{pos:Pos}{Q:Value→Shared→Prop} (I:Inv X pins σ H s) (hg:Gl X x) (hm:X.mg x=none) (hv:bootBuiltins x=some u) (h:Q u s)
  (hn:x ≠ "__name__" := by decide) (hd:(x == ("__debug__" : Str))=false:=by decide):wpAny (model X.prog X.w) X.A (eval (.Name x pos) X.env) Q E s:=by
 obtain⟨mb,h1,h2⟩:=I.mod.blt
 exact Calls.Name_function_global I.ok.kind hg (Calls.loadGlobal_builtin (by rw[I.ok.glob];exact I.mod.glob.keeps I.bk) hm (by rw[I.ok.blt];exact h1.keeps I.bk) ((h2 x hn).trans hv) h) hd
theorem mv {x:Str}{v:V}{u:Value}{pos:Pos} (hg:Gl X x) (hm:X.mg x=some u) (r:ao v u) (hd:(x == ("__debug__" : Str))=false:=by decide):PE X (.Name x pos) (tC v):=
 fun _ _ _ H _ I h=>mr I hg hm ⟨v,H,I,r,h⟩ hd
theorem rK {x:Str}{v:V}{u:Value}{pos:Pos} (hg:Gl X x) (hm:X.mg x=none) (hv:bootBuiltins x=some u) (r:ao v u) (hn:x ≠ "__name__" := by decide) (hd:(x == ("__debug__" : Str))=false:=by decide):PE X (.Name x pos) (tC v):=
 fun _ _ _ H _ I h=>eG I hg hm hv ⟨v,H,I,r,h⟩ hn hd
variable {a b:Expr}{ta tb:TE}{pos:Pos}
variable {tA tB':TT}{rest:List Expr}
noncomputable def rL (t u:TT):TT:=fun σ H Q=>t σ H fun c H1=>if c=true then u σ H1 Q else Q false H1
noncomputable def tOr (t u:TT):TT:=fun σ H Q=>t σ H fun c H1=>if c=true then Q true H1 else u σ H1 Q
noncomputable def rM (t:TT):TT:=fun σ H Q=>t σ H fun c H1=>Q (!c) H1
theorem rN (ha:PT X a tA):PW X (.BoolOp .Or [a] pos) tA:=by
 intro wh pins s σ H Q I h
 refine isTrue_or (thn (ha pins s σ H Q I h) fun c s1 e=>?_)
 cases c with
 | false=>exact isTrue_or_nil e
 | true=>exact e
theorem rO (ha:PT X a tA) (hb:PW X (.BoolOp .Or (b::rest) pos) tB'):PW X (.BoolOp .Or (a::b::rest) pos) (tOr tA tB'):=by
 intro wh pins s σ H Q I h
 refine isTrue_or (thn (ha pins s σ H _ I h) fun c s1 ⟨H1,I1,q1⟩=>?_)
 cases c with
 | true=>exact⟨H1,I1,q1⟩
 | false=>exact hb wh pins s1 σ H1 Q I1 q1
theorem rP (ha:PT X a tA):PT X (.UnaryOp .Not a pos) (rM tA):=by
 intro pins s σ H Q I h
 exact isTrue_not (ha pins s σ H (fun c H1=>Q (!c) H1) I h)
noncomputable def rQ (ta tb:TE):TE:=fun σ H Q=>ta σ H fun x H1=>∃ c,x=.bl c∧if c=true then tb σ H1 Q else Q (.bl false) H1
noncomputable def rR (ta tb:TE):TE:=fun σ H Q=>ta σ H fun x H1=>∃ c,x=.bl c∧if c=true then Q (.bl true) H1 else tb σ H1 Q
noncomputable def rS (ta:TE):TE:=fun σ H Q=>ta σ H fun x H1=>∃ c,x=.bl c∧Q (.bl (!c)) H1
theorem rT {op}{t:TE} (h:PE X a t):PE X (.BoolOp op [a] pos) t:=fun pins s σ H Q I hw=>BoolOp_one (h pins s σ H Q I hw)
theorem rV (ha:PE X a ta) (hb:PE X (.BoolOp .And (b::rest) pos) tb):PE X (.BoolOp .And (a::b::rest) pos) (rQ ta tb):=by
 intro pins s σ H Q I h
 refine BoolOp_and (thn (ha pins s σ H _ I h) fun v s1 ⟨x,H1,I1,r1,q1⟩=>?_)
 obtain⟨c,rfl,q1⟩:=q1
 cases r1
 refine wpAny_truthy_bool ?_
 cases c with
 | true=>exact hb pins s1 σ H1 Q I1 q1
 | false=>exact⟨.bl false,H1,I1,rfl,q1⟩
theorem rW (ha:PE X a ta) (hb:PE X (.BoolOp .Or (b::rest) pos) tb):PE X (.BoolOp .Or (a::b::rest) pos) (rR ta tb):=by
 intro pins s σ H Q I h
 refine BoolOp_or (thn (ha pins s σ H _ I h) fun v s1 ⟨x,H1,I1,r1,q1⟩=>?_)
 obtain⟨c,rfl,q1⟩:=q1
 cases r1
 refine wpAny_truthy_bool ?_
 cases c with
 | false=>exact hb pins s1 σ H1 Q I1 q1
 | true=>exact⟨.bl true,H1,I1,rfl,q1⟩
theorem rX (ha:PE X a ta):PE X (.UnaryOp .Not a pos) (rS ta):=by
 intro pins s σ H Q I h
 refine UnaryOp_ (thn (ha pins s σ H _ I h) fun v s1 ⟨x,H1,I1,r1,q1⟩=>?_)
 obtain⟨c,rfl,q1⟩:=q1
 cases r1
 exact not_of (wpAny_truthy_bool ⟨.bl (!c),H1,I1,rfl,q1⟩)
end
noncomputable def SqL (K:PySem.W.Frag) (H:Hp) (a:Addr) (xs:List V):Prop:=
 Rd H a (.lst xs)∨
  ∃ (o:Obj) (its:Array Value) (n:Nat),K.lookup a=some o∧o.cls=.type "list" ∧ o.dict=none∧o.data=.seq its n∧its.size≤sizeLine∧am xs its.toList
noncomputable def SqT (K:PySem.W.Frag) (H:Hp) (a:Addr) (xs:List V):Prop:=
 Rd H a (.tup xs)∨
  ∃ (o:Obj) (its:Array Value) (n:Nat),K.lookup a=some o∧o.cls=.type "tuple" ∧ o.data=.seq its n∧its.size≤sizeLine∧am xs its.toList
noncomputable def rY:Value→Option V
 | .none=>some .non
 | .bool b=>some (.bl b)
 | .int i _=>some (.int i)
 | .str x _=>some (.str x)
 | .bytes b _=>some (.byt b)
 | .float b _=>some (.flt b)
 | .ref a=>some (.ref a)
 | .type n=>some (.ty n)
 | _=>none
theorem ao.abs {x:V}{u:Value} (r:ao x u):rY u=some x:=by
 cases x with
 | non=>cases r;rfl
 | bl _=>cases r;rfl
 | int _=>obtain⟨t,rfl⟩:=r;rfl
 | str _=>obtain⟨t,rfl⟩:=r;rfl
 | byt _=>obtain⟨t,rfl⟩:=r;rfl
 | flt _=>obtain⟨t,rfl⟩:=r;rfl
 | ref _=>cases r;rfl
 | ty _=>cases r;rfl
theorem ao.inj {x y:V}{u:Value} (r:ao x u) (q:ao y u):x=y:=Option.some.inj (r.abs.symm.trans q.abs)
theorem am.inj:∀ {xs ys:List V}{us:List Value},am xs us→am ys us→xs=ys
 | _,_,_,.nil,.nil=>rfl
 | _,_,_,.cons r t,.cons r' t'=>by rw[r.inj r',am.inj t t']
section
variable {X:Cx}{pins:List (Addr×Obj)}{σ:St}{H:Hp}{s:Shared}{a:Addr}{xs ys:List V}
theorem SqL.of {K:PySem.W.Frag} (h:H a=some (.lst xs)):SqL K H a xs:=.inl (.inl h)
theorem SqT.of {K:PySem.W.Frag} (h:H a=some (.tup xs)):SqT K H a xs:=.inl (.inl h)
theorem Inv.list (I:Inv X pins σ H s) (h:SqL X.K H a xs):∃ its:List Value,am xs its∧PlainL s.heap a its.toArray∧xs.length≤sizeLine:=by
 rcases h with h | ⟨o,its,n,hk,hc,hd,hs,hz,r⟩
 ·obtain⟨z,its,n,r,e⟩:=h.ok I.hok
  exact⟨its,r,⟨_,n,e,rfl,rfl,rfl⟩,z⟩
 ·refine⟨its.toList,r,⟨o,n,I.kIn a o hk,hc,hd,by simpa using hs⟩,?_⟩
  have e:=r.length
  simp only[Array.length_toList] at e
  lia
theorem Inv.tuple (I:Inv X pins σ H s) (h:SqT X.K H a xs):∃ its:List Value,am xs its∧IsTup s.heap a its.toArray∧xs.length≤sizeLine:=by
 rcases h with h | ⟨o,its,n,hk,hc,hs,hz,r⟩
 ·obtain⟨z,its,r,p⟩:=h.ok I.hok
  exact⟨its,r,p,z⟩
 ·refine⟨its.toList,r,⟨o,I.kIn a o hk,hc,n,by simpa using hs⟩,?_⟩
  have e:=r.length
  simp only[Array.length_toList] at e
  lia
theorem Inv.list_inj (I:Inv X pins σ H s) (h:SqL X.K H a xs) (h':SqL X.K H a ys):xs=ys:=by
 obtain⟨its,r,⟨o,n,e,_,_,d⟩,_⟩:=I.list h
 obtain⟨its',r',⟨o',n',e',_,_,d'⟩,_⟩:=I.list h'
 rw[e] at e';cases e'
 rw[d] at d'
 injection d' with d1 _
 have:its=its':=by simpa using congrArg Array.toList d1
 subst this
 exact r.inj r'
theorem Inv.tuple_inj (I:Inv X pins σ H s) (h:SqT X.K H a xs) (h':SqT X.K H a ys):xs=ys:=by
 obtain⟨its,r,⟨o,e,_,n,d⟩,_⟩:=I.tuple h
 obtain⟨its',r',⟨o',e',_,n',d'⟩,_⟩:=I.tuple h'
 rw[e] at e';cases e'
 rw[d] at d'
 injection d' with d1 _
 have:its=its':=by simpa using congrArg Array.toList d1
 subst this
 exact r.inj r'
end
noncomputable abbrev Cx.wish (X:Cx) (E:Value→Shared→Prop):Cx:={ X with xe:=E }
noncomputable abbrev Cx.nox (X:Cx):Cx:=X.wish fun _ _=>False
theorem Cx.Ok.wish {X:Cx} (ok:X.Ok) (E:Value→Shared→Prop):(X.wish E).Ok:=
 ⟨ok.mod,ok.kind,ok.glob,ok.blt,ok.above,ok.inj,ok.has,ok.cab,ok.hd,ok.frames,ok.stk,ok.exf,ok.bs,ok.bsz,ok.noex,ok.exfs,ok.funs,ok.frf⟩
theorem Cx.Ok.unwish {X:Cx}{E:Value→Shared→Prop} (ok:(X.wish E).Ok):X.Ok:=
 ⟨ok.mod,ok.kind,ok.glob,ok.blt,ok.above,ok.inj,ok.has,ok.cab,ok.hd,ok.frames,ok.stk,ok.exf,ok.bs,ok.bsz,ok.noex,ok.exfs,ok.funs,ok.frf⟩
section
variable {X:Cx}{pins:List (Addr×Obj)}{σ:St}{H:Hp}{s:Shared}{E:Value→Shared→Prop}
theorem Inv.wish (I:Inv X pins σ H s) (E:Value→Shared→Prop):Inv (X.wish E) pins σ H s:=⟨I.ok.wish E,I.os,I.bare,I.base,I.loc,I.cell,I.free,I.freeC,I.pin,I.hok,I.len⟩
theorem Inv.unwish (I:Inv (X.wish E) pins σ H s):Inv X pins σ H s:=⟨I.ok.unwish,I.os,I.bare,I.base,I.loc,I.cell,I.free,I.freeC,I.pin,I.hok,I.len⟩
theorem SP.unwish {D:Ends}{f:Flow}{s':Shared} (h:SP (X.wish E) pins D f s'):SP X pins D f s':=by
 cases f with
 | next=>obtain⟨σ',H',I,q⟩:=h;exact⟨σ',H',I.unwish,q⟩
 | brk=>obtain⟨σ',H',I,q⟩:=h;exact⟨σ',H',I.unwish,q⟩
 | cont=>obtain⟨σ',H',I,q⟩:=h;exact⟨σ',H',I.unwish,q⟩
 | ret u=>obtain⟨v,σ',H',I,r,q⟩:=h;exact⟨v,σ',H',I.unwish,r,q⟩
theorem PSs.nox {st:List Stmt}{t:TS} (h:PSs X.nox st t):PSs X st t:=fun pins s σ H D I hw=>
 wpAny_mono (h pins s σ H D (I.wish _) hw) (fun _ _ q=>q.unwish) fun _ _ z=>False.elim z
end
section
variable {X:Cx}{st:Stmt}{rest:List Stmt}{t u:TS}{e:Expr}{te:TE}{pos:Pos}
noncomputable def tNext:TS:=fun D σ H=>D.nx σ H
noncomputable def mw (t u:TS):TS:=fun D σ H=>t { D with nx:=u D } σ H
theorem rZ:PSs X [] tNext:=fun _ _ σ H _ I h=>wpAny_execs_nil ⟨σ,H,I,h⟩
theorem r6 (h1:PS X st t) (h2:PSs X rest u):PSs X (st::rest) (mw t u):=by
 intro pins s σ H D I h
 refine wpAny_execs_cons (thn (h1 pins s σ H { D with nx:=u D } I h) fun f s1 q=>?_)
 cases f with
 | next=>
  obtain⟨σ',H',I',q⟩:=q
  exact h2 pins s1 σ' H' D I' q
 | ret v=>exact q
 | brk=>exact q
 | cont=>exact q
theorem se (h1:PS X st t):PSs X [st] t:=by
 intro pins s σ H D I h
 refine wpAny_execs_cons (thn (h1 pins s σ H D I h) fun f s1 q=>?_)
 cases f with
 | next=>exact wpAny_execs_nil q
 | ret v=>exact q
 | brk=>exact q
 | cont=>exact q
theorem Inv.quiet {pins:List (Addr×Obj)}{σ:St}{H:Hp}{s:Shared} (I:Inv X pins σ H s):interactive X.env=false:=by simp[interactive,I.ok.kind]
noncomputable def sf (te:TE):TS:=fun D σ H=>te σ H fun _ H1=>D.nx σ H1
theorem si (he:PE X e te) (hs:swapsWith e none pos.line X.env=pure false:=by rfl):PS X (.Expr e pos) (sf te):=by
 intro pins s σ H D I h
 exact wpAny_Expr_any (thn (he pins s σ H _ I h) fun v s1 ⟨x,H1,I1,r1,q1⟩=>⟨σ,H1,I1,q1⟩) I.quiet hs
noncomputable def sj (te:TE):TS:=fun D σ H=>te σ H D.rt
theorem sk (he:PE X e te):PS X (.Return (some e) pos) (sj te):=by
 intro pins s σ H D I h
 exact wpAny_Return_some (thn (he pins s σ H _ I h) fun v s1 ⟨x,H1,I1,r1,q1⟩=>⟨x,σ,H1,I1,r1,q1⟩)
noncomputable def sn (c:TT) (t u:TS):TS:=fun D σ H=>c σ H fun b H1=>if b=true then t D σ H1 else u D σ H1
theorem sq {c:Expr}{a b:List Stmt}{tc:TT} (hc:PT X c tc) (ha:PSs X a t) (hb:PSs X b u):PS X (.If c a b pos) (sn tc t u):=by
 intro pins s σ H D I h
 refine wpAny_If (thn (hc pins s σ H _ I h) fun d s1 ⟨H1,I1,q1⟩=>?_)
 cases d with
 | true=>exact ha pins s1 σ H1 D I1 q1
 | false=>exact hb pins s1 σ H1 D I1 q1
end
noncomputable abbrev TG:=V→St→Hp→(St→Hp→Prop)→Prop
noncomputable abbrev TGs:=List V→St→Hp→(St→Hp→Prop)→Prop
noncomputable def PG (X:Cx) (target:Expr) (t:TG):Prop:=
 ∀ (pins:List (Addr×Obj)) (s:Shared) (σ:St) (H:Hp) (v:V) (u:Value) (Q:St→Hp→Prop),Inv X pins σ H s→ao v u→t v σ H Q→
  wpAny (model X.prog X.w) X.A (assign target X.env u) (fun _ s'=>∃ σ' H',Inv X pins σ' H' s'∧Q σ' H') X.xe s
noncomputable def PGs (X:Cx) (ts:List Expr) (t:TGs):Prop:=
 ∀ (pins:List (Addr×Obj)) (s:Shared) (σ:St) (H:Hp) (vs:List V) (us:List Value) (Q:St→Hp→Prop),Inv X pins σ H s→am vs us→t vs σ H Q→
  wpAny (model X.prog X.w) X.A (assignInOrder ((assignEach ts X.env).map (·.2)) us) (fun _ s'=>∃ σ' H',Inv X pins σ' H' s'∧Q σ' H') X.xe s
noncomputable abbrev TSet:=V→V→V→Hp→(Hp→Prop)→Prop
noncomputable def jG (X:Cx) (t:TSet):Prop:=
 ∀ (pins:List (Addr×Obj)) (s:Shared) (σ:St) (H:Hp) (o i v:V) (ov iv u:Value) (Q:Hp→Prop),Inv X pins σ H s→ao o ov→ao i iv→ao v u→t o i v H Q→
  wpAny (model X.prog X.w) X.A (setItem ov iv u) (fun _ s'=>∃ H',Inv X pins σ H' s'∧Q H') X.xe s
section
variable {X:Cx}{pos:Pos}
noncomputable def mx (i:Nat):TG:=fun v σ H Q=>Q (σ.set i (some v)) H
theorem sr {i:Nat}{x:Str} (hN:X.N.Nodup) (hi:X.N[i]?=some x) (hx:Loc X.env.scope x) (hf:X.fn x=true∨X.env.scope.names.lookup x=some .local:=by first | exact .inl rfl | exact .inr rfl | assumption):PG X (.Name x pos) (mx i):=by
 intro pins s σ H v u Q I r h
 exact wpAny_assign_Name (iD I hN hi hx r (fun s' I'=>⟨_,H,I',h⟩) hf)
noncomputable def gNil:TGs:=fun vs σ H Q=>vs=[]∧Q σ H
noncomputable def ss (t:TG) (u:TGs):TGs:=fun vs σ H Q=>∃ v r,vs=v::r∧t v σ H fun σ' H'=>u r σ' H' Q
theorem su:PGs X [] gNil:=by
 intro pins s σ H vs us Q I r h
 obtain⟨e,h⟩:=h
 subst e
 cases r
 exact assignInOrder_nil ⟨σ,H,I,h⟩
theorem sv {e:Expr}{es:List Expr}{t:TG}{u:TGs} (h1:PG X e t) (h2:PGs X es u)
  (hs:(assignEach (e::es) X.env).map (·.2)=assign e X.env::(assignEach es X.env).map (·.2):=by rfl):PGs X (e::es) (ss t u):=by
 intro pins s σ H vs us Q I r h
 obtain⟨v,vr,e1,h⟩:=h
 subst e1
 cases r with
 | cons r rr=>
  rw[hs]
  refine assignInOrder_cons (thn (h1 pins s σ H _ _ _ I r h) fun _ s1 ⟨σ1,H1,I1,q1⟩=>?_)
  exact h2 pins s1 σ1 H1 _ _ Q I1 rr q1
noncomputable def sw (K:PySem.W.Frag) (n:Nat) (t:TGs):TG:=fun v σ H Q=>∃ a xs,v=.ref a∧SqT K H a xs∧xs.length=n∧t xs σ H Q
theorem sx {es:List Expr}{k:Nat}{t:TGs}{n:Nat} (hc:X.calm=true) (h:PGs X es t)
  (hn:(assignEach es X.env).length=n:=by rfl) (hst:(assignEach es X.env).findIdx? (·.1)=none:=by rfl):PG X (.Tuple es k pos) (sw X.K n t):=by
 intro pins s σ H v u Q I r hw
 obtain⟨a,xs,e1,hq,hl,hw⟩:=hw
 subst e1
 cases r
 obtain⟨its,rv,ht,hz⟩:=I.tuple hq
 refine assign_Tuple_tuple (I.ok.hd hc) ht (by simp[hn,← hl,rv.length]) hst fun h' hx=>?_
 have I1:Inv X pins σ H { s with heap:=h' }:=I.kept (t':=s.toks) fun b o e=>hx b o (Nat.ne_of_lt (Heap.lt_size e)) e
 exact h pins _ σ H xs _ Q I1 (by simpa using rv) hw
noncomputable def sy (to ti:TE) (t:TSet):TG:=fun v σ H Q=>to σ H fun o H1=>ti σ H1 fun i H2=>t o i v H2 fun H3=>Q σ H3
theorem sD {o i:Expr}{to ti:TE}{t:TSet} (ho:PE X o to) (hi:PE X i ti) (hs:jG X t)
  (ha:∀ v,assign (.Subscript o i pos) X.env v=(do
   let ov ← holding [v] (eval o X.env)
   let iv ← holding [v,ov] (eval i X.env)
   standAt pos
   holding [v,ov,iv] (setItem ov iv v)
   release [v,ov,iv] []):=by intro _;rfl):PG X (.Subscript o i pos) (sy to ti t):=by
 intro pins s σ H v u Q I r h
 rw[ha]
 refine wpAny_bind (wpAny_holding (thn (ho pins s σ H _ I h) fun ov s1 ⟨x,H1,I1,r1,q1⟩=>?_))
 refine wpAny_bind (wpAny_holding (thn (hi pins s1 σ H1 _ I1 q1) fun iv s2 ⟨y,H2,I2,r2,q2⟩=>?_))
 refine wpAny_bind (wpAny_standAt (wpAny_bind (wpAny_holding (thn (hs pins s2 σ H2 x y v ov iv u _ I2 r1 r2 r q2) fun _ s3 ⟨H3,I3,q3⟩=>?_))))
 exact wpAny_release ⟨σ,H3,I3,q3⟩
noncomputable def my (te:TE) (g:TG):TS:=fun D σ H=>te σ H fun x H1=>g x σ H1 D.nx
theorem sE {tg e:Expr}{te:TE}{g:TG} (he:PE X e te) (hg:PG X tg g) (hs:swapsWithSole [tg] e pos.line X.env=pure false:=by rfl) (hw:swappedStores [tg] e X.env=pure none:=by rfl)
  (h1:(assignEach [tg] X.env).map (·.2)=[assign tg X.env]:=by rfl):PS X (.Assign [tg] e pos) (my te g):=by
 intro pins s σ H D I h
 refine wpAny_Assign_stores (thn (he pins s σ H _ I h) fun v s1 ⟨x,H1,I1,r1,q1⟩=>?_) hs hw
 rw[h1]
 exact thn (hg pins s1 σ H1 x v _ I1 r1 q1) fun _ s2 q=>q
theorem sF {i:Nat}{x:Str}{e:Expr}{te:TE}{pos':Pos} (hN:X.N.Nodup) (hi:X.N[i]?=some x) (hx:Loc X.env.scope x) (he:PE X e te) (hs:swapsWith e (some (.Name x pos')) pos.line X.env=pure false:=by rfl) (hf:X.fn x=true∨X.env.scope.names.lookup x=some .local:=by first | exact .inl rfl | exact .inr rfl | assumption):
  PS X (.Assign [.Name x pos'] e pos) (my te (mx i)):=by
 intro pins s σ H D I h
 refine wpAny_Assign_Name (thn (he pins s σ H _ I h) fun v s1 ⟨y,H1,I1,r1,q1⟩=>?_) hs
 exact iD I1 hN hi hx r1 (fun s2 I2=>⟨_,H1,I2,q1⟩) hf
noncomputable def sG (i j:Nat) (ta:TA):TS:=fun D σ H=>ta σ H fun vs H1=>∃ v w,vs=[v,w]∧D.nx ((σ.set i (some v)).set j (some w)) H1
theorem sH {i j:Nat}{x y:Str}{a b:Expr}{ta:TA}{px py pt:Pos}{kt k2 pt2} (hc:X.calm=true) (hN:X.N.Nodup) (hi:X.N[i]?=some x) (hj:X.N[j]?=some y) (hij:i≠j)
  (hx:X.env.scope.names.lookup x=some .local) (hy:X.env.scope.names.lookup y=some .local) (ha:PA X [a,b] ta)
  (hw:swappedStores [.Tuple [.Name x px,.Name y py] kt pt] (.Tuple [a,b] k2 pt2) X.env=pure (some [x,y]))
  (hs:swapsWithSole [.Tuple [.Name x px,.Name y py] kt pt] (.Tuple [a,b] k2 pt2) pos.line X.env=pure false:=by rfl):
  PS X (.Assign [.Tuple [.Name x px,.Name y py] kt pt] (.Tuple [a,b] k2 pt2) pos) (sG i j ta):=by
 intro pins s σ H D I h
 rw[exec_Assign_arm]
 refine wpAny_bind (wpAny_standAt ?_)
 rw[hs]
 refine wpAny_bind (wpAny_pure ?_)
 rw[if_neg (by decide)]
 refine wpAny_bind (Tuple_ (thn (ha _ pins s σ H _ I h) fun us s1 ⟨vs,H1,I1,r1,q1⟩=>?_))
 obtain⟨v,w,e1,q1⟩:=q1
 subst e1
 obtain⟨u1,u2,rfl,rv,rw'⟩:∃ u1 u2,us=[u1,u2]∧ao v u1∧ao w u2:=by
  cases r1 with
  | cons p q=>
   cases q with
   | cons p' q'=>
    cases q'
    exact⟨_,_,rfl,p,p'⟩
 refine wpAny_newObj_type ?_ (by show 2≤sizeLine;decide)
 have I2:Inv X pins σ H1 { s1 with heap:=s1.heap.push { cls:=.type "tuple",data:=.seq [u1,u2].toArray } }:=I1.kept (t':=s1.toks) fun b o e=>Heap.get?_push_of_some _ e
 rw[hw]
 refine wpAny_bind (wpAny_pure ?_)
 show wpAny (model X.prog X.w) X.A (do rule "assign.swapped-stores";let items ← unpackItems (.ref s1.heap.objs.size) 2 none;assignInOrder [fun v=>bindName X.env y v,fun v=>bindName X.env x v] items.reverse;pure Flow.next) _ _ _
 refine wpAny_bind (wpAny_rule (wpAny_bind (unpackItems_tuple (items:=#[u1,u2]) (I.ok.hd hc) (IsTup.new s1.heap _) fun h' hx'=>?_)))
 have I3:=I2.kept (h':=h') (t':=s1.toks) fun b o e=>hx' b o (Nat.ne_of_lt (Heap.lt_size e)) e
 show wpAny _ _ (assignInOrder [fun v=>bindName X.env y v,fun v=>bindName X.env x v] [u2,u1] >>= fun _=>pure Flow.next) _ _ _
 refine wpAny_bind (assignInOrder_cons (wpAny_bindName (iD I3 hN hj (.inl hy) rw' (fun s2 I4=>?_) (.inr hy))))
 refine assignInOrder_cons (wpAny_bindName (iD I4 hN hi (.inl hx) rv (fun s3 I5=>assignInOrder_nil (wpAny_pure ?_)) (.inr hx)))
 rw[List.set_comm _ _ (Ne.symm hij)] at I5
 exact⟨_,H1,I5,q1⟩
end
section
variable {X:Cx}{pos:Pos}
end
structure It where
 go:Nat→Hp→Prop
 yld:Nat→Hp→V→Hp→Prop
 stop:Nat→Hp→Prop
noncomputable def cV (X:Cx) (pins:List (Addr×Obj)) (H:Hp) (b:Addr):Prop:=
 H b=none∧b≠X.env.locals∧b∉X.fs∧(b∈X.ex∨X.s₀.heap.objs.size≤b)∧(∀ x c,X.env.cells.lookup x=some c→c≠b)∧∀ p∈X.pn++pins,p.1≠b
theorem Inv.fpOk {X:Cx}{pins:List (Addr×Obj)}{σ:St}{H H':Hp}{s:Shared}{b:Addr} (I:Inv X pins σ H s) (hb:s.heap.objs.size≤b) (hn:H' b=none):cV X pins H' b:=by
 refine⟨hn,Nat.ne_of_gt (Nat.lt_of_lt_of_le I.lt hb),I.nofs hb,.inr (Nat.le_trans I.sz hb),fun x c e z=>?_,fun p hp z=>?_⟩
 ·obtain⟨v,q⟩:=I.cell x c e
  exact absurd (Nat.lt_of_lt_of_le q.lt (by rw[z];exact hb)) (Nat.lt_irrefl _)
 ·exact absurd (Nat.lt_of_lt_of_le (Heap.lt_size (I.pin p hp).1) (by rw[z];exact hb)) (Nat.lt_irrefl _)
structure Turn (P:Program) (w:World) (K:PySem.W.Frag) (tg:Expr) (J:It) (fp:List Addr) (it:Addr) (tn:Nat→Heap→Prop):Prop where
 mem:it∈fp
 obj:∀ i h,tn i h→∀ b∈fp,∃ o,h.get? b=some o∧∀ v,o.data≠.cell v
 keep:∀ i h h',tn i h→(∀ b∈fp,∀ o,h.get? b=some o→h'.get? b=some o)→tn i h'
 item:∀ (X:Cx),X.prog=P→X.w=w→X.K=K→X.calm=true→∀ (i:Nat) (pins:List (Addr×Obj)) (s:Shared) (σ:St) (H:Hp) (E:Value→Shared→Prop),Inv X pins σ H s→(∀ b∈fp,cV X pins H b)→tn i s.heap→J.go i H→
  wpAny (model P w) X.A (pyNext (.ref it)) (fun r s1=>∃ u,r=some u∧
   wpAny (model P w) X.A (letOwnedTupleGo tg (.ref it) u) (fun _ s2=>∃ x H',Inv X pins σ H' s2∧ao x u∧J.yld i H x H'∧tn (i+1) s2.heap∧∀ b∈fp,H' b=none) E s1) E s
 done:∀ (X:Cx),X.prog=P→X.w=w→X.K=K→X.calm=true→∀ (i:Nat) (pins:List (Addr×Obj)) (s:Shared) (σ:St) (H:Hp) (E:Value→Shared→Prop),Inv X pins σ H s→(∀ b∈fp,cV X pins H b)→tn i s.heap→J.stop i H→
  wpAny (model P w) X.A (pyNext (.ref it)) (fun r s1=>r=none∧Inv X pins σ H s1) E s
 self:∀ (A:Around) (i:Nat) (s:Shared) (Q:Value→Shared→Prop) (E:Value→Shared→Prop),tn i s.heap→Q (.ref it) s→wpAny (model P w) A (pyIter (.ref it)) Q E s
noncomputable abbrev TI:=St→Hp→(It→Hp→Prop)→Prop
noncomputable def PIE (X:Cx) (pins:List (Addr×Obj)) (σ:St) (tg:Expr) (R:It→Hp→Prop) (itv:Value) (s2:Shared):Prop:=
 ∃ (it:Addr) (fp:List Addr) (tn:Nat→Heap→Prop) (J:It) (H':Hp),itv=.ref it∧Inv X pins σ H' s2∧Turn X.prog X.w X.K tg J fp it tn∧tn 0 s2.heap∧(∀ b∈fp,cV X pins H' b)∧R J H'
noncomputable def PI (X:Cx) (tg iter:Expr) (wi:TI):Prop:=
 ∀ (pins:List (Addr×Obj)) (s:Shared) (σ:St) (H:Hp) (R:It→Hp→Prop),Inv X pins σ H s→wi σ H R→
  wpAny (model X.prog X.w) X.A (eval iter X.env) (fun v s1=>wpAny (model X.prog X.w) X.A (pyIter v) (PIE X pins σ tg R) X.xe s1) X.xe s
theorem jH {M : Model} {A : Around} {E : Value → Shared → Prop} {s : Shared} {tg : Expr} {it : Addr} {u : Value} {o : Obj} {n : String} {vs : Array Value} {Q : Unit → Shared → Prop} (ho : s.heap.get? it = some o) (hc : o.cls = .type n) (hd : o.data = .fields vs)
    (hn : ["enumerate", "zip", "dict_itemiterator", "dict_reverseitemiterator", "odict_iterator", "itertools.zip_longest", "itertools.pairwise"].contains n = false) (hQ : Q () s) : wpAny M A (letOwnedTupleGo tg (.ref it) u) Q E s := by
  unfold letOwnedTupleGo
  cases tg <;> first
    | exact wpAny_pure hQ
    | (cases u <;> first
        | exact wpAny_pure hQ
        | (refine wpAny_bind (wpAny_load ho ?_)
           rw [hc, hd]
           show wpAny M A (if (["enumerate", "zip", "dict_itemiterator", "dict_reverseitemiterator", "odict_iterator", "itertools.zip_longest", "itertools.pairwise"].contains n && vs[0]? == some (rawInt _)) = true then _ else _) Q E s
           rw [if_neg (by intro h; rw [hn, Bool.false_and] at h; cases h)]
           exact wpAny_pure hQ))
noncomputable def Itl (K:PySem.W.Frag) (a:Addr):It:=
 ⟨fun i H=>∃ xs x,SqL K H a xs∧xs[i]?=some x,fun i H x H'=>H'=H∧∀ xs,SqL K H a xs→xs[i]?=some x,fun i H=>∃ xs,SqL K H a xs∧xs.length≤i⟩
noncomputable def Itt (K:PySem.W.Frag) (a:Addr):It:=
 ⟨fun i H=>∃ xs x,SqT K H a xs∧xs[i]?=some x,fun i H x H'=>H'=H∧∀ xs,SqT K H a xs→xs[i]?=some x,fun i H=>∃ xs,SqT K H a xs∧xs.length≤i⟩
noncomputable def Itr (lo:Int) (n:Nat):It:=⟨fun i _=>i<n,fun i H x H'=>H'=H∧x=.int (lo+i),fun i _=>n≤i⟩
theorem sI {P:Program}{w:World}{K:PySem.W.Frag}{tg:Expr} (a it:Addr):Turn P w K tg (Itl K a) [it] it (fun i h=>h.IsListIter it a i) where
 mem:=by simp
 obj:=fun i h st b hb=>by
  have e:b=it:=by simpa using hb
  subst e
  obtain⟨o,e,c,d⟩:=st
  exact⟨o,e,fun v z=>by rw[d] at z;cases z⟩
 keep:=fun i h h' st k=>st.at fun o e=>k it (by simp) o e
 item:=by
  intro X hP hw hK hc i pins s σ H E I hf st hg
  subst hP hw hK
  obtain⟨xs,x,hq,hx⟩:=hg
  obtain⟨its,rv,p,hz⟩:=I.list hq
  obtain⟨u,hu,ru⟩:=rv.get hx
  obtain⟨f0,f1,f2,f3,f4,f5⟩:=hf it (by simp)
  refine wpAny_pyNext_list_item st p.isList (x:=u) (by simpa using hu) fun h' st' sb=>?_
  have I1:Inv X pins σ H { s with heap:=h' }:=I.turned (t':=s.toks) (fun b o hb e=>(sb.2 b hb).trans e) f0 f1 f3 f4 f5
  obtain⟨o,e,c,d⟩:=id st'
  exact⟨u,rfl,jH (s:={ s with heap:=h' }) e c d (by decide) ⟨x,H,I1,ru,⟨rfl,fun ys hy=>by rw[I.list_inj hy hq];exact hx⟩,st',fun b hb=>(hf b hb).1⟩⟩
 done:=by
  intro X hP hw hK hc i pins s σ H E I hf st hg
  subst hP hw hK
  obtain⟨xs,hq,hx⟩:=hg
  obtain⟨its,rv,p,hz⟩:=I.list hq
  obtain⟨f0,f1,f2,f3,f4,f5⟩:=hf it (by simp)
  have hl:=rv.length
  exact wpAny_pyNext_list_end (I.ok.hd hc) st p.isList (by simp;lia) fun h' eb=>⟨rfl,I.turned (t':=s.toks) (fun b o hb e=>eb b o hb e) f0 f1 f3 f4 f5⟩
 self:=fun _ _ _ _ _ st h=>wpAny_pyIter_listiter st h
theorem sJ {P:Program}{w:World}{K:PySem.W.Frag}{tg:Expr} (a it:Addr):Turn P w K tg (Itt K a) [it] it (fun i h=>h.IsTupleIter it a i) where
 mem:=by simp
 obj:=fun i h st b hb=>by
  have e:b=it:=by simpa using hb
  subst e
  obtain⟨o,e,c,d⟩:=st
  exact⟨o,e,fun v z=>by rw[d] at z;cases z⟩
 keep:=fun i h h' st k=>st.at fun o e=>k it (by simp) o e
 item:=by
  intro X hP hw hK hc i pins s σ H E I hf st hg
  subst hP hw hK
  obtain⟨xs,x,hq,hx⟩:=hg
  obtain⟨its,rv,p,hz⟩:=I.tuple hq
  obtain⟨u,hu,ru⟩:=rv.get hx
  obtain⟨f0,f1,f2,f3,f4,f5⟩:=hf it (by simp)
  refine wpAny_pyNext_tuple_item st (show s.heap.IsTuple a its.toArray from p) (x:=u) (by simpa using hu) fun h' st' sb=>?_
  have I1:Inv X pins σ H { s with heap:=h' }:=I.turned (t':=s.toks) (fun b o hb e=>(sb.2 b hb).trans e) f0 f1 f3 f4 f5
  obtain⟨o,e,c,d⟩:=id st'
  exact⟨u,rfl,jH (s:={ s with heap:=h' }) e c d (by decide) ⟨x,H,I1,ru,⟨rfl,fun ys hy=>by rw[I.tuple_inj hy hq];exact hx⟩,st',fun b hb=>(hf b hb).1⟩⟩
 done:=by
  intro X hP hw hK hc i pins s σ H E I hf st hg
  subst hP hw hK
  obtain⟨xs,hq,hx⟩:=hg
  obtain⟨its,rv,p,hz⟩:=I.tuple hq
  obtain⟨f0,f1,f2,f3,f4,f5⟩:=hf it (by simp)
  have hl:=rv.length
  exact wpAny_pyNext_tuple_end (I.ok.hd hc) st (show s.heap.IsTuple a its.toArray from p) (by simp;lia) fun h' eb=>⟨rfl,I.turned (t':=s.toks) (fun b o hb e=>eb b o hb e) f0 f1 f3 f4 f5⟩
 self:=fun _ _ _ _ _ st h=>wpAny_pyIter_tupleiter st h
theorem sK {P:Program}{w:World}{K:PySem.W.Frag}{tg:Expr} (it:Addr) (lo:Int) (n:Nat):Turn P w K tg (Itr lo n) [it] it (fun i h=>IsRangeIter h it (lo+(i:Nat) * 1) ((n:Int) - (i:Nat)) 1) where
 mem:=by simp
 obj:=fun i h st b hb=>by
  have e:b=it:=by simpa using hb
  subst e
  exact⟨_,st,fun v z=>by
   have z':Data.fields _=Data.cell v:=z
   cases z'⟩
 keep:=fun i h h' st k=>k it (by simp) _ st
 item:=by
  intro X hP hw hK hc i pins s σ H E I hf st hg
  subst hP hw hK
  obtain⟨f0,f1,f2,f3,f4,f5⟩:=hf it (by simp)
  have W:=Walks.range (prog:=X.prog) (w:=X.w) (I.ok.hd hc) it lo 1 n
  refine W.item i s _ _ hg st fun v h' tk hv st' kk=>?_
  obtain⟨t,rfl⟩:=hv
  have I1:Inv X pins σ H { s with heap:=h',toks:=tk }:=I.turned (fun b o hb e=>kk b o (by simpa using hb) e) f0 f1 f3 f4 f5
  refine⟨_,rfl,jH (s:={ s with heap:=h',toks:=tk }) (n := "range_iterator") st' rfl rfl (by decide) ⟨.int (lo+i),H,I1,⟨t,?_⟩,⟨rfl,rfl⟩,st',fun b hb=>(hf b hb).1⟩⟩
  rw[Int.mul_one]
 done:=by
  intro X hP hw hK hc i pins s σ H E I hf st hg
  subst hP hw hK
  obtain⟨f0,f1,f2,f3,f4,f5⟩:=hf it (by simp)
  exact wpAny_pyNext_range_end (I.ok.hd hc) st (by have:n≤i:=hg;lia) fun h' eb=>⟨rfl,I.turned (t':=s.toks) (fun b o hb e=>eb b o hb e) f0 f1 f3 f4 f5⟩
 self:=fun _ _ _ _ _ st h=>wpAny_pyIter_rangeiter st h
section
variable {X:Cx}{tg:Expr}
theorem sL {pins:List (Addr×Obj)}{σ:St}{H:Hp}{s:Shared}{R:It→Hp→Prop}{E:Value→Shared→Prop}{lo hi:Int}{t u v:Tok}{tk:Nat} (I:Inv X pins σ H s) (h1 : -(2 ^ 62)≤lo) (h2:lo<2 ^ 62) (h3 : -(2 ^ 62)≤hi) (h4:hi<2 ^ 62)
  (q:R (Itr lo (hi - lo).toNat) H):wpAny (model X.prog X.w) X.A (pyIter (.ref s.heap.objs.size)) (PIE X pins σ tg R) E { s with heap:=s.heap.push { cls:=.type "range",data:=.fields #[.int lo t,.int hi u,.int 1 v] },toks:=tk }:=by
 refine wpAny_pyIter_range (IsRange.new ..) (small_one h1 h2 h3 h4) ?_
 have I1:Inv X pins σ H { s with heap:=s.heap.push { cls:=.type "range",data:=.fields #[.int lo t,.int hi u,.int 1 v] },toks:=tk }:=I.kept fun b o e=>Heap.get?_push_of_some _ e
 refine⟨(s.heap.push { cls:=.type "range",data:=.fields #[.int lo t,.int hi u,.int 1 v] }).objs.size,[(s.heap.push { cls:=.type "range",data:=.fields #[.int lo t,.int hi u,.int 1 v] }).objs.size],_,_,H,rfl,
  I1.kept (t':=tk) fun b o e=>Heap.get?_push_of_some _ e,sK _ lo (hi - lo).toNat,?_,fun b hb=>?_,q⟩
 ·have e1:lo+((0:Nat):Int) * 1=lo:=by simp
  have e2:(((hi - lo).toNat:Nat):Int) - ((0:Nat):Int)=Builtin.Range.rangeSize lo hi 1:=by rw[rangeSize_one];split<;>lia
  show IsRangeIter _ _ (lo+((0:Nat):Int) * 1) ((((hi - lo).toNat:Nat):Int) - ((0:Nat):Int)) 1
  rw[e1,e2]
  exact Heap.get?_push_size _ rfl
 ·have e:b=(s.heap.push { cls:=.type "range",data:=.fields #[.int lo t,.int hi u,.int 1 v] }).objs.size:=by simpa using hb
  subst e
  exact I1.fpOk (Nat.le_refl _) (I1.hok.fresh (Nat.le_refl _))
noncomputable def sM (ta:TA):TI:=fun σ H R=>ta σ H fun vs H1=>∃ j:Int,vs=[.int j] ∧ -(2 ^ 62)≤j∧j<2 ^ 62∧R (Itr 0 j.toNat) H1
theorem sN {a:Expr}{ta:TA}{p pos:Pos} (hg:Gl X "range") (hm:X.mg "range" = none) (ha:PA X [a] ta) (hs:starEach [a] X.env=[(false,eval a X.env)]:=by rfl):PI X tg (.Call (.Name "range" p) [a] [] pos) (sM ta):=by
 intro pins s σ H R I h
 refine Call_ (eG I hg hm boot_range (PyProof.Rows.callWith_type1 (thn (ha pos pins s σ H _ I h) fun us s1 ⟨vs,H1,I1,r1,q1⟩=>?_) hs rfl))
 obtain⟨j,e,q1,q2,q⟩:=q1
 subst e
 cases r1 with
 | cons r rr=>
  cases rr
  obtain⟨t,rfl⟩:=r
  exact call_range_1 (sL I1 (by lia) (by lia) q1 q2 (by simpa using q))
noncomputable def mz (wi:TI) (g:TG) (tb:TS):TS:=fun D σ H=>wi σ H fun J H1=>∃ W:Nat→Nat→St→Hp→Prop,(∃ m,W 0 m σ H1)∧∀ i m σ H,W i m σ H→
 (J.stop i H∧D.nx σ H)∨(J.go i H∧∃ N:St→Hp→Prop,(∀ σ' H',N σ' H'→∃ m',m'<m∧W (i+1) m' σ' H')∧∀ x H',J.yld i H x H'→g x σ H' fun σ2 H2=>tb { D with nx:=N,ct:=N,bk:=D.nx } σ2 H2)
noncomputable def dP (fp:List Addr) (h:Heap):List (Addr×Obj):=fp.filterMap fun b=>(h.get? b).map fun o=>(b,o)
theorem iE {fp:List Addr}{h:Heap}{b:Addr}{o:Obj} (hb:b∈fp) (e:h.get? b=some o):(b,o)∈dP fp h:=List.mem_filterMap.mpr ⟨b,hb,by rw[e];rfl⟩
theorem mC {fp:List Addr}{h:Heap}{p:Addr×Obj} (hp:p∈dP fp h):p.1∈fp∧h.get? p.1=some p.2:=by
 obtain⟨b,hb,e⟩:=List.mem_filterMap.mp hp
 cases q:h.get? b with
 | none=>rw[q] at e;cases e
 | some o=>
  rw[q] at e
  have e':(b,o)=p:=Option.some.inj e
  subst e'
  exact⟨hb,q⟩
theorem Inv.pinned {pins:List (Addr×Obj)}{σ:St}{H:Hp}{s:Shared}{fp:List Addr} (I:Inv X pins σ H s) (hf:∀ b∈fp,cV X pins H b) (ho:∀ b∈fp,∃ o,s.heap.get? b=some o∧∀ v,o.data≠.cell v):Inv X (pins++dP fp s.heap) σ H s:=
 I.pins_of fun p hp=>(List.mem_append.mp hp).elim (fun z=>I.pin p (List.mem_append_right _ z)) fun z=>by
  obtain⟨hb,e⟩:=mC z
  obtain⟨f0,f1,f2,_⟩:=hf p.1 hb
  obtain⟨o,e',d⟩:=ho p.1 hb
  rw[e] at e';cases e'
  exact⟨e,f0,f1,f2,d⟩
theorem Inv.unpinned {pins pl:List (Addr×Obj)}{σ:St}{H:Hp}{s:Shared} (I:Inv X (pins++pl) σ H s):Inv X pins σ H s:=I.pins_of fun p hp=>I.pin p (List.mem_append_right _ (List.mem_append_left _ hp))
theorem sO {iter:Expr}{body:List Stmt}{wi:TI}{g:TG}{tb:TS}{pos:Pos} (hp:PassesOwn (model X.prog X.w) X.A X.env X.xe) (hc:X.calm=true) (hi:PI X tg iter wi) (hg:PG X tg g) (hb:PSs X body tb)
  (hs:∀ x,foldedSetIterable iter X.env x=pure x:=by intro _;rfl):PS X (.For tg iter body [] pos) (mz wi g tb):=by
 intro pins s σ H D I h
 refine wpAny_For (thn (hi pins s σ H _ I h) fun v s1 h1=>thn h1 fun itv s2 h2=>?_) hs
 obtain⟨it,fp,tn,J,H2,e,I2,T,st2,f2,W,⟨m0,w0⟩,turn⟩:=h2
 subst e
 -- what stays true of the iterator's objects through the loop
 have stat:∀ {H':Hp},(∀ b∈fp,H' b=none)→∀ b∈fp,cV X pins H' b:=fun hn b hb=>⟨hn b hb,(f2 b hb).2⟩
 refine codeAny_forLoop_any (fun n s'=>∃ i σ' H',Inv X pins σ' H' s'∧tn i s'.heap∧(∀ b∈fp,H' b=none)∧W i n σ' H') ?_ m0 ⟨0,σ,H2,I2,st2,fun b hb=>(f2 b hb).1,w0⟩
 rintro n s3 ⟨i,σ3,H3,I3,st3,fr3,w3⟩
 rcases turn i n σ3 H3 w3 with ⟨stop,qn⟩ | ⟨go,N,hN,step⟩
 ·refine wpAny_passesOwn hp (thn (T.done X rfl rfl rfl hc i pins s3 σ3 H3 X.xe I3 (stat fr3) st3 stop) fun r s4 ⟨hr,I4⟩=>?_)
  subst hr
  exact wpAny_execs_nil ⟨σ3,H3,I4,qn⟩
 ·refine wpAny_passesOwn hp (thn (T.item X rfl rfl rfl hc i pins s3 σ3 H3 X.xe I3 (stat fr3) st3 go) fun r s4 ⟨u,hr,h4⟩=>?_)
  subst hr
  refine wpAny_passesOwn hp (thn h4 fun _ s5 ⟨x,H5,I5,r5,y5,st5,fr5⟩=>?_)
  have I5':=I5.pinned (stat fr5) (T.obj _ _ st5)
  refine wpAny_passesOwn hp (thn (hg _ s5 σ3 H5 x u _ I5' r5 (step x H5 y5)) fun _ s6 ⟨σ6,H6,I6,q6⟩=>?_)
  refine wpAny_passesOwn hp (thn (hb _ s6 σ6 H6 _ I6 q6) fun f s7 q7=>?_)
  have again:∀ {σ7:St}{H7:Hp},Inv X (pins++dP fp s5.heap) σ7 H7 s7→N σ7 H7→∃ m,m<n∧∃ i σ' H',Inv X pins σ' H' s7∧tn i s7.heap∧(∀ b∈fp,H' b=none)∧W i m σ' H':=fun {σ7 H7} I7 n7=>by
   obtain⟨m',hm,w7⟩:=hN σ7 H7 n7
   refine⟨m',hm,i+1,σ7,H7,I7.unpinned,T.keep _ _ _ st5 fun b hb o e=>(I7.pin (b,o) (List.mem_append_right _ (List.mem_append_right _ (iE hb e)))).1,fun b hb=>?_,w7⟩
   obtain⟨o,e,d⟩:=T.obj _ _ st5 b hb
   exact (I7.pin (b,o) (List.mem_append_right _ (List.mem_append_right _ (iE hb e)))).2.1
  cases f with
  | next=>obtain⟨σ7,H7,I7,n7⟩:=q7;exact again I7 n7
  | cont=>obtain⟨σ7,H7,I7,n7⟩:=q7;exact again I7 n7
  | brk=>obtain⟨σ7,H7,I7,q7⟩:=q7;exact⟨σ7,H7,I7.unpinned,q7⟩
  | ret v=>obtain⟨x7,σ7,H7,I7,r7,q7⟩:=q7;exact⟨x7,σ7,H7,I7.unpinned,r7,q7⟩
end
noncomputable abbrev R2:=V→V→Hp→VK→Prop
noncomputable def OpR (X:Cx) (f:Value→Value→Sem Value) (r:R2):Prop:=
 ∀ (pins:List (Addr×Obj)) (s:Shared) (σ:St) (H:Hp) (x y:V) (v u:Value) (Q:VK),Inv X pins σ H s→ao x v→ao y u→r x y H Q→
  wpAny (model X.prog X.w) X.A (f v u) (EP X pins σ Q) X.xe s
noncomputable def UnR (X:Cx) (f:Value→Sem Value) (r:V→Hp→VK→Prop):Prop:=
 ∀ (pins:List (Addr×Obj)) (s:Shared) (σ:St) (H:Hp) (x:V) (v:Value) (Q:VK),Inv X pins σ H s→ao x v→r x H Q→
  wpAny (model X.prog X.w) X.A (f v) (EP X pins σ Q) X.xe s
noncomputable def aX (X:Cx) (f:Value) (r:List V→Hp→VK→Prop):Prop:=
 ∀ (pins:List (Addr×Obj)) (s:Shared) (σ:St) (H:Hp) (xs:List V) (us:List Value) (Q:VK),Inv X pins σ H s→am xs us→r xs H Q→
  wpAny (model X.prog X.w) X.A (call f us) (EP X pins σ Q) X.xe s
noncomputable def sP (X:Cx) (r:V→Hp→(Bool→Hp→Prop)→Prop):Prop:=
 ∀ (pins:List (Addr×Obj)) (s:Shared) (σ:St) (H:Hp) (x:V) (v:Value) (Q:Bool→Hp→Prop),Inv X pins σ H s→ao x v→r x H Q→
  wpAny (model X.prog X.w) X.A (truthy v) (TP X pins σ Q) X.xe s
noncomputable def tOp (r:R2) (ta tb:TE):TE:=fun σ H Q=>ta σ H fun x H1=>tb σ H1 fun y H2=>r x y H2 Q
noncomputable def tUn (r:V→Hp→VK→Prop) (ta:TE):TE:=fun σ H Q=>ta σ H fun x H1=>r x H1 Q
noncomputable def rI (C:Int→Int→Prop) (g:Int→Int→V):R2:=fun x y H Q=>∃ i j,x=.int i∧y=.int j∧C i j∧Q (g i j) H
noncomputable def rI0 (g:Int→Int→V):R2:=fun x y H Q=>∃ i j,x=.int i∧y=.int j∧Q (g i j) H
noncomputable def rU (g:Int→V):V→Hp→VK→Prop:=fun x H Q=>∃ i,x=.int i∧Q (g i) H
section
variable {X:Cx}{a b c:Expr}{ta tb tc:TE}{pos:Pos}
theorem jI (ha:PE X a ta) (hb:PE X b tb) {pins:List (Addr×Obj)}{s:Shared}{σ:St}{H:Hp}{R:V→V→Hp→Prop} (I:Inv X pins σ H s)
  (h:ta σ H fun x H1=>tb σ H1 fun y H2=>R x y H2) {Q:Value→Shared→Prop}{f:Value→Value→Sem Value}
  (hf:∀ v u s2 x y H2,Inv X pins σ H2 s2→ao x v→ao y u→R x y H2→wpAny (model X.prog X.w) X.A (f v u) Q X.xe s2):
  wpAny (model X.prog X.w) X.A (eval a X.env) (fun v s₁=>wpAny (model X.prog X.w) X.A (eval b X.env) (fun u s₂=>wpAny (model X.prog X.w) X.A (f v u) Q X.xe s₂) X.xe s₁) X.xe s:=by
 refine thn (ha pins s σ H _ I h) fun v s1 ⟨x,H1,I1,r1,q1⟩=>?_
 refine thn (hb pins s1 σ H1 _ I1 q1) fun u s2 ⟨y,H2,I2,r2,q2⟩=>?_
 exact hf v u s2 x y H2 I2 r1 r2 q2
theorem sQ {op:Operator}{r:R2} (ho:OpR X (binaryOp op) r) (ha:PE X a ta) (hb:PE X b tb):PE X (.BinOp a op b pos) (tOp r ta tb):=by
 intro pins s σ H Q I h
 exact wpAny_BinOp (jI ha hb I h fun v u s2 x y H2 I2 rx ry q=>ho pins s2 σ H2 x y v u Q I2 rx ry q)
theorem sR {op:UnaryOp}{r:V→Hp→VK→Prop} (ho:UnR X (unaryOp op) r) (ha:PE X a ta):PE X (.UnaryOp op a pos) (tUn r ta):=by
 intro pins s σ H Q I h
 exact UnaryOp_ (thn (ha pins s σ H _ I h) fun v s1 ⟨x,H1,I1,r1,q1⟩=>ho pins s1 σ H1 x v Q I1 r1 q1)
theorem opI {f:Value→Value→Sem Value}{C:Int→Int→Prop}{g:Int→Int→Int}
  (rule:∀ (i j:Int) (t u:Tok) (s:Shared) (Q:Value→Shared→Prop) (E:Value→Shared→Prop),C i j→Q (.int (g i j) s.toks) { s with toks:=s.toks+1 }→wpAny (model X.prog X.w) X.A (f (.int i t) (.int j u)) Q E s):
  OpR X f (rI C fun i j=>.int (g i j)):=by
 intro pins s σ H x y v u Q I rx ry h
 obtain⟨i,j,rfl,rfl,hc,q⟩:=h
 obtain⟨t,rfl⟩:=rx
 obtain⟨t',rfl⟩:=ry
 exact rule i j t t' s _ _ hc ⟨.int (g i j),H,I.tok _,⟨_,rfl⟩,q⟩
theorem mD {f:Value→Value→Sem Value}{g:Int→Int→Int}
  (rule:∀ (i j:Int) (t u:Tok) (s:Shared) (Q:Value→Shared→Prop) (E:Value→Shared→Prop),Q (.int (g i j) s.toks) { s with toks:=s.toks+1 }→wpAny (model X.prog X.w) X.A (f (.int i t) (.int j u)) Q E s):
  OpR X f (rI0 fun i j=>.int (g i j)):=by
 intro pins s σ H x y v u Q I rx ry h
 obtain⟨i,j,rfl,rfl,q⟩:=h
 obtain⟨t,rfl⟩:=rx
 obtain⟨t',rfl⟩:=ry
 exact rule i j t t' s _ _ ⟨.int (g i j),H,I.tok _,⟨_,rfl⟩,q⟩
theorem iF {f:Value→Value→Sem Value}{g:Int→Int→Bool}
  (rule:∀ (i j:Int) (t u:Tok) (s:Shared) (Q:Value→Shared→Prop) (E:Value→Shared→Prop),Q (.bool (g i j)) s→wpAny (model X.prog X.w) X.A (f (.int i t) (.int j u)) Q E s):
  OpR X f (rI0 fun i j=>.bl (g i j)):=by
 intro pins s σ H x y v u Q I rx ry h
 obtain⟨i,j,rfl,rfl,q⟩:=h
 obtain⟨t,rfl⟩:=rx
 obtain⟨t',rfl⟩:=ry
 exact rule i j t t' s _ _ ⟨.bl (g i j),H,I,rfl,q⟩
noncomputable def sS (i j:Int):Prop:=0<j∧j<1073741824
noncomputable def sT (i j:Int):Prop:=0≤j∧j≤1000000∧i.natAbs<2 ^ 64
theorem sU:OpR X (binaryOp .Add) (rI0 fun i j=>.int (i+j)):=mD fun _ _ _ _ _ _ _ q=>add_int q
theorem sV:OpR X (binaryOp .Sub) (rI0 fun i j=>.int (i - j)):=mD fun _ _ _ _ _ _ _ q=>sub_int q
theorem sW:OpR X (binaryOp .FloorDiv) (rI sS fun i j=>.int (i / j)):=opI fun i j _ _ _ _ _ hc q=>by
 have h1:(0:Int)<j:=hc.1
 have h2:j<1073741824:=hc.2
 exact floordiv_int (by lia) (by rw[Int.fdiv_eq_ediv_of_nonneg i (by lia)];exact q) (.inl (PyProof.noPylong_small (by lia)))
theorem sX:OpR X (binaryOp .Mod) (rI (fun _ j=>0<j) fun i j=>.int (i % j)):=opI fun i j _ _ _ _ _ hc q=>by
 have h1:(0:Int)<j:=hc
 exact mod_int' (by lia) (by rw[Int.fmod_eq_emod_of_nonneg i (by lia)];exact q)
theorem sY:OpR X (binaryOp .Pow) (rI sT fun i j=>.int (i ^ j.toNat)):=opI fun _ _ _ _ _ _ _ hc q=>pow_int_small hc.1 hc.2.1 hc.2.2 q
theorem unI {f:Value→Sem Value}{g:Int→Int}
  (rule:∀ (i:Int) (t:Tok) (s:Shared) (Q:Value→Shared→Prop) (E:Value→Shared→Prop),Q (.int (g i) s.toks) { s with toks:=s.toks+1 }→wpAny (model X.prog X.w) X.A (f (.int i t)) Q E s):
  UnR X f (rU fun i=>.int (g i)):=by
 intro pins s σ H x v Q I rx h
 obtain⟨i,rfl,q⟩:=h
 obtain⟨t,rfl⟩:=rx
 exact rule i t s _ _ ⟨.int (g i),H,I.tok _,⟨_,rfl⟩,q⟩
theorem sZ:UnR X (unaryOp .USub) (rU fun i=>.int (-i)):=unI fun _ _ _ _ _ q=>neg_int q
end
section
variable {X:Cx}{a b c:Expr}{ta tb tc:TE}{pos:Pos}
theorem mE {pins:List (Addr×Obj)}{σ:St}{H:Hp}{s:Shared}{Q:VK}{k k':Bool} (I:Inv X pins σ H s) (q:Q (.bl k) H) (e:k=k'):EP X pins σ Q (.bool k') s:=by
 subst e
 exact⟨.bl k,H,I,rfl,q⟩
theorem tf:OpR X (compareOp .Lt) (rI0 fun i j=>.bl (decide (i<j))):=iF fun _ _ _ _ _ _ _ q=>lt_int q
theorem tj:OpR X (compareOp .LtE) (rI0 fun i j=>.bl (decide (i≤j))):=iF fun _ _ _ _ _ _ _ q=>le_int q
theorem tm:OpR X (compareOp .Gt) (rI0 fun i j=>.bl (decide (j<i))):=iF fun _ _ _ _ _ _ _ q=>gt_int q
theorem tq:OpR X (compareOp .GtE) (rI0 fun i j=>.bl (decide (j≤i))):=iF fun _ _ _ _ _ _ _ q=>ge_int q
theorem tu:OpR X (compareOp .Is) (fun x y H Q=>y=.non∧Q (.bl (decide (x=.non))) H):=by
 intro pins s σ H x y v u Q I rx ry h
 obtain⟨rfl,q⟩:=h
 cases ry
 refine is_none_gen (mE I q ?_)
 cases x<;>first
  | (cases rx;rfl)
  | (obtain⟨t,rfl⟩:=rx;rfl)
theorem tw:OpR X (compareOp .IsNot) (fun x y H Q=>y=.non∧Q (.bl (!decide (x=.non))) H):=by
 intro pins s σ H x y v u Q I rx ry h
 obtain⟨rfl,q⟩:=h
 cases ry
 refine isnot_none_gen (mE I q ?_)
 cases x<;>first
  | (cases rx;rfl)
  | (obtain⟨t,rfl⟩:=rx;rfl)
theorem OpR.or {f:Value→Value→Sem Value}{r r':R2} (h:OpR X f r) (h':OpR X f r'):OpR X f (fun x y H Q=>r x y H Q∨r' x y H Q):=by
 intro pins s σ H x y v u Q I rx ry q
 rcases q with q | q
 ·exact h pins s σ H x y v u Q I rx ry q
 ·exact h' pins s σ H x y v u Q I rx ry q
theorem bL (b:Expr) {op:CmpOp} (h:op≠.In:=by decide) (h2:op≠.NotIn:=by decide):behindInMarks op b=false:=by
 have e1:(op == CmpOp.In)=false:=by cases op<;>first | rfl | exact absurd rfl h
 have e2:(op == CmpOp.NotIn)=false:=by cases op<;>first | rfl | exact absurd rfl h2
 cases b<;>simp[behindInMarks,e1,e2]
theorem tz {op:CmpOp}{r:R2} (ho:OpR X (compareOp op) r) (ha:PE X a ta) (hb:PE X b tb) (hm:behindInMarks op b=false):PE X (.Compare a [op] [b] pos) (tOp r ta tb):=by
 intro pins s σ H Q I h
 exact wpAny_Compare1 (jI ha hb I h fun v u s2 x y H2 I2 rx ry q=>ho pins s2 σ H2 x y v u Q I2 rx ry q) hm
noncomputable def tB (t:TE):TT:=fun σ H Q=>t σ H fun x H'=>∃ k,x=.bl k∧Q k H'
theorem tD {op:CmpOp}{r:R2} (ho:OpR X (compareOp op) r) (ha:PE X a ta) (hb:PE X b tb) (hm:behindInMarks op b=false):PT X (.Compare a [op] [b] pos) (tB (tOp r ta tb)):=by
 intro pins s σ H Q I h
 refine wpAny_isTrue_Compare1 (thn (ha pins s σ H _ I h) fun v s1 ⟨x,H1,I1,r1,q1⟩=>thn (hb pins s1 σ H1 _ I1 q1) fun u s2 ⟨y,H2,I2,r2,q2⟩=>
  thn (ho pins s2 σ H2 x y v u _ I2 r1 r2 q2) fun c s3 ⟨z,H3,I3,r3,k,e,q3⟩=>?_) hm
 subst e
 cases r3
 exact wpAny_truthy_bool ⟨H3,I3,q3⟩
noncomputable def mF (r r':R2) (ta tb tc:TE):TE:=fun σ H Q=>ta σ H fun x H1=>tb σ H1 fun y H2=>r x y H2 fun z H3=>∃ k,z=.bl k∧
 (if k=true then tc σ H3 fun w' H4=>r' y w' H4 Q else Q (.bl false) H3)
theorem tE {op op':CmpOp}{r r':R2} (ho:OpR X (compareOp op) r) (ho':OpR X (compareOp op') r') (ha:PE X a ta) (hb:PE X b tb) (hc:PE X c tc)
  (hm:lastMarks [op,op'] [b,c]=false:=by with_unfolding_all rfl):PE X (.Compare a [op,op'] [b,c] pos) (mF r r' ta tb tc):=by
 intro pins s σ H Q I h
 refine Compare_chain (thn (ha pins s σ H _ I h) fun v s1 ⟨x,H1,I1,r1,q1⟩=>chain_link (thn (hb pins s1 σ H1 _ I1 q1) fun u s2 ⟨y,H2,I2,r2,q2⟩=>
  thn (ho pins s2 σ H2 x y v u _ I2 r1 r2 q2) fun d s3 ⟨z,H3,I3,r3,k,e,q3⟩=>?_)) hm
 subst e
 cases r3
 refine wpAny_truthy_bool ?_
 cases k with
 | false=>exact ite_ff ⟨.bl false,H3,I3,rfl,q3⟩
 | true=>exact ite_tt (chain_last (thn (hc pins s3 σ H3 _ I3 q3) fun w' s4 ⟨z',H4,I4,r4,q4⟩=>ho' pins s4 σ H4 y z' u w' Q I4 r2 r4 q4))
noncomputable def jJ (K:PySem.W.Frag) (x:V) (H:Hp) (k:Bool):Prop:=
 match x with
 | .non=>k=false
 | .bl b=>k=b
 | .int i=>k=(i != 0)
 | .str y=>y.length≤sizeLine∧k=((y.length:Int) != 0)
 | .byt y=>y.size≤sizeLine∧k=((y.size:Int) != 0)
 | .ref p=>(∃ xs,SqL K H p xs∧k=!xs.isEmpty)∨(∃ xs,SqT K H p xs∧k=!xs.isEmpty)∨∃ kvs,H p=some (.dK kvs)∧k=!kvs.isEmpty
 | _=>False
theorem tF {κ:Type}{kvs:List (κ×V)}{vs:List (κ×Value)} (r:KV kvs vs):(!vs.isEmpty)=!kvs.isEmpty:=by
 cases r<;>rfl
theorem mG {xs:List V}{its:List Value} (r:am xs its):(!its.toArray.isEmpty)=!xs.isEmpty:=by
 cases r<;>simp
theorem fM:(sizeLine:Nat)<2 ^ 63:=by rw[sizeLine_eq];decide
theorem tH:sP X (fun x H Q=>∃ k,jJ X.K x H k∧Q k H):=by
 intro pins s σ H x v Q I rx h
 obtain⟨k,e,q⟩:=h
 have hl:=fM
 have hs:sizeLine=16777216:=sizeLine_eq
 cases x with
 | non=>
  cases rx
  have e':k=false:=e
  subst e'
  exact truthy_none ⟨H,I,q⟩
 | bl b=>
  cases rx
  have e':k=b:=e
  subst e'
  exact wpAny_truthy_bool ⟨H,I,q⟩
 | int i=>
  obtain⟨t,rfl⟩:=rx
  have e':k=(i != 0):=e
  subst e'
  exact PySem.P.truthy_int ⟨H,I,q⟩
 | str y=>
  obtain⟨t,rfl⟩:=rx
  obtain⟨hy,e'⟩:y.length≤sizeLine∧k=((y.length:Int) != 0):=e
  subst e'
  exact PySem.P.truthy_str (by lia) ⟨H,I.tok _,q⟩
 | byt y=>
  obtain⟨t,rfl⟩:=rx
  obtain⟨hy,e'⟩:y.size≤sizeLine∧k=((y.size:Int) != 0):=e
  subst e'
  exact PySem.W.truthy_bytes (by lia) ⟨H,I.tok _,q⟩
 | ref p=>
  cases rx
  have e':(∃ xs,SqL X.K H p xs∧k=!xs.isEmpty)∨(∃ xs,SqT X.K H p xs∧k=!xs.isEmpty)∨∃ kvs,H p=some (.dK kvs)∧k=!kvs.isEmpty:=e
  rcases e' with ⟨xs,hx,e'⟩ | ⟨xs,hx,e'⟩ | ⟨kvs,hx,e'⟩
  ·subst e'
   obtain⟨its,r,pl,hz⟩:=I.list hx
   have hlen:=r.length
   exact wpAny_truthy_list pl.isList (by simp only[List.size_toArray];lia) ⟨H,I.tok _,by rw[mG r];exact q⟩
  ·subst e'
   obtain⟨its,r,pl,hz⟩:=I.tuple hx
   have hlen:=r.length
   exact truthy_tuple pl (by simp only[List.size_toArray];lia) ⟨H,I.tok _,by rw[mG r];exact q⟩
  ·subst e'
   obtain⟨hz,hS,vs,r,m⟩:kvs.length≤sizeLine∧(p == sysModules)=false∧∃ vs,KV kvs vs∧s.heap.DictOf (dO X.prog X.w) p vs:=I.hok p _ hx
   have hlen:kvs.length=vs.length:=Paired.length r
   exact wpAny_truthy_dict hS m (by lia) ⟨H,I.tok _,by rw[tF r];exact q⟩
 | _=>exact (show False from e).elim
theorem tJ (ha:PE X a ta) (he:∀ whole,isTrue a X.env whole=(do let v ← whole;standAt a.pos;holding [v] (truthy v))):
  PT X a (fun σ H Q=>ta σ H fun x H'=>∃ k,jJ X.K x H' k∧Q k H'):=by
 intro pins s σ H Q I h
 exact isTrue_plain (thn (ha pins s σ H _ I h) fun v s1 ⟨x,H1,I1,r1,q1⟩=>tH pins s1 σ H1 x v Q I1 r1 q1) (he _)
theorem tK:OpR X (binaryOp .Add) (fun x y H Q=>∃ i j,x=.str i∧y=.str j∧i.length+j.length≤sizeLine∧Q (.str (i++j)) H):=by
 intro pins s σ H x y v u Q I rx ry h
 obtain⟨i,j,rfl,rfl,hz,q⟩:=h
 obtain⟨t,rfl⟩:=rx
 obtain⟨t',rfl⟩:=ry
 exact add_str (fun t' tk=>⟨.str (i++j),H,I.tok _,⟨_,rfl⟩,q⟩) hz
theorem cg {x:V}{us:List Value} (r:am [x] us):∃ u,us=[u]∧ao x u:=by
 cases r with
 | cons r1 r2=>cases r2;exact⟨_,rfl,r1⟩
theorem mH {x y:V}{us:List Value} (r:am [x,y] us):∃ u w',us=[u,w']∧ao x u∧ao y w':=by
 cases r with
 | cons r1 r2=>
  cases r2 with
  | cons r3 r4=>cases r4;exact⟨_,_,rfl,r1,r3⟩
theorem tL (hc:X.calm=true):aX X (.builtin "max") (fun xs H Q=>∃ i j,xs=[.int i,.int j]∧Q (.int (if j > i then j else i)) H):=by
 intro pins s σ H xs us Q I r h
 obtain⟨i,j,rfl,q⟩:=h
 obtain⟨u,w',rfl,⟨t,rfl⟩,⟨t',rfl⟩⟩:=mH r
 refine max_two_ints (I.ok.hd hc) fun h' tk k=>⟨_,H,I.kept k,?_,q⟩
 by_cases hj:j > i
 ·rw[if_pos hj,if_pos hj];exact⟨_,rfl⟩
 ·rw[if_neg hj,if_neg hj];exact⟨_,rfl⟩
theorem tM (hc:X.calm=true):aX X (.builtin "min") (fun xs H Q=>∃ i j,xs=[.int i,.int j]∧Q (.int (if j<i then j else i)) H):=by
 intro pins s σ H xs us Q I r h
 obtain⟨i,j,rfl,q⟩:=h
 obtain⟨u,w',rfl,⟨t,rfl⟩,⟨t',rfl⟩⟩:=mH r
 refine min_two_ints (I.ok.hd hc) fun h' tk k=>⟨_,H,I.kept k,?_,q⟩
 by_cases hj:j<i
 ·rw[if_pos hj,if_pos hj];exact⟨_,rfl⟩
 ·rw[if_neg hj,if_neg hj];exact⟨_,rfl⟩
theorem tN:aX X (.type "int") (fun xs H Q=>(∃ i,xs=[.int i]∧Q (.int i) H)∨∃ k,xs=[.bl k]∧Q (.int (if k then 1 else 0)) H):=by
 intro pins s σ H xs us Q I r h
 rcases h with ⟨i,rfl,q⟩ | ⟨k,rfl,q⟩
 ·obtain⟨u,rfl,t,rfl⟩:=cg r
  exact call_int_int ⟨.int i,H,I,⟨_,rfl⟩,q⟩
 ·obtain⟨u,rfl,r1⟩:=cg r
  cases r1
  exact call_int_bool ⟨.int (if k then 1 else 0),H,I.tok _,⟨_,rfl⟩,q⟩
end
section
variable {prog:Program}{w:World}{A:Around}{E:Value→Shared→Prop}{s:Shared}{K:PySem.W.Frag}{x dx C f:Addr}{mA:Str→Option Value}{name:Str}{v:Value}
end
theorem c8.some_of {v:V}{o:Option Value} (r:c8 (some v) o):∃ u,o=some u∧ao v u:=by
 cases o with
 | none=>exact (show False from r).elim
 | some u=>exact⟨u,rfl,r⟩
section
variable {P:Program}{w:World}{H H':Hp}{h h':Heap}{a C dx:Addr}{fs fs':List (Str×V)}
end
section
variable {X:Cx}{pins:List (Addr×Obj)}{σ:St}{H:Hp}{s:Shared}{a C dx:Addr}{fs:List (Str×V)}{f:Str}{v:V}{A:Around}{E:Value→Shared→Prop}
end
section
variable {X:Cx}{o e value:Expr}{f:Str}{pos pos' tpos:Pos}{ta tv:TE}
end
section
variable {X:Cx}{pins:List (Addr×Obj)}{σ:St}{H:Hp}{s:Shared}{A:Around}{E:Value→Shared→Prop}{Q:Value→Shared→Prop}{c:Value}{b:Bool}
end
structure Room (k:Nat) (A:Around):Prop where
 hd:A.handled=none
 dp:A.depth+3 * k+5<recursionLimit
 un:A.units+16 * k+200<cLine
 gd:A.guards=some []
theorem Room.mono {j k:Nat}{A:Around} (r:Room k A) (h:j≤k):Room j A:=⟨r.hd,by have:=r.dp;lia,by have:=r.un;lia,r.gd⟩
theorem Room.deeper {k:Nat}{A:Around} (r:Room (k+1) A) (env:Env):Room k (A.deeper env):=
 ⟨r.hd,by have:=r.dp;show A.depth+1+3 * k+5 < _;lia,by have:=r.un;show A.units+3+16 * k+200 < _;lia,r.gd⟩
theorem Room.depth {k:Nat}{A:Around} (r:Room k A):A.depth<recursionLimit:=by have:=r.dp;lia
noncomputable def tNil:TA:=fun _ H Q=>Q [] H
noncomputable def tQ (ta:TE) (tr:TA):TA:=fun σ H Q=>ta σ H fun x H1=>tr σ H1 fun xs H2=>Q (x::xs) H2
section
variable {X:Cx}{e:Expr}{es:List Expr}{te:TE}{t:TA}{pos:Pos}
theorem mI:PA X [] tNil:=fun _ _ _ _ H Q I h=>Calls.spliced_nil ⟨[],H,I,.nil,h⟩
theorem jK (ha:PE X e te) (hr:PA X es t) (hs:starEach (e::es) X.env=(false,eval e X.env)::starEach es X.env:=by rfl):PA X (e::es) (tQ te t):=by
 intro pos pins s σ H Q I h
 rw[hs]
 show wpAny _ _ (spliced ((false,eval e X.env)::backTo pos (starEach es X.env))) _ _ s
 refine Calls.spliced_cons (thn (ha pins s σ H _ I h) fun u s1 ⟨x,H1,I1,r1,q1⟩=>?_)
 exact thn (hr pos pins s1 σ H1 _ I1 q1) fun us s2 ⟨xs,H2,I2,r2,q2⟩=>⟨x::xs,H2,I2,.cons r1 r2,q2⟩
noncomputable def tR (t:TA):TE:=fun σ H Q=>t σ H fun xs H1=>xs.length≤sizeLine∧∀ p,H1 p=none→Q (.ref p) (upd H1 p (.tup xs))
noncomputable def tT (t:TA):TE:=fun σ H Q=>t σ H fun xs H1=>xs.length≤sizeLine∧∀ p,H1 p=none→Q (.ref p) (upd H1 p (.lst xs))
theorem tU {x1} (h:PA X es t):PE X (.Tuple es x1 pos) (tR t):=by
 intro pins s σ H Q I hq
 refine wpAny_Tuple_spliced (thn (h pos pins s σ H _ I hq) fun us s1 ⟨xs,H1,I1,r,z,q⟩=>⟨by rw[← r.length];exact z,?_⟩)
 have hf:H1 s1.heap.objs.size=none:=I1.hok.fresh (Nat.le_refl _)
 refine⟨.ref s1.heap.objs.size,upd H1 s1.heap.objs.size (.tup xs),I1.laid (t':=s1.toks) (fun b u e=>Heap.get?_push_of_some _ e) (Nat.le_refl _) ?_,rfl,q _ hf⟩
 exact⟨z,us,r,⟨_,Heap.get?_push_size _ rfl,rfl,_,rfl⟩⟩
theorem tW (h:PA X es t):PE X (.List es pos) (tT t):=by
 intro pins s σ H Q I hq
 refine wpAny_List_spliced (thn (h pos pins s σ H _ I hq) fun us s1 ⟨xs,H1,I1,r,z,q⟩=>⟨by rw[← r.length];exact z,?_⟩)
 have hf:H1 s1.heap.objs.size=none:=I1.hok.fresh (Nat.le_refl _)
 refine⟨.ref s1.heap.objs.size,upd H1 s1.heap.objs.size (.lst xs),I1.laid (t':=s1.toks) (fun b u e=>Heap.get?_push_of_some _ e) (Nat.le_refl _) ?_,rfl,q _ hf⟩
 exact⟨z,us,0,r,Heap.get?_push_size _ rfl⟩
end
noncomputable abbrev Sp:=List V→Hp→VK→XK→Prop
noncomputable abbrev CXT:=List Env→Hp→Shared→XK→Value→Shared→Prop
structure Env0 (P:Program) (w:World) (K:PySem.W.Frag) (mg:Str→Option Value) (base:Heap) (A:Around) (outer:List Env) (s:Shared) (H:Hp):Prop where
 frames:A.frames=some outer
 mod:Mod K mg base
 bs:∀ b o,base.get? b=some o→s.heap.get? b=some o∧H b=none
 bsz:base.objs.size≤s.heap.objs.size
 funs:s.heap.FunFrames base outer
 frf:∀ b∈frs outer,H b=none
 hok:HOk P w H s.heap
 bare:AllBare s.gens
noncomputable def CE (outer:List Env) (P:Program) (w:World) (H:Hp) (s:Shared) (Q:VK) (u:Value) (s':Shared):Prop:=
 ∃ v H',s'.os=s.os∧AllBare s'.gens∧Un (frs outer) [] H H' s.heap s'.heap∧HOk P w H' s'.heap∧ao v u∧Q v H'
noncomputable def CR (CX:CXT) (outer:List Env) (P:Program) (w:World) (H:Hp) (s:Shared) (Q:VK) (E:XK) (r:Result) (s':Shared):Prop:=
 match r with
 | .ok (.ret u)=>CE outer P w H s Q u s'
 | .ok _=>False
 | .error e=>CX outer H s E e s'
structure FnOk (P:Program) (w:World) (K:PySem.W.Frag) (mg:Str→Option Value) (base:Heap) (CX:CXT) (k:Nat) (f:Addr) (fd:FuncData) (ps:List Str) (sp:Sp):Prop where
 len:∀ vs H Q E,sp vs H Q E→vs.length=ps.length
 run:∀ (A:Around) (outer:List Env) (s:Shared) (H:Hp) (args:Args) (us:List Value) (vs:List V) (Q:VK) (E:XK),Room k A→Env0 P w K mg base A outer s H→BindsTo s fd args (ps.zip us)→am vs us→sp vs H Q E→
  codeAny (model P w) A (.call (.ref f) args) (CR CX outer P w H s Q E) s
section
variable {X:Cx}{pins:List (Addr×Obj)}{σ:St}{H:Hp}{s s':Shared}
theorem Inv.env0 (I:Inv X pins σ H s):Env0 X.prog X.w X.K X.mg X.base X.A X.stack s H:=
 ⟨I.ok.frames,I.ok.mod,I.bs,Nat.le_trans I.ok.bsz I.sz,I.stack,I.stkFree,I.hok,I.bare⟩
theorem Inv.after {Q:VK}{u:Value} (I:Inv X pins σ H s) (h:CE X.stack X.prog X.w H s Q u s'):EP X pins σ Q u s':=by
 obtain⟨v,H',os,bare,un,hok,r,q⟩:=h
 obtain⟨hh,g,d,t,os'⟩:=s'
 obtain rfl:os'=s.os:=os
 exact⟨v,H',I.call (h':=hh) (g':=g) (d':=d) (t':=t) (ch:=[]) un hok bare (fun b z=>absurd z (by simp)),r,q⟩
end
noncomputable def jL (sp:Sp) (dvs:List V) (E:XK) (t:TA):TE:=fun σ H Q=>t σ H fun vs H1=>sp (vs++dvs) H1 Q E
noncomputable def aT (K:PySem.W.Frag) (fd:FuncData) (ps:List Str) (ds:List Value):Prop:=
 ∀ (s:Shared) (us:List Value),K.In s.heap→(us++ds).length=ps.length→BindsTo s fd ⟨us,[]⟩ (ps.zip (us++ds))
theorem aT.all {K:PySem.W.Frag}{fd:FuncData}{ps:List Str} (h:∀ us:List Value,us.length=ps.length→bindArgs fd ⟨us,[]⟩=pure (ps.zip us)):aT K fd ps []:=fun s us _ hl=>by
 rw[List.append_nil] at hl ⊢
 exact .of_eq (h us hl)
noncomputable def iG (CX:CXT) (X:Cx) (E:XK):Prop:=∀ (pins:List (Addr×Obj)) (σ:St) (H:Hp) (s:Shared) (e:Value) (s':Shared),Inv X pins σ H s→CX X.stack H s E e s'→X.xe e s'
section
variable {X:Cx}{CX:CXT}{k:Nat}{f C:Addr}{fd:FuncData}{ps:List Str}{sp:Sp}{dvs:List V}{ds:List Value}{E:XK}{x m:Str}{p pos apos:Pos}{e o:Expr}{es:List Expr}{ta:TE}{t:TA}
theorem mJ {pins:List (Addr×Obj)}{σ:St}{H:Hp}{s:Shared}{Q:VK}{us:List Value}{vs:List V} (F:FnOk X.prog X.w X.K X.mg X.base CX k f fd ps sp) (hr:Room k X.A) (hb:aT X.K fd ps ds) (hd:am dvs ds) (hx:iG CX X E)
  (I:Inv X pins σ H s) (r:am vs us) (h:sp (vs++dvs) H Q E):wpAny (model X.prog X.w) X.A (call (.ref f) us) (EP X pins σ Q) X.xe s:=by
 have r2:am (vs++dvs) (us++ds):=r.append hd
 have hl:(us++ds).length=ps.length:=by rw[← r2.length];exact F.len _ _ _ _ h
 refine wpAny_call (codeAny_mono (F.run X.A X.stack s H ⟨us,[]⟩ (us++ds) (vs++dvs) Q E hr I.env0 (hb s us I.kIn hl) r2 h) fun r s' hq=>?_)
 cases r with
 | error e=>exact hx pins σ H s e s' I hq
 | ok fl=>
  cases fl with
  | ret u=>exact I.after hq
  | next=>exact False.elim hq
  | brk=>exact False.elim hq
  | cont=>exact False.elim hq
theorem tX (F:FnOk X.prog X.w X.K X.mg X.base CX k f fd ps sp) (hr:Room k X.A) (hg:Gl X x) (hm:X.mg x=some (.ref f)) (hk:PySem.W.keepIn X.K (.ref f)=true) (hb:aT X.K fd ps ds) (hd:am dvs ds) (hx:iG CX X E)
  (ha:PA X (e::es) t) (hdb:(x == ("__debug__" : Str))=false:=by decide) (he:starEach (e::es) X.env=(false,eval e X.env)::starEach es X.env:=by rfl) (hpl:(backTo pos (starEach es X.env)).any (·.1)=false:=by rfl):
  PE X (.Call (.Name x p) (e::es) [] pos) (jL sp dvs E t):=by
 intro pins s σ H Q I h
 refine wpAny_Call_Name_kw (mr I hg hm ?_ hdb)
 refine PySem.W.callWith_K (h₀:=X.base) I.ok.mod.kin hk (thn (ha pos pins s σ H _ I h) fun us s1 ⟨vs,H1,I1,r,q⟩=>⟨I1.kIn,?_⟩) he hpl
 exact mJ F hr hb hd hx I1 r q
end
section
variable {X:Cx}{CX:CXT}{k:Nat}{f C:Addr}{fd:FuncData}{ps ks:List Str}{sp:Sp}{E:XK}{x m:Str}{p pos apos kpos:Pos}{e o:Expr}{es:List Expr}{kws:List Keyword}{te ta:TE}{t tk:TA}{nm:Option Str}
variable {g:List Value→List Value→List Value}{gV:List V→List V→List V}
end
structure FnScope (N P:List Str) (sc:Scope):Prop where
 kind:sc.kind=.function
 co:sc.isCoroutine=false
 gen:sc.isGenerator=false
 nd:N.Nodup
 pre:N.take P.length=P
 par:∀ x∈P,sc.names.lookup x=some .local∨sc.names.lookup x=some .cell
 nofree:∀ y∈sc.names,y.2≠.free
theorem mK {kindOf:Str→Option NameKind}{x:Str}:∀ {binds:List (Str×Value)}{m:Str→Option Value},(∀ v,(x,v)∉binds)→bindL kindOf binds m x=m x
 | [],_,_=>rfl
 | (n,v)::r,m,h=>by
  unfold bindL
  rw[mK fun w hw=>h w (List.mem_cons_of_mem _ hw)]
  split
  ·have:x≠n:=by rintro rfl;exact h v List.mem_cons_self
   simp[this]
  ·rfl
theorem mL {kindOf:Str→Option NameKind}{x:Str}:∀ {binds:List (Str×Value)}{m:Str→Option Value},(∀ v,(x,v)∉binds)→bindC kindOf binds m x=m x
 | [],_,_=>rfl
 | (n,v)::r,m,h=>by
  unfold bindC
  rw[mL fun w hw=>h w (List.mem_cons_of_mem _ hw)]
  split
  ·rfl
  ·have:x≠n:=by rintro rfl;exact h v List.mem_cons_self
   simp[this]
theorem mM {kindOf:Str→Option NameKind}{x:Str}{v:Value}:∀ {P:List Str}{vs:List Value}{i:Nat}{m:Str→Option Value},P.Nodup→P[i]?=some x→vs[i]?=some v→kindOf x=some .local→
  bindL kindOf (P.zip vs) m x=some v
 | [],_,_,_,_,h,_,_=>by simp at h
 | _::_,[],_,_,_,_,h,_=>by simp at h
 | p::P,w::vs,0,m,nd,h1,h2,hk=>by
  simp at h1 h2;subst h1;subst h2
  show bindL kindOf ((p,w)::P.zip vs) m p=_
  unfold bindL
  rw[mK fun v hv=>(List.nodup_cons.mp nd).1 (List.of_mem_zip hv).1,if_pos hk]
  simp
 | p::P,w::vs,i+1,m,nd,h1,h2,hk=>by
  show bindL kindOf ((p,w)::P.zip vs) m x=_
  unfold bindL
  exact mM (i:=i) (List.nodup_cons.mp nd).2 (by simpa using h1) (by simpa using h2) hk
theorem mN {kindOf:Str→Option NameKind}{x:Str}{v:Value}:∀ {P:List Str}{vs:List Value}{i:Nat}{m:Str→Option Value},P.Nodup→P[i]?=some x→vs[i]?=some v→kindOf x≠some .local→
  bindC kindOf (P.zip vs) m x=some v
 | [],_,_,_,_,h,_,_=>by simp at h
 | _::_,[],_,_,_,_,h,_=>by simp at h
 | p::P,w::vs,0,m,nd,h1,h2,hk=>by
  simp at h1 h2;subst h1;subst h2
  show bindC kindOf ((p,w)::P.zip vs) m p=_
  unfold bindC
  rw[mL fun v hv=>(List.nodup_cons.mp nd).1 (List.of_mem_zip hv).1,if_neg hk]
  simp
 | p::P,w::vs,i+1,m,nd,h1,h2,hk=>by
  show bindC kindOf ((p,w)::P.zip vs) m x=_
  unfold bindC
  exact mN (i:=i) (List.nodup_cons.mp nd).2 (by simpa using h1) (by simpa using h2) hk
noncomputable def c9 (N:List Str) (vs:List V):St:=vs.map some++List.replicate (N.length - vs.length) none
noncomputable def eI (CX:CXT) (P:Program) (w:World) (K:PySem.W.Frag) (mg:Str→Option Value) (base:Heap) (N:List Str) (qual:Str) (scope:Scope) (f:Addr) (cd:Value) (A:Around) (outer:List Env) (s:Shared) (H:Hp) (E:XK):Cx where
 prog:=P
 w:=w
 K:=K
 mg:=mg
 base:=base
 A:=A.deeper (envOfC qual scope s.heap.objs.size f cd)
 N:=N
 s₀:=s
 H₀:=H
 env:=envOfC qual scope s.heap.objs.size f cd
 outer:=outer
 stack:=envOfC qual scope s.heap.objs.size f cd::outer
 ex:=[]
 calm:=true
 fn:=fun _=>true
 pn:=[]
 xe:=fun e s'=>wpAny (model P w) (A.deeper (envOfC qual scope s.heap.objs.size f cd)) (leaving (envOfC qual scope s.heap.objs.size f cd) e) (fun _ s''=>CX outer H s E e s'') (fun e' s''=>CX outer H s E e' s'') s'
theorem mO {sc:Scope}{n:Nat}{x:Str} (h:sc.names.lookup x=some .cell):∃ c,(cellsFrom n sc.names []).lookup x=some c:=by
 have q:=PySem.W.cellsFrom_some sc.names n [] (.inl h)
 exact Option.isSome_iff_exists.mp q
theorem tY {CX:CXT}{P:Program}{w:World}{K:PySem.W.Frag}{mg:Str→Option Value}{base:Heap}{N ps:List Str}{qual:Str}{scope:Scope}{f:Addr}{cd:Value}{A:Around}{outer:List Env}{s s1:Shared}{H:Hp}{E:XK}{us:List Value}{vs:List V}
  (S:FnScope N ps scope) (hd:A.handled=none) (e0:Env0 P w K mg base A outer s H) (hl:vs.length=ps.length) (r:am vs us)
  (x:InCallC s s.heap.objs.size (bindL (envOfC qual scope s.heap.objs.size f cd).kindOf (ps.zip us) fun _=>none) (cellsFrom (s.heap.objs.size+1) scope.names []) (bindC (envOfC qual scope s.heap.objs.size f cd).kindOf (ps.zip us) fun _=>none) s1):
  Inv (eI CX P w K mg base N qual scope f cd A outer s H E) [] (c9 N vs) H s1:=by
 have hpl:ps.length≤N.length:=by have:=congrArg List.length S.pre;rw[List.length_take] at this;lia
 obtain⟨h1,tk,rfl,hk⟩:=x.done
 have noA:∀ b:Addr,b∉(eI CX P w K mg base N qual scope f cd A outer s H E).ex:=fun b z=>absurd (show b∈([]:List Addr) from z) (by simp)
 refine⟨⟨e0.mod,S.kind,rfl,rfl,Nat.le_refl _,fun y z c h1 h2=>?_,fun y hy=>?_,fun y c _ h=>?_,fun _=>hd,Around.frames_deeper e0.frames,.inr ⟨rfl,rfl⟩,fun b z=>absurd z (noA b),e0.bs,e0.bsz,fun b _ _=>noA b,fun b z=>absurd z (noA b),e0.funs,e0.frf⟩,
  rfl,e0.bare,Un.kept hk,⟨_,x.toInCall.ns,fun i y v h1 h2 h3=>?_⟩,fun y c h=>⟨_,x.cell y c h⟩,e0.hok.fresh (Nat.le_refl _),fun y c h=>?_,fun p hp=>absurd (show p∈([]:List (Addr×Obj)) from hp) (by simp),e0.hok.kept hk,?_⟩
 ·exact name_of_addr x.apart (PySem.mem_of_lookup h1) (PySem.mem_of_lookup h2)
 ·have hy:scope.names.lookup y=some .cell∨scope.names.lookup y=some .free:=hy
  rcases hy with hy | hy
  ·exact mO hy
  ·exact absurd rfl (S.nofree _ (PySem.mem_of_lookup hy))
 ·exact Nat.le_of_lt (x.above y c (PySem.mem_of_lookup h))
 ·have hi:i<vs.length:=by
   unfold c9 at h2
   by_cases hi:i<vs.length
   ·exact hi
   ·rw[List.getElem?_append_right (by simpa using hi)] at h2
    rw[List.getElem?_replicate] at h2
    split at h2<;>cases h2
  have ha:vs[i]?=some v:=by
   unfold c9 at h2
   rw[List.getElem?_append_left (by simpa using hi),List.getElem?_map] at h2
   cases e:vs[i]? with
   | none=>rw[e] at h2;cases h2
   | some a=>rw[e] at h2;cases h2;rfl
  obtain⟨u,hu,rv⟩:=r.get ha
  have hp:ps[i]?=some y:=by
   rw[← S.pre,List.getElem?_take_of_lt (by lia)];exact h1
  have ndP:ps.Nodup:=by rw[← S.pre];exact S.nd.sublist (List.take_sublist _ _)
  refine⟨u,rv,?_⟩
  rcases S.par y (List.mem_of_getElem? hp) with k | k
  ·exact .inl ⟨k,mM ndP hp hu k⟩
  ·obtain⟨c,e⟩:=mO (n:=s.heap.objs.size+1) k
   refine .inr ⟨.inl k,c,e,?_⟩
   have q:=x.cell y c e
   rw[mN ndP hp hu (by show scope.names.lookup y≠_;rw[k];decide)] at q
   exact q
 ·exact e0.hok.fresh (Nat.le_of_lt (x.above y c (PySem.mem_of_lookup h)))
 ·unfold c9
  show _=N.length
  rw[List.length_append,List.length_map,List.length_replicate]
  lia
theorem tZ {CX:CXT}{P:Program}{w:World}{K:PySem.W.Frag}{mg:Str→Option Value}{base:Heap}{k:Nat}{f:Addr}{name qual:Str}{params:Arguments}{body:List Stmt}{scope:Scope}{dV kV doc pm cdv ct oc:Value}{an od:Option Addr}
  {osl:Array (Option Value)}{N ps:List Str}{sp:Sp} (lk:K.lookup f=some ⟨oc,od,.func (PySem.W.fnOf name qual params body scope dV kV doc pm an cdv ct),osl⟩) (hcd:PySem.W.codeIn K cdv qual=true) (S:FnScope N ps scope)
  (len:∀ vs H Q E,sp vs H Q E→vs.length=ps.length)
  (hbody:∀ (A:Around) (outer:List Env) (s:Shared) (H:Hp) (vs:List V) (Q:VK) (E:XK),Room k (A.deeper (envOfC qual scope s.heap.objs.size f cdv))→sp vs H Q E→
   ∃ t,PSs (eI CX P w K mg base N qual scope f cdv A outer s H E) body t∧t { nx:=fun _ H'=>Q .non H',rt:=Q } (c9 N vs) H):
  FnOk P w K mg base CX (k+1) f (PySem.W.fnOf name qual params body scope dV kV doc pm an cdv ct) ps sp:=by
 refine⟨len,fun A outer s H args us vs Q E hr e0 hb r hsp=>?_⟩
 have hl:=len _ _ _ _ hsp
 have KX:K.In s.heap:=e0.mod.kin.keeps fun b o e=>(e0.bs b o e).1
 have lim:s.heap.NoLimit:=e0.mod.nolimit.keeps fun b o e=>(e0.bs b o e).1
 have hkind:∀ y∈ps.zip us,scope.names.lookup y.1=some .local∨(scope.names.lookup y.1=some .cell∧((cellsFrom (s.heap.objs.size+1) scope.names []).lookup y.1).isSome=true):=fun ⟨n,v⟩ hy=>by
  rcases S.par n (List.of_mem_zip hy).1 with q | q
  ·exact .inl q
  ·exact .inr ⟨q,PySem.W.cellsFrom_some _ _ _ (.inl q)⟩
 refine codeAny_call_function hr.depth (KX _ _ lk) rfl S.co S.gen rfl (PySem.W.codeRec_of KX hcd) (hb _ _ _ _ ?_)
 refine wpAny_newFunctionEnv_cells S.kind hkind fun env he s1 x=>?_
 subst he
 refine⟨lim.keeps x.toInCall.keep,codeAny_func ?_⟩
 obtain⟨t,ht,hq⟩:=hbody A outer s H vs Q E (hr.deeper _) hsp
 have I:Inv (eI CX P w K mg base N qual scope f cdv A outer s H E) [] (c9 N vs) H s1:=tY S hr.hd e0 hl r x
 refine wpAny_mono (ht [] s1 (c9 N vs) H _ I hq) (fun fl s' hs=>?_) fun e s' hs=>hs
 have fin:∀ {σ':St}{H':Hp}{v:V}{u:Value},Inv (eI CX P w K mg base N qual scope f cdv A outer s H E) [] σ' H' s'→ao v u→Q v H'→CE outer P w H s Q u s':=
  fun {σ' H' v u} J rv q=>⟨v,H',J.os,J.bare,J.base,J.hok,rv,q⟩
 cases fl with
 | ret u=>
  obtain⟨v,σ',H',J,rv,q⟩:=hs
  exact fin J rv q
 | next=>
  obtain⟨σ',H',J,q⟩:=hs
  exact fin (v:=V.non) (u:=Value.none) J rfl q
 | brk=>
  obtain⟨_,_,_,q⟩:=hs
  exact False.elim q
 | cont=>
  obtain⟨_,_,_,q⟩:=hs
  exact False.elim q
section
variable {X:Cx}{x:Str}{p pos:Pos}{e:Expr}{es:List Expr}{t:TA}{id T:String}{r:List V→Hp→VK→Prop}
noncomputable def tCB (r:List V→Hp→VK→Prop) (t:TA):TE:=fun σ H Q=>t σ H fun vs H1=>r vs H1 Q
theorem mP (hc:aX X (.builtin id) r) (hg:Gl X x) (hm:X.mg x=none) (hv:bootBuiltins x=some (.builtin id)) (ha:PA X (e::es) t) (hn:x ≠ "__name__" := by decide) (hdb:(x == ("__debug__" : Str))=false:=by decide)
  (he:starEach (e::es) X.env=(false,eval e X.env)::starEach es X.env:=by rfl) (hpl:(backTo pos (starEach es X.env)).any (·.1)=false:=by rfl):PE X (.Call (.Name x p) (e::es) [] pos) (tCB r t):=by
 intro pins s σ H Q I h
 refine wpAny_Call_Name_kw (eG I hg hm hv ?_ hn hdb)
 exact PyProof.Rows.callWith_builtin1 (thn (ha pos pins s σ H _ I h) fun us s1 ⟨vs,H1,I1,r1,q1⟩=>hc pins s1 σ H1 vs us Q I1 r1 q1) he hpl
theorem t5 (hc:aX X (.type T) r) (hg:Gl X x) (hm:X.mg x=none) (hv:bootBuiltins x=some (.type T)) (ha:PA X (e::es) t) (hn:x ≠ "__name__" := by decide) (hdb:(x == ("__debug__" : Str))=false:=by decide)
  (he:starEach (e::es) X.env=(false,eval e X.env)::starEach es X.env:=by rfl) (hpl:(backTo pos (starEach es X.env)).any (·.1)=false:=by rfl):PE X (.Call (.Name x p) (e::es) [] pos) (tCB r t):=by
 intro pins s σ H Q I h
 refine wpAny_Call_Name_kw (eG I hg hm hv ?_ hn hdb)
 exact PyProof.Rows.callWith_type1 (thn (ha pos pins s σ H _ I h) fun us s1 ⟨vs,H1,I1,r1,q1⟩=>hc pins s1 σ H1 vs us Q I1 r1 q1) he hpl
end
end L2
namespace HT
open PySem PyProof.Rows
theorem t6 (A:Around) (s:Shared) (a:Int) (t:Tok) (c:Int) (u:Tok) (prog:Program) (w:World) (E:Value→Shared→Prop) (Q:Value→Shared→Prop) (h:Q (.bool (decide (a<c))) s):
  wpAny (model prog w) A (richCompare .Lt (.int a t) (.int c u)) Q E s:=
 (PyProof.Rows.lt_int h:wpAny (model prog w) A (compareOp .Lt (.int a t) (.int c u)) Q E s)
section
open PySem.SeqAt
open PySem.AutoSeq1 (wpAny_loadPart')
open PySem.MeetsSeq PySem.MeetsSeq2 PySem.MeetsSeq3
end
section
variable {prog:Program}{w:World}{A:Around}{E:Value→Shared→Prop}{s:Shared}
theorem t7 {t b:Addr}{vs ws:List Value}{Q:Value→Shared→Prop} (ht:IsTup s.heap t vs.toArray) (hb:IsTup s.heap b ws.toArray) (hv:vs≠[])
  (h1:ws=[]→Q (.ref t) s) (h2:ws≠[]→Q (.ref s.heap.objs.size) { s with heap:=s.heap.push { cls:=.type "tuple",data:=.seq (vs++ws).toArray } })
  (hsz:vs.length+ws.length≤sizeLine):wpAny (model prog w) A (binaryOp .Add (.ref t) (.ref b)) Q E s:=by
 obtain⟨⟨cls,dd,data,sl⟩,ho,hc,n,hd⟩:=id ht
 obtain⟨⟨cls2,dd2,data2,sl2⟩,ho2,hc2,n2,hd2⟩:=id hb
 simp only at hc hd hc2 hd2
 subst hc hd hc2 hd2
 have e:vs.toArray++ws.toArray=(vs++ws).toArray:=by simp
 by_cases hw:ws=[]
 ·exact concat_meets ⟨_,ho,rfl⟩ ⟨_,ho2,rfl⟩ noFill_tuple_add seq_tuple_add PySem.F.slot_tuple_add PySem.F.entry_tuple_add (PySem.F.args_tuple_add_2 _ _)
   (tuple_addW1 t b vs.toArray ws.toArray n n2 dd dd2 sl sl2 (by simpa using hv) (by simp[hw])) ⟨ho,ho2,h1 hw⟩
 ·refine concat_meets ⟨_,ho,rfl⟩ ⟨_,ho2,rfl⟩ noFill_tuple_add seq_tuple_add PySem.F.slot_tuple_add PySem.F.entry_tuple_add (PySem.F.args_tuple_add_2 _ _)
   (tuple_addW2 t b vs.toArray ws.toArray n n2 dd dd2 sl sl2 (by simpa using hv) (by simpa using hw) (by rw[List.size_toArray,List.size_toArray];exact hsz)) ⟨ho,ho2,?_⟩
  rw[e]
  exact h2 hw
noncomputable def sIx (n d:Nat):Option Int→Nat
 | none=>d
 | some v=>if v<0 then (v+(n:Int)).toNat else min v.toNat n
theorem mQ (n d:Nat):sIx n d none=d:=rfl
theorem mR (n d k:Nat):sIx n d (some (k:Int))=min k n:=by
 show (if (k:Int)<0 then ((k:Int)+(n:Int)).toNat else min (k:Int).toNat n)=min k n
 rw[if_neg (by lia),Int.toNat_natCast]
theorem t9 (n d:Nat) (hd:d≤n) (o:Option Int):sIx n d o≤n:=by
 cases o with
 | none=>exact hd
 | some v=>
  show (if v<0 then (v+(n:Int)).toNat else min v.toNat n)≤n
  by_cases hv:v<0
  ·rw[if_pos hv];lia
  ·rw[if_neg hv];exact Nat.min_le_right _ _
theorem mS (v:Int) (n d:Nat):(if v<0 then max (v+(n:Int)) 0 else min v (n:Int))=((sIx n d (some v):Nat):Int):=by
 show (if v<0 then max (v+(n:Int)) 0 else min v (n:Int))=(((if v<0 then (v+(n:Int)).toNat else min v.toNat n):Nat):Int)
 by_cases hv:v<0
 ·simp only[if_pos hv];lia
 ·simp only[if_neg hv];lia
theorem ua (lo hi:Option Int) (n:Nat):Builtin.Slice.sliceAdjust lo hi 1 (n:Int)=(((sIx n 0 lo:Nat):Int),((sIx n n hi:Nat):Int)):=by
 have h1:¬ ((1:Int)<0):=by lia
 unfold Builtin.Slice.sliceAdjust
 simp only[h1,if_false]
 refine Prod.ext ?_ ?_
 ·cases lo with
  | none=>rfl
  | some v=>exact mS v n 0
 ·cases hi with
  | none=>rfl
  | some v=>exact mS v n n
theorem uc (i j:Nat):Builtin.Slice.slicePlaces (i:Int) (j:Int) 1=j - i:=by
 unfold Builtin.Slice.slicePlaces
 have h1:(1:Int) > 0:=by lia
 simp only[h1,if_true,Int.ediv_one]
 split<;>lia
theorem mT {v:Value}{o:Option Int}{Q:Option Int→Shared→Prop} (p:IsPart v o) (h:Q o s):wpAny (model prog w) A (Builtin.Slice.slicePartIndex v) Q E s:=by
 cases p with
 | none=>exact slicePart_none h
 | int i t=>exact slicePart_int h
theorem mU {sl:Addr}{vl vu:Value}{lo hi:Option Int}{n:Nat}{Q:Int×Int×Nat→Shared→Prop} (hs:s.heap.IsSliceOf sl vl vu .none) (pl:IsPart vl lo) (pu:IsPart vu hi)
  (h:Q (((sIx n 0 lo:Nat):Int),1,sIx n n hi - sIx n 0 lo) s):wpAny (model prog w) A (Builtin.Slice.sliceApplied (.ref sl) (pure (n:Int))) Q E s:=by
 obtain⟨os,hos,hcs,hds⟩:=id hs
 unfold Builtin.Slice.sliceApplied Builtin.Slice.sliceFields
 refine wpAny_bind (wpAny_bind (wpAny_field hos hds (x:=vl) rfl (wpAny_bind (wpAny_field hos hds (x:=vu) rfl (wpAny_bind (wpAny_field hos hds (x:=.none) rfl (wpAny_pure ?_)))))))
 refine wpAny_bind (slicePart_none ?_)
 show wpAny _ _ (if ((1:Int) == 0)=true then _ else _) _ _ s
 rw[if_neg (by decide)]
 refine wpAny_bind (mT pl (wpAny_bind (mT pu (wpAny_bind (wpAny_pure ?_)))))
 show wpAny _ _ (match Builtin.Slice.sliceAdjust lo hi 1 (n:Int) with | (lo,hi)=>pure (lo,(1:Int),Builtin.Slice.slicePlaces lo hi 1)) _ _ s
 rw[ua lo hi n]
 show wpAny _ _ (pure (((sIx n 0 lo:Nat):Int),(1:Int),Builtin.Slice.slicePlaces ((sIx n 0 lo:Nat):Int) ((sIx n n hi:Nat):Int) 1)) _ _ s
 rw[uc]
 exact wpAny_pure h
theorem ud (xs:Array Value) (i k:Nat):((List.range k).filterMap fun (m:Nat)=>xs[((i:Int)+(m:Int) * 1).toNat]?).toArray=((xs.toList.drop i).take k).toArray:=by
 have e:(fun (m:Nat)=>xs[((i:Int)+(m:Int) * 1).toNat]?)=fun m=>xs[i+m]?:=by
  funext m
  have:((i:Int)+(m:Int) * 1).toNat=i+m:=by lia
  rw[this]
 rw[e]
 have:=pick_run xs i k
 rw[List.filterMap_map] at this
 have e2:((fun x=>xs[x]?) ∘ fun x=>i+x)=fun m=>xs[i+m]?:=rfl
 rw[e2] at this
 rw[this]
theorem ue {t sl:Addr}{items:Array Value}{vl vu:Value}{lo hi:Option Int}{Q:Value→Shared→Prop} (ht:IsTup s.heap t items) (hs:s.heap.IsSliceOf sl vl vu .none) (pl:IsPart vl lo) (pu:IsPart vu hi)
  (hw:¬ (sIx items.size 0 lo=0∧sIx items.size items.size hi=items.size))
  (h:Q (.ref s.heap.objs.size) { s with heap:=s.heap.push { cls:=.type "tuple",data:=.seq ((items.toList.drop (sIx items.size 0 lo)).take (sIx items.size items.size hi - sIx items.size 0 lo)).toArray } })
  (hsz:items.size≤sizeLine):wpAny (model prog w) A (getItem (.ref t) (.ref sl)) Q E s:=by
 have htake:sizeOk (.seq ((items.toList.drop (sIx items.size 0 lo)).take (sIx items.size items.size hi - sIx items.size 0 lo)).toArray):=by
  show ((items.toList.drop (sIx items.size 0 lo)).take (sIx items.size items.size hi - sIx items.size 0 lo)).toArray.size≤sizeLine
  rw[List.size_toArray,List.length_take,List.length_drop,Array.length_toList]
  lia
 have hj:sIx items.size items.size hi≤items.size:=t9 _ _ (Nat.le_refl _) hi
 obtain⟨os,hos,hcs,hds⟩:=id hs
 have hTs:s.TypeIs (.ref sl) "slice" := ⟨os,hos,hcs⟩
 unfold getItem
 try with_reducible refine wpAny_holding ?_
 first | refine wpAny_bind (wpAny_pure ?_) | skip
 refine wpAny_bind (wpAny_sequenceKey ht.typeIs (by decide) ?_)
 refine wpAny_bind (wpAny_callSpecial?_slot (name:=Str.ofString "__getitem__") ht.typeIs PyProof.Rows.slot_tuple_getitem
  (wpAny_call_entry PyProof.Rows.slot_tuple_getitem ht.typeIs entry_tuple_getitem ?_ (args_tuple_getitem _ _)))
 show wpAny _ _ (Builtin.Tuple.tupleItemsOf (.ref t) >>= _) _ _ s
 refine wpAny_bind (tupleItemsOf_ ht ?_)
 refine wpAny_bind (wpAny_typeOf hTs ?_)
 rw[if_pos (by decide)]
 refine wpAny_bind (mU hs pl pu ?_)
 have hno:¬ ((((sIx items.size 0 lo:Nat):Int) == 0 && (1:Int) == 1 && (sIx items.size items.size hi - sIx items.size 0 lo) == items.size)=true):=by
  intro q
  rw[Bool.and_eq_true,Bool.and_eq_true] at q
  have q1:((sIx items.size 0 lo:Nat):Int)=0:=eq_of_beq q.1.1
  have q2:sIx items.size items.size hi - sIx items.size 0 lo=items.size:=eq_of_beq q.2
  exact hw ⟨by lia,by lia⟩
 show wpAny _ _ (if (((sIx items.size 0 lo:Nat):Int) == 0 && (1:Int) == 1 && (sIx items.size items.size hi - sIx items.size 0 lo) == items.size)=true then _ else _) _ _ s
 rw[if_neg hno,ud]
 first
  | exact wpAny_bind (m:=Builtin.Tuple.tupleExact _) (wpAny_newObj_type (wpAny_pure ⟨_,rfl,wpAny_pure h⟩) htake)
  | exact wpAny_bind (m:=Builtin.Tuple.tupleExact _) (wpAny_newObj_type (wpAny_bind (wpAny_pure (wpAny_pure ⟨_,rfl,wpAny_pure h⟩))) htake)
  | exact wpAny_bind (wpAny_bind (m:=Builtin.Tuple.tupleExact _) (wpAny_newObj_type (wpAny_pure (wpAny_pure ⟨_,rfl,wpAny_pure h⟩)) htake))
  | exact wpAny_bind (wpAny_bind (m:=Builtin.Tuple.tupleExact _) (wpAny_newObj_type (wpAny_pure ⟨_,rfl,wpAny_pure h⟩) htake))
end
end HT
namespace L2
open PySem PySem.Spec PyProof.Rows
noncomputable abbrev TO:=St→Hp→(Option Int→Hp→Prop)→Prop
noncomputable def PO (X:Cx) (e:Option Expr) (t:TO):Prop:=
 ∀ (pins:List (Addr×Obj)) (s:Shared) (σ:St) (H:Hp) (Q:Option Int→Hp→Prop),Inv X pins σ H s→t σ H Q→
  wpAny (model X.prog X.w) X.A (evalPart e X.env) (fun u s'=>∃ o H',Inv X pins σ H' s'∧IsPart u o∧Q o H') X.xe s
noncomputable def tNoPart:TO:=fun _ H Q=>Q none H
noncomputable def uf (t:TE):TO:=fun σ H Q=>t σ H fun x H1=>∃ i,x=.int i∧Q (some i) H1
section
variable {X:Cx}{e:Expr}{te:TE}{lo hi:Option Expr}{tl th:TO}{pos p2:Pos}
theorem ug:PO X none tNoPart:=by
 intro pins s σ H Q I h
 rw[evalPart_none]
 exact wpAny_pure ⟨none,H,I,.none,h⟩
theorem uh (h:PE X e te):PO X (some e) (uf te):=by
 intro pins s σ H Q I hw
 rw[evalPart_some]
 refine thn (h pins s σ H _ I hw) fun u s1 ⟨x,H1,I1,r1,q1⟩=>?_
 obtain⟨i,rfl,q⟩:=q1
 obtain⟨t,rfl⟩:=r1
 exact⟨some i,H1,I1,.int i t,q⟩
noncomputable def SlR (X:Cx) (r:V→Option Int→Option Int→Hp→VK→Prop):Prop:=
 ∀ (pins:List (Addr×Obj)) (s:Shared) (σ:St) (H:Hp) (x:V) (v vl vu:Value) (lo hi:Option Int) (sl:Addr) (Q:VK),Inv X pins σ H s→ao x v→s.heap.IsSliceOf sl vl vu .none→IsPart vl lo→IsPart vu hi→r x lo hi H Q→
  ∃ T id,typeLookup (.type T) "__getitem__" = pure (some (.builtin id))∧s.TypeIs v T∧wpAny (model X.prog X.w) X.A (getItem v (.ref sl)) (EP X pins σ Q) X.xe s
noncomputable def tSl (r:V→Option Int→Option Int→Hp→VK→Prop) (te:TE) (tl th:TO):TE:=fun σ H Q=>te σ H fun x H1=>tl σ H1 fun l H2=>th σ H2 fun u H3=>r x l u H3 Q
theorem ui {r:V→Option Int→Option Int→Hp→VK→Prop} (hr:SlR X r) (he:PE X e te) (hl:PO X lo tl) (hu:PO X hi th):PE X (.Subscript e (.Slice lo hi none p2) pos) (tSl r te tl th):=by
 intro pins s σ H Q I h
 refine Subscript_ (thn (he pins s σ H _ I h) fun v s1 ⟨x,H1,I1,r1,q1⟩=>?_)
 refine wpAny_Slice (thn (hl pins s1 σ H1 _ I1 q1) fun vl s2 ⟨l,H2,I2,pl,q2⟩=>thn (hu pins s2 σ H2 _ I2 q2) fun vu s3 ⟨u,H3,I3,pu,q3⟩=>?_)
 rw[evalPart_none]
 refine wpAny_pure ?_
 have I4:Inv X pins σ H3 { s3 with heap:=s3.heap.push { cls:=.type "slice",data:=.fields #[vl,vu,.none] } }:=I3.kept (t':=s3.toks) fun b ob q=>Heap.get?_push_of_some _ q
 obtain⟨T,id,hT,ht,hg⟩:=hr pins { s3 with heap:=s3.heap.push { cls:=.type "slice",data:=.fields #[vl,vu,.none] } } σ H3 x v vl vu l u s3.heap.objs.size Q I4 r1 (Heap.IsSliceOf.new ..) pl pu q3
 show wpAny (model X.prog X.w) X.A (subscriptTail e (.Slice lo hi none p2) v (.ref s3.heap.objs.size)) (EP X pins σ Q) X.xe { s3 with heap:=s3.heap.push { cls:=.type "slice",data:=.fields #[vl,vu,.none] } }
 exact tail_any (ops:=[.ref s3.heap.objs.size,v]) ht hT hg (by with_unfolding_all rfl)
noncomputable def dQ (xs:List V) (lo hi:Option Int):List V:=(xs.drop (HT.sIx xs.length 0 lo)).take (HT.sIx xs.length xs.length hi - HT.sIx xs.length 0 lo)
theorem mV (xs:List V) (lo hi:Option Int):(dQ xs lo hi).length≤xs.length:=by
 unfold dQ
 rw[List.length_take,List.length_drop]
 lia
noncomputable def uj (K:PySem.W.Frag):V→Option Int→Option Int→Hp→VK→Prop:=fun x lo hi H Q=>∃ a xs,x=.ref a∧SqT K H a xs∧
 ¬ (HT.sIx xs.length 0 lo=0∧HT.sIx xs.length xs.length hi=xs.length)∧∀ p,H p=none→Q (.ref p) (upd H p (.tup (dQ xs lo hi)))
theorem uk:SlR X (uj X.K):=by
 intro pins s σ H x v vl vu lo hi sl Q I rx hs pl pu h
 obtain⟨a,xs,rfl,hx,hw,q⟩:=h
 cases rx
 obtain⟨its,r,ht,hz⟩:=I.tuple hx
 have hlen:its.toArray.size=xs.length:=by rw[List.size_toArray];exact r.length.symm
 refine⟨"tuple",_,PyProof.Rows.slot_tuple_getitem.lookup,ht.typeIs,?_⟩
 refine HT.ue ht hs pl pu (by rw[hlen];exact hw) ?_ (by rw[hlen];exact hz)
 rw[hlen]
 refine⟨.ref s.heap.objs.size,_,I.laid (t':=s.toks) (o:=.tup (dQ xs lo hi)) (fun b ob q=>Heap.get?_push_of_some _ q) (Nat.le_refl _) ?_,rfl,q _ (I.hok.fresh (Nat.le_refl _))⟩
 exact⟨Nat.le_trans (mV xs lo hi) hz,_,(r.drop (HT.sIx xs.length 0 lo)).take (HT.sIx xs.length xs.length hi - HT.sIx xs.length 0 lo),IsTup.new _ _⟩
noncomputable def ul (K:PySem.W.Frag):R2:=fun x y H Q=>∃ a b xs ys,x=.ref a∧y=.ref b∧SqT K H a xs∧SqT K H b ys∧xs≠[]∧xs.length+ys.length≤sizeLine∧
 (ys=[]→Q (.ref a) H)∧(ys≠[]→∀ p,H p=none→Q (.ref p) (upd H p (.tup (xs++ys))))
theorem am.nil_iff {xs:List V}{us:List Value} (r:am xs us):us=[]↔xs=[]:=by
 cases r with
 | nil=>simp
 | cons _ _=>simp
theorem um:OpR X (binaryOp .Add) (ul X.K):=by
 intro pins s σ H x y v u Q I rx ry h
 obtain⟨a,b,xs,ys,rfl,rfl,ha,hb,hx,hz,q1,q2⟩:=h
 cases rx
 cases ry
 obtain⟨its,r1,p1,_⟩:=I.tuple ha
 obtain⟨its2,r2,p2,_⟩:=I.tuple hb
 refine HT.t7 p1 p2 (fun z=>hx (r1.nil_iff.mp z)) (fun z=>⟨.ref a,H,I,rfl,q1 (r2.nil_iff.mp z)⟩) (fun z=>?_) (by rw[← r1.length,← r2.length];exact hz)
 refine⟨.ref s.heap.objs.size,_,I.laid (t':=s.toks) (o:=.tup (xs++ys)) (fun b ob q=>Heap.get?_push_of_some _ q) (Nat.le_refl _) ?_,rfl,q2 (fun w=>z (r2.nil_iff.mpr w)) _ (I.hok.fresh (Nat.le_refl _))⟩
 exact⟨by rw[List.length_append];exact hz,_,r1.append r2,IsTup.new _ _⟩
end
noncomputable def ixN (n:Nat) (i:Int):Option Nat:=if 0≤i then (if i<n then some i.toNat else none) else if -(n:Int)≤i then some (i+n).toNat else none
noncomputable def atI {α:Type} (xs:List α) (i:Int):Option α:=(ixN xs.length i).bind fun j=>xs[j]?
theorem mW {n:Nat}{i:Int}{j:Nat} (h:ixN n i=some j):seqIndex? i n=some j∧j<n ∧ -(n:Int)≤i∧i<n:=by
 unfold ixN at h
 by_cases h0:0≤i
 ·rw[if_pos h0] at h
  by_cases h1:i<n
  ·rw[if_pos h1] at h
   have e:i.toNat=j:=Option.some.inj h
   exact⟨by rw[seqIndex_of h0 h1,e],by lia,by lia,h1⟩
  ·rw[if_neg h1] at h;cases h
 ·rw[if_neg h0] at h
  by_cases h1 : -(n:Int)≤i
  ·rw[if_pos h1] at h
   have e:(i+n).toNat=j:=Option.some.inj h
   exact⟨by rw[seqIndex_neg (by lia) h1,e],by lia,h1,by lia⟩
  ·rw[if_neg h1] at h;cases h
theorem mX {α:Type}{xs:List α}{i:Int}{v:α} (h:atI xs i=some v):∃ j,seqIndex? i xs.length=some j∧xs[j]?=some v∧j<xs.length ∧ -(xs.length:Int)≤i∧i<xs.length:=by
 unfold atI at h
 cases e:ixN xs.length i with
 | none=>rw[e] at h;cases h
 | some j=>
  rw[e] at h
  obtain⟨h1,h2,h3,h4⟩:=mW e
  exact⟨j,h1,h,h2,h3,h4⟩
noncomputable def mY (b:Expr):Prop:=∀ o i,subscripted b false o i=operate [o,i] (getItem o i)
noncomputable def IxR (X:Cx) (r:R2):Prop:=
 ∀ (value slice:Expr) (pins:List (Addr×Obj)) (s:Shared) (σ:St) (H:Hp) (x y:V) (v u:Value) (Q:VK),Inv X pins σ H s→ao x v→ao y u→r x y H Q→
  subscripted slice false v u=operate [v,u] (getItem v u)→wpAny (model X.prog X.w) X.A (subscriptTail value slice v u) (EP X pins σ Q) X.xe s
noncomputable def MtR (X:Cx) (id:String) (r:V→List V→Hp→VK→Prop):Prop:=
 ∀ (pins:List (Addr×Obj)) (s:Shared) (σ:St) (H:Hp) (x:V) (xs:List V) (v:Value) (us:List Value) (Q:VK),Inv X pins σ H s→ao x v→am xs us→r x xs H Q→
  wpAny (model X.prog X.w) X.A (call (.builtin id) (v::us)) (EP X pins σ Q) X.xe s
section
variable {X:Cx}{a b:Expr}{ta tb:TE}{pos:Pos}
theorem IxR.or {r r':R2} (h:IxR X r) (h':IxR X r'):IxR X (fun x y H Q=>r x y H Q∨r' x y H Q):=by
 intro value slice pins s σ H x y v u Q I rx ry q hs
 rcases q with q | q
 ·exact h value slice pins s σ H x y v u Q I rx ry q hs
 ·exact h' value slice pins s σ H x y v u Q I rx ry q hs
theorem uo {r:R2} (hr:IxR X r) (ha:PE X a ta) (hb:PE X b tb) (hs:mY b):PE X (.Subscript a b pos) (tOp r ta tb):=by
 intro pins s σ H Q I h
 exact Subscript_ (jI ha hb I h fun v u s2 x y H2 I2 rx ry q=>hr a b pins s2 σ H2 x y v u Q I2 rx ry q (hs _ _))
noncomputable def uq (K:PySem.W.Frag):R2:=fun x y H Q=>∃ p xs i v,x=.ref p∧y=.int i∧SqL K H p xs∧atI xs i=some v∧Q v H
noncomputable def ur (K:PySem.W.Frag):R2:=fun x y H Q=>∃ p xs i v,x=.ref p∧y=.int i∧SqT K H p xs∧atI xs i=some v∧Q v H
theorem ut:IxR X (uq X.K):=by
 intro value slice pins s σ H x y v u Q I rx ry h hs
 obtain⟨p,xs,i,z,rfl,rfl,hq,he,q⟩:=h
 cases rx
 obtain⟨t,rfl⟩:=ry
 obtain⟨its,r,pl,hz⟩:=I.list hq
 obtain⟨j,h1,h2,h3,h4,h5⟩:=mX he
 obtain⟨w,ew,rw'⟩:=r.get h2
 have hl:=r.length
 have hn:=fM
 have fin:EP X pins σ Q w s:=⟨z,H,I,rw',q⟩
 by_cases h0:0≤i
 ·have hj:i.toNat=j:=by
   rw[seqIndex_of h0 h5] at h1
   exact Option.some.inj h1
  exact item_listR pl.isList h0 (by lia) (by rw[hj];simpa using ew) fin hs
 ·have hj:(i+(its.toArray.size:Int)).toNat=j:=by
   rw[seqIndex_neg (by lia) h4] at h1
   rw[List.size_toArray,← hl]
   exact Option.some.inj h1
  exact subscriptTail_builtinR (x:=w) pl.isList.typeIs slot_list_getitem.lookup
   (wpAny_getItem_list_neg (Q:=fun r s'=>r=w∧EP X pins σ Q r s') pl.isList (by lia) (by rw[List.size_toArray]<;>lia) (by lia) (by rw[hj];simpa using ew) ⟨rfl,fin⟩) hs
theorem uu:IxR X (ur X.K):=by
 intro value slice pins s σ H x y v u Q I rx ry h hs
 obtain⟨p,xs,i,z,rfl,rfl,hq,he,q⟩:=h
 cases rx
 obtain⟨t,rfl⟩:=ry
 obtain⟨its,r,pl,hz⟩:=I.tuple hq
 obtain⟨j,h1,h2,h3,h4,h5⟩:=mX he
 obtain⟨w,ew,rw'⟩:=r.get h2
 have hl:=r.length
 have hn:=fM
 have fin:EP X pins σ Q w s:=⟨z,H,I,rw',q⟩
 exact subscriptTail_builtinR (x:=w) pl.typeIs slot_tuple_getitem.lookup
  (getItem_tuple (j:=j) (Q:=fun r s'=>r=w∧EP X pins σ Q r s') pl (by lia) (by lia) (by rw[List.size_toArray,← hl];exact h1) (by simpa using ew) ⟨rfl,fin⟩) hs
theorem uw (its:List Value) (n j:Nat) (u:Value):Obj.mapSeq (·.setIfInBounds j u) { cls:=.type "list",data:=.seq its.toArray n }={ cls:=.type "list",data:=.seq (its.set j u).toArray n }:=by
 simp[Obj.mapSeq]
theorem Inv.lst {pins:List (Addr×Obj)}{σ:St}{H:Hp}{s:Shared}{p:Addr}{xs:List V} (I:Inv X pins σ H s) (h:H p=some (.lst xs)):
  ∃ (its:List Value) (n:Nat),am xs its∧s.heap.get? p=some { cls:=.type "list",data:=.seq its.toArray n }∧xs.length≤sizeLine:=by
 obtain⟨z,its,n,r,e⟩:=I.hok p _ h
 exact⟨its,n,r,e,z⟩
theorem Inv.lstUpd {pins:List (Addr×Obj)}{σ:St}{H:Hp}{s:Shared}{p:Addr}{xs ys:List V}{its its':List Value}{n n':Nat}{f:Obj→Obj} (I:Inv X pins σ H s) (h:H p=some (.lst xs))
  (ho:s.heap.get? p=some { cls:=.type "list",data:=.seq its.toArray n }) (hf:f { cls:=.type "list",data:=.seq its.toArray n }={ cls:=.type "list",data:=.seq its'.toArray n' }) (r:am ys its') (hz:ys.length≤sizeLine) (t:Nat):
  Inv X pins σ (upd H p (.lst ys)) { s with heap:=s.heap.update p f,toks:=t }:=by
 have e:(s.heap.update p f).get? p=some { cls:=.type "list",data:=.seq its'.toArray n' }:=by
  rw[Heap.get?_update_self f ho (by rw[hf]<;>rfl),hf]
 refine I.write (x:=p) (e:=p) (by rw[h];trivial) (.inl rfl) (fun b u hb q=>(Heap.get?_update_other _ _ (Ne.symm hb)).trans q) ⟨_,e⟩ ?_
 exact⟨hz,its',n',r,e⟩
noncomputable def rSetL:V→V→V→Hp→(Hp→Prop)→Prop:=fun o i v H Q=>∃ p xs k j,o=.ref p∧i=.int k∧H p=some (.lst xs)∧ixN xs.length k=some j∧Q (upd H p (.lst (xs.set j v)))
theorem ux:jG X rSetL:=by
 intro pins s σ H o i v ov iv u Q I ro ri rv h
 obtain⟨p,xs,k,j,rfl,rfl,hp,hj,q⟩:=h
 cases ro
 obtain⟨t,rfl⟩:=ri
 obtain⟨its,n,r,ho,hz⟩:=I.lst hp
 obtain⟨h1,h2,h3,h4⟩:=mW hj
 have hl:=r.length
 have hn:=fM
 have I':Inv X pins σ (upd H p (.lst (xs.set j v))) { s with heap:=s.heap.update p (Obj.mapSeq (·.setIfInBounds j u)) }:=
  I.lstUpd hp ho (uw its n j u) (r.set rv j) (by rw[List.length_set];exact hz) s.toks
 by_cases h0:0≤k
 ·have hk:k.toNat=j:=by
   rw[seqIndex_of h0 h4] at h1
   exact Option.some.inj h1
  exact PySem.W.ki_setAt ho h0 (by lia) (by rw[List.size_toArray,← hl];exact h4) (by rw[hk];exact⟨_,I',q⟩)
 ·have hk:(k+(its.toArray.size:Int)).toNat=j:=by
   rw[seqIndex_neg (by lia) h3] at h1
   rw[List.size_toArray,← hl]
   exact Option.some.inj h1
  exact PySem.W.ki_setBack ho (by lia) (by rw[List.size_toArray,← hl];exact h3) (by lia) (by rw[hk];exact⟨_,I',q⟩)
theorem uy (lo hi:Option Int) (n:Nat):(sliceBounds lo hi none n).1=((HT.sIx n 0 lo:Nat):Int)∧(sliceBounds lo hi none n).2.1=((HT.sIx n n hi:Nat):Int)∧(sliceBounds lo hi none n).2.2=1:=by
 refine⟨?_,?_,rfl⟩
 ·cases lo with
  | none=>simp[sliceBounds,HT.sIx]
  | some i=>
   simp only[sliceBounds,HT.sIx,Option.getD_none,show (1:Int) > 0 by decide,if_true]
   by_cases h:i<0
   ·simp only[h,if_true]<;>lia
   ·simp only[h,if_false]<;>lia
 ·cases hi with
  | none=>simp[sliceBounds,HT.sIx]
  | some i=>
   simp only[sliceBounds,HT.sIx,Option.getD_none,show (1:Int) > 0 by decide,if_true]
   by_cases h:i<0
   ·simp only[h,if_true]<;>lia
   ·simp only[h,if_false]<;>lia
theorem uz (its:List Value) (lo hi:Option Int):slicePick its.toArray lo hi none=((its.drop (HT.sIx its.length 0 lo)).take (HT.sIx its.length its.length hi - HT.sIx its.length 0 lo)).toArray:=by
 obtain⟨h1,h2,h3⟩:=uy lo hi its.toArray.size
 unfold slicePick
 rw[h1,h2,h3]
 simp only[sliceRange_one,pick_run,List.size_toArray]<;>rfl
noncomputable def uA (K:PySem.W.Frag):V→Option Int→Option Int→Hp→VK→Prop:=fun x lo hi H Q=>∃ a xs,x=.ref a∧SqL K H a xs∧∀ p,H p=none→Q (.ref p) (upd H p (.lst (dQ xs lo hi)))
theorem mZ:SlR X (uA X.K):=by
 intro pins s σ H x v vl vu lo hi sl Q I rx hs pl pu h
 obtain⟨a,xs,rfl,hx,q⟩:=h
 cases rx
 obtain⟨its,r,ht,hz⟩:=I.list hx
 have hlen:=r.length
 refine⟨"list",_,slot_list_getitem.lookup,ht.isList.typeIs,?_⟩
 refine wpAny_getItem_list_slice ht.isList hs pl pu .none (by simp) ?_ (by rw[List.size_toArray]<;>lia)
 rw[uz,← hlen]
 refine⟨.ref s.heap.objs.size,_,I.laid (t':=s.toks) (o:=.lst (dQ xs lo hi)) (fun b ob q=>Heap.get?_push_of_some _ q) (Nat.le_refl _) ?_,rfl,q _ (I.hok.fresh (Nat.le_refl _))⟩
 exact⟨Nat.le_trans (mV xs lo hi) hz,_,0,(r.drop (HT.sIx xs.length 0 lo)).take (HT.sIx xs.length xs.length hi - HT.sIx xs.length 0 lo),Heap.get?_push_size _ rfl⟩
theorem uB:aX X (.builtin "len") (fun xs H Q=>∃ p ys,xs=[.ref p]∧(SqL X.K H p ys∨SqT X.K H p ys)∧Q (.int ys.length) H):=by
 intro pins s σ H xs us Q I r h
 obtain⟨p,ys,rfl,hq,q⟩:=h
 obtain⟨u,rfl,rx⟩:=cg r
 cases rx
 have hn:=fM
 rcases hq with hq | hq
 ·obtain⟨its,r',pl,hz⟩:=I.list hq
  have hlen:=r'.length
  exact Calls.call_len_list pl.isList (by simp only[List.size_toArray]<;>lia) ⟨.int ys.length,H,I.tok _,⟨s.toks+1,by rw[List.size_toArray,hlen]⟩,q⟩
 ·obtain⟨its,r',pl,hz⟩:=I.tuple hq
  have hlen:=r'.length
  exact len_tuple pl (by simp only[List.size_toArray]<;>lia) ⟨.int ys.length,H,I.tok _,⟨s.toks+1,by rw[List.size_toArray,hlen]⟩,q⟩
theorem uD:aX X (.builtin "len") (fun xs H Q=>∃ z,xs=[.str z]∧z.length≤sizeLine∧Q (.int z.length) H):=by
 intro pins s σ H xs us Q I r h
 obtain⟨z,rfl,hz,q⟩:=h
 obtain⟨u,rfl,t,rfl⟩:=cg r
 have hn:=fM
 exact len_str (by lia) ⟨.int z.length,H,I.tok _,⟨_,rfl⟩,q⟩
theorem aX.or {f:Value}{r r':List V→Hp→VK→Prop} (h:aX X f r) (h':aX X f r'):aX X f (fun xs H Q=>r xs H Q∨r' xs H Q):=by
 intro pins s σ H xs us Q I rs q
 rcases q with q | q
 ·exact h pins s σ H xs us Q I rs q
 ·exact h' pins s σ H xs us Q I rs q
theorem uE:aX X (.type "list") (fun xs H Q=>∃ p ys,xs=[.ref p]∧(SqL X.K H p ys∨SqT X.K H p ys)∧∀ l,H l=none→Q (.ref l) (upd H l (.lst ys))):=by
 intro pins s σ H xs us Q I r h
 obtain⟨p,ys,rfl,hq,q⟩:=h
 obtain⟨u,rfl,rx⟩:=cg r
 cases rx
 have fin:∀ (its:List Value),am ys its→ys.length≤sizeLine→∀ (h':Heap) (c':Nat),(∀ b o',s.heap.get? b=some o'→h'.get? b=some o')→
   h'.get? s.heap.objs.size=some { cls:=.type "list",dict:=none,data:=.seq its.toArray c',slots:=#[] }→EP X pins σ Q (.ref s.heap.objs.size) { s with heap:=h' }:=fun its r' hz h' c' kp e=>
  ⟨.ref s.heap.objs.size,_,I.laid (t':=s.toks) kp (Nat.le_refl _) (show aW X.prog X.w _ h' _ (.lst ys) from ⟨hz,its,c',r',e⟩),rfl,q _ (I.hok.fresh (Nat.le_refl _))⟩
 rcases hq with hq | hq
 ·obtain⟨its,r',pl,hz⟩:=I.list hq
  have hlen:=r'.length
  obtain⟨o,ho,hc,n,hd⟩:=pl.isList
  exact call_list_seq p (.inl rfl) ho hc hd (fun h' c' kp e=>fin its r' hz h' c' kp e) (by simp only[List.size_toArray]<;>lia)
 ·obtain⟨its,r',pl,hz⟩:=I.tuple hq
  have hlen:=r'.length
  obtain⟨o,ho,hc,n,hd⟩:=pl
  exact call_list_seq p (.inr rfl) ho hc hd (fun h' c' kp e=>fin its r' hz h' c' kp e) (by simp only[List.size_toArray]<;>lia)
theorem uF:aX X (.type "tuple") (fun xs H Q=>∃ p ys,xs=[.ref p]∧((SqL X.K H p ys∧∀ l,H l=none→Q (.ref l) (upd H l (.tup ys)))∨(SqT X.K H p ys∧Q (.ref p) H))):=by
 intro pins s σ H xs us Q I r h
 obtain⟨p,ys,rfl,h⟩:=h
 obtain⟨u,rfl,rx⟩:=cg r
 cases rx
 rcases h with ⟨hq,q⟩ | ⟨hq,q⟩
 ·obtain⟨its,r',pl,hz⟩:=I.list hq
  have hlen:=r'.length
  refine call_tuple_list pl.isList (fun h' kp=>?_) (by simp only[List.size_toArray]<;>lia)
  have I1:Inv X pins σ H { s with heap:=h' }:=I.kept (t':=s.toks) kp
  have I2:Inv X pins σ (upd H h'.objs.size (.tup ys)) { s with heap:=h'.push { cls:=.type "tuple",data:=.seq its.toArray } }:=
   I1.laid (t':=s.toks) (fun b o e=>Heap.get?_push_of_some _ e) (Nat.le_refl _) (show aW X.prog X.w _ _ _ (.tup ys) from ⟨hz,its,r',IsTup.new _ _⟩)
  exact⟨.ref h'.objs.size,_,I2,rfl,q _ (I1.hok.fresh (Nat.le_refl _))⟩
 ·obtain⟨its,r',pl,hz⟩:=I.tuple hq
  exact call_tuple_same pl ⟨.ref p,H,I,rfl,q⟩
noncomputable def tyV (K:PySem.W.Frag) (T:String) (x:V) (H:Hp):Prop:=match x with
 | .str _=>T = "str"
 | .int _=>T = "int"
 | .ref p=>(T = "list" ∧ ∃ xs,SqL K H p xs)∨(T = "tuple" ∧ ∃ o,K.lookup p=some o∧o.cls=.type "tuple" ∧ o.dict=none)∨
   (T = "dict" ∧ ((∃ kvs,H p=some (.dK kvs))∨∃ kvs,H p=some (.dT kvs)))∨(T = "set" ∧ ∃ S n,H p=some (.set S n))
 | _=>False
theorem uG {pins:List (Addr×Obj)}{σ:St}{H:Hp}{s:Shared}{T:String}{x:V}{v:Value} (I:Inv X pins σ H s) (r:ao x v) (ty:tyV X.K T x H):
  s.TypeIs v T∧∀ a,v=.ref a→∃ ob,s.heap.get? a=some ob∧ob.dict=none:=by
 cases x with
 | str z=>
  obtain⟨t,rfl⟩:=r
  cases (show T = "str" from ty)
  exact⟨typeIs_str s z t,fun _ e=>nomatch e⟩
 | int i=>
  obtain⟨t,rfl⟩:=r
  cases (show T = "int" from ty)
  exact⟨typeIs_int s i t,fun _ e=>nomatch e⟩
 | ref p=>
  cases r
  rcases ty with ⟨rfl,xs,hq⟩ | ⟨rfl,o,hk,hc,hd⟩ | ⟨rfl,hk⟩ | ⟨rfl,S,n,hk⟩
  ·obtain⟨its,_,pl,_⟩:=I.list hq
   refine⟨pl.isList.typeIs,fun a e=>?_⟩
   cases e
   obtain⟨o,n,e,c,hd,_⟩:=pl
   exact⟨o,e,hd⟩
  ·refine⟨⟨o,I.kIn p o hk,hc⟩,fun a e=>?_⟩
   cases e
   exact⟨o,I.kIn _ o hk,hd⟩
  ·have z:∃ o,s.heap.get? p=some o∧o.ExactDict:=by
    rcases hk with ⟨kvs,hk⟩ | ⟨kvs,hk⟩
    ·obtain⟨_,_,_,_,o,_,_,e,ex,_⟩:=I.hok p _ hk
     exact⟨o,e,ex⟩
    ·obtain⟨_,_,_,_,o,_,_,e,ex,_⟩:=I.hok p _ hk
     exact⟨o,e,ex⟩
   obtain⟨o,e,ex⟩:=z
   refine⟨⟨o,e,ex.1⟩,fun a e2=>?_⟩
   cases e2
   exact⟨o,e,ex.2.1⟩
  ·obtain⟨o,_,_,_,e,ex,_⟩:=I.hok p _ hk
   refine⟨⟨o,e,ex.1⟩,fun a e2=>?_⟩
   cases e2
   exact⟨o,e,ex.2.1⟩
 | _=>exact False.elim ty
noncomputable def tBM (K:PySem.W.Frag) (T:String) (r:V→List V→Hp→VK→Prop) (to:TE) (t:TA):TE:=fun σ H Q=>to σ H fun x H1=>tyV K T x H1∧t σ H1 fun xs H2=>r x xs H2 Q
variable {o e:Expr}{es:List Expr}{to:TE}{t:TA}{name:Str}{apos cpos:Pos}{T id:String}{r:V→List V→Hp→VK→Prop}
theorem uH (pa:PlainAttrs T) (slot:Slot T name id) (hty:typeOf (.builtin id)=pure (.type "method_descriptor")) (hm:MtR X id r) (ho:PE X o to) (ha:PA X (e::es) t)
  (hbase:attributeBase o name X.env (eval o X.env)=eval o X.env:=by rfl)
  (hfew:((backTo cpos (starEach (e::es) X.env)).all (fun x=>!x.1) && (backToKw cpos (keywordEach [] X.env)).all (fun x=>x.1.isSome)
   && decide ((e::es).length+([]:List Keyword).length+(if ([]:List Keyword).isEmpty then 0 else 1)<30))=true:=by rfl)
  (hline:(apos.endLine == cpos.line)=true:=by rfl) (hs:starEach (e::es) X.env=(false,eval e X.env)::starEach es X.env:=by rfl) (hplain:(backTo cpos (starEach es X.env)).any (·.1)=false:=by rfl):
  PE X (.Call (.Attribute o name apos) (e::es) [] cpos) (tBM X.K T r to t):=by
 intro pins s σ H Q I h
 refine wpAny_Call_method_late hbase hfew hline rfl (thn (ho pins s σ H _ I h) fun v s1 ⟨x,H1,I1,r1,ty,q1⟩=>?_)
 obtain⟨h1,h2⟩:=uG I1 r1 ty
 refine⟨T,id,pa,slot,hty,h1,h2,?_⟩
 have hA:=ha cpos pins s1 σ H1 _ I1 q1
 rw[hs] at hA ⊢
 refine Calls.callWith_builtin (by show (false || (backTo cpos (starEach es X.env)).any (·.1))=false;rw[hplain]<;>rfl) (Calls.evalArgs_plain ?_)
 exact thn hA fun us s2 ⟨vs,H2,I2,r2,q2⟩=>hm pins s2 σ H2 x vs v us Q I2 r1 r2 q2
/- xs.append(e),list.index on a module's tuple .. are MtR facts of 06m -/
end
noncomputable def MtM (X:Cx) (id:String) (r:V→List V→Hp→VK→Prop):Prop:=
 ∀ (pins:List (Addr×Obj)) (s:Shared) (σ:St) (H:Hp) (x:V) (xs:List V) (v:Value) (us:List Value) (Q:VK),Inv X pins σ H s→ao x v→am xs us→r x xs H Q→
  wpAny (model X.prog X.w) X.A (call (.builtin id) (v::us)) (EP X pins σ Q) X.xe s
theorem am.one:∀ {x:V}{us:List Value},am [x] us→∃ u,us=[u]∧ao x u
 | _,_,.cons r .nil=>⟨_,rfl,r⟩
theorem am.reverse {xs:List V}{us:List Value} (h:am xs us):am xs.reverse us.reverse:=by
 induction h with
 | nil=>exact .nil
 | cons r t ih=>rw[List.reverse_cons,List.reverse_cons];exact am.append ih (.cons r .nil)
section
variable {X:Cx}{pins:List (Addr×Obj)}{σ:St}{H:Hp}{s:Shared}{l b:Addr}{xs ys zs:List V}
theorem Inv.lset {its its':List Value}{n:Nat}{f:Array Value→Array Value}{t':Nat} (I:Inv X pins σ H s) (hH:H l=some (.lst xs))
  (e:s.heap.get? l=some { cls:=.type "list",data:=.seq its.toArray n }) (hf:f its.toArray=its'.toArray) (hv:am ys its') (hz:ys.length≤sizeLine):
  Inv X pins σ (upd H l (.lst ys)) { s with heap:=s.heap.update l (Obj.mapSeq f),toks:=t' }:=by
 have q:=PySem.IsL.update e f
 rw[hf] at q
 refine I.write (x:=l) (e:=l) (by rw[hH];exact trivial) (.inl rfl) (fun b' u hb hu=>(Heap.get?_update_other s.heap (Obj.mapSeq f) (Ne.symm hb)).trans hu) ⟨_,q⟩ ?_
 exact⟨hz,its',_,hv,q⟩
theorem Inv.lnew {its:List Value}{t':Nat} (I:Inv X pins σ H s) (hv:am ys its) (hz:ys.length≤sizeLine):
  Inv X pins σ (upd H s.heap.objs.size (.lst ys)) { s with heap:=s.heap.push { cls:=.type "list",data:=.seq its.toArray },toks:=t' }:=
 I.laid (fun _ _ q=>Heap.get?_push_of_some _ q) (Nat.le_refl _) ⟨hz,its,0,hv,Heap.get?_push_size _ rfl⟩
theorem Inv.fresh (I:Inv X pins σ H s):H s.heap.objs.size=none:=I.hok.fresh (Nat.le_refl _)
theorem Inv.lstM (I:Inv X pins σ H s) (hH:H l=some (.lst xs)):xs.length≤sizeLine∧∃ (its:List Value) (n:Nat),am xs its∧xs.length=its.length∧s.heap.get? l=some { cls:=.type "list",data:=.seq its.toArray n }:=by
 obtain⟨z,its,n,r,e⟩:=I.hok l _ hH
 exact⟨z,its,n,r,r.length,e⟩
theorem zN {n:Nat} (h:n≤sizeLine):Builtin.List.listTooLong n=false:=by
 unfold Builtin.List.listTooLong
 exact decide_eq_false (by lia)
end
section
variable {X:Cx}
noncomputable def rAppend:V→List V→Hp→VK→Prop:=fun x vs H Q=>∃ l xs y,x=.ref l∧vs=[y]∧H l=some (.lst xs)∧xs.length<sizeLine∧Q .non (upd H l (.lst (xs++[y])))
theorem uI:MtM X "list.append" rAppend:=by
 intro pins s σ H x vs v us Q I rx rv h
 obtain⟨l,xs,y,rfl,rfl,hH,hz,q⟩:=h
 cases rx
 obtain⟨u,rfl,ru⟩:=rv.one
 obtain⟨z,its,n,r,hl,e⟩:=I.lstM hH
 refine call_meets F.slot_list_append ⟨_,e,rfl⟩ F.entry_list_append (F.args_list_append_2 _ _) (PySem.list_append l its.toArray n u (by rw[List.size_toArray];lia)) ⟨e,?_⟩
 refine⟨.non,_,I.lset (its':=its++[u]) hH e (by simp) (r.append (.cons ru .nil)) ?_,rfl,q⟩
 rw[List.length_append,List.length_singleton]
 lia
noncomputable def rCat:R2:=fun x y H Q=>∃ l b xs zs,x=.ref l∧y=.ref b∧H l=some (.lst xs)∧H b=some (.lst zs)∧xs.length+zs.length≤sizeLine∧∀ p,H p=none→Q (.ref p) (upd H p (.lst (xs++zs)))
theorem uJ:OpR X (binaryOp .Add) rCat:=by
 intro pins s σ H x y v u Q I rx ry h
 obtain⟨l,b,xs,zs,rfl,rfl,hH,hB,hz,q⟩:=h
 cases rx
 cases ry
 obtain⟨z,its,n,r,hl,e⟩:=I.lstM hH
 obtain⟨z2,its2,n2,r2,hl2,e2⟩:=I.lstM hB
 refine PySem.P.add_list e e2 ?_ (by rw[List.size_toArray,List.size_toArray];lia)
 have ea:its.toArray++its2.toArray=(its++its2).toArray:=by simp
 rw[ea]
 exact⟨.ref _,_,I.lnew (t':=s.toks) (r.append r2) (by rw[List.length_append];lia),rfl,q _ I.fresh⟩
end
section
variable {prog:Program}{w:World}{A:Around}{E:Value→Shared→Prop}{s:Shared}
end
section
variable {X:Cx}
end
section
variable {κ:Type} [DecidableEq κ]
noncomputable def bT (kvs:List (κ×V)) (k:κ):Option V:=(kvs.find? fun kv=>decide (kv.1=k)).map (·.2)
noncomputable def ci (kvs:List (κ×V)) (k:κ) (v:V):List (κ×V):=
 if (kvs.any fun kv=>decide (kv.1=k))=true then kvs.map (fun kv=>if kv.1=k then (kv.1,v) else kv) else kvs++[(k,v)]
theorem iH {p:κ×V}{r:List (κ×V)}{k:κ} (e:p.1=k):bT (p::r) k=some p.2:=by simp[bT,List.find?_cons,e]
theorem iJ {p:κ×V}{r:List (κ×V)}{k:κ} (e:¬ p.1=k):bT (p::r) k=bT r k:=by simp[bT,List.find?_cons,e]
theorem m5 (k:κ):∀ kvs:List (κ×V),(kvs.any fun kv=>decide (kv.1=k))=(bT kvs k).isSome
 | []=>rfl
 | p::r=>by
  rw[List.any_cons]
  by_cases e:p.1=k
  ·simp only[iH e,decide_eq_true e,Bool.true_or,Option.isSome_some]
  ·rw[iJ e,decide_eq_false e,Bool.false_or];exact m5 k r
theorem m6 (kvs:List (κ×V)) (k:κ) (v:V):(ci kvs k v).length≤kvs.length+1:=by
 unfold ci
 split
 ·rw[List.length_map];lia
 ·rw[List.length_append,List.length_cons,List.length_nil];lia
theorem c8.isSome_eq {o:Option V}{u:Option Value} (r:c8 o u):o.isSome=u.isSome:=by
 cases o with
 | none=>cases u with
  | none=>rfl
  | some _=>exact (show False from r).elim
 | some _=>cases u with
  | none=>exact (show False from r).elim
  | some _=>rfl
theorem KV.val {kvs:List (κ×V)}{vs:List (κ×Value)} (r:KV kvs vs) (k:κ):c8 (bT kvs k) (valueAt vs k):=by
 unfold KV at r
 induction r with
 | nil=>exact True.intro
 | @cons p q ps qs h t ih=>
  obtain⟨h1,h2⟩:=h
  by_cases e:p.1=k
  ·have e':q.1=k:=h1.symm.trans e
   have b:valueAt (q::qs) k=some q.2:=by simp[valueAt,List.find?_cons,e']
   rw[iH e,b];exact h2
  ·have e':¬ q.1=k:=fun z=>e (h1.trans z)
   have b:valueAt (q::qs) k=valueAt qs k:=by simp[valueAt,List.find?_cons,e']
   rw[iJ e,b];exact ih
theorem KV.any {kvs:List (κ×V)}{vs:List (κ×Value)} (r:KV kvs vs) (k:κ):(kvs.any fun kv=>decide (kv.1=k))=vs.any fun kv=>decide (kv.1=k):=by
 unfold KV at r
 induction r with
 | nil=>rfl
 | cons h t ih=>rw[List.any_cons,List.any_cons,ih,h.1]
theorem KV.repl {kvs:List (κ×V)}{vs:List (κ×Value)} (r:KV kvs vs) (k:κ) {y:V}{u:Value} (ry:ao y u):
  KV (kvs.map fun kv=>if kv.1=k then (kv.1,y) else kv) (vs.map fun kv=>if kv.1=k then (kv.1,u) else kv):=by
 unfold KV at r ⊢
 induction r with
 | nil=>exact .nil
 | @cons p q ps qs h t ih=>
  rw[List.map_cons,List.map_cons]
  refine .cons ?_ ih
  obtain⟨h1,h2⟩:=h
  by_cases e:p.1=k
  ·rw[if_pos e,if_pos (h1.symm.trans e)];exact⟨h1,ry⟩
  ·rw[if_neg e,if_neg (fun z=>e (h1.trans z))];exact⟨h1,h2⟩
theorem KV.put {kvs:List (κ×V)}{vs:List (κ×Value)} (r:KV kvs vs) (k:κ) {y:V}{u:Value} (ry:ao y u):KV (ci kvs k y) (stored vs k u):=by
 unfold ci stored
 rw[r.any k]
 by_cases e:(vs.any fun kv=>decide (kv.1=k))=true
 ·rw[if_pos e,if_pos e];exact r.repl k ry
 ·rw[if_neg e,if_neg e];exact Paired.snoc r ⟨rfl,ry⟩
theorem KV.length {kvs:List (κ×V)}{vs:List (κ×Value)} (r:KV kvs vs):kvs.length=vs.length:=Paired.length r
end
theorem jM {P:Program}{w:World}{k:Key}{u:Value} (r:ao (kV k) u):(dO P w).is k u=true:=by
 cases k with
 | inl i=>obtain⟨t,e⟩:=(show ∃ t,u=Value.int i t from r);subst e;exact rm P w i t
 | inr x=>obtain⟨t,e⟩:=(show ∃ t,u=Value.str x t from r);subst e;exact rn P w x t
noncomputable abbrev KT (H:Hp):List (List Im×V)→List (List Im×Addr×Value)→Prop:=Paired fun p q=>p.1=q.1∧KAd H p.1 q.2.1∧ao p.2 q.2.2
theorem KT.val {H:Hp}{kvs:List (List Im×V)}{xs:List (List Im×Addr×Value)} (r:KT H kvs xs) (k:List Im):c8 (bT kvs k) ((atKey xs k).map (·.2)):=by
 induction r with
 | nil=>exact True.intro
 | @cons p q ps qs h t ih=>
  obtain⟨h1,_,h2⟩:=h
  by_cases e:p.1=k
  ·have e':q.1=k:=h1.symm.trans e
   have b:atKey (q::qs) k=some q.2:=by simp[atKey,List.find?_cons,e']
   rw[iH e,b];exact h2
  ·have e':¬ q.1=k:=fun z=>e (h1.trans z)
   have b:atKey (q::qs) k=atKey qs k:=by simp[atKey,List.find?_cons,e']
   rw[iJ e,b];exact ih
theorem KT.repl {H:Hp}{kvs:List (List Im×V)}{xs:List (List Im×Addr×Value)} (r:KT H kvs xs) (k:List Im) {y:V}{u:Value} (ry:ao y u):
  KT H (kvs.map fun kv=>if kv.1=k then (kv.1,y) else kv) (xs.map (putAt k u)):=by
 induction r with
 | nil=>exact .nil
 | @cons p q ps qs h t ih=>
  rw[List.map_cons,List.map_cons]
  refine .cons ?_ ih
  obtain⟨h1,h2,h3⟩:=h
  unfold putAt
  by_cases e:p.1=k
  ·rw[if_pos e,if_pos (h1.symm.trans e)];exact⟨h1,h2,ry⟩
  ·rw[if_neg e,if_neg (fun z=>e (h1.trans z))];exact⟨h1,h2,h3⟩
theorem KT.put {H:Hp}{kvs:List (List Im×V)}{xs:List (List Im×Addr×Value)} (r:KT H kvs xs) (k:List Im) {b:Addr}{y:V}{u:Value} (hb:KAd H k b) (ry:ao y u):
  KT H (ci kvs k y) (storedH xs k b u):=by
 have e:(kvs.any fun kv=>decide (kv.1=k))=(atKey xs k).isSome:=by
  rw[m5,(r.val k).isSome_eq,Option.isSome_map]
 unfold ci storedH
 rw[e]
 by_cases q:(atKey xs k).isSome=true
 ·rw[if_pos q,if_pos q];exact r.repl k ry
 ·rw[if_neg q,if_neg q];exact Paired.snoc r ⟨rfl,hb,ry⟩
theorem KT.keeps {H H':Hp}{kvs:List (List Im×V)}{xs:List (List Im×Addr×Value)} (r:KT H kvs xs) (ht:∀ b ys,H b=some (.tup ys)→H' b=some (.tup ys)):KT H' kvs xs:=
 Paired.mapP r fun _ _ z=>⟨z.1,z.2.1.mono ht,z.2.2⟩
section
variable {P:Program}{w:World}{H:Hp}{h:Heap}{a:Addr}
theorem m7 {u:HO} (ok:HOk P w H h) (e:Rd H a u):aW P w H h a u:=e.ok ok
theorem gE {kvs:List (Key×V)} (ok:HOk P w H h) (e:Rd H a (.dK kvs)):kvs.length≤sizeLine∧(a == sysModules)=false∧∃ vs,KV kvs vs∧h.DictOf (dO P w) a vs:=
 show aW P w H h a (.dK kvs) from m7 ok e
theorem uK {kvs:List (Key×V)} (ok:HOk P w H h) (e:H a=some (.dK kvs)):kvs.length≤sizeLine∧(a == sysModules)=false∧∃ vs,KV kvs vs∧h.DictOf (dO P w) a vs:=gE ok (.inl e)
mutual
theorem IsI.imv (ok:HOk P w H h):∀ {d:Im}{v:V}{u:Value},IsI H d v→ao v u→ImV h d u
 | .non,_,_,e,r=>by cases (show _=V.non from e);exact r
 | .bl b,_,_,e,r=>by cases (show _=V.bl b from e);exact r
 | .int i,_,_,e,r=>by cases (show _=V.int i from e);exact r
 | .str x,_,_,e,r=>by cases (show _=V.str x from e);exact r
 | .fn a,_,_,e,r=>by cases (show _=V.ref a from e);exact r
 | .tup ds,_,_,e,r=>by
  obtain⟨a,xs,rfl,h1,h2⟩:=e
  cases r
  obtain⟨_,its,rv,o,g1,g2,n,g3⟩:=(show aW P w H h a (.tup xs) from ok a _ h1)
  exact⟨a,o,its.toArray,n,rfl,g1,g2,g3,by simpa using aj.imv ok h2 rv⟩
 | .fl ds,_,_,e,r=>by
  obtain⟨a,xs,o,rfl,h1,h2⟩:=e
  cases r
  exact⟨a,rfl⟩
 | .fd,_,_,e,r=>by
  obtain⟨a,o,rfl,h1⟩:=e
  cases r
  exact⟨a,rfl⟩
theorem aj.imv (ok:HOk P w H h):∀ {ds:List Im}{vs:List V}{us:List Value},aj H ds vs→am vs us→aD h ds us
 | [],_,_,e,r=>by cases (show _=[] from e);cases r;rfl
 | d::ds,_,_,e,r=>by
  obtain⟨v,t,rfl,h1,h2⟩:=e
  cases r with
  | cons r1 r2=>exact⟨_,_,rfl,IsI.imv ok h1 r1,aj.imv ok h2 r2⟩
end
theorem iK {ks:List Im} (ok:HOk P w H h) (e:KAd H ks a):(bh P w).is h ks a:=⟨e.1,e.2.imv ok rfl⟩
theorem jN {P:Program}{w:World}{A:Around} (h:A.units+20<cLine):(bh P w).room A.in1:=show A.units+1+10<cLine by lia
theorem iL {kvs:List (List Im×V)} (ok:HOk P w H h) (e:Rd H a (.dT kvs)):kvs.length≤sizeLine∧(a == sysModules)=false∧
  ∃ xs,KT H kvs xs∧h.DictOfH (bh P w) a xs:=by
 obtain⟨z,y,xs,r,o,es,ep,h1,h2,h3,h4,h5⟩:=(show aW P w H h a (.dT kvs) from m7 ok e)
 refine⟨z,y,xs,r,o,es,ep,h1,h2,h3,h4,fun x hx=>?_,h5⟩
 have all:∀ {l:List (List Im×V)}{m:List (List Im×Addr×Value)},KT H l m→∀ x∈m,(bh P w).is h x.1 x.2.1:=by
  intro l m q
  induction q with
  | nil=>intro x hx;exact nomatch hx
  | @cons p q ps qs hq t ih=>
   intro x hx
   rcases List.mem_cons.mp hx with e | hx
   ·subst e
    exact iK ok (by rw[← hq.1];exact hq.2.1)
   ·exact ih x hx
 exact all r x hx
theorem uL {kvs:List (List Im×V)} (ok:HOk P w H h) (e:H a=some (.dT kvs)):kvs.length≤sizeLine∧(a == sysModules)=false∧
  ∃ xs,KT H kvs xs∧h.DictOfH (bh P w) a xs:=iL ok (.inl e)
end
noncomputable def cj (H:Hp) (a:Addr) (y:V) (r:Option V):Prop:=
 (∃ kvs k,Rd H a (.dK kvs)∧y=kV k∧r=bT kvs k)∨∃ kvs k b,Rd H a (.dT kvs)∧y=.ref b∧KAd H k b∧r=bT kvs k
noncomputable def eJ (H:Hp) (a:Addr) (y v:V) (H':Hp):Prop:=
 (∃ kvs k,H a=some (.dK kvs)∧y=kV k∧kvs.length<sizeLine∧H'=upd H a (.dK (ci kvs k v)))∨
 ∃ kvs k b,H a=some (.dT kvs)∧y=.ref b∧KAd H k b∧kvs.length<sizeLine∧H'=upd H a (.dT (ci kvs k v))
theorem cj.k {H:Hp}{a:Addr}{kvs:List (Key×V)}{k:Key} (e:H a=some (.dK kvs)):cj H a (kV k) (bT kvs k):=.inl ⟨kvs,k,.inl e,rfl,rfl⟩
theorem cj.t {H:Hp}{a b:Addr}{kvs:List (List Im×V)}{k:List Im} (e:H a=some (.dT kvs)) (eb:KAd H k b):cj H a (.ref b) (bT kvs k):=.inr ⟨kvs,k,b,.inl e,rfl,eb,rfl⟩
theorem eJ.k {H:Hp}{a:Addr}{kvs:List (Key×V)}{k:Key}{v:V} (e:H a=some (.dK kvs)) (hl:kvs.length<sizeLine):eJ H a (kV k) v (upd H a (.dK (ci kvs k v))):=.inl ⟨kvs,k,e,rfl,hl,rfl⟩
theorem eJ.t {H:Hp}{a b:Addr}{kvs:List (List Im×V)}{k:List Im}{v:V} (e:H a=some (.dT kvs)) (eb:KAd H k b) (hl:kvs.length<sizeLine):
  eJ H a (.ref b) v (upd H a (.dT (ci kvs k v))):=.inr ⟨kvs,k,b,e,rfl,eb,hl,rfl⟩
section
variable {X:Cx}{pins:List (Addr×Obj)}{σ:St}{H:Hp}{s:Shared}{a:Addr}{y v:V}{u r:Value}{o:Option V}{A:Around}{E:Value→Shared→Prop}
theorem Inv.big (I:Inv X pins σ H s):sysModules<s.heap.objs.size:=by
 have h:mainGlobals<s.heap.objs.size:=(I.mod.glob.keeps I.bk).lt
 exact Nat.lt_trans (by decide) h
theorem uM {Q:Value→Shared→Prop} (hu:A.units+20<cLine) (I:Inv X pins σ H s) (g:cj H a y (some v)) (ry:ao y u) (h:∀ w' s',Inv X pins σ H s'→ao v w'→Q w' s'):
  wpAny (model X.prog X.w) A (getItem (.ref a) u) Q E s:=by
 rcases g with ⟨kvs,k,e,ey,l⟩ | ⟨kvs,k,b,e,ey,eb,l⟩
 ·subst ey
  obtain⟨z,hd,vs,rel,dd⟩:=gE I.hok e
  obtain⟨w',hw,rw'⟩:=c8.some_of (v:=v) (o:=valueAt vs k) (by rw[l];exact rel.val k)
  exact wpAny_getItem_of (jM ry) dd.mapOf hw (h w' _ (I.tok _) rw')
 ·subst ey
  cases (show u=Value.ref b from ry)
  obtain⟨z,hd,xs,rel,dd⟩:=iL I.hok e
  obtain⟨w',hw,rw'⟩:=c8.some_of (v:=v) (o:=(atKey xs k).map (·.2)) (by rw[l];exact rel.val k)
  obtain⟨p,hp,hp2⟩:=Option.map_eq_some_iff.mp hw
  refine wpAny_getItem_heap (jN hu) (iK I.hok eb) dd hp ?_
  rw[hp2]
  exact h w' _ (I.tok _) rw'
theorem jO {Q:Value→Shared→Prop} (hu:A.units+20<cLine) (I:Inv X pins σ H s) (g:cj H a y o) (ry:ao y u) (h:∀ s',Inv X pins σ H s'→Q (.bool o.isSome) s'):
  wpAny (model X.prog X.w) A (compareOp .In u (.ref a)) Q E s:=by
 rcases g with ⟨kvs,k,e,ey,l⟩ | ⟨kvs,k,b,e,ey,eb,l⟩
 ·subst ey
  obtain⟨z,hd,vs,rel,dd⟩:=gE I.hok e
  refine wpAny_in_of (jM ry) hd dd.mapOf ?_
  rw[← (rel.val k).isSome_eq,← l]
  exact h _ (I.tok _)
 ·subst ey
  cases (show u=Value.ref b from ry)
  obtain⟨z,hd,xs,rel,dd⟩:=iL I.hok e
  refine wpAny_in_heap (jN hu) (iK I.hok eb) hd dd ?_
  have q:=(rel.val k).isSome_eq
  rw[Option.isSome_map] at q
  rw[← q,← l]
  exact h _ (I.tok _)
theorem m8 {h':Heap}{t':Nat}{ob:HO} (I:Inv X pins σ H s) (mu:Mut (H a)) (hs:Heap.SameBut a s.heap h') (he:∃ q,h'.get? a=some q) (new:aW X.prog X.w (upd H a ob) h' a ob):
  Inv X pins σ (upd H a ob) { s with heap:=h',toks:=t' }:=
 I.write (x:=a) (e:=a) mu (.inl rfl) (fun b q hb z=>(hs.2 b hb).trans z) he new
theorem uN {P:Program}{w:World}{H':Hp}{h':Heap}{kvs:List (Key×V)}{vs:List (Key×Value)} (z:kvs.length≤sizeLine) (hd:(a == sysModules)=false) (rel:KV kvs vs) (dd:h'.DictOf (dO P w) a vs):
  aW P w H' h' a (.dK kvs):=⟨z,hd,vs,rel,dd⟩
theorem m9 {H':Hp}{Q:Unit→Shared→Prop} (hu:A.units+20<cLine) (I:Inv X pins σ H s) (g:eJ H a y v H') (ry:ao y u) (rv:ao v r) (h:∀ s',Inv X pins σ H' s'→Q () s'):
  wpAny (model X.prog X.w) A (setItem (.ref a) u r) Q E s:=by
 rcases g with ⟨kvs,k,e,ey,l,eH⟩ | ⟨kvs,k,b,e,ey,eb,l,eH⟩
 ·subst ey eH
  obtain⟨z,hd,vs,rel,dd⟩:=uK I.hok e
  have hz:vs.length≤sizeLine:=by rw[← rel.length];exact z
  have hl:(ci kvs k v).length≤sizeLine:=by have:=m6 kvs k v;lia
  refine wpAny_setItem_pairs (hsz:=hz) (jM ry) dd fun h' dd' hs=>h _ ?_
  have he:∃ q,h'.get? a=some q:=let ⟨q,_,_,hq,_⟩:=dd';⟨q,hq⟩
  exact m8 I (by rw[e];exact True.intro) hs he (uN hl hd (rel.put k rv) dd')
 ·subst ey eH
  cases (show u=Value.ref b from ry)
  obtain⟨z,hd,xs,rel,dd⟩:=uL I.hok e
  have hz:xs.length≤sizeLine:=by rw[← Paired.length rel];exact z
  have hl:(ci kvs k v).length≤sizeLine:=by have:=m6 kvs k v;lia
  refine wpAny_setItem_heap (hsz:=hz) (jN hu) (iK I.hok eb) dd fun h' dd' hs=>h _ ?_
  obtain⟨q,es,ep,hq,h2,h3,h4,_,h5⟩:=dd'
  refine m8 I (by rw[e];exact True.intro) hs ⟨q,hq⟩ ⟨hl,hd,_,(rel.put k eb rv).keeps fun c ys ec=>?_,q,es,ep,hq,h2,h3,h4,h5⟩
  rw[aA (rp ec e (fun z=>nomatch z))]
  exact ec
end
section
variable {X:Cx}{pins:List (Addr×Obj)}{σ:St}{H:Hp}{s:Shared}{a:Addr}{kvs:List (Key×V)}{k:Key}{u:Value}{A:Around}{E:Value→Shared→Prop}
theorem uO {Q:Value→Shared→Prop} (I:Inv X pins σ H s) (e:Rd H a (.dK kvs)) (h:∀ t s',Inv X pins σ H s'→Q (.int kvs.length t) s'):wpAny (model X.prog X.w) A (call (.builtin "len") [.ref a]) Q E s:=by
 obtain⟨z,hd,vs,rel,dd⟩:=gE I.hok e
 refine call_len_dict hd dd (by rw[← rel.length];rw[sizeLine_eq] at z;lia) ?_
 rw[← rel.length]
 exact h _ _ (I.tok _)
end
theorem uP {X:Cx}{pins:List (Addr×Obj)}{σ:St}{H:Hp}{s:Shared}{a:Addr}{y:V}{o:Option V} (I:Inv X pins σ H s) (g:cj H a y o):s.TypeIs (.ref a) "dict" := by
 rcases g with ⟨kvs,k,e,_,_⟩ | ⟨kvs,k,b,e,_,_,_⟩
 ·obtain⟨_,_,vs,_,dd⟩:=gE I.hok e
  exact dd.typeIs
 ·obtain⟨_,_,xs,_,dd⟩:=iL I.hok e
  exact dd.typeIs
section
variable {X:Cx}{o i e value:Expr}{pos pos' tpos:Pos}{td ty tv:TE}
end
theorem uQ {P:Program}{w:World}{H:Hp} (h:Heap) (hb:sysModules<h.objs.size):aW P w H (h.push { cls:=.type "dict",data:=.dict #[] }) h.objs.size (.dT []):=
 ⟨Nat.zero_le _,beq_eq_false_iff_ne.mpr (Ne.symm (Nat.ne_of_lt hb)),[],.nil,_,#[],0,Heap.get?_push_size _ rfl,⟨rfl,rfl,rfl⟩,rfl,rfl,List.nodup_nil⟩
noncomputable def tDNewT:TE:=fun _ H Q=>∀ p,H p=none→Q (.ref p) (upd H p (.dT []))
section
variable {X:Cx}{pos:Pos}
theorem uR:PE X (.Dict [] [] pos) tDNewT:=fun pins s σ H Q I h=>
 wpAny_Dict_empty ⟨.ref s.heap.objs.size,_,I.laid (a:=s.heap.objs.size) (o:=.dT []) (t':=s.toks) (fun _ _ q=>Heap.get?_push_of_some _ q) (Nat.le_refl _) (uQ s.heap I.big),rfl,h _ (I.hok.fresh (Nat.le_refl _))⟩
end
section
variable {X:Cx}{pins:List (Addr×Obj)}{σ:St}{H:Hp}{s:Shared}{a:Addr}{y d:V}{u r:Value}{o:Option V}{A:Around}{E:Value→Shared→Prop}
end
section
variable {X:Cx}{o e f:Expr}{apos cpos:Pos}{td ty tx:TE}
end
section
variable {X:Cx}{pins:List (Addr×Obj)}{σ:St}{H:Hp}{s:Shared}{a:Addr}{kvs:List (Key×V)}{A:Around}{E:Value→Shared→Prop}
end
section
variable {X:Cx}{pins:List (Addr×Obj)}{σ:St}{H:Hp}{s:Shared}{a:Addr}{y:V}{u:Value}{A:Around}{E:Value→Shared→Prop}
end
end L2
namespace Att
open PySem PySem.W PySem.Calls PyProof.Rows
theorem uS {P:Params}{h:Heap}:∀ (ns:List Int) (vs:List Value),WellAll P h vs (ns.map WData.int)→IntsAre vs ns:=by
 intro ns
 induction ns with
 | nil=>
  intro vs w
  rw[List.map_nil] at w
  cases w
  exact .nil
 | cons n ns ih=>
  intro vs w
  rw[List.map_cons] at w
  cases w with
  | cons a b=>
   cases a
   exact .cons _ _ (ih _ b)
theorem uT {l:OpenLaw}{n:Nat} (hn:l.most=some n) {P:Params}{h:Heap}{args:List WData}{vals:List Value}
  (hpre:l.row.toRowW.claim.pre args=true) (hwl:WellAll P h vals args):
  ∃ a vs ns,vals=[Value.ref a]∧args=[WData.list (ns.map WData.int)]∧h.get? a=some { cls:=.type "list",data:=.seq vs.toArray }∧IntsAre vs ns∧ns.length≤n:=by
 have hsh:WShape.hasAll [] args [.list .int]=true:=(pre_splitW hpre).1
 have hc:l.pre.holds [] { args:=args }=true:=(pre_splitW hpre).2
 obtain⟨d,r,rfl,h1,h2⟩:=hasAllW_cons hsh
 obtain rfl:=hasAllW_nil h2
 obtain⟨xs,rfl,h3⟩:=hasW_list h1
 obtain⟨ns,rfl⟩:=items_int h3
 have hlen:ns.length≤n:=by
  unfold OpenLaw.pre at hc
  have h4:(WTm.not (.lt (.lit (.int (n:Int))) (.len (.arg 0)))).holds [] { args:=[.list (ns.map .int)] }=true:=by
   have h4:=(holds_andW hc).1
   rw[hn] at h4
   exact h4
  have h5:=condW_of h4 (w_not (w_lt w_lit (w_len_list (w_arg rfl))))
  rw[List.length_map] at h5
  refine Nat.le_of_not_lt fun q=>?_
  have q':(n:Int)<((ns.length:Nat):Int):=by lia
  first
   | (rw[decide_eq_true q'] at h5;exact absurd h5 (by decide))
   | (simp at h5;lia)
 cases hwl with
 | cons w1 w2=>
  cases w2
  cases w1 with
  | list ho hall=>exact⟨_,_,ns,rfl,rfl,ho,uS ns _ hall,hlen⟩
theorem uU (l:OpenLaw) (args:List WData):l.row.toRowW.claim.post args (.bool true) args=true:=
 postW_of (r:=l.row.toRowW) (X:=(true == true))
  (show WShape.has [] (.bool true) .bool=true by first | rfl | decide | simp[WShape.has,WShape.arms,WShape.armsAll])
  (show (WTm.eq .res (.lit (.bool true))).value [] { args:=args,res:=some (.bool true),after:=args }=some (.bool (true == true)) from w_eq_bool (w_res rfl) w_lit) rfl
theorem attach_call {l:OpenLaw}{n:Nat}{q:Program}{loose:List Str}{XP:(Str→Option Value)→Heap→Prop}{YP:World→Heap→Prop}{d:DefRec}
  (hn:l.most=some n) (hdf:d.params.defaults=[])
  (call:∀ (w:World) (s₀ s₁:Shared) (mg mb:Str→Option Value) (fa:Addr) (o:Obj) (pm cd doc:Value) (a:Addr) (vs:List Value) (ns:List Int),
   Ground q loose [] XP w s₀ mg mb s₁.heap→YP w s₁.heap→
   s₁.heap.get? fa=some o→o.data=.func (docDef d.name d.params d.body d.scope pm cd doc)→s₁.heap.CodeRec cd d.name→mg d.name=some (.ref fa)→
   s₁.heap.get? a=some { cls:=.type "list",data:=.seq vs.toArray }→IntsAre vs ns→ns.length≤n→s₁.gens=#[]→
   codeAny (model l.prog w) callerA (.call (.ref fa) ⟨[.ref a],[]⟩) (fun r s'=>r=.ok (.ret (.bool true))∧OldK s₁.heap s'.heap∧s'.os=s₁.os∧AllBare s'.gens) s₁):
  WalkO q loose XP YP l.row.toRowW d [] (fun f vs=>PySem.call f vs):=by
 intro w s₀ s₁ mg mb G Y fa o pm cd doc dV kV ho hd hcd hD hmg hg args vals as hpre hlay hrd hwl hlo
 obtain rfl:dV=.none:=Dflts.none hD hdf
 obtain rfl:kV=.none:=Dflts.noKw hD
 obtain⟨a,vs,ns,rfl,rfl,hobj,hints,hlen⟩:=uT hn hpre hwl
 refine enter_call (codeAny_mono (call w s₀ s₁ mg mb fa o pm cd doc a vs ns G Y ho (fd_plain hd) hcd hmg hobj hints hlen hg) fun r s' hq=>?_)
 obtain⟨rfl,h2,h3,h4⟩:=hq
 exact⟨.inl ⟨.bool true,.bool true,[],rfl,fun _=>rfl,.bool true,uU l _,fun _=>⟨List.Pairwise.nil,fun _ hm=>(nomatch hm)⟩⟩,h2,h3,h4⟩
section
variable {prog:Program}{w:World}{A:Around}{E:Value→Shared→Prop}{s:Shared}{K:Frag}
end
end Att
namespace L2
open PySem PySem.Spec PyProof.Rows
theorem ng:∀ {vs:List Value}{ns:List Int},IntsAre vs ns→am (ns.map V.int) vs
 | _,_,.nil=>.nil
 | _,_,.cons n t h=>.cons ⟨t,rfl⟩ (ng h)
noncomputable def iM (H:Hp):Prop:=∀ b,H b=none∨∃ o xs,H b=some (.frz o (.lst xs))
theorem uV {P:Program}{w:World}{K:PySem.W.Frag}{mg mb:Str→Option Value}{CX:CXT}{k:Nat}{fa a:Addr}{fd:FuncData}{x:Str}{sp:Sp}{s₁:Shared}{vs:List Value}{ns:List Int}
  (KX:K.In s₁.heap) (hns:s₁.heap.Ns mainGlobals mg) (hb:s₁.heap.Ns builtinsNs mb) (hbb:∀ x:Str,x ≠ "__name__" → mb x=bootBuiltins x) (hlim:s₁.heap.NoLimit) (hg:s₁.gens=#[])
  (ha:s₁.heap.get? a=some { cls:=.type "list",data:=.seq vs.toArray }) (hi:IntsAre vs ns) (hl:ns.length≤sizeLine) (hr:Room k callerA)
  (F:∀ base:Heap,K.In base→base.Ns mainGlobals mg→FnOk P w K mg base CX k fa fd [x] sp) (hbind:∀ (s:Shared) (u:Value),BindsTo s fd ⟨[u],[]⟩ [(x,u)])
  (hsp:∀ H:Hp,iM H→SqL K H a (ns.map V.int)→sp [.ref a] H (fun v _=>v=.bl true) fun _ _ _=>False)
  (hCX:∀ H e s',CX [] H s₁ (fun _ _ _=>False) e s'→False):
  codeAny (model P w) callerA (.call (.ref fa) ⟨[.ref a],[]⟩) (fun r s'=>r=.ok (.ret (.bool true))∧OldK s₁.heap s'.heap∧s'.os=s₁.os∧AllBare s'.gens) s₁:=by
 have rv:=ng hi
 have lenV:=hi.length
 -- from an abstract heap in which nothing but the script may be tracked
 have core:∀ H:Hp,iM H→SqL K H a (ns.map V.int)→HOk P w H s₁.heap→(∀ b,H b≠none→b=a)→(H a≠none→K.lookup a=none)→
   codeAny (model P w) callerA (.call (.ref fa) ⟨[.ref a],[]⟩) (fun r s'=>r=.ok (.ret (.bool true))∧OldK s₁.heap s'.heap∧s'.os=s₁.os∧AllBare s'.gens) s₁:=by
  intro H hO hS hok hA hK
  have base_of:∀ {b:Addr}{o:Obj},s₁.heap.get? b=some o→H b=none→(dw s₁.heap H).get? b=some o:=fun e n=>rz e n
  have noA:∀ {b:Addr}{o:Obj}{es:Array DictEntry}{ep:Nat},s₁.heap.get? b=some o→o.data=.dict es ep→H b=none:=fun {b o es ep} e d=>by
   cases q:H b with
   | none=>rfl
   | some u=>
    have e':b=a:=hA b (by rw[q];simp)
    subst e'
    rw[ha] at e;cases e
    have d':Data.seq vs.toArray _=Data.dict es ep:=d
    cases d'
  have nsK:∀ {b:Addr}{m:Str→Option Value},s₁.heap.Ns b m→(dw s₁.heap H).Ns b m:=fun {b m} ⟨o,es,ep,e,d,r⟩=>⟨o,es,ep,base_of e (noA e d),d,r⟩
  have hKb:K.In (dw s₁.heap H):=fun b o e=>base_of (KX b o e) (by
   cases q:H b with
   | none=>rfl
   | some u=>
    have e':b=a:=hA b (by rw[q];simp)
    subst e'
    rw[hK (by rw[q];simp)] at e;cases e)
  have hM:Mod K mg (dw s₁.heap H):=⟨hKb,nsK hns,⟨mb,nsK hb,hbb⟩,let ⟨mc,h1,h2⟩:=hlim;⟨mc,nsK h1,h2⟩⟩
  have e0:Env0 P w K mg (dw s₁.heap H) callerA [] s₁ H:=⟨rfl,hM,fun b o e=>rA e,Nat.le_of_eq (rq _ _),trivial,fun b hb=>absurd (show b∈([]:List Addr) from hb) (by simp),hok,.of_eq hg⟩
  refine codeAny_mono ((F _ hKb (nsK hns)).run callerA [] s₁ H ⟨[.ref a],[]⟩ [.ref a] [.ref a] _ _ hr e0 (hbind s₁ (.ref a)) (.cons rfl .nil) (hsp H hO hS)) fun r s' h=>?_
  cases r with
  | error e=>exact (hCX H e s' h).elim
  | ok fl=>
   cases fl with
   | next=>exact False.elim h
   | brk=>exact False.elim h
   | cont=>exact False.elim h
   | ret u=>
    obtain⟨v,H',os,bare,un,hok',r',q⟩:=h
    have q':v=.bl true:=q
    subst q'
    obtain rfl:u=Value.bool true:=r'
    refine⟨rfl,OldK.of_keep fun b o e=>?_,os,bare⟩
    cases q:H b with
    | none=>exact un.keep b o e q (by intro z;exact absurd (show b∈([]:List Addr) from z) (by simp)) (by simp)
    | some u=>
     rcases hO b with z | ⟨ob,xs,z⟩
     ·rw[q] at z;cases z
     ·have z2:=un.frzs b ob _ z
      obtain⟨e1,_⟩:=hok b _ z
      obtain⟨e2,_⟩:=hok' b _ z2
      rw[e] at e1;cases e1
      exact e2
 cases hk:K.lookup a with
 | some o=>
  -- the script is one of the module's own objects
  have e:=KX a o hk
  rw[ha] at e
  cases e
  refine core (fun _=>none) (fun _=>.inl rfl) (.inr ⟨_,vs.toArray,_,hk,rfl,rfl,rfl,by rw[List.size_toArray,lenV];exact hl,by simpa using rv⟩) (fun b u z=>by have z':(none:Option HO)=some u:=z;cases z') (fun b z=>absurd rfl z) fun z=>absurd rfl z
 | none=>
  refine core (fun b=>if b=a then some (.frz { cls:=.type "list",data:=.seq vs.toArray } (.lst (ns.map V.int))) else none) (fun b=>?_) (.inl (.inr ⟨{ cls:=.type "list",data:=.seq vs.toArray },if_pos rfl⟩)) (fun b u z=>?_) (fun b z=>?_) fun _=>hk
  ·by_cases hb:b=a
   ·exact .inr ⟨_,_,if_pos hb⟩
   ·exact .inl (if_neg hb)
  ·by_cases hb:b=a
   ·have z':=(if_pos hb).symm.trans z
    cases z'
    subst hb
    exact⟨ha,by rw[List.length_map];exact hl,vs,_,rv,ha⟩
   ·have z':=(if_neg hb).symm.trans z
    cases z'
  ·by_cases hb:b=a
   ·exact hb
   ·exact absurd (if_neg hb) z
theorem uW {l:PySem.W.OpenLaw}{n k:Nat}{q:Program}{loose:List Str}{XP:(Str→Option Value)→Heap→Prop}{YP:World→Heap→Prop}{d:DefRec}{K:Params→PySem.W.Frag}{CX:World→CXT}{sp:World→Sp}{x:Str}
  (hn:l.most=some n) (hn2:n≤sizeLine) (hdf:d.params.defaults=[]) (hr:Room k callerA)
  (hY:∀ (w:World) (h:Heap),YP w h→(K w.params).In h)
  (F:∀ (w:World) (mg:Str→Option Value) (fa:Addr) (h:Heap),(K w.params).In h→h.Ns mainGlobals mg→mg d.name=some (.ref fa)→
   ∃ fd:FuncData,(∀ (s:Shared) (u:Value),BindsTo s fd ⟨[u],[]⟩ [(x,u)])∧
    ∀ base:Heap,(K w.params).In base→base.Ns mainGlobals mg→FnOk l.prog w (K w.params) mg base (CX w) k fa fd [x] (sp w))
  (hsp:∀ (w:World) (H:Hp) (a:Addr) (ns:List Int),ns.length≤n→iM H→SqL (K w.params) H a (ns.map V.int)→sp w [.ref a] H (fun v _=>v=.bl true) fun _ _ _=>False)
  (hCX:∀ (w:World) (H:Hp) (s:Shared) (e:Value) (s':Shared),CX w [] H s (fun _ _ _=>False) e s'→False):
  PySem.W.WalkO q loose XP YP l.row.toRowW d [] (fun f vs=>PySem.call f vs):=by
 refine Att.attach_call hn hdf fun w s₀ s₁ mg mb fa o pm cd doc a vs ns G Y ho hd hcd hmg hobj hints hlen hg=>?_
 have KX:=hY w _ Y
 obtain⟨fd,hb,hF⟩:=F w mg fa _ KX G.T.g hmg
 exact uV KX G.T.g G.T.b G.T.builtins G.T.nolimit hg hobj hints (Nat.le_trans hlen hn2) hr hF hb (fun H hO hS=>hsp w H a ns hlen hO hS) fun H e s'=>hCX w H s₁ e s'
noncomputable def bo (s:Stmt):Arguments:=match s with
 | .FunctionDef _ a _ _ _ _ _ _ _ _=>a
 | _=>{ posonlyargs:=[],args:=[],vararg:=none,kwonlyargs:=[],kw_defaults:=[],kwarg:=none,defaults:=[] }
noncomputable def bd (s:Stmt):List Stmt:=match s with
 | .FunctionDef _ _ b _ _ _ _ _ _ _=>b
 | _=>[]
noncomputable def az (s:Stmt):Scope:=match s with
 | .FunctionDef _ _ _ _ _ _ sc _ _ _=>sc
 | _=>{ kind:=.function,names:=[],isGenerator:=false,isCoroutine:=false }
noncomputable abbrev CX0:CXT:=fun _ _ _ _ _ _=>False
noncomputable abbrev E0:XK:=fun _ _ _=>False
theorem nh {X:Cx}:iG CX0 X E0:=fun _ _ _ _ _ _ _ h=>h.elim
structure Fun (K:PySem.W.Frag) (x qual:Str) (st:Stmt) (f:Addr) (fd:FuncData):Prop where
 ex:∃ (oc:Value) (od:Option Addr) (kV doc pm:Value) (an:Option Addr) (cdv ct:Value) (osl:Array (Option Value)),
  fd=PySem.W.fnOf x qual (bo st) (bd st) (az st) .none kV doc pm an cdv ct∧K.lookup f=some ⟨oc,od,.func fd,osl⟩∧PySem.W.codeIn K cdv qual=true
 kp:PySem.W.keepIn K (.ref f)=true
section
variable {P:Program}{w:World}{K:PySem.W.Frag}{mg:Str→Option Value}{base:Heap}
theorem Fun.ok {x qual:Str}{st:Stmt}{f:Addr}{fd:FuncData}{N ps:List Str}{k:Nat}{sp:Sp} (F:Fun K x qual st f fd) (S:FnScope N ps (az st)) (len:∀ vs H Q E,sp vs H Q E→vs.length=ps.length)
  (hbody:∀ (cdv:Value) (A:Around) (outer:List Env) (s:Shared) (H:Hp) (vs:List V) (Q:VK) (E:XK),Room k (A.deeper (envOfC qual (az st) s.heap.objs.size f cdv))→sp vs H Q E→
   ∃ t,PSs (eI CX0 P w K mg base N qual (az st) f cdv A outer s H E).nox (bd st) t∧t { nx:=fun _ H'=>Q .non H',rt:=Q } (c9 N vs) H):FnOk P w K mg base CX0 (k+1) f fd ps sp:=by
 obtain⟨oc,od,kV,doc,pm,an,cdv,ct,osl,rfl,lk,hcd⟩:=F.ex
 refine tZ lk hcd S len fun A outer s H vs Q E hr hsp=>?_
 obtain⟨t,h,q⟩:=hbody cdv A outer s H vs Q E hr hsp
 exact⟨t,h.nox,q⟩
theorem Fun.binds {x qual:Str}{st:Stmt}{f:Addr}{fd:FuncData}{ps:List Str} (F:Fun K x qual st f fd)
  (h:∀ (kV doc pm:Value) (an:Option Addr) (cdv ct:Value) (us:List Value),us.length=ps.length→bindArgs (PySem.W.fnOf x qual (bo st) (bd st) (az st) .none kV doc pm an cdv ct) ⟨us,[]⟩=pure (ps.zip us)):aT K fd ps []:=by
 obtain⟨oc,od,kV,doc,pm,an,cdv,ct,osl,rfl,lk,hcd⟩:=F.ex
 exact .all (h kV doc pm an cdv ct)
theorem cu {x qual:Str}{st:Stmt}{f:Addr}{oc:Value}{od an:Option Addr}{osl:Array (Option Value)}{kV doc pm cdv ct:Value} (l:K.lookup f=some ⟨oc,od,.func (PySem.W.fnOf x qual (bo st) (bd st) (az st) .none kV doc pm an cdv ct),osl⟩)
  (c:PySem.W.codeIn K cdv qual=true) (k:PySem.W.keepIn K (.ref f)=true):Fun K x qual st f (PySem.W.fnOf x qual (bo st) (bd st) (az st) .none kV doc pm an cdv ct):=⟨⟨oc,od,kV,doc,pm,an,cdv,ct,osl,rfl,l,c⟩,k⟩
end
section
variable {X:Cx}
theorem pv (i:Nat) {x:Str}{pos:Pos} (hN:X.N[i]?=some x:=by rfl) (hv:Vis X.env.scope x:=by first | exact Or.inl rfl | exact Or.inr (Or.inl rfl) | exact Or.inr (Or.inr rfl)) (hd:(x == ("__debug__" : Str))=false:=by decide)
  (hcd:(x == ("__classdict__" : Str))=false:=by decide):PE X (.Name x pos) (eF i):=rE hN hv hd hcd
end
noncomputable def ax (H H':Hp):Prop:=∀ b o,H b=some o→H' b=some o
theorem ax.refl (H:Hp):ax H H:=fun _ _ h=>h
end L2
namespace L2
section
variable {X:Cx}
theorem uX:aX X (.builtin "len") (fun xs H Q=>∃ a kvs,xs=[V.ref a]∧H a=some (.dK kvs)∧Q (.int kvs.length) H):=by
 intro pins s σ H xs us Q I r h
 obtain⟨a,kvs,rfl,ha,q⟩:=h
 obtain⟨u,rfl,ru⟩:=cg r
 cases ru
 exact uO I (.inl ha) fun t s' I'=>⟨.int kvs.length,H,I',⟨t,rfl⟩,q⟩
end
section
variable {κ:Type} [DecidableEq κ]
end
end L2
namespace L2
open PySem PySem.Spec PyProof.Rows
theorem uY {prog:Program}{w:World}{A:Around}{R:Result→Shared→Prop}{s:Shared}{elt target iter:Expr}{ifs:List Expr}{scope:Scope}{pos:Pos}{it acc:Value}{env:Env} (I:Nat→Shared→Prop)
  (turn:∀ n s,I n s→wpAny (model prog w) A (pyNext it) (fun r s₁=>match r with
   | none=>R (.ok .next) s₁
   | some v=>wpAny (model prog w) A (letOwnedTupleGo target it v) (fun _ s₁=>wpAny (model prog w) A (assign target env v) (fun _ s₂=>
     wpAny (model prog w) A (forIn ifs true fun c r=>if r=true then do let ok ← isTrue c env (eval c env);pure (ForInStep.yield ok) else pure (ForInStep.yield r)) (fun ok s₃=>
      if ok=true then wpAny (model prog w) A (eval elt env) (fun x s₄=>
       wpAny (model prog w) A (call (.builtin "list.append") [acc,x]) (fun _ s₅=>∃ m,m<n∧I m s₅) (fun _ _=>False) s₄) (fun _ _=>False) s₃
      else ∃ m,m<n∧I m s₃) (fun _ _=>False) s₂) (fun _ _=>False) s₁) (fun _ _=>False) s₁) (fun _ _=>False) s)
  (n:Nat) (h:I n s):
  codeAny (model prog w) A (.compLoop (.ListComp elt [⟨target,iter,ifs,0⟩] scope pos) 0 it acc env) R s:=by
 refine codeAny_loop rfl I (fun n s hI=>?_) n h
 show wpAny _ A ((compTurn (.ListComp elt [⟨target,iter,ifs,0⟩] scope pos) 0 it acc env).onRaise (fun x=>do noteFrame x env;theTreesLotGoes x)) _ _ s
 refine wpAny_noted ?_
 rw[compTurn_list]
 refine wpAny_bind (wpAny_standAt (wpAny_bind (wpAny_mono (turn n s hI) (fun r s₁ h₁=>?_) fun _ _ h'=>h'.elim)))
 cases r with
 | none=>exact wpAny_pure h₁
 | some v=>
  refine wpAny_bind (wpAny_mono h₁ (fun _ s₁ h₁=>?_) fun _ _ h'=>h'.elim)
  refine wpAny_bind (wpAny_mono h₁ (fun _ s₂ h₂=>wpAny_bind (wpAny_mono h₂ (fun ok s₃ h₃=>?_) fun _ _ h'=>h'.elim)) fun _ _ h'=>h'.elim)
  cases ok with
  | false=>exact wpAny_pure ⟨rfl,h₃⟩
  | true=>
   exact wpAny_bind (wpAny_bind (wpAny_mono h₃ (fun x s₄ h₄=>wpAny_bind (wpAny_mono h₄ (fun _ s₅ h₅=>wpAny_pure (wpAny_pure ⟨rfl,h₅⟩)) fun _ _ h'=>h'.elim)) fun _ _ h'=>h'.elim))
noncomputable def eM (env:Env) (names:List (Str×NameKind)):List (Str×Addr):=names.foldl (fun cs y=>if y.2 == .free then (y.1,(env.cells.lookup y.1).getD 0)::cs else cs) []
theorem jP {env:Env}:∀ (names:List (Str×NameKind)) (cs:List (Str×Addr)),(∀ y∈names,y.2=.free→∃ c,env.cells.lookup y.1=some c)→
  (forIn names cs fun (y:Str×NameKind) cs=>if y.2 == .free then (do let c ← cellOf env y.1;pure (ForInStep.yield ((y.1,c)::cs))) else pure (ForInStep.yield cs):Sem _)=
   pure (names.foldl (fun cs y=>if y.2 == .free then (y.1,(env.cells.lookup y.1).getD 0)::cs else cs) cs)
 | [],cs,_=>rfl
 | y::r,cs,h=>by
  rw[List.forIn_cons,List.foldl_cons]
  by_cases hy:y.2=.free
  ·obtain⟨c,hc⟩:=h y List.mem_cons_self hy
   have e:(y.2 == NameKind.free)=true:=by simp[hy]
   rw[if_pos e,if_pos e]
   have ec:cellOf env y.1=pure c:=by unfold cellOf;rw[hc]
   rw[ec,hc]
   show (forIn r ((y.1,c)::cs) _:Sem _)=_
   exact jP r _ fun z hz=>h z (List.mem_cons_of_mem _ hz)
  ·have e:¬ (y.2 == NameKind.free)=true:=by simp[hy]
   rw[if_neg e,if_neg e]
   show (forIn r cs _:Sem _)=_
   exact jP r _ fun z hz=>h z (List.mem_cons_of_mem _ hz)
theorem uZ {env:Env}{scope:Scope} (h:∀ y∈scope.names,y.2=.free→∃ c,env.cells.lookup y.1=some c):closureFor scope env=pure (eM env scope.names):=by
 have:=jP (env:=env) scope.names [] h
 unfold closureFor
 dsimp only
 have e:(forIn scope.names ([]:List (Str×Addr)) (fun (x:Str×NameKind) (r:List (Str×Addr))=>(if x.2 == .free then (do let c ← cellOf env x.1;pure (ForInStep.yield ((x.1,c)::r))) else pure (ForInStep.yield r):Sem (ForInStep (List (Str×Addr))))))=pure (eM env scope.names):=this
 rw[e]
 rfl
theorem ni {env:Env}:∀ (names:List (Str×NameKind)) (cs:List (Str×Addr)) (x:Str) (c:Addr),
  (names.foldl (fun cs y=>if y.2 == .free then (y.1,(env.cells.lookup y.1).getD 0)::cs else cs) cs).lookup x=some c→
  (c=(env.cells.lookup x).getD 0∧(x,NameKind.free)∈names)∨cs.lookup x=some c
 | [],cs,x,c,h=>.inr h
 | y::r,cs,x,c,h=>by
  rw[List.foldl_cons] at h
  rcases ni r _ x c h with ⟨e,m⟩ | h
  ·exact .inl ⟨e,List.mem_cons_of_mem _ m⟩
  ·by_cases hy:y.2=.free
   ·rw[if_pos (by simp[hy])] at h
    rw[List.lookup_cons] at h
    by_cases hx:x=y.1
    ·subst hx
     rw[beq_self_eq_true] at h
     refine .inl ⟨(Option.some.inj h).symm,?_⟩
     rw[← hy]
     exact List.mem_cons_self
    ·have:(x == y.1)=false:=by simpa using hx
     rw[this] at h
     exact .inr h
   ·rw[if_neg (by simp[hy])] at h
    exact .inr h
theorem jQ {env:Env}:∀ (names:List (Str×NameKind)) (cs:List (Str×Addr)) (x:Str),(x,NameKind.free)∈names∨(∃ c,cs.lookup x=some c)→
  ∃ c,(names.foldl (fun cs y=>if y.2 == .free then (y.1,(env.cells.lookup y.1).getD 0)::cs else cs) cs).lookup x=some c
 | [],cs,x,h=>by
  rcases h with h | h
  ·cases h
  ·exact h
 | y::r,cs,x,h=>by
  rw[List.foldl_cons]
  apply jQ r _ x
  rcases h with h | ⟨c,h⟩
  ·rcases List.mem_cons.mp h with e | h
   ·right
    subst e
    rw[if_pos (by rfl),List.lookup_cons,beq_self_eq_true]
    exact⟨_,rfl⟩
   ·exact .inl h
  ·right
   by_cases hy:(y.2 == NameKind.free)=true
   ·rw[if_pos hy,List.lookup_cons]
    cases x == y.1
    ·exact⟨c,h⟩
    ·exact⟨_,rfl⟩
   ·rw[if_neg hy]
    exact⟨c,h⟩
structure Blk where
 C:Addr
 s:Shared
 H:Hp
 fp:List Addr
noncomputable def Cx.blk (X : Cx) (N' : List Str) (scope : Scope) (Y : Blk) : Cx :=
  { prog := X.prog, w := X.w, K := X.K, mg := X.mg, base := X.base, A := X.A, N := N', s₀ := Y.s, H₀ := Y.H, env := compEnvC scope (eM X.env scope.names) Y.C X.env, outer := X.stack, stack := X.stack,
    ex := Y.fp, fn := fun _ => false, calm := X.calm, pn := [], xe := fun _ _ => False }
theorem jR {env:Env}:∀ {names:List (Str×NameKind)}{x:Str}{k:NameKind},
  (names.map fun (n,k)=>if (k == NameKind.free && env.scope.kind == .function && env.kindOf n == some .cell) then (n,NameKind.cell) else (n,k)).lookup x=some k→
  (k=.cell∨k=.free)→(∀ y∈names,y.2≠.cell)→(x,NameKind.free)∈names
 | [],x,k,h,_,_=>by simp at h
 | (n,k')::r,x,k,h,hk,hc=>by
  rw[List.map_cons] at h
  dsimp only at h
  by_cases hx:x=n
  ·subst hx
   by_cases hf:(k' == NameKind.free && env.scope.kind == .function && env.kindOf x == some .cell)=true
   ·have:k'=NameKind.free:=by
     simp only[Bool.and_eq_true] at hf
     exact by simpa using hf.1.1
    subst this
    exact List.mem_cons_self
   ·simp only[hf] at h
    have e:k'=k:=by simpa [List.lookup_cons] using h
    subst e
    rcases hk with hk | hk
    ·exact absurd hk (hc (x,k') List.mem_cons_self)
    ·rw[hk]
     exact List.mem_cons_self
  ·have hb:(x == n)=false:=by simpa using hx
   have h':(r.map fun (n,k)=>if (k == NameKind.free && env.scope.kind == .function && env.kindOf n == some .cell) then (n,NameKind.cell) else (n,k)).lookup x=some k:=by
    by_cases hf:(k' == NameKind.free && env.scope.kind == .function && env.kindOf n == some .cell)=true
    ·rw[if_pos hf,List.lookup_cons,hb] at h
     exact h
    ·rw[if_neg hf,List.lookup_cons,hb] at h
     exact h
   exact List.mem_cons_of_mem _ (jR h' hk fun y hy=>hc y (List.mem_cons_of_mem _ hy))
section
variable {X:Cx}
structure CompScope (X:Cx) (scope:Scope) (own:List Str) (caps:List Nat):Prop where
 kind:scope.kind=.function
 cell:∀ y∈scope.names,y.2≠.cell
 free:∀ y∈scope.names,y.2=.free→X.env.scope.names.lookup y.1=some .cell
 loc:∀ y∈scope.names,y.2=.local→scope.names.lookup y.1=some .local
 capF:∀ i∈caps,∃ x,X.N[i]?=some x∧(x,NameKind.free)∈scope.names∧scope.names.lookup x=some .free
noncomputable def cv (X:Cx) (own:List Str) (caps:List Nat):List Str:=own++caps.map fun i=>X.N.getD i ""
noncomputable def cW (own:List Str) (caps:List Nat) (σ:St):St:=own.map (fun _=>none)++caps.map fun i=>σ.getD i none
theorem CompScope.cells {scope:Scope}{own:List Str}{caps:List Nat} (S:CompScope X scope own caps) (ok:X.Ok):∀ y∈scope.names,y.2=.free→∃ c,X.env.cells.lookup y.1=some c:=
 fun y hy hf=>ok.has y.1 (.inl (S.free y hy hf))
theorem CompScope.sub {scope:Scope}{own:List Str}{caps:List Nat} (S:CompScope X scope own caps) (ok:X.Ok) {x:Str}{c:Addr} (h:(eM X.env scope.names).lookup x=some c):X.env.cells.lookup x=some c∧(x,NameKind.free)∈scope.names:=by
 rcases ni scope.names [] x c h with ⟨e,m⟩ | h
 ·obtain⟨c',e'⟩:=S.cells ok (x,.free) m rfl
  rw[show (List.lookup x X.env.cells)=some c' from e'] at e
  refine⟨?_,m⟩
  rw[e]
  exact e'
 ·simp at h
theorem nj {scope:Scope}{own:List Str}{caps:List Nat}{pins:List (Addr×Obj)}{σ:St}{H:Hp}{s:Shared}{C:Addr}{fp:List Addr} (S:CompScope X scope own caps) (I:Inv X pins σ H s) (hC:s.heap.objs.size≤C)
  (hf:∀ b∈fp,cV X pins H b) (hlt:∀ b∈fp,b<s.heap.objs.size):(X.blk (cv X own caps) scope ⟨C,s,H,fp⟩).Ok where
 mod:=I.ok.mod
 kind:=S.kind
 glob:=I.ok.glob
 blt:=I.ok.blt
 above:=hC
 inj:=fun x y c h1 h2=>I.ok.inj x y c (S.sub I.ok h1).1 (S.sub I.ok h2).1
 has:=fun x hx=>by
  have m:(x,NameKind.free)∈scope.names:=by
   rcases hx with hx | hx
   ·exact jR hx (.inl rfl) S.cell
   ·exact jR hx (.inr rfl) S.cell
  exact jQ scope.names [] x (.inl m)
 cab:=fun x c h _=>nomatch h
 hd:=I.ok.hd
 frames:=I.ok.frames
 stk:=.inl rfl
 exf:=fun b hb=>⟨Nat.ne_of_lt (Nat.lt_of_lt_of_le (hlt b hb) hC),fun x c h=>(hf b hb).2.2.2.2.1 x c (S.sub I.ok h).1⟩
 bs:=I.bs
 bsz:=Nat.le_trans I.ok.bsz I.sz
 noex:=fun b o e hb=>by
  rcases (hf b hb).2.2.2.1 with z | z
  ·exact I.ok.noex b o e z
  ·exact absurd (Nat.lt_of_lt_of_le (Heap.lt_size e) (Nat.le_trans I.ok.bsz z)) (Nat.lt_irrefl _)
 exfs:=fun b hb z=>by
  rcases List.mem_cons.mp (I.stkSub b z) with e | e
  ·exact (hf b hb).2.1 e
  ·exact (hf b hb).2.2.1 e
 funs:=I.stack
 frf:=I.stkFree
theorem u0 {scope:Scope}{own:List Str}{caps:List Nat}{pins:List (Addr×Obj)}{σ:St}{H:Hp}{s:Shared}{C:Addr}{fp:List Addr}{h1:Heap}{tk:Nat}{m:Str→Option Value} (S:CompScope X scope own caps) (I:Inv X pins σ H s)
  (hC:s.heap.objs.size≤C) (hf:∀ b∈fp,cV X pins H b) (hlt:∀ b∈fp,b<s.heap.objs.size) (old:∀ b o,s.heap.get? b=some o→h1.get? b=some o) (hn:h1.Ns C m):
  Inv (X.blk (cv X own caps) scope ⟨C,s,H,fp⟩) [] (cW own caps σ) H { s with heap:=h1,toks:=tk } where
 ok:=nj S I hC hf hlt
 os:=rfl
 bare:=I.bare
 base:=Un.kept old
 loc:=by
  obtain⟨m0,hn0,hl0⟩:=I.loc
  refine⟨m,hn,fun j x v e1 e2 hv=>?_⟩
  have e1:(own++caps.map fun i=>X.N.getD i "")[j]?=some x:=e1
  have e2:(own.map (fun _=>(none:Option V))++caps.map fun i=>σ.getD i none)[j]?=some (some v):=e2
  by_cases hj:j<own.length
  ·rw[List.getElem?_append_left (by rw[List.length_map];exact hj),List.getElem?_map] at e2
   cases q:own[j]? with
   | none=>rw[q] at e2;cases e2
   | some z=>rw[q] at e2;cases e2
  ·rw[List.getElem?_append_right (by lia),List.getElem?_map] at e1
   rw[List.getElem?_append_right (by rw[List.length_map];lia),List.getElem?_map,List.length_map] at e2
   cases q:caps[j - own.length]? with
   | none=>rw[q] at e1;cases e1
   | some i=>
    rw[q] at e1 e2
    have e1:X.N.getD i "" = x:=Option.some.inj e1
    have e2:σ.getD i none=some v:=Option.some.inj e2
    obtain⟨x',hx',hm,hlk⟩:=S.capF i (List.mem_of_getElem? q)
    have ex:x'=x:=by
     rw[← e1,List.getD_eq_getElem?_getD,hx']
     rfl
    subst ex
    have hs:σ[i]?=some (some v):=by
     rw[List.getD_eq_getElem?_getD] at e2
     cases q2:σ[i]? with
     | none=>rw[q2] at e2;cases e2
     | some z=>rw[q2] at e2;rw[show z=some v from e2]
    have hcel:=S.free (x',.free) hm rfl
    obtain⟨u,r,lk⟩:=hl0 i x' v hx' hs (.inr (.inl hcel))
    refine⟨u,r,.inr ⟨?_,?_⟩⟩
    ·rcases hv with hv | hv | hv
     ·-- local in the block: it is free
      exfalso
      have:∀ {names:List (Str×NameKind)},names.lookup x'=some .free→(names.map fun (n,k)=>if (k == NameKind.free && X.env.scope.kind == .function && X.env.kindOf n == some .cell) then (n,NameKind.cell) else (n,k)).lookup x'≠some .local:=by
       intro names
       induction names with
       | nil=>intro h;simp at h
       | cons y r ih=>
        obtain⟨n,k⟩:=y
        intro h
        rw[List.map_cons]
        dsimp only
        by_cases hx:x'=n
        ·subst hx
         have ek:k=.free:=by simpa [List.lookup_cons] using h
         subst ek
         by_cases hq:(NameKind.free == NameKind.free && X.env.scope.kind == ScopeKind.function && X.env.kindOf x' == some NameKind.cell)=true
         ·rw[if_pos hq];simp[List.lookup_cons]
         ·rw[if_neg hq];simp[List.lookup_cons]
        ·have hb:(x' == n)=false:=by simpa using hx
         rw[List.lookup_cons,hb] at h
         by_cases hq:(k == NameKind.free && X.env.scope.kind == ScopeKind.function && X.env.kindOf n == some NameKind.cell)=true
         ·rw[if_pos hq,List.lookup_cons,hb];exact ih h
         ·rw[if_neg hq,List.lookup_cons,hb];exact ih h
      exact this hlk hv
     ·exact .inl hv
     ·exact .inr hv
    ·rcases lk with ⟨hk,_⟩ | ⟨_,c,hc,hcell⟩
     ·exact absurd (hk.symm.trans hcel) (by simp)
     ·obtain⟨c',hc'⟩:=jQ (env:=X.env) scope.names [] x' (.inl hm)
      have:=(S.sub I.ok hc').1
      rw[hc] at this
      cases this
      obtain⟨o,ho,hd⟩:=hcell
      exact⟨c,hc',o,old _ _ ho,hd⟩
 cell:=fun x c h=>by
  obtain⟨v,o,ho,hd⟩:=I.cell x c (S.sub I.ok h).1
  exact⟨v,o,old _ _ ho,hd⟩
 free:=I.hok.fresh hC
 freeC:=fun x c h=>I.freeC x c (S.sub I.ok h).1
 pin:=fun p hp=>nomatch hp
 hok:=I.hok.kept old
 len:=by simp[cW,cv,Cx.blk]
end
section
variable {X:Cx}
noncomputable def PTs (X:Cx) (ifs:List Expr) (t:TT):Prop:=
 ∀ (pins:List (Addr×Obj)) (s:Shared) (σ:St) (H:Hp) (Q:Bool→Hp→Prop),Inv X pins σ H s→t σ H Q→
  wpAny (model X.prog X.w) X.A (forIn ifs true fun c r=>if r=true then do let ok ← isTrue c X.env (eval c X.env);pure (ForInStep.yield ok) else pure (ForInStep.yield r)) (TP X pins σ Q) X.xe s
noncomputable def tYes:TT:=fun _ H Q=>Q true H
theorem u3:PTs X [] tYes:=fun pins s σ H Q I h=>wpAny_tests_nil ⟨H,I,h⟩
noncomputable def u4 (own:List Str) (caps:List Nat) (g:TG) (tt:TT) (te:TE) (σ:St) (N:List V→Hp→Prop) (ys:List V) (x:V) (H':Hp):Prop:=
 g x (cW own caps σ) H' fun σ2 H2=>(∀ (j:Nat) (v:V),(cW own caps σ)[j]?=some (some v)→σ2[j]?=some (some v))∧tt σ2 H2 fun b H3=>if b=true then te σ2 H3 fun v H4=>ys.length<sizeLine∧N (ys++[v]) H4 else N ys H3
noncomputable def u5 (J:It) (own:List Str) (caps:List Nat) (g:TG) (tt:TT) (te:TE) (σ:St) (H1:Hp) (Q:VK):Prop:=
 ∃ W:Nat→Nat→List V→Hp→Prop,(∃ m,W 0 m [] H1)∧∀ i m ys H,W i m ys H→(J.stop i H∧∀ D,H D=none→Q (.ref D) (upd H D (.lst ys)))∨
  (J.go i H∧∃ N:List V→Hp→Prop,(∀ ys' H',N ys' H'→∃ m',m'<m∧W (i+1) m' ys' H')∧∀ x H',J.yld i H x H'→u4 own caps g tt te σ N ys x H')
noncomputable def jS (own:List Str) (caps:List Nat) (wi:TI) (g:Blk→TG) (tt:Blk→TT) (te:Blk→TE):TE:=fun σ H Q=>wi σ H fun J H1=>∀ Y:Blk,u5 J own caps (g Y) (tt Y) (te Y) σ H1 Q
noncomputable def nk (sc:Scope) (N:List Str) (scope:Scope) (caps:List Nat):Bool:=
 scope.kind == .function && scope.names.all (fun y=>y.2 != .cell) && scope.names.all (fun y=>y.2 != .free || sc.names.lookup y.1 == some .cell) && scope.names.all (fun y=>y.2 != .local || scope.names.lookup y.1 == some .local) &&
  caps.all (fun i=>match N[i]? with | some x=>scope.names.lookup x == some .free | none=>false)
theorem mem_of_lookup:∀ {l:List (Str×NameKind)}{x:Str}{k:NameKind},l.lookup x=some k→(x,k)∈l
 | [],_,_,h=>by simp at h
 | (n,k')::r,x,k,h=>by
  rw[List.lookup_cons] at h
  by_cases hx:x=n
  ·subst hx
   rw[beq_self_eq_true] at h
   cases h
   exact List.mem_cons_self
  ·rw[show (x == n)=false by simpa using hx] at h
   exact List.mem_cons_of_mem _ (mem_of_lookup h)
theorem jT {X:Cx}{scope:Scope}{own:List Str}{caps:List Nat} (sc:Scope) (N:List Str) (h:nk sc N scope caps=true) (e:X.env.scope=sc:=by rfl) (eN:X.N=N:=by rfl):CompScope X scope own caps:=by
 unfold nk at h
 simp only[Bool.and_eq_true,List.all_eq_true,bne_iff_ne,ne_eq,Bool.or_eq_true,beq_iff_eq] at h
 obtain⟨⟨⟨⟨h1,h2⟩,h3⟩,h4⟩,h5⟩:=h
 refine⟨h1,h2,fun y hy hf=>?_,fun y hy hf=>?_,fun i hi=>?_⟩
 ·rw[e]
  exact (h3 y hy).resolve_left fun z=>z hf
 ·exact (h4 y hy).resolve_left fun z=>z hf
 ·have:=h5 i hi
  rw[eN]
  cases q:N[i]? with
  | none=>rw[q] at this;cases this
  | some x=>
   rw[q] at this
   have hl:scope.names.lookup x=some .free:=by simpa using this
   exact⟨x,rfl,mem_of_lookup hl,hl⟩
theorem u6 {tg iter elt:Expr}{ifs:List Expr}{scope:Scope}{pos p2:Pos}{own:List Str}{caps:List Nat}{wi:TI}{g:Blk→TG}{tt:Blk→TT}{te:Blk→TE}{use:Option (Value→Sem Unit)}{Qp:Value→Shared→Prop}{Qv:VK}{pins:List (Addr×Obj)}{s:Shared}{σ:St}{H:Hp}
  (hc:X.calm=true) (S:CompScope X scope own caps) (hi:PI X tg iter wi)
  (hg:∀ Y,PG (X.blk (cv X own caps) scope Y) tg (g Y)) (ht:∀ Y,PTs (X.blk (cv X own caps) scope Y) ifs (tt Y)) (he:∀ Y,PE (X.blk (cv X own caps) scope Y) elt (te Y))
  (hs:∀ x,foldedSetIterable iter X.env x=pure x) (I:Inv X pins σ H s) (h:jS own caps wi g tt te σ H Qv)
  (hend:∀ (D C:Addr) (H4:Hp) (s4:Shared) (m:Str→Option Value),Inv X pins σ H4 s4→s4.heap.Ns C m→H4 C=none→X.env.locals≠C→(∀ x c,X.env.cells.lookup x=some c→c≠C)→X.s₀.heap.objs.size≤C→(∀ p∈X.pn++pins,p.1≠C)→Qv (.ref D) H4→compPost (model X.prog X.w) X.A X.xe use Qp (.ref D) C (.ok .next) s4):
  wpAny (model X.prog X.w) X.A (comprehension (.ListComp elt [⟨tg,iter,ifs,0⟩] scope pos) scope X.env p2 (newList []) false (eval iter X.env) use) Qp X.xe s:=by
 refine wpAny_comprehension_free (use:=use) rfl hs (uZ (S.cells I.ok)) S.kind S.loc (thn (hi pins s σ H _ I h) fun v s1 h1=>thn h1 fun itv s2 h2=>?_)
 obtain⟨it,fp,tn,J,H2,e,I2,T,st2,f2,hW⟩:=h2
 subst e
 have hlt:∀ b∈fp,b<s2.heap.objs.size:=fun b hb=>by
  obtain⟨o,e,_⟩:=T.obj _ _ st2 b hb
  exact Heap.lt_size e
 refine wpAny_newObj_type (wpAny_newFunctionEnv S.cell (by intro y hy;simp at hy) (fun h₁ hns₁ hsb₁=>?_) S.kind)
 dsimp only at hns₁ hsb₁ ⊢
 generalize hHq:s2.heap.push { cls:=.type "list",dict:=none,data:=.seq ([]:List Value).toArray }=Hq at hns₁ hsb₁ ⊢
 have hC:Hq.objs.size=s2.heap.objs.size+1:=by rw[← hHq,Heap.size_push]
 have hDC:s2.heap.objs.size≠Hq.objs.size:=by rw[hC];exact Nat.ne_of_lt (Nat.lt_succ_self _)
 have hCle:s2.heap.objs.size≤Hq.objs.size:=by rw[hC];exact Nat.le_succ _
 have old:∀ b o,s2.heap.get? b=some o→h₁.get? b=some o:=fun b o e=>
  hsb₁.extBut b o (by rw[hC];exact Nat.ne_of_lt (Nat.lt_succ_of_lt (Heap.lt_size e))) (Heap.get?_push_of_some _ (hHq ▸ Heap.get?_push_of_some _ e))
 have hacc:h₁.get? s2.heap.objs.size=some { cls:=.type "list",data:=.seq ([]:List Value).toArray 0 }:=hsb₁.extBut _ _ hDC (Heap.get?_push_of_some _ (hHq ▸ Heap.get?_push_size _ rfl))
 generalize hCq:Hq.objs.size=C at hns₁ hsb₁ hC hDC hCle ⊢
 generalize hDq:s2.heap.objs.size=D at hacc hC hDC hCle ⊢
 have hCs:s2.heap.objs.size≤C:=by rw[hDq];exact hCle
 obtain⟨W,⟨m0,w0⟩,turn⟩:=hW ⟨C,s2,H2,fp⟩
 have hX':=fun (tk:Nat)=>u0 (tk:=tk) S I2 hCs f2 hlt old hns₁
 have hgY:=hg ⟨C,s2,H2,fp⟩
 have htY:=ht ⟨C,s2,H2,fp⟩
 have heY:=he ⟨C,s2,H2,fp⟩
 have hok':=nj S I2 hCs f2 hlt
 generalize hX'q:X.blk (cv X own caps) scope ⟨C,s2,H2,fp⟩=X' at hX' hgY htY heY hok'
 have eP:X'.prog=X.prog:=by rw[← hX'q];rfl
 have ew:X'.w=X.w:=by rw[← hX'q];rfl
 have eK:X'.K=X.K:=by rw[← hX'q];rfl
 have eA:X'.A=X.A:=by rw[← hX'q];rfl
 have ec:X'.calm=true:=by rw[← hX'q];exact hc
 have eL:X'.env.locals=C:=by rw[← hX'q];rfl
 have eex:X'.ex=fp:=by rw[← hX'q];rfl
 have es0:X'.s₀=s2:=by rw[← hX'q];rfl
 have eH0:X'.H₀=H2:=by rw[← hX'q];rfl
 have efs:X'.fs=frs X.stack:=by rw[← hX'q];rfl
 have epn:X'.pn=[]:=by rw[← hX'q];rfl
 have exe:X'.xe=fun _ _=>False:=by rw[← hX'q];rfl
 have eenv:X'.env=compEnvC scope (eM X.env scope.names) C X.env:=by rw[← hX'q];rfl
 have ecell:∀ x c,X'.env.cells.lookup x=some c→X.env.cells.lookup x=some c:=fun x c h=>(S.sub I2.ok (by rw[eenv] at h;exact h)).1
 -- a cell is no new thing
 have nD:∀ x c,X'.env.cells.lookup x=some c→c≠D:=fun x c h z=>by
  obtain⟨v,o,ho,_⟩:=I2.cell x c (ecell x c h)
  have:=Heap.lt_size ho
  rw[z,← hDq] at this
  exact Nat.lt_irrefl _ this
 have fpD:∀ b∈fp,b≠D:=fun b hb z=>by
  have:=hlt b hb
  rw[z,← hDq] at this
  exact Nat.lt_irrefl _ this
 have fsD:D∉X'.fs:=fun z=>by
  obtain⟨_,o,ho,_⟩:=hok'.funs.mem z
  rw[es0] at ho
  have:=Heap.lt_size ho
  rw[hDq] at this
  exact Nat.lt_irrefl _ this
 have fpo:∀ (H':Hp) (o:Obj),(∀ b∈fp,H' b=none)→∀ b∈fp,cV X' [(D,o)] H' b:=fun H' o hn b hb=>by
  refine⟨hn b hb,?_,?_,.inl (by rw[eex];exact hb),fun x c h=>(f2 b hb).2.2.2.2.1 x c (ecell x c h),fun p hp=>?_⟩
  ·rw[eL]
   exact Nat.ne_of_lt (Nat.lt_of_lt_of_le (hlt b hb) hCs)
  ·exact hok'.exfs b (by rw[eex];exact hb)
  ·rw[epn] at hp
   have:p=(D,o):=by simpa using hp
   rw[this]
   exact Ne.symm (fpD b hb)
 have loop:∀ s₃:Shared,s₃={ s2 with heap:=h₁,toks:=s2.toks+([]:List (Str×Value)).length }→
   codeAny (model X.prog X.w) X.A (.compLoop (.ListComp elt [⟨tg,iter,ifs,0⟩] scope pos) 0 (.ref it) (.ref D) X'.env)
    (compPost (model X.prog X.w) X.A X.xe use Qp (.ref D) C) s₃:=by
  rintro s₃ rfl
  refine uY (fun n s'=>∃ (i:Nat) (ys:List V) (H':Hp) (its:List Value) (k:Nat),Inv X' [(D,{ cls:=.type "list",data:=.seq its.toArray k })] (cW own caps σ) H' s'∧am ys its∧ys.length≤sizeLine∧tn i s'.heap∧
   (∀ b∈fp,H' b=none)∧W i n ys H') ?_ m0 ?_
  ·rintro n s3 ⟨i,ys,H3,its,k,I3,rv,hz,st3,fr3,w3⟩
   rcases turn i n ys H3 w3 with ⟨stop,qn⟩ | ⟨go,N,hN,step⟩
   ·have:=T.done X' eP ew eK ec i _ s3 _ H3 (fun _ _=>False) I3 (fpo H3 _ fr3) st3 stop
    rw[eA] at this
    refine thn this fun r s4 ⟨hr,I4⟩=>?_
    subst hr
    obtain⟨m,hn,_⟩:=I4.loc
    have hnC:s4.heap.Ns C m:=by rw[← eL];exact hn
    have hp:=I4.pin (D,{ cls:=.type "list",data:=.seq its.toArray k }) (by rw[epn];simp)
    have hD0:H3 D=none:=hp.2.1
    have kp:∀ b,b≠C→s4.heap.get? b=s4.heap.get? b:=fun b hb=>rfl
    have nC:∀ b o,s2.heap.get? b=some o→b≠C:=fun b o e=>Nat.ne_of_lt (Nat.lt_of_lt_of_le (Heap.lt_size e) hCs)
    have nDs:∀ b o,s2.heap.get? b=some o→b≠D:=fun b o e=>by rw[← hDq];exact Nat.ne_of_lt (Heap.lt_size e)
    have ub:Un (frs X.stack) fp H2 H3 s2.heap s4.heap:=by
     have:=I4.base
     rw[efs,eex,eH0,es0] at this
     exact this
    have u:Un (frs X.stack) fp H2 (upd H3 D (.lst ys)) s2.heap s4.heap:=
     ⟨fun b o e n hb hx=>(kp b (nC b o e)).trans (ub.keep b o e n hb hx),
      fun b o e n hb hx=>by
      obtain⟨sl,q⟩:=ub.slot b o e n hb hx
      exact⟨sl,(kp b (nC b o e)).trans q⟩,
      fun b o e n hx=>by rw[aA (nDs b o e)];exact ub.free b o e n hx,
      fun b o e hx=>by
      obtain⟨o',q⟩:=ub.there b o e hx
      exact⟨o',(kp b (nC b o e)).trans q⟩,
      fun b xs e=>by rw[aA (bK (ub.tups b xs e) hD0)];exact ub.tups b xs e,
      fun b o xs e=>by rw[aA (bK (ub.frzs b o xs e) hD0)];exact ub.frzs b o xs e,
      fun b ps e=>by
      obtain⟨more,q⟩:=ub.tbls b ps e
      exact⟨more,by rw[aA (bK q hD0)];exact q⟩⟩
    have hokC:∀ b o,H3 b=some o→b≠C:=fun b o e z=>by
     have:=I4.free
     rw[eL,← z,e] at this
     cases this
    have hk:HOk X.prog X.w (upd H3 D (.lst ys)) s4.heap:=fun a o e=>by
     by_cases ha:a=D
     ·subst ha
      rw[bi] at e
      cases e
      exact⟨hz,its,k,rv,(kp _ hDC).trans hp.1⟩
     ·rw[aA ha] at e
      have:=I4.hok a o e
      rw[eP,ew] at this
      refine this.stay (fun b u hb q=>(kp b ?_).trans q) (fun b q=>by rw[aA (bK q hD0)];exact q) fun b xs q=>by rw[aA (bK q hD0)];exact q
      rcases hb with z | z
      ·rw[z];exact hokC a o e
      ·exact hokC b _ z
    have I4':Inv X pins σ (upd H3 D (.lst ys)) s4:=I2.call' (s':=s4) (ch:=fp) (by have:=I4.os;rw[es0] at this;exact this) u hk I4.bare fun b hb=>⟨(f2 b hb).2.2.2.1,(f2 b hb).2.1,(f2 b hb).2.2.2.2.1,(f2 b hb).2.2.2.2.2⟩
    have nLC:X.env.locals≠C:=by
     obtain⟨m2,hn2,_⟩:=I2.loc
     obtain⟨o,_,_,ho,_⟩:=hn2
     exact nC _ _ ho
    have nCC:∀ x c,X.env.cells.lookup x=some c→c≠C:=fun x c h=>by
     obtain⟨v,o,ho,_⟩:=I2.cell x c h
     exact nC _ _ ho
    refine hend D C _ s4 m I4' hnC ?_ nLC nCC ?_ (fun p hp=>nC _ _ (I2.pin p hp).1) (qn D hD0)
    ·rw[aA (Ne.symm hDC)]
     have:=I4.free
     rwa [eL] at this
    ·exact Nat.le_trans I2.sz hCs
   ·have:=T.item X' eP ew eK ec i _ s3 _ H3 (fun _ _=>False) I3 (fpo H3 _ fr3) st3 go
    rw[eA] at this
    refine thn this fun r s4 ⟨u,hr,h4⟩=>?_
    subst hr
    refine thn h4 fun _ s5 ⟨x,H5,I5,r5,y5,st5,fr5⟩=>?_
    have I5':=I5.pinned (fpo H5 _ fr5) (T.obj _ _ st5)
    have a6:=hgY _ s5 _ H5 x u _ I5' r5 (step x H5 y5)
    rw[eP,ew,eA,exe] at a6
    refine thn a6 fun _ s6 ⟨σ6,H6,I6,keepσ,q6⟩=>?_
    have a7:=htY _ s6 σ6 H6 _ I6 q6
    rw[eP,ew,eA,exe] at a7
    refine thn a7 fun b s7 ⟨H7,I7,q7⟩=>?_
    -- the next turn's state
    have keep2:∀ {σ':St}{H':Hp}{s':Shared},Inv X' ([(D,{ cls:=.type "list",data:=.seq its.toArray k })]++dP fp s5.heap) σ' H' s'→(∀ b∈fp,H' b=none)∧tn (i+1) s'.heap:=fun {σ' H' s'} I'=>by
     refine⟨fun b hb=>?_,T.keep _ _ _ st5 fun b hb o e=>(I'.pin (b,o) (List.mem_append_right _ (List.mem_append_right _ (iE hb e)))).1⟩
     obtain⟨o,e,_⟩:=T.obj _ _ st5 b hb
     exact (I'.pin (b,o) (List.mem_append_right _ (List.mem_append_right _ (iE hb e)))).2.1
    have wk:∀ {pins':List (Addr×Obj)}{H':Hp}{s':Shared},Inv X' pins' σ6 H' s'→Inv X' pins' (cW own caps σ) H' s':=fun {pins' H' s'} I'=>
     I'.weak (by rw[I'.len,I3.len]) keepσ
    cases b with
    | false=>
     rw[if_neg Bool.false_ne_true] at q7
     obtain⟨m',hm,w7⟩:=hN _ _ q7
     rw[if_neg Bool.false_ne_true]
     obtain⟨k1,k2⟩:=keep2 I7
     exact⟨m',hm,i+1,ys,H7,its,k,wk (I7.pins_of fun p hp=>I7.pin p (by
      rw[epn]
      simp at hp ⊢
      exact .inl hp)),rv,hz,k2,k1,w7⟩
    | true=>
     rw[if_pos rfl] at q7 ⊢
     have a8:=heY _ s7 σ6 H7 _ I7 q7
     rw[eP,ew,eA,exe] at a8
     refine thn a8 fun uv s8 ⟨v8,H8,I8,r8,hz8,n8⟩=>?_
     obtain⟨m',hm,w8⟩:=hN _ _ n8
     have hp:=I8.pin (D,{ cls:=.type "list",data:=.seq its.toArray k }) (List.mem_append_right _ (List.mem_append_left _ (by simp)))
     have eD:=hp.1
     refine call_meets F.slot_list_append ⟨_,eD,rfl⟩ F.entry_list_append (F.args_list_append_2 _ _) (PySem.list_append D its.toArray k uv (by rw[List.size_toArray,← rv.length];lia)) ⟨eD,?_⟩
     have q:=PySem.IsL.update eD (fun a=>a.push uv)
     obtain⟨k1,k2⟩:=keep2 I8
     have I8':Inv X' (dP fp s5.heap) σ6 H8 s8:=I8.pins_of fun p hp=>I8.pin p (List.mem_append_right _ (List.mem_append_right _ hp))
     have oth:∀ b o,b≠D→s8.heap.get? b=some o→(s8.heap.update D (Obj.mapSeq fun a=>a.push uv)).get? b=some o:=fun b o hb e=>(Heap.get?_update_other s8.heap _ (Ne.symm hb)).trans e
     have I9:Inv X' (dP fp s5.heap) σ6 H8 { s8 with heap:=s8.heap.update D (Obj.mapSeq fun a=>a.push uv),toks:=s8.toks }:=
      I8'.turned (it:=D) oth hp.2.1 (by rw[eL];exact hDC) (.inr (by rw[es0,hDq];exact Nat.le_refl _)) nD fun p hp'=>by
       rw[epn] at hp'
       obtain⟨hb,_⟩:=mC (show p∈dP fp s5.heap by simpa using hp')
       exact fpD _ hb
     refine⟨m',hm,i+1,ys++[v8],H8,its++[uv],k+1,wk (I9.pins_of fun p hp'=>?_),rv.append (.cons r8 .nil),?_,?_,k1,w8⟩
     ·have e:p=(D,{ cls:=.type "list",data:=.seq (its++[uv]).toArray (k+1) }):=by simpa using hp'
      subst e
      refine⟨?_,hp.2.1,hp.2.2.1,hp.2.2.2.1,fun v z=>by cases z⟩
      have e2:its.toArray.push uv=(its++[uv]).toArray:=by simp
      rw[← e2]
      have q':IsL (s8.heap.update D (Obj.mapSeq fun a=>a.push uv)) D (its.toArray.push uv) (if (its.toArray.push uv).size == its.toArray.size then k else k+1):=q
      rw[if_neg (by simp)] at q'
      exact q'
     ·rw[List.length_append,List.length_singleton]
      lia
     ·refine T.keep _ _ _ k2 fun b hb o e=>oth b o (fpD b hb) e
  ·refine⟨0,[],H2,[],0,?_,.nil,Nat.zero_le _,T.keep _ _ _ st2 fun b _ o e=>old b o e,fun b hb=>(f2 b hb).1,w0⟩
   refine (hX' _).pins_of fun p hp=>?_
   have e:p=(D,{ cls:=.type "list",data:=.seq ([]:List Value).toArray 0 }):=by simpa using hp
   subst e
   exact⟨hacc,I2.hok.fresh (by rw[hDq];exact Nat.le_refl _),by rw[eL];exact hDC,fsD,fun v z=>by cases z⟩
 have eenv':compEnvC scope (eM X.env scope.names) C X.env=X'.env:=eenv.symm
 show codeAny (model X.prog X.w) X.A (.compStart _ 0 (.ref it) (.ref D) (compEnvC scope (eM X.env scope.names) C X.env)) _ _
 rw[eenv']
 exact codeAny_compStart_list (loop _ rfl) (T.self X.A 0 _ _ _ (T.keep _ _ _ st2 fun b _ o e=>old b o e) (loop _ rfl))
theorem u7 {tg iter elt:Expr}{ifs:List Expr}{scope:Scope}{pos:Pos}{own:List Str}{caps:List Nat}{wi:TI}{g:Blk→TG}{tt:Blk→TT}{te:Blk→TE}
  (hc:X.calm=true) (S:CompScope X scope own caps) (hi:PI X tg iter wi)
  (hg:∀ Y,PG (X.blk (cv X own caps) scope Y) tg (g Y)) (ht:∀ Y,PTs (X.blk (cv X own caps) scope Y) ifs (tt Y)) (he:∀ Y,PE (X.blk (cv X own caps) scope Y) elt (te Y))
  (hs:∀ x,foldedSetIterable iter X.env x=pure x:=by intro _;rfl):PE X (.ListComp elt [⟨tg,iter,ifs,0⟩] scope pos) (jS own caps wi g tt te):=by
 intro pins s σ H Q I h
 show wpAny _ X.A (comprehension (.ListComp elt [⟨tg,iter,ifs,0⟩] scope pos) scope X.env _ (newList []) false (eval iter X.env) none) _ _ s
 refine u6 (use:=none) (Qp:=EP X pins σ Q) hc S hi hg ht he hs I h fun D C H4 s4 m I4 hn f l c z p q=>?_
 show ∃ m,s4.heap.Ns C m∧∀ h',Heap.SameBut C s4.heap h'→EP X pins σ Q (.ref D) { s4 with heap:=h' }
 refine⟨m,hn,fun h' sb=>⟨.ref D,H4,?_,rfl,q⟩⟩
 exact I4.turned (it:=C) (t':=s4.toks) (fun b o hb e=>(sb.2 b hb).trans e) f (Ne.symm l) (.inr z) c p
end
noncomputable def KAt (h:Heap) (d:Addr) (ks:List Value) (ep:Nat):Prop:=∃ o es,h.get? d=some o∧o.ExactDict∧o.data=.dict es ep∧es.toList.map (·.key)=ks
theorem KAt.ty {s:Shared}{d:Addr}{ks:List Value}{ep:Nat} (x:KAt s.heap d ks ep):s.TypeIs (.ref d) "dict" := let ⟨o,_,e,c,_⟩:=x;⟨o,e,c.1⟩
theorem KAt.lt {h:Heap}{d:Addr}{ks:List Value}{ep:Nat} (x:KAt h d ks ep):d<h.objs.size:=let ⟨_,_,e,_⟩:=x;Heap.lt_size e
theorem KAt.go {h h':Heap}{d:Addr}{ks:List Value}{ep:Nat} (x:KAt h d ks ep) (k:∀ o,h.get? d=some o→h'.get? d=some o):KAt h' d ks ep:=let ⟨o,es,e,r⟩:=x;⟨o,es,k o e,r⟩
section
variable {prog:Program}{w:World}{A:Around}{E:Value→Shared→Prop}{s:Shared}
theorem u8 {d:Addr}{ks:List Value}{ep:Nat}{Q:Value→Shared→Prop} (lo:(d == sysModules)=false) (x:KAt s.heap d ks ep)
  (q:Q (.ref s.heap.objs.size) { s with heap:=s.heap.push { cls:=.type "dict_keyiterator",data:=.fields #[.ref d,.int 0 0,.int ks.length 0,.int ep 0] } }):wpAny (model prog w) A (pyIter (.ref d)) Q E s:=by
 have ty:=x.ty
 obtain⟨o,es,e1,e2,e3,e4⟩:=x
 have n:es.size=ks.length:=by rw[← e4,List.length_map,Array.length_toList]
 refine wpAny_pyIter_slot ty F.slot_dict_iter (wpAny_call_entry F.slot_dict_iter ty F.entry_dict_iter ?z (F.args_dict_iter_1 _))
 case z=>
  unfold Builtin.«dict.__iter__» Builtin.Dict.dictSlotNone
  refine wpAny_bind (wpAny_bind (wpAny_notOrdered_dict ty ?_))
  show wpAny _ _ (pure (Value.ref d)) _ _ s
  apply wpAny_pure
  show wpAny _ _ (Builtin.Dict.showsAll d >>= _) _ _ s
  unfold Builtin.Dict.showsAll
  rw[if_neg (by rw[lo];simp)]
  refine wpAny_bind (wpAny_pure (wpAny_bind (wpAny_dictEntries e1 e3 (wpAny_bind (wpAny_dictEpoch e1 e3 (wpAny_bind (wpAny_newObj_type (wpAny_pure ⟨_,rfl,"dict_keyiterator",_,⟨_,Heap.get?_push_size _ rfl,rfl⟩,F.slot_dict_keyiterator_next.lookup,?_⟩))))))))
  simpa [rawInt,n] using q
theorem u9 {it d:Addr}{i ep:Nat}{ks:List Value}{v:Value}{Q:Option Value→Shared→Prop} (hit:s.heap.IsKeyIter it d i ks.length ep) (x:KAt s.heap d ks ep) (hv:ks[i]?=some v)
  (q:∀ h',h'.IsKeyIter it d (i+1) ks.length ep→Heap.SameBut it s.heap h'→Q (some v) { s with heap:=h' }):wpAny (model prog w) A (pyNext (.ref it)) Q E s:=by
 obtain⟨oi,f1,f2,f3⟩:=id hit
 obtain⟨o,es,e1,e2,e3,e4⟩:=x
 have n:es.size=ks.length:=by rw[← e4,List.length_map,Array.length_toList]
 have hi:i<es.size:=by
  have:i<ks.length:=(List.getElem?_eq_some_iff.mp hv).1
  lia
 have ek:es[i].key=v:=by
  rw[← e4,List.getElem?_map,Array.getElem?_toList,Array.getElem?_eq_getElem hi] at hv
  exact Option.some.inj hv
 unfold pyNext
 refine wpAny_bind (wpAny_attempt (wpAny_callSpecial?_slot (name:=Str.ofString "__next__") hit.typeIs F.slot_dict_keyiterator_next (wpAny_call_entry F.slot_dict_keyiterator_next hit.typeIs F.entry_dict_keyiterator_next ?z (F.args_dict_keyiterator_next_1 _))))
 case z=>
  refine wpAny_bind (wpAny_pure (wpAny_bind (wpAny_bind ?_)))
  refine wpAny_bind (wpAny_typeNameOfWhole_keyiter hit.typeIs (wpAny_pure (wpAny_bind (wpAny_fieldsOf f1 f3 ?_))))
  simp only[show Builtin.Dict_items.ownsTuple "dict_keyiterator" = false by decide,Bool.false_eq_true,if_false]
  show wpAny _ _ (if (Value.ref d == Value.none)=true then _ else _) _ _ s
  rw[if_neg (show ¬ (Value.ref d == Value.none)=true by intro z;cases z)]
  refine wpAny_bind (wpAny_pure (wpAny_bind (wpAny_dictEntries e1 e3 ?_)))
  rw[if_neg (by simp[n])]
  refine wpAny_bind (wpAny_pure (wpAny_bind (wpAny_dictEpoch e1 e3 ?_)))
  rw[if_neg (by simp)]
  apply wpAny_pure
  simp only[show ¬ ((i:Int)<0) by lia,if_false,Int.toNat_natCast,Array.getElem?_eq_getElem hi]
  refine wpAny_bind (wpAny_bind (wpAny_typeNameOfWhole_keyiter hit.typeIs (wpAny_pure (wpAny_bind (wpAny_isOneOf_keyiter hit.typeIs ?_)))))
  show wpAny _ _ (setField (.ref it) 1 (rawInt ((i:Int)+1)) >>= _) _ _ s
  have hit':(s.heap.update it (Obj.mapFields (·.setIfInBounds 1 (rawInt ((i:Int)+1))))).IsKeyIter it d (i+1) ks.length ep:=
   ⟨_,Heap.get?_update_self _ f1 (Obj.isFreed_of_fields (Obj.data_mapFields f3 _)),(Obj.cls_mapFields ..).trans f2,by rw[Obj.data_mapFields f3];simp[rawInt]⟩
  refine wpAny_bind (wpAny_setField f1 f3 (by simp) (wpAny_bind (wpAny_holding (wpAny_bind (wpAny_isOneOf_keyiter (s:={ s with heap:=s.heap.update it (Obj.mapFields (·.setIfInBounds 1 (rawInt ((i:Int)+1)))) }) hit'.typeIs ?_)))))
  show wpAny _ _ (pure es[i].key) _ _ _
  rw[ek]
  exact wpAny_pure (wpAny_pure ⟨_,rfl,wpAny_pure (q _ hit' (Heap.SameBut.update ..))⟩)
theorem va {it d:Addr}{i ep:Nat}{ks:List Value}{Q:Option Value→Shared→Prop} (hh:A.handled=none) (hit:s.heap.IsKeyIter it d i ks.length ep) (x:KAt s.heap d ks ep) (hv:ks.length≤i)
  (q:∀ h',Heap.ExtBut it s.heap h'→Q none { s with heap:=h' }):wpAny (model prog w) A (pyNext (.ref it)) Q E s:=by
 obtain⟨oi,f1,f2,f3⟩:=id hit
 obtain⟨o,es,e1,e2,e3,e4⟩:=x
 have n:es.size=ks.length:=by rw[← e4,List.length_map,Array.length_toList]
 unfold pyNext
 refine wpAny_bind (wpAny_attempt (wpAny_callSpecial?_slot (name:=Str.ofString "__next__") hit.typeIs F.slot_dict_keyiterator_next (wpAny_call_entry F.slot_dict_keyiterator_next hit.typeIs F.entry_dict_keyiterator_next ?z (F.args_dict_keyiterator_next_1 _))))
 case z=>
  refine wpAny_bind (wpAny_pure (wpAny_bind (wpAny_bind ?_)))
  refine wpAny_bind (wpAny_typeNameOfWhole_keyiter hit.typeIs (wpAny_pure (wpAny_bind (wpAny_fieldsOf f1 f3 ?_))))
  simp only[show Builtin.Dict_items.ownsTuple "dict_keyiterator" = false by decide,Bool.false_eq_true,if_false]
  show wpAny _ _ (if (Value.ref d == Value.none)=true then _ else _) _ _ s
  rw[if_neg (show ¬ (Value.ref d == Value.none)=true by intro z;cases z)]
  refine wpAny_bind (wpAny_pure (wpAny_bind (wpAny_dictEntries e1 e3 ?_)))
  rw[if_neg (by simp[n])]
  refine wpAny_bind (wpAny_pure (wpAny_bind (wpAny_dictEpoch e1 e3 ?_)))
  rw[if_neg (by simp)]
  apply wpAny_pure
  simp only[show ¬ ((i:Int)<0) by lia,if_false,Int.toNat_natCast,Array.getElem?_eq_none (show es.size≤i by lia)]
  refine wpAny_bind (wpAny_bind (wpAny_typeNameOfWhole_keyiter hit.typeIs (wpAny_pure ?_)))
  show wpAny _ _ (setField (.ref it) 0 .none >>= _) _ _ s
  refine wpAny_bind (wpAny_setField f1 f3 (by simp) ?_)
  show wpAny _ _ (newExc (.type "StopIteration") [] >>= _) _ _ _
  apply wpAny_bind
  simp only[newExc,newTuple]
  refine wpAny_bind (wpAny_newObj_type (wpAny_bind (m:=firstArgMember _ _) (wpAny_of_eq (a:=Value.none) (by first | rfl | (simp only[firstArgMember];rfl)) (wpAny_newObj_type ?_ (by size_fits)))) (by size_fits))
  simp only[raiseNew]
  apply wpAny_bind
  apply wpAny_handled
  rw[show A.in1.handled=none from hh]
  refine wpAny_bind (m:=pure _) (wpAny_pure (wpAny_throw ?_))
  apply wpAny_bind
  refine wpAny_isInstance (T := "StopIteration") (b:=true) ⟨_,Heap.get?_push_size _ rfl,rfl⟩ isSubtype_stop ?_
  exact wpAny_pure (q _ (((Heap.SameBut.update ..).extBut.push _).push _))
theorem vb (hh:A.handled=none) (it d:Addr) (ne:d≠it) (ks:List Value) (ep:Nat):Walks prog w A it [it,d] [it] ks.length (fun i v=>ks[i]?=some v) (fun i h=>h.IsKeyIter it d i ks.length ep∧KAt h d ks ep) where
 sub:=fun b hb=>by
  have:b=it:=by simpa using hb
  simp[this]
 frame:=fun i h h' st k=>⟨let ⟨o,e,r⟩:=st.1;⟨o,k it (by simp) o e,r⟩,st.2.go (k d (by simp))⟩
 item:=fun i s Q E hi st hQ=>by
  have hv:ks[i]?=some ks[i]:=by simp[hi]
  refine u9 st.1 st.2 hv fun h' a b=>hQ _ h' s.toks hv ⟨a,st.2.go fun o e=>b.extBut d o ne e⟩ fun c o hc e=>b.extBut c o (by simpa using hc) e
 done:=fun s Q E st hQ=>va hh st.1 st.2 (Nat.le_refl _) fun h' b=>hQ h' s.toks fun c o hc e=>b c o (by simpa using hc) e
 self:=fun i s Q E st hQ=>wpAny_pyIter_keyiter st.1 hQ
theorem vc {d:Addr}{ks:List Value}{ep:Nat} (lo:(d == sysModules)=false):PySem.W.KdlSrc prog w "dict" d d ks.length (fun i v=>ks[i]?=some v) (fun h=>KAt h d ks ep) where
 type:=fun s x=>x.ty
 there:=fun h x=>⟨x.lt,x.lt⟩
 keep:=fun h h' x k=>x.go (k d (.inl rfl))
 notList:=by decide
 notTuple:=by decide
 hint:=fun A E s Q x q=>PySem.W.kdl_hint_dict x.ty q
 iter:=fun A s hh x=>⟨_,_,(fun E Q q=>u8 lo x q),vb hh _ d (Nat.ne_of_lt x.lt) ks ep,⟨⟨_,Heap.get?_push_size _ rfl,rfl,rfl⟩,x.go fun o e=>Heap.get?_push_of_some _ e⟩⟩
end
end L2
namespace L2
open PySem PySem.Spec PyProof.Rows PySem.W
section
variable {n:Nat}{key:Nat→Int}{cmp:Nat→Nat→(Bool→Shared→Prop)→Shared→Prop}
noncomputable def kyA (key:Nat→Int) (p:Array Nat) (i:Nat):Int:=key (p.getD i 0)
noncomputable def Up (key:Nat→Int) (p:Array Nat) (m:Nat):Prop:=∀ i j,i≤j→j<m→kyA key p i≤kyA key p j
noncomputable def aZ (n:Nat) (key:Nat→Int) (cmp:Nat→Nat→(Bool→Shared→Prop)→Shared→Prop) (s:Shared):Prop:=∀ i j C,i<n→j<n→C (decide (key i<key j)) s→cmp i j C s
noncomputable def Rg (n:Nat) (p:Array Nat):Prop:=p.toList.Perm (List.range n)
theorem Rg.size {p:Array Nat} (h:Rg n p):p.size=n:=by
 have:=h.length_eq
 simpa using this
theorem Rg.lt {p:Array Nat} (h:Rg n p) {i:Nat} (hi:i<n):p.getD i 0<n:=by
 have hs:=h.size
 have e:p.getD i 0=p[i]:=by simp[Array.getD,hs,hi]
 rw[e]
 have:p[i]∈p.toList:=by simp
 exact List.mem_range.mp (h.mem_iff.mp this)
theorem Rg.ne {p:Array Nat} (h:Rg n p) (inj:∀ i j,i<n→j<n→key i=key j→i=j) {i j:Nat} (hij:i<j) (hj:j<n):kyA key p i≠kyA key p j:=by
 intro e
 have hs:=h.size
 have e':=inj _ _ (h.lt (by lia)) (h.lt hj) e
 have e1:p.getD i 0=p[i]:=by simp[Array.getD,hs,show i<n by lia]
 have e2:p.getD j 0=p[j]:=by simp[Array.getD,hs,hj]
 rw[e1,e2] at e'
 have nd:p.toList.Nodup:=h.nodup_iff.mpr List.nodup_range
 have e3:p.toList[i]'(by simpa [hs] using (show i<n by lia))=p.toList[j]'(by simpa [hs] using hj):=by simpa using e'
 have:=(List.getElem_inj nd).mp e3
 lia
theorem cX {p q:Array Nat}{i j:Nat} (e:p[i]?=q[j]?):kyA key p i=kyA key q j:=by
 unfold kyA
 rw[Array.getD_eq_getD_getElem?,Array.getD_eq_getD_getElem?,e]
theorem Rg.rev {p:Array Nat} (h:Rg n p) (i j:Nat):Rg n (kas_rev p i j):=(Array.perm_iff_toList_perm.mp (mirror_perm p i j _)).trans h
theorem Rg.bub {p:Array Nat} (h:Rg n p) (i j:Nat):Rg n (bubble p i j):=(Array.perm_iff_toList_perm.mp (bubble_perm p i j)).trans h
theorem iN {s:Shared} (hc:aZ n key cmp s) {p:Array Nat} (hp:Rg n p) {Q:Nat→Shared→Prop}:∀ (f m:Nat),1≤m→m+f≤n→
  (∀ m',m≤m'→m'≤m+f→(∀ j,m≤j→j<m'→kyA key p (j - 1)≤kyA key p j)→(m'=m+f∨kyA key p m'<kyA key p (m' - 1))→Q m' s)→(kas_asc p f m).kasWp cmp Q s
 | 0,m,h1,hn,h=>h m (Nat.le_refl _) (Nat.le_refl _) (fun j a b=>by lia) (.inl rfl)
 | f+1,m,h1,hn,h=>by
  show cmp (p.getD m 0) (p.getD (m - 1) 0) (fun b s'=>KasT.kasWp cmp (if b=true then .ret m else kas_asc p f (m+1)) Q s') s
  refine hc _ _ _ (hp.lt (by lia)) (hp.lt (by lia)) ?_
  by_cases hb:key (p.getD m 0)<key (p.getD (m - 1) 0)
  ·rw[decide_eq_true hb,if_pos rfl]
   exact h m (Nat.le_refl _) (by lia) (fun j a b=>by lia) (.inr hb)
  ·rw[decide_eq_false hb,if_neg Bool.false_ne_true]
   refine iN hc hp f (m+1) (by lia) (by lia) fun m' a b c d=>h m' (by lia) (by lia) (fun j x y=>?_) (by rcases d with d | d;exact .inl (by lia);exact .inr d)
   by_cases e:j=m
   ·subst e
    have:¬ kyA key p j<kyA key p (j - 1):=hb
    lia
   ·exact c j (by lia) y
theorem iO {p : Array Nat} {m : Nat} (h : ∀ j, 1 ≤ j → j < m → kyA key p (j - 1) ≤ kyA key p j) : Up key p m := by
  intro i j hij hj
  induction j with
  | zero => have : i = 0 := by lia
            subst this; exact Int.le_refl _
  | succ j ih =>
    by_cases e : i = j + 1
    · subst e; exact Int.le_refl _
    · have h1 := ih (by lia) (by lia)
      have h2 := h (j + 1) (by lia) hj
      rw [Nat.add_sub_cancel] at h2
      exact Int.le_trans h1 h2
theorem nn {s:Shared} (hc:aZ n key cmp s) (inj:∀ i j,i<n→j<n→key i=key j→i=j) {p:Array Nat} (hp:Rg n p) {Q:Array Nat×Nat×Nat→Shared→Prop}:∀ (f m:Nat),1≤m→m+f≤n→
  (∀ m',m≤m'→m'≤m+f→(∀ j,m≤j→j<m'→kyA key p j<kyA key p (j - 1))→Q (p,m',0) s)→(kas_desc f p m 0).kasWp cmp Q s
 | 0,m,h1,hn,h=>h m (Nat.le_refl _) (Nat.le_refl _) (fun j a b=>by lia)
 | f+1,m,h1,hn,h=>by
  show cmp (p.getD m 0) (p.getD (m - 1) 0) (fun b s'=>KasT.kasWp cmp (if b=true then (if 0 > 0 then kas_desc f (kas_rev p (m - (0+1)) m) (m+1) 0 else kas_desc f p (m+1) 0)
   else .ask (p.getD (m - 1) 0) (p.getD m 0) fun d=>if d=true then .ret (p,m,0) else kas_desc f p (m+1) (0+1)) Q s') s
  refine hc _ _ _ (hp.lt (by lia)) (hp.lt (by lia)) ?_
  by_cases hb:key (p.getD m 0)<key (p.getD (m - 1) 0)
  ·rw[decide_eq_true hb,if_pos rfl,if_neg (by lia)]
   refine nn hc inj hp f (m+1) (by lia) (by lia) fun m' a b c=>h m' (by lia) (by lia) fun j x y=>?_
   by_cases e:j=m
   ·subst e;exact hb
   ·exact c j (by lia) y
  ·rw[decide_eq_false hb,if_neg Bool.false_ne_true]
   refine hc _ _ _ (hp.lt (by lia)) (hp.lt (by lia)) ?_
   have h2:key (p.getD (m - 1) 0)<key (p.getD m 0):=by
    have:=hp.ne inj (show m - 1<m by lia) (by lia)
    unfold kyA at this
    lia
   rw[decide_eq_true h2]
   dsimp only
   rw[if_pos rfl]
   exact h m (Nat.le_refl _) (by lia) fun j a b=>by lia
theorem vd {s:Shared} (hc:aZ n key cmp s) (inj:∀ i j,i<n→j<n→key i=key j→i=j) {p:Array Nat} (hp:Rg n p) {Q:Nat×Array Nat→Shared→Prop} (hn:1≤n)
  (h:∀ m p',1≤m→m≤n→Rg n p'→Up key p' m→Q (m,p') s):(kas_count n p).kasWp cmp Q s:=by
 unfold kas_count
 rw[KasT.kasWp_bind]
 refine iN hc hp (n - 1) 1 (Nat.le_refl _) (by lia) fun m a b c d=>?_
 have up:Up key p m:=iO c
 by_cases e:m=n
 ·subst e
  rw[if_pos (by simp)]
  exact h m p a (Nat.le_refl _) hp up
 ·rw[if_neg (by simpa using e)]
  by_cases e1:m > 1
  ·rw[if_pos e1]
   refine hc _ _ _ (hp.lt (by lia)) (hp.lt (by lia)) ?_
   have h2:key (p.getD 0 0)<key (p.getD (m - 1) 0):=by
    have x:=hp.ne inj (show 0<m - 1 by lia) (by lia)
    have y:=up 0 (m - 1) (by lia) (by lia)
    unfold kyA at x y
    lia
   rw[decide_eq_true h2]
   dsimp only
   rw[if_pos rfl]
   exact h m p a (by lia) hp up
  ·rw[if_neg e1]
   have e2:m=1:=by lia
   subst e2
   have d:kyA key p 1<kyA key p 0:=by
    rcases d with d | d
    ·lia
    ·exact d
   unfold kas_descPart
   rw[KasT.kasWp_bind]
   refine nn hc inj hp (n - (1+1)) (1+1) (by lia) (by lia) fun k a1 b1 c1=>?_
   dsimp only
   rw[if_neg (by lia)]
   unfold kas_tail3
   rw[KasT.kasWp_bind]
   have hp':=hp.rev 0 k
   have ky:∀ i,kyA key (kas_rev p 0 k) i=if i<k then kyA key p (k - 1 - i) else kyA key p i:=fun i=>by
    by_cases hi:i<k
    ·rw[if_pos hi]
     exact cX (by unfold kas_rev;rw[getElem?_mirror_all (by rw[hp.size];lia),if_pos ⟨Nat.zero_le _,hi⟩];congr 1;lia)
    ·rw[if_neg hi]
     exact cX (by unfold kas_rev;rw[getElem?_mirror_all (by rw[hp.size];lia),if_neg (by lia)])
   have dn:∀ j,1≤j→j<k→kyA key p j<kyA key p (j - 1):=fun j x y=>by
    by_cases z:j=1
    ·subst z;exact d
    ·exact c1 j (by lia) y
   refine iN hc hp' (n - k) k (by lia) (by lia) fun m' a2 b2 c2 _=>?_
   refine h m' (kas_rev p 0 k) (by lia) (by lia) hp' (iO fun j x y=>?_)
   by_cases z:j<k
   ·rw[ky,ky,if_pos (by lia),if_pos z]
    have:=dn (k - 1 - (j - 1)) (by lia) (by lia)
    rw[show k - 1 - (j - 1) - 1=k - 1 - j by lia] at this
    exact Int.le_of_lt this
   ·exact c2 j (by lia) y
theorem jU {s:Shared} (hc:aZ n key cmp s) {p:Array Nat} (hp:Rg n p) {k:Nat} (hk:k<n) (up:Up key p k) {Q:Nat→Shared→Prop}:∀ (f l r:Nat),l≤r→r≤k→r - l≤f→
  (∀ i,i<l→kyA key p i≤kyA key p k)→(∀ i,r≤i→i<k→kyA key p k≤kyA key p i)→
  (∀ l',l'≤k→(∀ i,i<l'→kyA key p i≤kyA key p k)→(∀ i,l'≤i→i<k→kyA key p k≤kyA key p i)→Q l' s)→(kas_place p k f l r).kasWp cmp Q s
 | 0,l,r,h1,h2,h3,a,b,h=>h l (by lia) a fun i x y=>b i (by lia) y
 | f+1,l,r,h1,h2,h3,a,b,h=>by
  by_cases e:l ≥ r
  ·show KasT.kasWp cmp (if l ≥ r then .ret l else _) Q s
   rw[if_pos e]
   exact h l (by lia) a fun i x y=>b i (by lia) y
  ·show KasT.kasWp cmp (if l ≥ r then .ret l else .ask (p.getD k 0) (p.getD ((l+r) / 2) 0) fun c=>if c=true then kas_place p k f l ((l+r) / 2) else kas_place p k f ((l+r) / 2+1) r) Q s
   rw[if_neg e]
   refine hc _ _ _ (hp.lt hk) (hp.lt (by lia)) ?_
   have m1:l≤(l+r) / 2:=by lia
   have m2:(l+r) / 2<r:=by lia
   generalize (l+r) / 2=mid at m1 m2 ⊢
   by_cases hb:key (p.getD k 0)<key (p.getD mid 0)
   ·rw[decide_eq_true hb]
    dsimp only
    rw[if_pos rfl]
    refine jU hc hp hk up f l mid m1 (by lia) (by lia) a (fun i x y=>?_) h
    have:=up mid i x y
    have hb:kyA key p k<kyA key p mid:=hb
    lia
   ·rw[decide_eq_false hb]
    dsimp only
    rw[if_neg Bool.false_ne_true]
    refine jU hc hp hk up f (mid+1) r (by lia) h2 (by lia) (fun i x=>?_) b h
    have:=up i mid (by lia) (by lia)
    have hb:¬ kyA key p k<kyA key p mid:=hb
    lia
theorem np {s:Shared} (hc:aZ n key cmp s) {Q:Array Nat→Shared→Prop}:∀ (f k:Nat) (p:Array Nat),Rg n p→Up key p k→k+f≤n→(∀ p',Rg n p'→Up key p' (k+f)→Q p' s)→(kas_bin f p k).kasWp cmp Q s
 | 0,k,p,hp,up,hn,h=>h p hp up
 | f+1,k,p,hp,up,hn,h=>by
  show KasT.kasWp cmp ((kas_place p k k 0 k).bind fun l=>kas_bin f (bubble p k (k - l)) (k+1)) Q s
  rw[KasT.kasWp_bind]
  refine jU hc hp (by lia) up k 0 k (Nat.zero_le _) (Nat.le_refl _) (by lia) (fun i x=>by lia) (fun i x y=>by lia) fun l hl a b=>?_
  have ky:∀ i,kyA key (bubble p k (k - l)) i=if i=l then kyA key p k else if l<i∧i≤k then kyA key p (i - 1) else kyA key p i:=fun i=>by
   have g:=getElem?_bubble (xs:=p) (src:=k) (by rw[hp.size];lia) (k - l) (by lia) i
   rw[show k - (k - l)=l by lia] at g
   by_cases e:i=l
   ·rw[if_pos e] at g ⊢;exact cX g
   ·rw[if_neg e] at g ⊢
    by_cases e2:l<i∧i≤k
    ·rw[if_pos e2] at g ⊢;exact cX g
    ·rw[if_neg e2] at g ⊢;exact cX g
  refine np hc f (k+1) _ (hp.bub _ _) (iO fun j x y=>?_) (by lia) fun p' r1 r2=>h p' r1 (by rw[show k+(f+1)=k+1+f by lia];exact r2)
  rw[ky,ky]
  by_cases c1:j - 1=l
  ·rw[if_pos c1,if_neg (by lia),if_pos (by lia)]
   exact b (j - 1) (by lia) (by lia)
  ·rw[if_neg c1]
   by_cases c2:j=l
   ·rw[if_pos c2,if_neg (by lia)]
    exact a (j - 1) (by lia)
   ·rw[if_neg c2]
    by_cases c3:l<j - 1
    ·rw[if_pos (by lia),if_pos (by lia)]
     exact up _ _ (by lia) (by lia)
    ·rw[if_neg (by lia),if_neg (by lia)]
     exact up _ _ (by lia) (by lia)
theorem ve {s:Shared} (hc:aZ n key cmp s) (inj:∀ i j,i<n→j<n→key i=key j→i=j) {Q:Array Nat→Shared→Prop} (hn:1≤n) (h:∀ p',Rg n p'→Up key p' n→Q p' s):(kas_sort n).kasWp cmp Q s:=by
 unfold kas_sort
 rw[KasT.kasWp_bind]
 refine vd hc inj (p:=(List.range n).toArray) (List.Perm.refl _) hn fun m p' a b c d=>?_
 by_cases e:m<n
 ·show KasT.kasWp cmp (if m<n then kas_bin (n - max m 1) p' (max m 1) else .ret p') Q s
  rw[if_pos e]
  refine np hc _ _ p' c (by rw[show max m 1=m by lia];exact d) (by lia) fun p'' r1 r2=>h p'' r1 (by rw[show max m 1+(n - max m 1)=n by lia] at r2;exact r2)
 ·show KasT.kasWp cmp (if m<n then kas_bin (n - max m 1) p' (max m 1) else .ret p') Q s
  rw[if_neg e]
  have:m=n:=by lia
  subst this
  exact h p' c d
end
theorem nq:∀ (f n r:Nat),minRun' f n r≤n+r
 | 0,n,r=>Nat.le_refl _
 | f+1,n,r=>by
  rw[minRun'_succ]
  by_cases h:n<64
  ·rw[if_pos h]
   exact Nat.le_refl _
  ·rw[if_neg h]
   have:=nq f (n / 2) (max r (n % 2))
   lia
section
variable {prog:Program}{w:World}{A:Around}{E:Value→Shared→Prop}{κ:SortKind}{it:Array Keyed}{key:Nat→Int}
theorem vf {n:Nat}{Q:Unit→SortSt→Shared→Prop}{s:Shared} (hc:aZ n key (kas_cmp prog w A κ it) s) (inj:∀ i j,i<n→j<n→key i=key j→i=j) (h2:2≤n) (up:∀ j,1≤j→j<n→key (j - 1)≤key j)
  (hG:∀ p' st',Rg n p'→Up key p' n→arrOf st'=p'.map (kas_item it)→failedOf st'=none→Q () st' s):kasC (model prog w) A E sortRuns' Q (kas_st κ it (List.range n).toArray) s:=by
 obtain⟨r,rfl⟩:∃ r,n=r+2:=⟨n - 2,by lia⟩
 have hr:Rg (r+2) (List.range (r+2)).toArray:=List.Perm.refl _
 have ky:∀ j,j<r+2→kyA key (List.range (r+2)).toArray j=key j:=fun j hj=>by
  unfold kyA
  simp[Array.getD,hj]
 have cw:(kas_count (r+2) (List.range (r+2)).toArray).kasWp (kas_cmp prog w A κ it) (fun q s'=>s'=s∧q=(r+2,(List.range (r+2)).toArray)) s:=by
  unfold kas_count
  rw[KasT.kasWp_bind]
  refine iN hc hr (r+2 - 1) 1 (Nat.le_refl _) (by lia) fun m a b c d=>?_
  have e:m=r+2:=by
   rcases d with d | d
   ·lia
   ·by_cases hm:m<r+2
    ·rw[ky m hm,ky (m - 1) (by lia)] at d
     have:=up m a hm
     lia
    ·lia
  subst e
  rw[if_pos (by simp)]
  exact⟨rfl,rfl⟩
 rw[sortRuns'_eq]
 apply kasC_bind
 apply kasC_get
 dsimp only
 have hsz:(arrOf (kas_st κ it (List.range (r+2)).toArray)).size=r+2:=by
  show ((List.range (r+2)).toArray.map (kas_item it)).size=r+2
  simp
 simp only[hsz]
 apply kasC_bind
 apply kasC_range
 show kasC _ _ _ (forIn (0::1::List.range' 2 r) _ _) _ _ _
 apply kasC_cons
 dsimp only
 rw[if_neg (by lia)]
 simp only[Nat.sub_zero,Nat.zero_add]
 apply kasC_bind
 refine kas_count_ (by lia) (by simp) (fun m p' s' _ _ _ hg=>?_) cw
 obtain⟨rfl,hg⟩:=hg
 cases hg
 dsimp only
 rw[if_neg (by have:=nq (r+2) (r+2) 0;lia)]
 apply kasC_bind
 apply kasC_get
 rw[show (pendingOf (kas_st κ it (List.range (r+2)).toArray)).back?=none from rfl]
 dsimp only
 refine kasC_bind (kasC_modify (kasC_pure ?_))
 show kasC _ _ _ (forIn (1::List.range' 2 r) _ _) _ _ _
 apply kasC_cons
 dsimp only
 rw[if_pos (Nat.le_refl _)]
 apply kasC_pure
 dsimp only
 apply kasC_bind
 apply kasC_range
 show kasC _ _ _ (forIn (0::1::List.range' 2 r) _ _) _ _ _
 apply kasC_cons
 apply kasC_bind
 apply kasC_get
 rw[if_pos (show (pendingOf (setPending (kas_st κ it (List.range (r+2)).toArray) ((pendingOf (kas_st κ it (List.range (r+2)).toArray)).push (0,r+2,0)))).size≤1 from Nat.le_refl 1)]
 apply kasC_pure
 dsimp only
 apply kasC_pure
 exact hG (List.range (r+2)).toArray _ hr (fun i j hij hj=>by
  rw[ky i (by lia),ky j hj]
  have:=iO (key:=key) (p:=(List.range (r+2)).toArray) (m:=r+2) (fun j x y=>by rw[ky _ (by lia),ky _ y];exact up j x y) i j hij hj
  rw[ky i (by lia),ky j hj] at this
  exact this) rfl rfl
theorem zO {n:Nat}{Q:Unit→SortSt→Shared→Prop}{s:Shared} (hc:aZ n key (kas_cmp prog w A κ it) s) (inj:∀ i j,i<n→j<n→key i=key j→i=j) (h2:2≤n) (up:n<64∨∀ j,1≤j→j<n→key (j - 1)≤key j)
  (hG:∀ p' st',Rg n p'→Up key p' n→arrOf st'=p'.map (kas_item it)→failedOf st'=none→Q () st' s):kasC (model prog w) A E sortRuns' Q (kas_st κ it (List.range n).toArray) s:=by
 rcases up with h | up
 ·exact kas_runs (G:=fun p' s'=>s'=s∧Rg n p'∧Up key p' n) h2 h (fun p' st' s' _ a b ⟨e,c,d⟩=>by subst e;exact hG p' st' c d a b) (ve hc inj (by lia) fun p' a b=>⟨rfl,a,b⟩)
 ·exact vf hc inj h2 up hG
end
section
variable {prog:Program}{w:World}{A:Around}{E:Value→Shared→Prop}{κ:SortKind}{it:Array Keyed}{key:Nat→Int}{n:Nat}{s:Shared}
noncomputable def iP:Bool→Keyed→Array Keyed→Nat→Nat→Nat→StateT SortSt Sem (Option Nat):=sortPriv% PySem.Builtin.gallop
theorem gF (hc:aZ n key (kas_cmp prog w A κ it) s) {i j:Nat} (hi:i<n) (hj:j<n) {st:SortSt} (hk:kindOf st=κ) {Q:Option Bool→SortSt→Shared→Prop} (h:Q (some (decide (key i<key j))) st s):
  kasC (model prog w) A E (lt' (kas_item it i) (kas_item it j)) Q st s:=by
 rw[lt'_eq]
 apply kasC_bind
 apply kasC_get
 have:=hc i j (fun c s'=>s'=s∧c=decide (key i<key j)) hi hj ⟨rfl,rfl⟩
 unfold kas_cmp at this
 rw[hk]
 refine kasC_bind (kasC_lift (wpAny_attempt (wpAny_mono this (fun c s' hcs=>?_) fun _ _ hF=>hF.elim)))
 obtain⟨rfl,rfl⟩:=hcs
 exact kasC_pure h
theorem bv {σ β:Type}{M:Model}{f:Nat→β→StateT σ Sem (ForInStep β)}{Q:β→σ→Shared→Prop} (I:Nat→β→σ→Shared→Prop)
  (step:∀ x c st s',I x c st s'→kasC M A E (f x c) (fun r st2 s2=>match r with | .yield c'=>I (x+1) c' st2 s2 | .done c'=>Q c' st2 s2) st s'):∀ (m a:Nat) (c:β) (st:σ) (s':Shared),(∀ c st s',I (a+m) c st s'→Q c st s')→I a c st s'→
   kasC M A E (forIn (List.range' a m) c f) Q st s'
 | 0,a,c,st,s',fin,h=>by
  show kasC M A E (forIn ([]:List Nat) c f) Q st s'
  exact kasC_nil (fin c st s' h)
 | m+1,a,c,st,s',fin,h=>by
  show kasC M A E (forIn (a::List.range' (a+1) m) c f) Q st s'
  refine kasC_cons (wpAny_mono (step a c st s' h) (fun r s2 h'=>?_) fun _ _ e=>e)
  obtain⟨r,st2⟩:=r
  cases r with
  | done c'=>exact h'
  | yield c'=>exact bv I step m (a+1) c' st2 s2 (fun c st s' hi=>fin c st s' (by rw[show a+(m+1)=a+1+m by lia];exact hi)) h'
noncomputable def bey (key:Nat→Int) (left:Bool) (k:Nat) (pa:Array Nat) (base i:Nat):Bool:=if left=true then decide (key (pa.getD (base+i) 0)<key k) else !decide (key k<key (pa.getD (base+i) 0))
set_option maxHeartbeats 2000000 in
theorem nr (hc:aZ n key (kas_cmp prog w A κ it) s) {left:Bool}{k:Nat} (hk:k<n) {pa:Array Nat} (hpa:∀ i,i<pa.size→pa.getD i 0<n) {base m hint:Nat} (hb:base+m≤pa.size) (hh:hint<m)
  (mono:∀ i j,i≤j→j<m→bey key left k pa base j=true→bey key left k pa base i=true) {st:SortSt} (hkind:kindOf st=κ) {Q:Option Nat→SortSt→Shared→Prop}
  (h:∀ r,r≤m→(∀ i,i<r→bey key left k pa base i=true)→(∀ i,r≤i→i<m→bey key left k pa base i=false)→Q (some r) st s):
  kasC (model prog w) A E (iP left (kas_item it k) (pa.map (kas_item it)) base m hint) Q st s:=by
 have el:∀ i,i<m→(pa.map (kas_item it))[base+i]?=some (kas_item it (pa.getD (base+i) 0)):=fun i hi=>by
  have:base+i<pa.size:=by lia
  simp[Array.getD,this]
 have ask:∀ i,i<m→∀ Q':Option Bool→SortSt→Shared→Prop,Q' (some (bey key left k pa base i)) st s→
   kasC (model prog w) A E (do let x ← elem' (pa.map (kas_item it)) (base+i);if left=true then lt' x (kas_item it k) else do let r ← lt' (kas_item it k) x;pure (r.map fun x=>!x)) Q' st s:=fun i hi Q' hq=>by
  rw[elem'_eq,el i hi]
  apply kasC_bind
  apply kasC_pure
  have hx:=hpa (base+i) (by lia)
  unfold bey at hq
  cases left with
  | true=>
   rw[if_pos rfl] at hq ⊢
   exact gF hc hx hk hkind hq
  | false=>
   rw[if_neg Bool.false_ne_true] at hq ⊢
   exact kasC_bind (gF hc hk hx hkind (kasC_pure hq))
 unfold iP
 with_unfolding_all refine kasC_bind ?_
 refine ask hint hh _ ?_
 dsimp only
 cases hB0:bey key left k pa base hint with
 | true=>
  rw[if_pos rfl]
  apply kasC_bind
  apply kasC_range
  have nxt:∀ last ofs,last<ofs→hint+last<m→bey key left k pa base (hint+last)=true→(ofs ≥ m - hint∨bey key left k pa base (hint+ofs)=false)→
    hint+last+1≤hint+min ofs (m - hint)∧hint+min ofs (m - hint)≤m∧(∀ i,i<hint+last+1→bey key left k pa base i=true)∧(∀ i,hint+min ofs (m - hint)≤i→i<m→bey key left k pa base i=false)∧hint+min ofs (m - hint) - (hint+last+1)≤m - 0:=fun last ofs a1 a2 a3 a4=>by
   refine⟨by lia,by lia,fun i hi=>mono i (hint+last) (by lia) a2 a3,fun i h1 h2=>?_,by lia⟩
   rcases a4 with a4 | a4
   ·lia
   ·cases hi2:bey key left k pa base i with
    | false=>rfl
    | true=>rw[mono (hint+ofs) i (by lia) h2 hi2] at a4;cases a4
  refine bv (fun x c st' s'=>st'=st∧s'=s∧∃ last ofs,c=(none,last,ofs)∧last<ofs∧x<ofs∧hint+last<m∧bey key left k pa base (hint+last)=true) ?_ _ 0 _ _ _ ?_ ⟨rfl,rfl,0,1,rfl,by lia,by lia,by lia,hB0⟩
  ·rintro x c st' s' ⟨e1,e2,last,ofs,rfl,h1,h2,h3,h4⟩
   rw[e1,e2]
   dsimp only
   by_cases ho:ofs ≥ m - hint
   ·rw[if_pos ho]
    apply kasC_pure
    dsimp only
    have LH:=nxt last ofs h1 h3 h4 (.inl ho)
    apply kasC_bind
    apply kasC_range
    refine bv (fun x c st' s'=>st'=st∧s'=s∧∃ lo hi,c=(none,lo,hi)∧lo≤hi∧hi≤m∧(∀ i,i<lo→bey key left k pa base i=true)∧(∀ i,hi≤i→i<m→bey key left k pa base i=false)∧hi - lo≤m - x) ?_ _ 0 _ _ _ ?_ ⟨rfl,rfl,_,_,rfl,LH⟩
    ·rintro x c st' s' ⟨e1,e2,lo,hi,rfl,h1,h2,h3,h4,h5⟩
     rw[e1,e2]
     dsimp only
     by_cases hlh:lo ≥ hi
     ·rw[if_pos hlh]
      apply kasC_pure
      dsimp only
      have e:lo=hi:=by lia
      subst e
      exact kasC_pure (h lo h2 h3 h4)
     ·rw[if_neg hlh]
      have m1:lo≤lo+(hi - lo) / 2:=by lia
      have m2:lo+(hi - lo) / 2<hi:=by lia
      generalize lo+(hi - lo) / 2=mid at m1 m2 ⊢
      refine kasC_bind (ask mid (by lia) _ ?_)
      dsimp only
      cases hB:bey key left k pa base mid with
      | true=>
       rw[if_pos rfl]
       exact kasC_pure ⟨rfl,rfl,mid+1,hi,rfl,by lia,h2,fun i hi'=>mono i mid (by lia) (by lia) hB,h4,by lia⟩
      | false=>
       rw[if_neg Bool.false_ne_true]
       refine kasC_pure ⟨rfl,rfl,lo,mid,rfl,by lia,by lia,h3,fun i a b=>?_,by lia⟩
       cases hi2:bey key left k pa base i with
       | false=>rfl
       | true=>rw[mono mid i a b hi2] at hB;cases hB
    ·rintro c st' s' ⟨e1,e2,lo,hi,rfl,h1,h2,h3,h4,h5⟩
     rw[e1,e2]
     dsimp only
     have e:lo=hi:=by lia
     subst e
     exact kasC_pure (h lo h2 h3 h4)
   ·rw[if_neg ho]
    refine kasC_bind (ask (hint+ofs) (by lia) _ ?_)
    dsimp only
    cases hB:bey key left k pa base (hint+ofs) with
    | true=>
     simp only[Bool.not_true,Bool.false_eq_true,if_false]
     exact kasC_pure ⟨rfl,rfl,ofs,2 * ofs+1,rfl,by lia,by lia,by lia,hB⟩
    | false=>
     simp only[Bool.not_false,if_true]
     apply kasC_pure
     dsimp only
     have LH:=nxt last ofs h1 h3 h4 (.inr hB)
     apply kasC_bind
     apply kasC_range
     refine bv (fun x c st' s'=>st'=st∧s'=s∧∃ lo hi,c=(none,lo,hi)∧lo≤hi∧hi≤m∧(∀ i,i<lo→bey key left k pa base i=true)∧(∀ i,hi≤i→i<m→bey key left k pa base i=false)∧hi - lo≤m - x) ?_ _ 0 _ _ _ ?_ ⟨rfl,rfl,_,_,rfl,LH⟩
     ·rintro x c st' s' ⟨e1,e2,lo,hi,rfl,h1,h2,h3,h4,h5⟩
      rw[e1,e2]
      dsimp only
      by_cases hlh:lo ≥ hi
      ·rw[if_pos hlh]
       apply kasC_pure
       dsimp only
       have e:lo=hi:=by lia
       subst e
       exact kasC_pure (h lo h2 h3 h4)
      ·rw[if_neg hlh]
       have m1:lo≤lo+(hi - lo) / 2:=by lia
       have m2:lo+(hi - lo) / 2<hi:=by lia
       generalize lo+(hi - lo) / 2=mid at m1 m2 ⊢
       refine kasC_bind (ask mid (by lia) _ ?_)
       dsimp only
       cases hB:bey key left k pa base mid with
       | true=>
        rw[if_pos rfl]
        exact kasC_pure ⟨rfl,rfl,mid+1,hi,rfl,by lia,h2,fun i hi'=>mono i mid (by lia) (by lia) hB,h4,by lia⟩
       | false=>
        rw[if_neg Bool.false_ne_true]
        refine kasC_pure ⟨rfl,rfl,lo,mid,rfl,by lia,by lia,h3,fun i a b=>?_,by lia⟩
        cases hi2:bey key left k pa base i with
        | false=>rfl
        | true=>rw[mono mid i a b hi2] at hB;cases hB
     ·rintro c st' s' ⟨e1,e2,lo,hi,rfl,h1,h2,h3,h4,h5⟩
      rw[e1,e2]
      dsimp only
      have e:lo=hi:=by lia
      subst e
      exact kasC_pure (h lo h2 h3 h4)
  ·rintro c st' s' ⟨e1,e2,last,ofs,rfl,h1,h2,h3,h4⟩
   rw[e1,e2]
   dsimp only
   have LH:=nxt last ofs h1 h3 h4 (.inl (by lia))
   apply kasC_bind
   apply kasC_range
   refine bv (fun x c st' s'=>st'=st∧s'=s∧∃ lo hi,c=(none,lo,hi)∧lo≤hi∧hi≤m∧(∀ i,i<lo→bey key left k pa base i=true)∧(∀ i,hi≤i→i<m→bey key left k pa base i=false)∧hi - lo≤m - x) ?_ _ 0 _ _ _ ?_ ⟨rfl,rfl,_,_,rfl,LH⟩
   ·rintro x c st' s' ⟨e1,e2,lo,hi,rfl,h1,h2,h3,h4,h5⟩
    rw[e1,e2]
    dsimp only
    by_cases hlh:lo ≥ hi
    ·rw[if_pos hlh]
     apply kasC_pure
     dsimp only
     have e:lo=hi:=by lia
     subst e
     exact kasC_pure (h lo h2 h3 h4)
    ·rw[if_neg hlh]
     have m1:lo≤lo+(hi - lo) / 2:=by lia
     have m2:lo+(hi - lo) / 2<hi:=by lia
     generalize lo+(hi - lo) / 2=mid at m1 m2 ⊢
     refine kasC_bind (ask mid (by lia) _ ?_)
     dsimp only
     cases hB:bey key left k pa base mid with
     | true=>
      rw[if_pos rfl]
      exact kasC_pure ⟨rfl,rfl,mid+1,hi,rfl,by lia,h2,fun i hi'=>mono i mid (by lia) (by lia) hB,h4,by lia⟩
     | false=>
      rw[if_neg Bool.false_ne_true]
      refine kasC_pure ⟨rfl,rfl,lo,mid,rfl,by lia,by lia,h3,fun i a b=>?_,by lia⟩
      cases hi2:bey key left k pa base i with
      | false=>rfl
      | true=>rw[mono mid i a b hi2] at hB;cases hB
   ·rintro c st' s' ⟨e1,e2,lo,hi,rfl,h1,h2,h3,h4,h5⟩
    rw[e1,e2]
    dsimp only
    have e:lo=hi:=by lia
    subst e
    exact kasC_pure (h lo h2 h3 h4)
 | false=>
  rw[if_neg Bool.false_ne_true]
  apply kasC_bind
  apply kasC_range
  have nxt:∀ last ofs,last<ofs→last≤hint→bey key left k pa base (hint - last)=false→(ofs ≥ hint+1∨bey key left k pa base (hint - ofs)=true)→
    hint+1 - min ofs (hint+1)≤hint - last∧hint - last≤m∧(∀ i,i<hint+1 - min ofs (hint+1)→bey key left k pa base i=true)∧(∀ i,hint - last≤i→i<m→bey key left k pa base i=false)∧hint - last - (hint+1 - min ofs (hint+1))≤m - 0:=fun last ofs a1 a2 a3 a4=>by
   refine⟨by lia,by lia,fun i hi=>?_,fun i h1 h2=>?_,by lia⟩
   ·rcases a4 with a4 | a4
    ·lia
    ·exact mono i (hint - ofs) (by lia) (by lia) a4
   ·cases hi2:bey key left k pa base i with
    | false=>rfl
    | true=>rw[mono (hint - last) i (by lia) h2 hi2] at a3;cases a3
  refine bv (fun x c st' s'=>st'=st∧s'=s∧∃ last ofs,c=(none,last,ofs)∧last<ofs∧x<ofs∧last≤hint∧bey key left k pa base (hint - last)=false) ?_ _ 0 _ _ _ ?_ ⟨rfl,rfl,0,1,rfl,by lia,by lia,by lia,hB0⟩
  ·rintro x c st' s' ⟨e1,e2,last,ofs,rfl,h1,h2,h3,h4⟩
   rw[e1,e2]
   dsimp only
   by_cases ho:ofs ≥ hint+1
   ·rw[if_pos ho]
    apply kasC_pure
    dsimp only
    have LH:=nxt last ofs h1 h3 h4 (.inl ho)
    apply kasC_bind
    apply kasC_range
    refine bv (fun x c st' s'=>st'=st∧s'=s∧∃ lo hi,c=(none,lo,hi)∧lo≤hi∧hi≤m∧(∀ i,i<lo→bey key left k pa base i=true)∧(∀ i,hi≤i→i<m→bey key left k pa base i=false)∧hi - lo≤m - x) ?_ _ 0 _ _ _ ?_ ⟨rfl,rfl,_,_,rfl,LH⟩
    ·rintro x c st' s' ⟨e1,e2,lo,hi,rfl,h1,h2,h3,h4,h5⟩
     rw[e1,e2]
     dsimp only
     by_cases hlh:lo ≥ hi
     ·rw[if_pos hlh]
      apply kasC_pure
      dsimp only
      have e:lo=hi:=by lia
      subst e
      exact kasC_pure (h lo h2 h3 h4)
     ·rw[if_neg hlh]
      have m1:lo≤lo+(hi - lo) / 2:=by lia
      have m2:lo+(hi - lo) / 2<hi:=by lia
      generalize lo+(hi - lo) / 2=mid at m1 m2 ⊢
      refine kasC_bind (ask mid (by lia) _ ?_)
      dsimp only
      cases hB:bey key left k pa base mid with
      | true=>
       rw[if_pos rfl]
       exact kasC_pure ⟨rfl,rfl,mid+1,hi,rfl,by lia,h2,fun i hi'=>mono i mid (by lia) (by lia) hB,h4,by lia⟩
      | false=>
       rw[if_neg Bool.false_ne_true]
       refine kasC_pure ⟨rfl,rfl,lo,mid,rfl,by lia,by lia,h3,fun i a b=>?_,by lia⟩
       cases hi2:bey key left k pa base i with
       | false=>rfl
       | true=>rw[mono mid i a b hi2] at hB;cases hB
    ·rintro c st' s' ⟨e1,e2,lo,hi,rfl,h1,h2,h3,h4,h5⟩
     rw[e1,e2]
     dsimp only
     have e:lo=hi:=by lia
     subst e
     exact kasC_pure (h lo h2 h3 h4)
   ·rw[if_neg ho]
    refine kasC_bind (ask (hint - ofs) (by lia) _ ?_)
    dsimp only
    cases hB:bey key left k pa base (hint - ofs) with
    | false=>
     rw[if_neg Bool.false_ne_true]
     exact kasC_pure ⟨rfl,rfl,ofs,2 * ofs+1,rfl,by lia,by lia,by lia,hB⟩
    | true=>
     rw[if_pos rfl]
     apply kasC_pure
     dsimp only
     have LH:=nxt last ofs h1 h3 h4 (.inr hB)
     apply kasC_bind
     apply kasC_range
     refine bv (fun x c st' s'=>st'=st∧s'=s∧∃ lo hi,c=(none,lo,hi)∧lo≤hi∧hi≤m∧(∀ i,i<lo→bey key left k pa base i=true)∧(∀ i,hi≤i→i<m→bey key left k pa base i=false)∧hi - lo≤m - x) ?_ _ 0 _ _ _ ?_ ⟨rfl,rfl,_,_,rfl,LH⟩
     ·rintro x c st' s' ⟨e1,e2,lo,hi,rfl,h1,h2,h3,h4,h5⟩
      rw[e1,e2]
      dsimp only
      by_cases hlh:lo ≥ hi
      ·rw[if_pos hlh]
       apply kasC_pure
       dsimp only
       have e:lo=hi:=by lia
       subst e
       exact kasC_pure (h lo h2 h3 h4)
      ·rw[if_neg hlh]
       have m1:lo≤lo+(hi - lo) / 2:=by lia
       have m2:lo+(hi - lo) / 2<hi:=by lia
       generalize lo+(hi - lo) / 2=mid at m1 m2 ⊢
       refine kasC_bind (ask mid (by lia) _ ?_)
       dsimp only
       cases hB:bey key left k pa base mid with
       | true=>
        rw[if_pos rfl]
        exact kasC_pure ⟨rfl,rfl,mid+1,hi,rfl,by lia,h2,fun i hi'=>mono i mid (by lia) (by lia) hB,h4,by lia⟩
       | false=>
        rw[if_neg Bool.false_ne_true]
        refine kasC_pure ⟨rfl,rfl,lo,mid,rfl,by lia,by lia,h3,fun i a b=>?_,by lia⟩
        cases hi2:bey key left k pa base i with
        | false=>rfl
        | true=>rw[mono mid i a b hi2] at hB;cases hB
     ·rintro c st' s' ⟨e1,e2,lo,hi,rfl,h1,h2,h3,h4,h5⟩
      rw[e1,e2]
      dsimp only
      have e:lo=hi:=by lia
      subst e
      exact kasC_pure (h lo h2 h3 h4)
  ·rintro c st' s' ⟨e1,e2,last,ofs,rfl,h1,h2,h3,h4⟩
   rw[e1,e2]
   dsimp only
   have LH:=nxt last ofs h1 h3 h4 (.inl (by lia))
   apply kasC_bind
   apply kasC_range
   refine bv (fun x c st' s'=>st'=st∧s'=s∧∃ lo hi,c=(none,lo,hi)∧lo≤hi∧hi≤m∧(∀ i,i<lo→bey key left k pa base i=true)∧(∀ i,hi≤i→i<m→bey key left k pa base i=false)∧hi - lo≤m - x) ?_ _ 0 _ _ _ ?_ ⟨rfl,rfl,_,_,rfl,LH⟩
   ·rintro x c st' s' ⟨e1,e2,lo,hi,rfl,h1,h2,h3,h4,h5⟩
    rw[e1,e2]
    dsimp only
    by_cases hlh:lo ≥ hi
    ·rw[if_pos hlh]
     apply kasC_pure
     dsimp only
     have e:lo=hi:=by lia
     subst e
     exact kasC_pure (h lo h2 h3 h4)
    ·rw[if_neg hlh]
     have m1:lo≤lo+(hi - lo) / 2:=by lia
     have m2:lo+(hi - lo) / 2<hi:=by lia
     generalize lo+(hi - lo) / 2=mid at m1 m2 ⊢
     refine kasC_bind (ask mid (by lia) _ ?_)
     dsimp only
     cases hB:bey key left k pa base mid with
     | true=>
      rw[if_pos rfl]
      exact kasC_pure ⟨rfl,rfl,mid+1,hi,rfl,by lia,h2,fun i hi'=>mono i mid (by lia) (by lia) hB,h4,by lia⟩
     | false=>
      rw[if_neg Bool.false_ne_true]
      refine kasC_pure ⟨rfl,rfl,lo,mid,rfl,by lia,by lia,h3,fun i a b=>?_,by lia⟩
      cases hi2:bey key left k pa base i with
      | false=>rfl
      | true=>rw[mono mid i a b hi2] at hB;cases hB
   ·rintro c st' s' ⟨e1,e2,lo,hi,rfl,h1,h2,h3,h4,h5⟩
    rw[e1,e2]
    dsimp only
    have e:lo=hi:=by lia
    subst e
    exact kasC_pure (h lo h2 h3 h4)
end
section
variable {key:Nat→Int}
noncomputable def Srt (key:Nat→Int) (l:List Nat):Prop:=l.Pairwise fun x y=>key x≤key y
structure MLo (key:Nat→Int) (la lb:List Nat) (po:List Nat) (ia ib:Nat):Prop where
 perm:po.Perm (la.take ia++lb.take ib)
 sa:Srt key (po++la.drop ia)
 sb:Srt key (po++lb.drop ib)
 pa:ia+1<la.length
 pb:ib<lb.length
theorem a9 {l m:List Nat}:Srt key (l++m)↔Srt key l∧Srt key m∧∀ x∈l,∀ y∈m,key x≤key y:=List.pairwise_append
theorem fN (l:List Nat) (i k:Nat):l.take i++(l.drop i).take k=l.take (i+k):=by rw[List.take_add]
theorem eO {la lb po:List Nat}{ia ib:Nat} (k:Nat) (perm:po.Perm (la.take ia++lb.take ib)) (sa:Srt key (po++la.drop ia)) (sb:Srt key (po++lb.drop ib)) (h:∀ x∈(la.drop ia).take k,∀ y∈lb.drop ib,key x≤key y):
  (po++(la.drop ia).take k).Perm (la.take (ia+k)++lb.take ib)∧Srt key (po++(la.drop ia).take k++la.drop (ia+k))∧Srt key (po++(la.drop ia).take k++lb.drop ib):=by
 refine⟨?_,?_,?_⟩
 ·rw[← fN la ia k]
  refine (perm.append_right _).trans ?_
  rw[List.append_assoc,List.append_assoc]
  exact List.Perm.append_left _ List.perm_append_comm
 ·rw[List.append_assoc,← List.drop_drop,List.take_append_drop]
  exact sa
 ·rw[List.append_assoc]
  have s1:=a9.mp sa
  have s2:=a9.mp sb
  refine a9.mpr ⟨s1.1,a9.mpr ⟨s1.2.1.sublist (List.take_sublist _ _),s2.2.1,h⟩,fun x hx y hy=>?_⟩
  rcases List.mem_append.mp hy with hy | hy
  ·exact s1.2.2 x hx y (List.mem_of_mem_take hy)
  ·exact s2.2.2 x hx y hy
theorem gG {la lb po:List Nat}{ia ib:Nat} (k:Nat) (perm:po.Perm (la.take ia++lb.take ib)) (sa:Srt key (po++la.drop ia)) (sb:Srt key (po++lb.drop ib)) (h:∀ x∈(lb.drop ib).take k,∀ y∈la.drop ia,key x≤key y):
  (po++(lb.drop ib).take k).Perm (la.take ia++lb.take (ib+k))∧Srt key (po++(lb.drop ib).take k++la.drop ia)∧Srt key (po++(lb.drop ib).take k++lb.drop (ib+k)):=by
 have:=eO (la:=lb) (lb:=la) k (perm.trans List.perm_append_comm) sb sa h
 exact⟨this.1.trans List.perm_append_comm,this.2.2,this.2.1⟩
theorem bw {l:List Nat}{i:Nat} (h:i<l.length):(l.drop i).take 1=[l.getD i 0]:=by
 rw[List.drop_eq_getElem_cons h,List.getD_eq_getElem?_getD,List.getElem?_eq_getElem h]
 rfl
theorem bM {l:List Nat}{i y:Nat} (h:y∈l.drop i):∃ j,i≤j∧j<l.length∧y=l.getD j 0:=by
 obtain⟨j,hj,e⟩:=List.mem_iff_getElem.mp h
 have hl:=hj
 rw[List.length_drop] at hl
 exact⟨i+j,by lia,by lia,by rw[← e,List.getElem_drop];simp[List.getD,show i+j<l.length by lia]⟩
theorem eQ {l:List Nat}{i k y:Nat} (h:y∈(l.drop i).take k):∃ j,j<k∧i+j<l.length∧y=l.getD (i+j) 0:=by
 obtain⟨j,hj,e⟩:=List.mem_iff_getElem.mp h
 have hl:=hj
 rw[List.length_take,List.length_drop] at hl
 exact⟨j,by lia,by lia,by rw[← e,List.getElem_take,List.getElem_drop];simp[List.getD,show i+j<l.length by lia]⟩
theorem eS {l:List Nat} (h:Srt key l) {i j:Nat} (hij:i≤j) (hj:j<l.length):key (l.getD i 0)≤key (l.getD j 0):=by
 rcases Nat.lt_or_eq_of_le hij with hlt | rfl
 ·have:=List.pairwise_iff_getElem.mp h i j (by lia) hj hlt
  simpa [List.getD,hj,show i<l.length by lia] using this
 ·exact Int.le_refl _
theorem nt {l m:List Nat} (h:Srt key (l++m)):Srt key m:=(a9.mp h).2.1
theorem dR {po l:List Nat}{i j k:Nat} (h:Srt key (po++l.drop i)) (hj:i≤j) (hjk:j≤k) (hk:k<l.length):key (l.getD j 0)≤key (l.getD k 0):=by
 have:=eS (nt h) (i:=j - i) (j:=k - i) (by lia) (by rw[List.length_drop];lia)
 simpa [List.getD,List.getElem?_drop,show i+(j - i)=j by lia,show i+(k - i)=k by lia] using this
noncomputable def Mrg (key:Nat→Int) (it:Array Keyed) (la lb:List Nat) (out:Array Keyed):Prop:=∃ po:List Nat,out=(po.map (kas_item it)).toArray∧po.Perm (la++lb)∧Srt key po
theorem eT {it:Array Keyed}{la lb po:List Nat}{ia ib:Nat} (perm:po.Perm (la.take ia++lb.take ib)) (sa:Srt key (po++la.drop ia)) (sb:Srt key (po++lb.drop ib)) (hib:ib=lb.length∨ia=la.length):
  Mrg key it la lb ((po.map (kas_item it)).toArray++(la.map (kas_item it)).toArray.extract ia la.length++(lb.map (kas_item it)).toArray.extract ib lb.length):=by
 refine⟨po++la.drop ia++lb.drop ib,?_,?_,?_⟩
 ·apply Array.ext'
  simp[List.map_drop,List.take_of_length_le]
 ·rw[List.append_assoc]
  refine (perm.append_right _).trans ?_
  have:(la.take ia++lb.take ib++(la.drop ia++lb.drop ib)).Perm ((la.take ia++la.drop ia)++(lb.take ib++lb.drop ib)):=by
   rw[List.append_assoc,List.append_assoc]
   refine List.Perm.append_left _ ?_
   rw[← List.append_assoc,← List.append_assoc]
   exact List.Perm.append_right _ List.perm_append_comm
  rw[List.take_append_drop,List.take_append_drop] at this
  exact this
 ·rcases hib with e | e
  ·rw[e,List.drop_length,List.append_nil]
   exact sa
  ·rw[e,List.drop_length,List.append_nil]
   exact sb
theorem eU {it:Array Keyed}{la lb po:List Nat}{ia ib:Nat} (perm:po.Perm (la.take ia++lb.take ib)) (sa:Srt key (po++la.drop ia)) (sb:Srt key (po++lb.drop ib)) (hia:ia+1=la.length) (top:∀ x∈lb,key x≤key (la.getD (la.length - 1) 0)):
  Mrg key it la lb ((po.map (kas_item it)).toArray++(lb.map (kas_item it)).toArray.extract ib lb.length++(la.map (kas_item it)).toArray.extract ia la.length):=by
 refine⟨po++lb.drop ib++la.drop ia,?_,?_,?_⟩
 ·apply Array.ext'
  simp[List.map_drop,List.take_of_length_le]
 ·rw[List.append_assoc]
  refine (perm.append_right _).trans ?_
  have:(la.take ia++lb.take ib++(lb.drop ib++la.drop ia)).Perm ((la.take ia++la.drop ia)++(lb.take ib++lb.drop ib)):=by
   rw[List.append_assoc,List.append_assoc]
   refine List.Perm.append_left _ ?_
   rw[← List.append_assoc]
   exact List.perm_append_comm
  rw[List.take_append_drop,List.take_append_drop] at this
  exact this
 ·refine a9.mpr ⟨sb,nt sa,fun x hx y hy=>?_⟩
  rcases List.mem_append.mp hx with hx | hx
  ·exact (a9.mp sa).2.2 x hx y hy
  ·obtain⟨j,h1,h2,rfl⟩:=bM hy
   have:j=la.length - 1:=by lia
   rw[this]
   exact top x (List.mem_of_mem_drop hx)
end
section
variable {prog:Program}{w:World}{A:Around}{E:Value→Shared→Prop}{κ:SortKind}{it:Array Keyed}{key:Nat→Int}{n:Nat}{s:Shared}
noncomputable def nu:Array Keyed→Array Keyed→StateT SortSt Sem (Array Keyed):=sortPriv% PySem.Builtin.mergeLo
structure SameSt (st0 st:SortSt):Prop where
 k:kindOf st=kindOf st0
 a:arrOf st=arrOf st0
 p:pendingOf st=pendingOf st0
 f:failedOf st=failedOf st0
theorem SameSt.refl (st:SortSt):SameSt st st:=⟨rfl,rfl,rfl,rfl⟩
theorem bN {σ α:Type}{M:Model}{m:StateT σ Sem α}{Q Q':α→σ→Shared→Prop}{st:σ}{s':Shared} (h:kasC M A E m Q' st s') (g:∀ a st s',Q' a st s'→Q a st s'):kasC M A E m Q st s':=
 wpAny_mono h (fun r s' x=>g r.1 r.2 s' x) fun _ _ e=>e
theorem aO {l:List Nat}{i:Nat} (hi:i<l.length) {st:SortSt}{Q:Keyed→SortSt→Shared→Prop} (h:Q (kas_item it (l.getD i 0)) st s):kasC (model prog w) A E (elem' (l.map (kas_item it)).toArray i) Q st s:=by
 rw[elem'_eq,show ((l.map (kas_item it)).toArray)[i]?=some (kas_item it (l.getD i 0)) by simp[List.getD,hi]]
 exact kasC_pure h
theorem ck {l:List Nat} (hl:∀ x∈l,x<n) {i:Nat} (hi:i<l.length):l.getD i 0<n:=by
 rw[List.getD_eq_getElem?_getD,List.getElem?_eq_getElem hi]
 exact hl _ (List.getElem_mem hi)
theorem dy (l:List Nat) (i:Nat):l.toArray.getD i 0=l.getD i 0:=by simp[Array.getD,List.getD];split<;>simp_all
theorem jV (hc:aZ n key (kas_cmp prog w A κ it) s) {k:Nat} (hk:k<n) {l:List Nat} (hl:∀ x∈l,x<n) {base m hint:Nat} (hb:base+m≤l.length) (hh:hint<m)
  (mono:∀ i j,base≤i→i≤j→j<base+m→key (l.getD i 0)≤key (l.getD j 0)) {st:SortSt} (hkind:kindOf st=κ) {Q:Option Nat→SortSt→Shared→Prop}
  (h:∀ r,r≤m→(∀ i,base≤i→i<base+r→key (l.getD i 0)≤key k)→(∀ i,base+r≤i→i<base+m→key k<key (l.getD i 0))→Q (some r) st s):
  kasC (model prog w) A E (iP false (kas_item it k) (l.map (kas_item it)).toArray base m hint) Q st s:=by
 rw[← List.map_toArray]
 refine nr hc hk (fun i hi=>by rw[dy];exact ck hl (by simpa using hi)) (by simpa using hb) hh (fun i j hij hj hB=>?_) hkind fun r hr a b=>h r hr (fun i h1 h2=>?_) (fun i h1 h2=>?_)
 ·simp only[bey,dy,Bool.false_eq_true,if_false,Bool.not_eq_true',decide_eq_false_iff_not,Int.not_lt] at hB ⊢
  have:=mono (base+i) (base+j) (by lia) (by lia) (by lia)
  lia
 ·have:=a (i - base) (by lia)
  simp only[bey,dy,Bool.false_eq_true,if_false,Bool.not_eq_true',decide_eq_false_iff_not,Int.not_lt] at this
  rwa [show base+(i - base)=i by lia] at this
 ·have:=b (i - base) (by lia) (by lia)
  simp only[bey,dy,Bool.false_eq_true,if_false,Bool.not_eq_false',decide_eq_true_eq] at this
  rwa [show base+(i - base)=i by lia] at this
theorem gH (hc:aZ n key (kas_cmp prog w A κ it) s) {k:Nat} (hk:k<n) {l:List Nat} (hl:∀ x∈l,x<n) {base m hint:Nat} (hb:base+m≤l.length) (hh:hint<m)
  (mono:∀ i j,base≤i→i≤j→j<base+m→key (l.getD i 0)≤key (l.getD j 0)) {st:SortSt} (hkind:kindOf st=κ) {Q:Option Nat→SortSt→Shared→Prop}
  (h:∀ r,r≤m→(∀ i,base≤i→i<base+r→key (l.getD i 0)<key k)→(∀ i,base+r≤i→i<base+m→key k≤key (l.getD i 0))→Q (some r) st s):
  kasC (model prog w) A E (iP true (kas_item it k) (l.map (kas_item it)).toArray base m hint) Q st s:=by
 rw[← List.map_toArray]
 refine nr hc hk (fun i hi=>by rw[dy];exact ck hl (by simpa using hi)) (by simpa using hb) hh (fun i j hij hj hB=>?_) hkind fun r hr a b=>h r hr (fun i h1 h2=>?_) (fun i h1 h2=>?_)
 ·simp only[bey,dy,if_true,decide_eq_true_eq] at hB ⊢
  have:=mono (base+i) (base+j) (by lia) (by lia) (by lia)
  lia
 ·have:=a (i - base) (by lia)
  simp only[bey,dy,if_true,decide_eq_true_eq] at this
  rwa [show base+(i - base)=i by lia] at this
 ·have:=b (i - base) (by lia) (by lia)
  simp only[bey,dy,if_true,decide_eq_false_iff_not,Int.not_lt] at this
  rwa [show base+(i - base)=i by lia] at this
theorem aP (po:List Nat) (y:Nat):(po.map (kas_item it)).toArray.push (kas_item it y)=((po++[y]).map (kas_item it)).toArray:=by simp
theorem bB (po l:List Nat) (i k:Nat):(po.map (kas_item it)).toArray++(l.map (kas_item it)).toArray.extract i (i+k)=((po++(l.drop i).take k).map (kas_item it)).toArray:=by
 apply Array.ext'
 simp[List.map_drop,List.map_take,List.drop_take]
end
section
variable {prog:Program}{w:World}{A:Around}{E:Value→Shared→Prop}{κ:SortKind}{it:Array Keyed}{key:Nat→Int}{n:Nat}{s:Shared}
noncomputable def JLo (key:Nat→Int) (it:Array Keyed) (la lb:List Nat) (out:Array Keyed) (ia ib:Nat):Prop:=∃ po:List Nat,out=(po.map (kas_item it)).toArray∧MLo key la lb po ia ib
theorem nv {M:Model}{A:Around}{E:Value→Shared→Prop}{σ α:Type}{c:Nat→Prop}{dc:∀ g,Decidable (c g)}{a P:Nat→StateT σ Sem α}{Q:α→σ→Shared→Prop}{st:σ}{s:Shared} (x:Nat→Nat) (ha:∀ g,a g=P (x g)) (H:∀ g,kasC M A E (P g) Q st s):∀ g,kasC M A E (if c g then a g else P g) Q st s:=by
 intro g
 rw[ha]
 split
 ·exact H _
 ·exact H _
noncomputable def LoA (key:Nat→Int) (it:Array Keyed) (la lb:List Nat) (st:SortSt) (s:Shared)  : Option (Array Keyed)×Array Keyed×Nat×Nat×Nat→SortSt→Shared→Prop:=fun c st' s'=>s=s'∧SameSt st st'∧∃ out' p q r g,c=(some out',p,q,r,g)∧Mrg key it la lb out'
noncomputable def LoI (key:Nat→Int) (it:Array Keyed) (la lb:List Nat) (st:SortSt) (s:Shared) (x:Nat):Option (Array Keyed)×Array Keyed×Nat×Nat×Nat→SortSt→Shared→Prop:=fun c st' s'=>s=s'∧SameSt st st'∧∃ o ia ib g,c=(none,o,ia,ib,g)∧JLo key it la lb o ia ib∧x+1≤ia+ib
noncomputable def LoB (key:Nat→Int) (it:Array Keyed) (la lb:List Nat) (st:SortSt) (s:Shared) (x:Nat):Option (Array Keyed)×Array Keyed×Nat×Nat×Nat×Nat→SortSt→Shared→Prop:=fun c st' s'=>s=s'∧SameSt st st'∧((∃ out' p q r ac bc,c=(some out',p,q,r,ac,bc)∧Mrg key it la lb out')∨∃ o ia ib ac bc,c=(none,o,ia,ib,ac,bc)∧JLo key it la lb o ia ib∧x+2≤ia+ib)
noncomputable def LoJ (key:Nat→Int) (it:Array Keyed) (la lb:List Nat) (st:SortSt) (s:Shared) (x y:Nat):Option (Array Keyed)×Array Keyed×Nat×Nat×Nat×Nat→SortSt→Shared→Prop:=fun c st' s'=>s=s'∧SameSt st st'∧∃ o ia ib ac bc,c=(none,o,ia,ib,ac,bc)∧JLo key it la lb o ia ib∧x+1+y≤ia+ib
noncomputable def LoC (key:Nat→Int) (it:Array Keyed) (la lb:List Nat) (st:SortSt) (s:Shared) (x:Nat):Option (Array Keyed)×Array Keyed×Nat×Nat×Nat×Nat×Nat→SortSt→Shared→Prop:=fun c st' s'=>s=s'∧SameSt st st'∧((∃ out' p q r g ac bc,c=(some out',p,q,r,g,ac,bc)∧Mrg key it la lb out')∨∃ o ia ib g ac bc,c=(none,o,ia,ib,g,ac,bc)∧JLo key it la lb o ia ib∧x+2≤ia+ib)
noncomputable def LoK (key:Nat→Int) (it:Array Keyed) (la lb:List Nat) (st:SortSt) (s:Shared) (x y:Nat):Option (Array Keyed)×Array Keyed×Nat×Nat×Nat×Nat×Nat→SortSt→Shared→Prop:=fun c st' s'=>s=s'∧SameSt st st'∧∃ o ia ib g ac bc,c=(none,o,ia,ib,g,ac,bc)∧JLo key it la lb o ia ib∧x+2≤ia+ib
theorem LoA.a {key:Nat→Int}{it:Array Keyed}{la lb:List Nat}{st st':SortSt}{s:Shared}{out:Array Keyed}{p:Array Keyed}{q r:Nat}{g:Nat} (h:SameSt st st') (m:Mrg key it la lb out):LoA key it la lb st s (some out,p,q,r,g) st' s:=⟨rfl,h,_,_,_,_,_,rfl,m⟩
theorem LoI.k {key:Nat→Int}{it:Array Keyed}{la lb:List Nat}{st st':SortSt}{s:Shared}{x:Nat}{o:Array Keyed}{ia ib:Nat}{g:Nat} (h:SameSt st st') (j:JLo key it la lb o ia ib) (e:x+1≤ia+ib):LoI key it la lb st s x (none,o,ia,ib,g) st' s:=⟨rfl,h,_,_,_,_,rfl,j,e⟩
theorem LoB.a {key:Nat→Int}{it:Array Keyed}{la lb:List Nat}{st st':SortSt}{s:Shared}{x:Nat}{out:Array Keyed}{p:Array Keyed}{q r:Nat}{g g2:Nat} (h:SameSt st st') (m:Mrg key it la lb out):LoB key it la lb st s x (some out,p,q,r,g,g2) st' s:=⟨rfl,h,.inl ⟨_,_,_,_,_,_,rfl,m⟩⟩
theorem LoB.b {key:Nat→Int}{it:Array Keyed}{la lb:List Nat}{st st':SortSt}{s:Shared}{x:Nat}{o:Array Keyed}{ia ib:Nat}{g g2:Nat} (h:SameSt st st') (j:JLo key it la lb o ia ib) (e:x+2≤ia+ib):LoB key it la lb st s x (none,o,ia,ib,g,g2) st' s:=⟨rfl,h,.inr ⟨_,_,_,_,_,rfl,j,e⟩⟩
theorem LoJ.k {key:Nat→Int}{it:Array Keyed}{la lb:List Nat}{st st':SortSt}{s:Shared}{x y:Nat}{o:Array Keyed}{ia ib:Nat}{g g2:Nat} (h:SameSt st st') (j:JLo key it la lb o ia ib) (e:x+1+y≤ia+ib):LoJ key it la lb st s x y (none,o,ia,ib,g,g2) st' s:=⟨rfl,h,_,_,_,_,_,rfl,j,e⟩
theorem LoC.a {key:Nat→Int}{it:Array Keyed}{la lb:List Nat}{st st':SortSt}{s:Shared}{x:Nat}{out:Array Keyed}{p:Array Keyed}{q r:Nat}{g g2 g3:Nat} (h:SameSt st st') (m:Mrg key it la lb out):LoC key it la lb st s x (some out,p,q,r,g,g2,g3) st' s:=⟨rfl,h,.inl ⟨_,_,_,_,_,_,_,rfl,m⟩⟩
theorem LoC.b {key:Nat→Int}{it:Array Keyed}{la lb:List Nat}{st st':SortSt}{s:Shared}{x:Nat}{o:Array Keyed}{ia ib:Nat}{g g2 g3:Nat} (h:SameSt st st') (j:JLo key it la lb o ia ib) (e:x+2≤ia+ib):LoC key it la lb st s x (none,o,ia,ib,g,g2,g3) st' s:=⟨rfl,h,.inr ⟨_,_,_,_,_,_,rfl,j,e⟩⟩
theorem LoK.k {key:Nat→Int}{it:Array Keyed}{la lb:List Nat}{st st':SortSt}{s:Shared}{x y:Nat}{o:Array Keyed}{ia ib:Nat}{g g2 g3:Nat} (h:SameSt st st') (j:JLo key it la lb o ia ib) (e:x+2≤ia+ib):LoK key it la lb st s x y (none,o,ia,ib,g,g2,g3) st' s:=⟨rfl,h,_,_,_,_,_,_,rfl,j,e⟩
theorem bq {a b:Nat} (h:a=b):(a == b)=true:=by simp[h]
theorem nbq {a b:Nat} (h:¬ a=b):¬ (a == b)=true:=by simp[h]
theorem vg (hc:aZ n key (kas_cmp prog w A κ it) s) {la lb:List Nat} (hla:∀ x∈la,x<n) (hlb:∀ x∈lb,x<n) (sla:Srt key la) (slb:Srt key lb) (h0:0<la.length) (h1:0<lb.length)
  (first:∀ x∈la,key (lb.getD 0 0)≤key x) (top:∀ x∈lb,key x≤key (la.getD (la.length - 1) 0)) {st:SortSt} (hkind:kindOf st=κ) {Q:Array Keyed→SortSt→Shared→Prop}
  (h:∀ out st',Mrg key it la lb out→SameSt st st'→Q out st' s):
  kasC (model prog w) A E (nu (la.map (kas_item it)).toArray (lb.map (kas_item it)).toArray) Q st s:=by
 unfold nu
 with_unfolding_all refine kasC_bind (kasC_lift (wpAny_rule ?_))
 refine kasC_bind (aO h1 ?_)
 dsimp only
 generalize hza:(List.map (kas_item it) la).toArray.size=za
 obtain rfl:la.length=za:=by rw[← hza];simp
 generalize hzb:(List.map (kas_item it) lb).toArray.size=zb
 obtain rfl:lb.length=zb:=by rw[← hzb];simp
 have perm0:[lb.getD 0 0].Perm (la.take 0++lb.take 1):=by
  have:=bw (l:=lb) (i:=0) h1
  simp only[List.drop_zero] at this
  rw[this]
  exact List.Perm.refl _
 have sb0:Srt key ([lb.getD 0 0]++lb.drop 1):=by
  have:=bw (l:=lb) (i:=0) h1
  simp only[List.drop_zero] at this
  rw[← this,List.take_append_drop]
  exact slb
 have sa0:Srt key ([lb.getD 0 0]++la.drop 0):=a9.mpr ⟨List.pairwise_singleton _ _,by rw[List.drop_zero];exact sla,fun x hx y hy=>by
  rw[List.mem_singleton.mp hx]
  exact first y (by rwa [List.drop_zero] at hy)⟩
 have e0:#[kas_item it (lb.getD 0 0)]=([lb.getD 0 0].map (kas_item it)).toArray:=rfl
 rw[e0]
 by_cases c1:1=lb.length
 ·rw[if_pos (bq c1)]
  exact kasC_pure (h _ _ (eT perm0 sa0 sb0 (.inl c1)) (SameSt.refl st))
 rw[if_neg (nbq c1)]
 by_cases c2:0+1=la.length
 ·rw[if_pos (bq c2)]
  exact kasC_pure (h _ _ (eU perm0 sa0 sb0 c2 top) (SameSt.refl st))
 rw[if_neg (nbq c2)]
 refine kasC_bind (kasC_get ?_)
 refine kasC_bind (bN (Q':=LoA key it la lb st s) (kasC_range (bv (LoI key it la lb st s) ?step _ 0 _ _ _ ?fin (LoI.k (SameSt.refl st) ⟨_,rfl,perm0,sa0,sb0,by lia,by lia⟩ (by lia)))) ?after)
 case after=>
  rintro c st' s' ⟨rfl,hs,out',o,ia,ib,g,rfl,hm⟩
  exact kasC_pure (h _ _ hm hs)
 case fin=>
  rintro c st' s' ⟨rfl,hs,o,ia,ib,g,rfl,⟨po,rfl,m⟩,hx⟩
  have:=m.pa
  have:=m.pb
  lia
 case step=>
  rintro x c st' s' ⟨rfl,hs,o,ia,ib,g,rfl,hJ,hx⟩
  dsimp only
  refine kasC_bind (bN (Q':=LoB key it la lb st s x)
   (kasC_range (bv (LoJ key it la lb st s x) ?step1 _ 0 _ _ _ ?fin1 (LoJ.k hs hJ (by lia)))) ?after1)
  case fin1=>
   rintro c st' s' ⟨rfl,hs,o,ia,ib,ac,bc,rfl,hJ,hx⟩
   exact LoB.b hs hJ (by lia)
  case step1=>
   rintro y c st' s' ⟨rfl,hs,o,ia,ib,ac,bc,rfl,⟨po,rfl,m⟩,hx⟩
   have m1:=m.pa
   have m2:=m.pb
   have hk':kindOf st'=κ:=hs.k.trans hkind
   dsimp only
   refine kasC_bind (aO m2 ?_)
   refine kasC_bind (aO (show ia<la.length by lia) ?_)
   refine kasC_bind (gF hc (ck hlb m2) (ck hla (show ia<la.length by lia)) hk' ?_)
   dsimp only
   by_cases hw:key (lb.getD ib 0)<key (la.getD ia 0)
   ·rw[if_pos (by simpa using hw)]
    refine kasC_bind (aO m2 ?_)
    have b1:=gG 1 m.perm m.sa m.sb (fun x hx y hy=>by
     rw[bw m2,List.mem_singleton] at hx
     obtain⟨j,j1,j2,rfl⟩:=bM hy
     have:=dR m.sa (Nat.le_refl _) j1 j2
     rw[hx]
     lia)
    rw[bw m2] at b1
    rw[aP]
    try dsimp only
    by_cases hz:ib+1=lb.length
    ·rw[if_pos (bq hz)]
     exact kasC_pure (LoB.a hs (eT b1.1 b1.2.1 b1.2.2 (.inl hz)))
    ·rw[if_neg (nbq hz)]
     have J':JLo key it la lb ((po++[lb.getD ib 0]).map (kas_item it)).toArray ia (ib+1):=⟨_,rfl,b1.1,b1.2.1,b1.2.2,m1,by lia⟩
     by_cases hg:bc+1 ≥ g
     ·rw[if_pos hg]
      exact kasC_pure (LoB.b hs J' (by lia))
     ·rw[if_neg hg]
      exact kasC_pure (LoJ.k hs J' (by lia))
   ·rw[if_neg (by simpa using hw)]
    refine kasC_bind (aO (show ia<la.length by lia) ?_)
    have b1:=eO 1 m.perm m.sa m.sb (fun x hx y hy=>by
     rw[bw (show ia<la.length by lia),List.mem_singleton] at hx
     obtain⟨j,j1,j2,rfl⟩:=bM hy
     have:=dR m.sb (Nat.le_refl _) j1 j2
     rw[hx]
     lia)
    rw[bw (show ia<la.length by lia)] at b1
    rw[aP]
    try dsimp only
    by_cases hz:ia+1+1=la.length
    ·rw[if_pos (bq hz)]
     exact kasC_pure (LoB.a hs (eU b1.1 b1.2.1 b1.2.2 hz top))
    ·rw[if_neg (nbq hz)]
     have J':JLo key it la lb ((po++[la.getD ia 0]).map (kas_item it)).toArray (ia+1) ib:=⟨_,rfl,b1.1,b1.2.1,b1.2.2,by lia,m2⟩
     by_cases hg:ac+1 ≥ g
     ·rw[if_pos hg]
      exact kasC_pure (LoB.b hs J' (by lia))
     ·rw[if_neg hg]
      exact kasC_pure (LoJ.k hs J' (by lia))
  case after1=>
   rintro c st' s' ⟨rfl,hs,⟨out',o,ia,ib,ac,bc,rfl,hm⟩ | ⟨o,ia,ib,ac,bc,rfl,hJ,hx⟩⟩
   ·exact kasC_pure (LoA.a hs hm)
   ·dsimp only
    refine kasC_bind (kasC_lift (wpAny_rule ?_))
    try dsimp only
    refine kasC_bind (bN (Q':=LoC key it la lb st s x)
     (kasC_range (bv (LoK key it la lb st s x) ?step2 _ 0 _ _ _ ?fin2 (LoK.k hs hJ (by lia)))) ?after2)
    case fin2=>
     rintro c st' s' ⟨rfl,hs,o,ia,ib,g,ac,bc,rfl,hJ,hx⟩
     exact LoC.b hs hJ (by lia)
    case after2=>
     rintro c st' s' ⟨rfl,hs,⟨out',o,ia,ib,g,ac,bc,rfl,hm⟩ | ⟨o,ia,ib,g,ac,bc,rfl,hJ,hx⟩⟩
     ·exact kasC_pure (LoA.a hs hm)
     ·dsimp only
      refine kasC_bind (kasC_modify ?_)
      exact kasC_pure (LoI.k ⟨hs.k,hs.a,hs.p,hs.f⟩ hJ (by lia))
    case step2=>
     rintro y c st' s' ⟨rfl,hs,o,ia,ib,g,ac,bc,rfl,⟨po,rfl,m⟩,hx⟩
     have m1:=m.pa
     have m2:=m.pb
     dsimp only
     revert g
     refine nv (fun g=>g - 1) ?ha ?_
     case ha=>exact fun g=>rfl
     intro g
     refine kasC_bind (kasC_modify ?_)
     refine kasC_bind (aO m2 ?_)
     refine kasC_bind (jV hc (ck hlb m2) hla (base:=ia) (m:=la.length - ia) (hint:=0) (by lia) (by lia) (fun i j a b c=>dR m.sa a b (by lia)) (by exact hs.k.trans hkind) ?_)
     intro k hk1 lo1 hi1
     dsimp only
     by_cases hk0:k > 0
     ·rw[if_pos hk0]
      have p1:=eO k m.perm m.sa m.sb (fun x hx y hy=>by
       obtain⟨j,j0,j1,rfl⟩:=eQ hx
       obtain⟨j',a1,a2,rfl⟩:=bM hy
       have:=lo1 (ia+j) (by lia) (by lia)
       have:=dR m.sb (Nat.le_refl _) a1 a2
       lia)
      by_cases hz:ia+k+1=la.length
      ·rw[if_pos (bq hz)]
       exact kasC_pure (LoC.a ⟨hs.k,hs.a,hs.p,hs.f⟩ (by rw[bB];exact eU p1.1 p1.2.1 p1.2.2 hz top))
      rw[if_neg (nbq hz)]
      by_cases hz2:ia+k=la.length
      ·rw[if_pos (bq hz2)]
       exact kasC_pure (LoC.a ⟨hs.k,hs.a,hs.p,hs.f⟩ (by rw[bB];exact eT p1.1 p1.2.1 p1.2.2 (.inr hz2)))
      rw[if_neg (nbq hz2)]
      have hiA:∀ i,ia+k≤i→i<la.length→key (lb.getD ib 0)<key (la.getD i 0):=fun i a b=>hi1 i a (by lia)
      refine kasC_bind (aO m2 ?_)
      have p2:=gG 1 p1.1 p1.2.1 p1.2.2 (fun x hx y hy=>by
       rw[bw m2,List.mem_singleton] at hx
       obtain⟨j,j1,j2,rfl⟩:=bM hy
       have:=hiA j j1 j2
       rw[hx]
       lia)
      rw[bw m2] at p2
      by_cases hz3:ib+1=lb.length
      ·rw[if_pos (bq hz3)]
       exact kasC_pure (LoC.a ⟨hs.k,hs.a,hs.p,hs.f⟩ (by rw[bB,aP];exact eT p2.1 p2.2.1 p2.2.2 (.inl hz3)))
      rw[if_neg (nbq hz3)]
      refine kasC_bind (aO (show ia+k<la.length by lia) ?_)
      refine kasC_bind (gH hc (ck hla (show ia+k<la.length by lia)) hlb (base:=ib+1) (m:=lb.length - (ib+1)) (hint:=0) (by lia) (by lia) (fun i j a b c=>dR p2.2.2 a b (by lia)) (by exact hs.k.trans hkind) ?_)
      intro k2 hk2 lo2 hi2
      dsimp only
      by_cases hk3:k2 > 0
      ·rw[if_pos hk3]
       have p3:=gG k2 p2.1 p2.2.1 p2.2.2 (fun x hx y hy=>by
        obtain⟨j,j0,j1,rfl⟩:=eQ hx
        obtain⟨j',a1,a2,rfl⟩:=bM hy
        have:=lo2 (ib+1+j) (by lia) (by lia)
        have:=dR p2.2.1 (Nat.le_refl _) a1 a2
        lia)
       by_cases hz4:ib+1+k2=lb.length
       ·rw[if_pos (bq hz4)]
        exact kasC_pure (LoC.a ⟨hs.k,hs.a,hs.p,hs.f⟩ (by rw[bB,aP,bB];exact eT p3.1 p3.2.1 p3.2.2 (.inl hz4)))
       rw[if_neg (nbq hz4)]
       have hiB:∀ i,ib+1+k2≤i→i<lb.length→key (la.getD (ia+k) 0)≤key (lb.getD i 0):=fun i a b=>hi2 i a (by lia)
       refine kasC_bind (aO (show ia+k<la.length by lia) ?_)
       have p4:=eO 1 p3.1 p3.2.1 p3.2.2 (fun x hx y hy=>by
        rw[bw (show ia+k<la.length by lia),List.mem_singleton] at hx
        obtain⟨j,j1,j2,rfl⟩:=bM hy
        have:=hiB j j1 j2
        rw[hx]
        exact this)
       rw[bw (show ia+k<la.length by lia)] at p4
       by_cases hz5:ia+k+1+1=la.length
       ·rw[if_pos (bq hz5)]
        exact kasC_pure (LoC.a ⟨hs.k,hs.a,hs.p,hs.f⟩ (by rw[bB,aP,bB,aP];exact eU p4.1 p4.2.1 p4.2.2 hz5 top))
       rw[if_neg (nbq hz5)]
       by_cases hb:(decide (k<7) && decide (k2<7))=true
       ·rw[if_pos hb]
        exact kasC_pure (LoC.b ⟨hs.k,hs.a,hs.p,hs.f⟩ ⟨_,by rw[bB,aP,bB,aP],p4.1,p4.2.1,p4.2.2,by lia,by lia⟩ (by lia))
       ·rw[if_neg hb]
        exact kasC_pure (LoK.k ⟨hs.k,hs.a,hs.p,hs.f⟩ ⟨_,by rw[bB,aP,bB,aP],p4.1,p4.2.1,p4.2.2,by lia,by lia⟩ (by lia))
      ·rw[if_neg hk3]
       have p3:=p2
       have hiB:∀ i,ib+1≤i→i<lb.length→key (la.getD (ia+k) 0)≤key (lb.getD i 0):=fun i a b=>hi2 i (by lia) (by lia)
       refine kasC_bind (aO (show ia+k<la.length by lia) ?_)
       have p4:=eO 1 p3.1 p3.2.1 p3.2.2 (fun x hx y hy=>by
        rw[bw (show ia+k<la.length by lia),List.mem_singleton] at hx
        obtain⟨j,j1,j2,rfl⟩:=bM hy
        have:=hiB j j1 j2
        rw[hx]
        exact this)
       rw[bw (show ia+k<la.length by lia)] at p4
       by_cases hz5:ia+k+1+1=la.length
       ·rw[if_pos (bq hz5)]
        exact kasC_pure (LoC.a ⟨hs.k,hs.a,hs.p,hs.f⟩ (by rw[bB,aP,aP];exact eU p4.1 p4.2.1 p4.2.2 hz5 top))
       rw[if_neg (nbq hz5)]
       by_cases hb:(decide (k<7) && decide (k2<7))=true
       ·rw[if_pos hb]
        exact kasC_pure (LoC.b ⟨hs.k,hs.a,hs.p,hs.f⟩ ⟨_,by rw[bB,aP,aP],p4.1,p4.2.1,p4.2.2,by lia,by lia⟩ (by lia))
       ·rw[if_neg hb]
        exact kasC_pure (LoK.k ⟨hs.k,hs.a,hs.p,hs.f⟩ ⟨_,by rw[bB,aP,aP],p4.1,p4.2.1,p4.2.2,by lia,by lia⟩ (by lia))
     ·rw[if_neg hk0]
      have p1:po.Perm (la.take ia++lb.take ib)∧Srt key (po++la.drop ia)∧Srt key (po++lb.drop ib):=⟨m.perm,m.sa,m.sb⟩
      have hiA:∀ i,ia≤i→i<la.length→key (lb.getD ib 0)<key (la.getD i 0):=fun i a b=>hi1 i (by lia) (by lia)
      refine kasC_bind (aO m2 ?_)
      have p2:=gG 1 p1.1 p1.2.1 p1.2.2 (fun x hx y hy=>by
       rw[bw m2,List.mem_singleton] at hx
       obtain⟨j,j1,j2,rfl⟩:=bM hy
       have:=hiA j j1 j2
       rw[hx]
       lia)
      rw[bw m2] at p2
      by_cases hz3:ib+1=lb.length
      ·rw[if_pos (bq hz3)]
       exact kasC_pure (LoC.a ⟨hs.k,hs.a,hs.p,hs.f⟩ (by rw[aP];exact eT p2.1 p2.2.1 p2.2.2 (.inl hz3)))
      rw[if_neg (nbq hz3)]
      refine kasC_bind (aO (show ia<la.length by lia) ?_)
      refine kasC_bind (gH hc (ck hla (show ia<la.length by lia)) hlb (base:=ib+1) (m:=lb.length - (ib+1)) (hint:=0) (by lia) (by lia) (fun i j a b c=>dR p2.2.2 a b (by lia)) (by exact hs.k.trans hkind) ?_)
      intro k2 hk2 lo2 hi2
      dsimp only
      by_cases hk3:k2 > 0
      ·rw[if_pos hk3]
       have p3:=gG k2 p2.1 p2.2.1 p2.2.2 (fun x hx y hy=>by
        obtain⟨j,j0,j1,rfl⟩:=eQ hx
        obtain⟨j',a1,a2,rfl⟩:=bM hy
        have:=lo2 (ib+1+j) (by lia) (by lia)
        have:=dR p2.2.1 (Nat.le_refl _) a1 a2
        lia)
       by_cases hz4:ib+1+k2=lb.length
       ·rw[if_pos (bq hz4)]
        exact kasC_pure (LoC.a ⟨hs.k,hs.a,hs.p,hs.f⟩ (by rw[aP,bB];exact eT p3.1 p3.2.1 p3.2.2 (.inl hz4)))
       rw[if_neg (nbq hz4)]
       have hiB:∀ i,ib+1+k2≤i→i<lb.length→key (la.getD (ia) 0)≤key (lb.getD i 0):=fun i a b=>hi2 i a (by lia)
       refine kasC_bind (aO (show ia<la.length by lia) ?_)
       have p4:=eO 1 p3.1 p3.2.1 p3.2.2 (fun x hx y hy=>by
        rw[bw (show ia<la.length by lia),List.mem_singleton] at hx
        obtain⟨j,j1,j2,rfl⟩:=bM hy
        have:=hiB j j1 j2
        rw[hx]
        exact this)
       rw[bw (show ia<la.length by lia)] at p4
       by_cases hz5:ia+1+1=la.length
       ·rw[if_pos (bq hz5)]
        exact kasC_pure (LoC.a ⟨hs.k,hs.a,hs.p,hs.f⟩ (by rw[aP,bB,aP];exact eU p4.1 p4.2.1 p4.2.2 hz5 top))
       rw[if_neg (nbq hz5)]
       by_cases hb:(decide (k<7) && decide (k2<7))=true
       ·rw[if_pos hb]
        exact kasC_pure (LoC.b ⟨hs.k,hs.a,hs.p,hs.f⟩ ⟨_,by rw[aP,bB,aP],p4.1,p4.2.1,p4.2.2,by lia,by lia⟩ (by lia))
       ·rw[if_neg hb]
        exact kasC_pure (LoK.k ⟨hs.k,hs.a,hs.p,hs.f⟩ ⟨_,by rw[aP,bB,aP],p4.1,p4.2.1,p4.2.2,by lia,by lia⟩ (by lia))
      ·rw[if_neg hk3]
       have p3:=p2
       have hiB:∀ i,ib+1≤i→i<lb.length→key (la.getD (ia) 0)≤key (lb.getD i 0):=fun i a b=>hi2 i (by lia) (by lia)
       refine kasC_bind (aO (show ia<la.length by lia) ?_)
       have p4:=eO 1 p3.1 p3.2.1 p3.2.2 (fun x hx y hy=>by
        rw[bw (show ia<la.length by lia),List.mem_singleton] at hx
        obtain⟨j,j1,j2,rfl⟩:=bM hy
        have:=hiB j j1 j2
        rw[hx]
        exact this)
       rw[bw (show ia<la.length by lia)] at p4
       by_cases hz5:ia+1+1=la.length
       ·rw[if_pos (bq hz5)]
        exact kasC_pure (LoC.a ⟨hs.k,hs.a,hs.p,hs.f⟩ (by rw[aP,aP];exact eU p4.1 p4.2.1 p4.2.2 hz5 top))
       rw[if_neg (nbq hz5)]
       by_cases hb:(decide (k<7) && decide (k2<7))=true
       ·rw[if_pos hb]
        exact kasC_pure (LoC.b ⟨hs.k,hs.a,hs.p,hs.f⟩ ⟨_,by rw[aP,aP],p4.1,p4.2.1,p4.2.2,by lia,by lia⟩ (by lia))
       ·rw[if_neg hb]
        exact kasC_pure (LoK.k ⟨hs.k,hs.a,hs.p,hs.f⟩ ⟨_,by rw[aP,aP],p4.1,p4.2.1,p4.2.2,by lia,by lia⟩ (by lia))
end
section
variable {prog:Program}{w:World}{A:Around}{E:Value→Shared→Prop}{κ:SortKind}{it:Array Keyed}{key:Nat→Int}{n:Nat}{s:Shared}
noncomputable def nw:Array Keyed→Array Keyed→StateT SortSt Sem (Array Keyed):=sortPriv% PySem.Builtin.mergeHi
theorem jW {l:List Nat}{i j:Nat} (hij:i≤j) (hj:j≤l.length):l.drop i=(l.take j).drop i++l.drop j:=by
 have e:l.drop i=(l.take j++l.drop j).drop i:=by rw[List.take_append_drop]
 rw[e,List.drop_append_of_le_length (by rw[List.length_take];lia)]
theorem vh {l:List Nat}{i j:Nat} (hij:i≤j):l.take i++(l.take j).drop i=l.take j:=by
 have:=List.take_append_drop i (l.take j)
 rwa [List.take_take,Nat.min_eq_left hij] at this
theorem eV {la lb ro:List Nat}{na nb:Nat} (k:Nat) (hk:k≤na) (hna:na≤la.length) (perm:ro.Perm (la.drop na++lb.drop nb)) (sa:Srt key (la.take na++ro)) (sb:Srt key (lb.take nb++ro)) (h:∀ x∈(la.take na).drop k,∀ y∈lb.take nb,key y≤key x):
  ((la.take na).drop k++ro).Perm (la.drop k++lb.drop nb)∧Srt key (la.take k++((la.take na).drop k++ro))∧Srt key (lb.take nb++((la.take na).drop k++ro)):=by
 refine⟨?_,?_,?_⟩
 ·rw[jW hk hna,List.append_assoc]
  exact List.Perm.append_left _ perm
 ·rw[← List.append_assoc,vh hk]
  exact sa
 ·have s1:=a9.mp sa
  have s2:=a9.mp sb
  refine a9.mpr ⟨s2.1,a9.mpr ⟨s1.1.sublist (List.drop_sublist _ _),s2.2.1,fun x hx y hy=>s1.2.2 x (List.mem_of_mem_drop hx) y hy⟩,fun x hx y hy=>?_⟩
  rcases List.mem_append.mp hy with hy | hy
  ·exact h y hy x hx
  ·exact s2.2.2 x hx y hy
theorem gI {la lb ro:List Nat}{na nb:Nat} (k:Nat) (hk:k≤nb) (hnb:nb≤lb.length) (perm:ro.Perm (la.drop na++lb.drop nb)) (sa:Srt key (la.take na++ro)) (sb:Srt key (lb.take nb++ro)) (h:∀ x∈(lb.take nb).drop k,∀ y∈la.take na,key y≤key x):
  ((lb.take nb).drop k++ro).Perm (la.drop na++lb.drop k)∧Srt key (la.take na++((lb.take nb).drop k++ro))∧Srt key (lb.take k++((lb.take nb).drop k++ro)):=by
 have:=eV (la:=lb) (lb:=la) k hk hnb (perm.trans List.perm_append_comm) sb sa h
 exact⟨this.1.trans List.perm_append_comm,this.2.2,this.2.1⟩
theorem bG {l:List Nat}{i:Nat} (h0:0<i) (h:i≤l.length):(l.take i).drop (i - 1)=[l.getD (i - 1) 0]:=by
 rw[List.drop_take,show i - (i - 1)=1 by lia]
 exact bw (by lia)
theorem cl {l:List Nat}{i y:Nat} (h:y∈l.take i):∃ j,j<i∧j<l.length∧y=l.getD j 0:=by
 have:=eQ (i:=0) (k:=i) (y:=y) (l:=l) (by rwa [List.drop_zero])
 obtain⟨j,a,b,e⟩:=this
 exact⟨j,a,by lia,by rw[e];congr 1;lia⟩
theorem jX {l:List Nat}{i k y:Nat} (h:y∈(l.take k).drop i):∃ j,i≤j∧j<k∧j<l.length∧y=l.getD j 0:=by
 rw[List.drop_take] at h
 obtain⟨j,a,b,e⟩:=eQ h
 exact⟨i+j,by lia,by lia,b,e⟩
theorem dS {l ro:List Nat}{i j k:Nat} (h:Srt key (l.take i++ro)) (hjk:j≤k) (hk:k<i) (hl:k<l.length):key (l.getD j 0)≤key (l.getD k 0):=by
 have:=eS (a9.mp h).1 (i:=j) (j:=k) hjk (by rw[List.length_take];lia)
 simpa [List.getD,List.getElem?_take,show j<i by lia,hk] using this
theorem dz {la lb ro:List Nat}{na nb:Nat} (perm:ro.Perm (la.drop na++lb.drop nb)) (sa:Srt key (la.take na++ro)) (sb:Srt key (lb.take nb++ro)) (hz:na=0∨nb=0):
  Mrg key it la lb ((la.map (kas_item it)).toArray.extract 0 na++(lb.map (kas_item it)).toArray.extract 0 nb++(ro.reverse.map (kas_item it)).toArray.reverse):=by
 refine⟨la.take na++lb.take nb++ro,?_,?_,?_⟩
 ·apply Array.ext'
  simp[List.map_take]
 ·refine (List.Perm.append_left _ perm).trans ?_
  have:(la.take na++lb.take nb++(la.drop na++lb.drop nb)).Perm ((la.take na++la.drop na)++(lb.take nb++lb.drop nb)):=by
   rw[List.append_assoc,List.append_assoc]
   refine List.Perm.append_left _ ?_
   rw[← List.append_assoc,← List.append_assoc]
   exact List.Perm.append_right _ List.perm_append_comm
  rw[List.take_append_drop,List.take_append_drop] at this
  exact this
 ·rcases hz with e | e
  ·rw[e,List.take_zero,List.nil_append]
   exact sb
  ·rw[e,List.take_zero,List.append_nil]
   exact sa
theorem fO {la lb ro:List Nat}{na nb:Nat} (perm:ro.Perm (la.drop na++lb.drop nb)) (sa:Srt key (la.take na++ro)) (sb:Srt key (lb.take nb++ro)) (hz:nb=1) (first:∀ x∈la,key (lb.getD 0 0)≤key x):
  Mrg key it la lb ((lb.map (kas_item it)).toArray.extract 0 nb++(la.map (kas_item it)).toArray.extract 0 na++(ro.reverse.map (kas_item it)).toArray.reverse):=by
 refine⟨lb.take nb++la.take na++ro,?_,?_,?_⟩
 ·apply Array.ext'
  simp[List.map_take]
 ·refine (List.Perm.append_left _ perm).trans ?_
  have:(lb.take nb++la.take na++(la.drop na++lb.drop nb)).Perm ((la.take na++la.drop na)++(lb.take nb++lb.drop nb)):=by
   rw[List.append_assoc,← List.append_assoc (la.take na),← List.append_assoc (la.take na++la.drop na)]
   rw[← List.append_assoc (lb.take nb)]
   exact List.Perm.append_right _ List.perm_append_comm
  rw[List.take_append_drop,List.take_append_drop] at this
  exact this
 ·rw[List.append_assoc]
  refine a9.mpr ⟨(a9.mp sb).1,sa,fun x hx y hy=>?_⟩
  rcases List.mem_append.mp hy with hy | hy
  ·obtain⟨j,h1,h2,rfl⟩:=cl hx
   have:j=0:=by lia
   rw[this]
   exact first y (List.mem_of_mem_take hy)
  ·exact (a9.mp sb).2.2 x hx y hy
theorem aK (ro:List Nat) (y:Nat):(ro.reverse.map (kas_item it)).toArray.push (kas_item it y)=(([y]++ro).reverse.map (kas_item it)).toArray:=by simp
theorem bp (ro l:List Nat) (i k:Nat):(ro.reverse.map (kas_item it)).toArray++((l.map (kas_item it)).toArray.extract i k).reverse=(((l.take k).drop i++ro).reverse.map (kas_item it)).toArray:=by
 apply Array.ext'
 simp[List.map_drop,List.map_take,List.drop_take]
structure MHi (key:Nat→Int) (la lb:List Nat) (ro:List Nat) (na nb:Nat):Prop where
 perm:ro.Perm (la.drop na++lb.drop nb)
 sa:Srt key (la.take na++ro)
 sb:Srt key (lb.take nb++ro)
 pa:0<na
 pb:1<nb
 qa:na≤la.length
 qb:nb≤lb.length
noncomputable def JHi (key:Nat→Int) (it:Array Keyed) (la lb:List Nat) (out:Array Keyed) (na nb:Nat):Prop:=∃ ro:List Nat,out=(ro.reverse.map (kas_item it)).toArray∧MHi key la lb ro na nb
end
section
variable {prog:Program}{w:World}{A:Around}{E:Value→Shared→Prop}{κ:SortKind}{it:Array Keyed}{key:Nat→Int}{n:Nat}{s:Shared}
noncomputable def HiA (key:Nat→Int) (it:Array Keyed) (la lb:List Nat) (st:SortSt) (s:Shared)  : Option (Array Keyed)×Nat×Nat×Array Keyed×Nat→SortSt→Shared→Prop:=fun c st' s'=>s=s'∧SameSt st st'∧∃ out' p q r g,c=(some out',p,q,r,g)∧Mrg key it la lb out'
noncomputable def HiI (key:Nat→Int) (it:Array Keyed) (la lb:List Nat) (st:SortSt) (s:Shared) (x:Nat):Option (Array Keyed)×Nat×Nat×Array Keyed×Nat→SortSt→Shared→Prop:=fun c st' s'=>s=s'∧SameSt st st'∧∃ na nb o g,c=(none,na,nb,o,g)∧JHi key it la lb o na nb∧na+nb+x+1≤la.length+lb.length
noncomputable def HiB (key:Nat→Int) (it:Array Keyed) (la lb:List Nat) (st:SortSt) (s:Shared) (x:Nat):Option (Array Keyed)×Nat×Nat×Array Keyed×Nat×Nat→SortSt→Shared→Prop:=fun c st' s'=>s=s'∧SameSt st st'∧((∃ out' p q r ac bc,c=(some out',p,q,r,ac,bc)∧Mrg key it la lb out')∨∃ na nb o ac bc,c=(none,na,nb,o,ac,bc)∧JHi key it la lb o na nb∧na+nb+x+2≤la.length+lb.length)
noncomputable def HiJ (key:Nat→Int) (it:Array Keyed) (la lb:List Nat) (st:SortSt) (s:Shared) (x y:Nat):Option (Array Keyed)×Nat×Nat×Array Keyed×Nat×Nat→SortSt→Shared→Prop:=fun c st' s'=>s=s'∧SameSt st st'∧∃ na nb o ac bc,c=(none,na,nb,o,ac,bc)∧JHi key it la lb o na nb∧na+nb+x+1+y≤la.length+lb.length
noncomputable def HiC (key:Nat→Int) (it:Array Keyed) (la lb:List Nat) (st:SortSt) (s:Shared) (x:Nat):Option (Array Keyed)×Nat×Nat×Array Keyed×Nat×Nat×Nat→SortSt→Shared→Prop:=fun c st' s'=>s=s'∧SameSt st st'∧((∃ out' p q r g ac bc,c=(some out',p,q,r,g,ac,bc)∧Mrg key it la lb out')∨∃ na nb o g ac bc,c=(none,na,nb,o,g,ac,bc)∧JHi key it la lb o na nb∧na+nb+x+2≤la.length+lb.length)
noncomputable def HiK (key:Nat→Int) (it:Array Keyed) (la lb:List Nat) (st:SortSt) (s:Shared) (x y:Nat):Option (Array Keyed)×Nat×Nat×Array Keyed×Nat×Nat×Nat→SortSt→Shared→Prop:=fun c st' s'=>s=s'∧SameSt st st'∧∃ na nb o g ac bc,c=(none,na,nb,o,g,ac,bc)∧JHi key it la lb o na nb∧na+nb+x+2≤la.length+lb.length
theorem HiA.a {key:Nat→Int}{it:Array Keyed}{la lb:List Nat}{st st':SortSt}{s:Shared}{out:Array Keyed}{p q:Nat}{r:Array Keyed}{g:Nat} (h:SameSt st st') (m:Mrg key it la lb out):HiA key it la lb st s (some out,p,q,r,g) st' s:=⟨rfl,h,_,_,_,_,_,rfl,m⟩
theorem HiI.k {key:Nat→Int}{it:Array Keyed}{la lb:List Nat}{st st':SortSt}{s:Shared}{x:Nat}{na nb:Nat}{o:Array Keyed}{g:Nat} (h:SameSt st st') (j:JHi key it la lb o na nb) (e:na+nb+x+1≤la.length+lb.length):HiI key it la lb st s x (none,na,nb,o,g) st' s:=⟨rfl,h,_,_,_,_,rfl,j,e⟩
theorem HiB.a {key:Nat→Int}{it:Array Keyed}{la lb:List Nat}{st st':SortSt}{s:Shared}{x:Nat}{out:Array Keyed}{p q:Nat}{r:Array Keyed}{g g2:Nat} (h:SameSt st st') (m:Mrg key it la lb out):HiB key it la lb st s x (some out,p,q,r,g,g2) st' s:=⟨rfl,h,.inl ⟨_,_,_,_,_,_,rfl,m⟩⟩
theorem HiB.b {key:Nat→Int}{it:Array Keyed}{la lb:List Nat}{st st':SortSt}{s:Shared}{x:Nat}{na nb:Nat}{o:Array Keyed}{g g2:Nat} (h:SameSt st st') (j:JHi key it la lb o na nb) (e:na+nb+x+2≤la.length+lb.length):HiB key it la lb st s x (none,na,nb,o,g,g2) st' s:=⟨rfl,h,.inr ⟨_,_,_,_,_,rfl,j,e⟩⟩
theorem HiJ.k {key:Nat→Int}{it:Array Keyed}{la lb:List Nat}{st st':SortSt}{s:Shared}{x y:Nat}{na nb:Nat}{o:Array Keyed}{g g2:Nat} (h:SameSt st st') (j:JHi key it la lb o na nb) (e:na+nb+x+1+y≤la.length+lb.length):HiJ key it la lb st s x y (none,na,nb,o,g,g2) st' s:=⟨rfl,h,_,_,_,_,_,rfl,j,e⟩
theorem HiC.a {key:Nat→Int}{it:Array Keyed}{la lb:List Nat}{st st':SortSt}{s:Shared}{x:Nat}{out:Array Keyed}{p q:Nat}{r:Array Keyed}{g g2 g3:Nat} (h:SameSt st st') (m:Mrg key it la lb out):HiC key it la lb st s x (some out,p,q,r,g,g2,g3) st' s:=⟨rfl,h,.inl ⟨_,_,_,_,_,_,_,rfl,m⟩⟩
theorem HiC.b {key:Nat→Int}{it:Array Keyed}{la lb:List Nat}{st st':SortSt}{s:Shared}{x:Nat}{na nb:Nat}{o:Array Keyed}{g g2 g3:Nat} (h:SameSt st st') (j:JHi key it la lb o na nb) (e:na+nb+x+2≤la.length+lb.length):HiC key it la lb st s x (none,na,nb,o,g,g2,g3) st' s:=⟨rfl,h,.inr ⟨_,_,_,_,_,_,rfl,j,e⟩⟩
theorem HiK.k {key:Nat→Int}{it:Array Keyed}{la lb:List Nat}{st st':SortSt}{s:Shared}{x y:Nat}{na nb:Nat}{o:Array Keyed}{g g2 g3:Nat} (h:SameSt st st') (j:JHi key it la lb o na nb) (e:na+nb+x+2≤la.length+lb.length):HiK key it la lb st s x y (none,na,nb,o,g,g2,g3) st' s:=⟨rfl,h,_,_,_,_,_,_,rfl,j,e⟩
theorem vj (hc:aZ n key (kas_cmp prog w A κ it) s) {la lb:List Nat} (hla:∀ x∈la,x<n) (hlb:∀ x∈lb,x<n) (sla:Srt key la) (slb:Srt key lb) (h0:0<la.length) (h1:0<lb.length)
  (first:∀ x∈la,key (lb.getD 0 0)≤key x) (top:∀ x∈lb,key x≤key (la.getD (la.length - 1) 0)) {st:SortSt} (hkind:kindOf st=κ) {Q:Array Keyed→SortSt→Shared→Prop}
  (h:∀ out st',Mrg key it la lb out→SameSt st st'→Q out st' s):
  kasC (model prog w) A E (nw (la.map (kas_item it)).toArray (lb.map (kas_item it)).toArray) Q st s:=by
 unfold nw
 with_unfolding_all refine kasC_bind (kasC_lift (wpAny_rule ?_))
 dsimp only
 generalize hza:(List.map (kas_item it) la).toArray.size=za
 obtain rfl:la.length=za:=by rw[← hza];simp
 generalize hzb:(List.map (kas_item it) lb).toArray.size=zb
 obtain rfl:lb.length=zb:=by rw[← hzb];simp
 refine kasC_bind (aO (show la.length - 1<la.length by lia) ?_)
 try dsimp only
 have l1:=bG h0 (Nat.le_refl _)
 rw[List.take_length] at l1
 have perm0:[la.getD (la.length - 1) 0].Perm (la.drop (la.length - 1)++lb.drop lb.length):=by
  rw[l1,List.drop_length]
  exact List.Perm.refl _
 have sa0:Srt key (la.take (la.length - 1)++[la.getD (la.length - 1) 0]):=by
  rw[← l1,List.take_append_drop]
  exact sla
 have sb0:Srt key (lb.take lb.length++[la.getD (la.length - 1) 0]):=a9.mpr ⟨by rw[List.take_length];exact slb,List.pairwise_singleton _ _,fun x hx y hy=>by
  rw[List.mem_singleton.mp hy]
  exact top x (by rwa [List.take_length] at hx)⟩
 have e0:#[kas_item it (la.getD (la.length - 1) 0)]=([la.getD (la.length - 1) 0].reverse.map (kas_item it)).toArray:=rfl
 rw[e0]
 by_cases c1:la.length - 1=0
 ·rw[if_pos (bq c1)]
  exact kasC_pure (h _ _ (dz perm0 sa0 sb0 (.inl c1)) (SameSt.refl st))
 rw[if_neg (nbq c1)]
 by_cases c2:lb.length=1
 ·rw[if_pos (bq c2)]
  exact kasC_pure (h _ _ (fO perm0 sa0 sb0 c2 first) (SameSt.refl st))
 rw[if_neg (nbq c2)]
 refine kasC_bind (kasC_get ?_)
 refine kasC_bind (bN (Q':=HiA key it la lb st s) (kasC_range (bv (HiI key it la lb st s) ?step _ 0 _ _ _ ?fin (HiI.k (SameSt.refl st) ⟨_,rfl,perm0,sa0,sb0,by lia,by lia,by lia,by lia⟩ (by lia)))) ?after)
 case after=>
  rintro c st' s' ⟨rfl,hs,out',o,ia,ib,g,rfl,hm⟩
  exact kasC_pure (h _ _ hm hs)
 case fin=>
  rintro c st' s' ⟨rfl,hs,na,nb,o,g,rfl,⟨po,rfl,m⟩,hx⟩
  have:=m.pa
  have:=m.pb
  lia
 case step=>
  rintro x c st' s' ⟨rfl,hs,na,nb,o,g,rfl,hJ,hx⟩
  dsimp only
  refine kasC_bind (bN (Q':=HiB key it la lb st s x)
   (kasC_range (bv (HiJ key it la lb st s x) ?step1 _ 0 _ _ _ ?fin1 (HiJ.k hs hJ (by lia)))) ?after1)
  case fin1=>
   rintro c st' s' ⟨rfl,hs,na,nb,o,ac,bc,rfl,hJ,hx⟩
   exact HiB.b hs hJ (by lia)
  case step1=>
   rintro y c st' s' ⟨rfl,hs,na,nb,o,ac,bc,rfl,⟨po,rfl,m⟩,hx⟩
   have m1:=m.pa
   have m2:=m.pb
   have m3:=m.qa
   have m4:=m.qb
   have hk':kindOf st'=κ:=hs.k.trans hkind
   dsimp only
   refine kasC_bind (aO (show nb - 1<lb.length by lia) ?_)
   refine kasC_bind (aO (show na - 1<la.length by lia) ?_)
   refine kasC_bind (gF hc (ck hlb (show nb - 1<lb.length by lia)) (ck hla (show na - 1<la.length by lia)) hk' ?_)
   dsimp only
   by_cases hw:key (lb.getD (nb - 1) 0)<key (la.getD (na - 1) 0)
   ·rw[if_pos (by simpa using hw)]
    refine kasC_bind (aO (show na - 1<la.length by lia) ?_)
    have b1:=eV (na - 1) (by lia) m3 m.perm m.sa m.sb (fun x hx y hy=>by
     rw[bG m1 m3,List.mem_singleton] at hx
     obtain⟨j,j1,j2,rfl⟩:=cl hy
     have:=dS m.sb (show j≤nb - 1 by lia) (by lia) (by lia)
     rw[hx]
     lia)
    rw[bG m1 m3] at b1
    rw[aK]
    try dsimp only
    by_cases hz:na - 1=0
    ·rw[if_pos (bq hz)]
     exact kasC_pure (HiB.a hs (dz b1.1 b1.2.1 b1.2.2 (.inl hz)))
    ·rw[if_neg (nbq hz)]
     have J':JHi key it la lb (([la.getD (na - 1) 0]++po).reverse.map (kas_item it)).toArray (na - 1) nb:=⟨_,rfl,b1.1,b1.2.1,b1.2.2,by lia,m2,by lia,m4⟩
     by_cases hg:ac+1 ≥ g
     ·rw[if_pos hg]
      exact kasC_pure (HiB.b hs J' (by lia))
     ·rw[if_neg hg]
      exact kasC_pure (HiJ.k hs J' (by lia))
   ·rw[if_neg (by simpa using hw)]
    refine kasC_bind (aO (show nb - 1<lb.length by lia) ?_)
    have b1:=gI (nb - 1) (by lia) m4 m.perm m.sa m.sb (fun x hx y hy=>by
     rw[bG (by lia) m4,List.mem_singleton] at hx
     obtain⟨j,j1,j2,rfl⟩:=cl hy
     have:=dS m.sa (show j≤na - 1 by lia) (by lia) (by lia)
     rw[hx]
     lia)
    rw[bG (by lia) m4] at b1
    rw[aK]
    try dsimp only
    by_cases hz:nb - 1=1
    ·rw[if_pos (bq hz)]
     exact kasC_pure (HiB.a hs (fO b1.1 b1.2.1 b1.2.2 hz first))
    ·rw[if_neg (nbq hz)]
     have J':JHi key it la lb (([lb.getD (nb - 1) 0]++po).reverse.map (kas_item it)).toArray na (nb - 1):=⟨_,rfl,b1.1,b1.2.1,b1.2.2,m1,by lia,m3,by lia⟩
     by_cases hg:bc+1 ≥ g
     ·rw[if_pos hg]
      exact kasC_pure (HiB.b hs J' (by lia))
     ·rw[if_neg hg]
      exact kasC_pure (HiJ.k hs J' (by lia))
  case after1=>
   rintro c st' s' ⟨rfl,hs,⟨out',o,ia,ib,ac,bc,rfl,hm⟩ | ⟨na,nb,o,ac,bc,rfl,hJ,hx⟩⟩
   ·exact kasC_pure (HiA.a hs hm)
   ·try dsimp only
    refine kasC_bind (kasC_lift (wpAny_rule ?_))
    try dsimp only
    refine kasC_bind (bN (Q':=HiC key it la lb st s x)
     (kasC_range (bv (HiK key it la lb st s x) ?step2 _ 0 _ _ _ ?fin2 (HiK.k hs hJ (by lia)))) ?after2)
    case fin2=>
     rintro c st' s' ⟨rfl,hs,na,nb,o,g,ac,bc,rfl,hJ,hx⟩
     exact HiC.b hs hJ (by lia)
    case after2=>
     rintro c st' s' ⟨rfl,hs,⟨out',o,ia,ib,g,ac,bc,rfl,hm⟩ | ⟨na,nb,o,g,ac,bc,rfl,hJ,hx⟩⟩
     ·exact kasC_pure (HiA.a hs hm)
     ·try dsimp only
      refine kasC_bind (kasC_modify ?_)
      exact kasC_pure (HiI.k ⟨hs.k,hs.a,hs.p,hs.f⟩ hJ (by lia))
    case step2=>
     rintro y c st' s' ⟨rfl,hs,na,nb,o,g,ac,bc,rfl,⟨po,rfl,m⟩,hx⟩
     have m1:=m.pa
     have m2:=m.pb
     have m3:=m.qa
     have m4:=m.qb
     dsimp only
     revert g
     refine nv (fun g=>g - 1) ?ha ?_
     case ha=>exact fun g=>rfl
     intro g
     refine kasC_bind (kasC_modify ?_)
     refine kasC_bind (aO (show nb - 1<lb.length by lia) ?_)
     refine kasC_bind (jV hc (ck hlb (show nb - 1<lb.length by lia)) hla (base:=0) (m:=na) (hint:=na - 1) (by lia) (by lia) (fun i j a b c=>dS m.sa b (by lia) (by lia)) (by exact hs.k.trans hkind) ?_)
     intro k hk1 lo1 hi1
     dsimp only
     by_cases hk0:na - k > 0
     ·rw[if_pos hk0]
      have p1:=eV k (by lia) m3 m.perm m.sa m.sb (fun x hx y hy=>by
       obtain⟨j,j0,j1,j2,rfl⟩:=jX hx
       obtain⟨j',a1,a2,rfl⟩:=cl hy
       have:=hi1 j (by lia) (by lia)
       have:=dS m.sb (show j'≤nb - 1 by lia) (by lia) (by lia)
       lia)
      by_cases hz:k=0
      ·rw[if_pos (bq hz)]
       exact kasC_pure (HiC.a ⟨hs.k,hs.a,hs.p,hs.f⟩ (by rw[bp];exact dz p1.1 p1.2.1 p1.2.2 (.inl hz)))
      rw[if_neg (nbq hz)]
      have hiA:∀ i,i<k→key (la.getD i 0)≤key (lb.getD (nb - 1) 0):=fun i a=>lo1 i (by lia) (by lia)
      refine kasC_bind (aO (show nb - 1<lb.length by lia) ?_)
      have p2:=gI (nb - 1) (by lia) m4 p1.1 p1.2.1 p1.2.2 (fun x hx y hy=>by
       rw[bG (by lia) m4,List.mem_singleton] at hx
       obtain⟨j,j1,j2,rfl⟩:=cl hy
       have:=hiA j j1
       rw[hx]
       lia)
      rw[bG (by lia) m4] at p2
      by_cases hz3:nb - 1=1
      ·rw[if_pos (bq hz3)]
       exact kasC_pure (HiC.a ⟨hs.k,hs.a,hs.p,hs.f⟩ (by rw[bp,aK];exact fO p2.1 p2.2.1 p2.2.2 hz3 first))
      rw[if_neg (nbq hz3)]
      refine kasC_bind (aO (show k - 1<la.length by lia) ?_)
      refine kasC_bind (gH hc (ck hla (show k - 1<la.length by lia)) hlb (base:=0) (m:=nb - 1) (hint:=nb - 1 - 1) (by lia) (by lia) (fun i j a b c=>dS p2.2.2 b (by lia) (by lia)) (by exact hs.k.trans hkind) ?_)
      intro k2 hk2 lo2 hi2
      dsimp only
      by_cases hk3:nb - 1 - k2 > 0
      ·rw[if_pos hk3]
       have p3:=gI k2 (by lia) (show nb - 1≤lb.length by lia) p2.1 p2.2.1 p2.2.2 (fun x hx y hy=>by
        obtain⟨j,j0,j1,j2,rfl⟩:=jX hx
        obtain⟨j',a1,a2,rfl⟩:=cl hy
        have:=hi2 j (by lia) (by lia)
        have:=dS p2.2.1 (show j'≤k - 1 by lia) (by lia) (by lia)
        lia)
       by_cases hz4:k2=1
       ·rw[if_pos (bq hz4)]
        exact kasC_pure (HiC.a ⟨hs.k,hs.a,hs.p,hs.f⟩ (by rw[bp,aK,bp];exact fO p3.1 p3.2.1 p3.2.2 hz4 first))
       rw[if_neg (nbq hz4)]
       by_cases hz6:k2=0
       ·rw[if_pos (bq hz6)]
        exact kasC_pure (HiC.a ⟨hs.k,hs.a,hs.p,hs.f⟩ (by rw[bp,aK,bp];exact dz p3.1 p3.2.1 p3.2.2 (.inr hz6)))
       rw[if_neg (nbq hz6)]
       have hiB:∀ i,i<k2→key (lb.getD i 0)<key (la.getD (k - 1) 0):=fun i a=>lo2 i (by lia) (by lia)
       refine kasC_bind (aO (show k - 1<la.length by lia) ?_)
       have p4:=eV (k - 1) (by lia) (show k≤la.length by lia) p3.1 p3.2.1 p3.2.2 (fun x hx y hy=>by
        rw[bG (by lia) (show k≤la.length by lia),List.mem_singleton] at hx
        obtain⟨j,j1,j2,rfl⟩:=cl hy
        have:=hiB j j1
        rw[hx]
        lia)
       rw[bG (by lia) (show k≤la.length by lia)] at p4
       by_cases hz5:k - 1=0
       ·rw[if_pos (bq hz5)]
        exact kasC_pure (HiC.a ⟨hs.k,hs.a,hs.p,hs.f⟩ (by rw[bp,aK,bp,aK];exact dz p4.1 p4.2.1 p4.2.2 (.inl hz5)))
       rw[if_neg (nbq hz5)]
       by_cases hb:(decide (na - k<7) && decide (nb - 1 - k2<7))=true
       ·rw[if_pos hb]
        exact kasC_pure (HiC.b ⟨hs.k,hs.a,hs.p,hs.f⟩ ⟨_,by rw[bp,aK,bp,aK],p4.1,p4.2.1,p4.2.2,by lia,by lia,by lia,by lia⟩ (by lia))
       ·rw[if_neg hb]
        exact kasC_pure (HiK.k ⟨hs.k,hs.a,hs.p,hs.f⟩ ⟨_,by rw[bp,aK,bp,aK],p4.1,p4.2.1,p4.2.2,by lia,by lia,by lia,by lia⟩ (by lia))
      ·rw[if_neg hk3]
       have p3:=p2
       have hiB:∀ i,i<nb - 1→key (lb.getD i 0)<key (la.getD (k - 1) 0):=fun i a=>lo2 i (by lia) (by lia)
       refine kasC_bind (aO (show k - 1<la.length by lia) ?_)
       have p4:=eV (k - 1) (by lia) (show k≤la.length by lia) p3.1 p3.2.1 p3.2.2 (fun x hx y hy=>by
        rw[bG (by lia) (show k≤la.length by lia),List.mem_singleton] at hx
        obtain⟨j,j1,j2,rfl⟩:=cl hy
        have:=hiB j j1
        rw[hx]
        lia)
       rw[bG (by lia) (show k≤la.length by lia)] at p4
       by_cases hz5:k - 1=0
       ·rw[if_pos (bq hz5)]
        exact kasC_pure (HiC.a ⟨hs.k,hs.a,hs.p,hs.f⟩ (by rw[bp,aK,aK];exact dz p4.1 p4.2.1 p4.2.2 (.inl hz5)))
       rw[if_neg (nbq hz5)]
       by_cases hb:(decide (na - k<7) && decide (nb - 1 - k2<7))=true
       ·rw[if_pos hb]
        exact kasC_pure (HiC.b ⟨hs.k,hs.a,hs.p,hs.f⟩ ⟨_,by rw[bp,aK,aK],p4.1,p4.2.1,p4.2.2,by lia,by lia,by lia,by lia⟩ (by lia))
       ·rw[if_neg hb]
        exact kasC_pure (HiK.k ⟨hs.k,hs.a,hs.p,hs.f⟩ ⟨_,by rw[bp,aK,aK],p4.1,p4.2.1,p4.2.2,by lia,by lia,by lia,by lia⟩ (by lia))
     ·rw[if_neg hk0]
      have p1:po.Perm (la.drop na++lb.drop nb)∧Srt key (la.take na++po)∧Srt key (lb.take nb++po):=⟨m.perm,m.sa,m.sb⟩
      have hiA:∀ i,i<na→key (la.getD i 0)≤key (lb.getD (nb - 1) 0):=fun i a=>lo1 i (by lia) (by lia)
      refine kasC_bind (aO (show nb - 1<lb.length by lia) ?_)
      have p2:=gI (nb - 1) (by lia) m4 p1.1 p1.2.1 p1.2.2 (fun x hx y hy=>by
       rw[bG (by lia) m4,List.mem_singleton] at hx
       obtain⟨j,j1,j2,rfl⟩:=cl hy
       have:=hiA j j1
       rw[hx]
       lia)
      rw[bG (by lia) m4] at p2
      by_cases hz3:nb - 1=1
      ·rw[if_pos (bq hz3)]
       exact kasC_pure (HiC.a ⟨hs.k,hs.a,hs.p,hs.f⟩ (by rw[aK];exact fO p2.1 p2.2.1 p2.2.2 hz3 first))
      rw[if_neg (nbq hz3)]
      refine kasC_bind (aO (show na - 1<la.length by lia) ?_)
      refine kasC_bind (gH hc (ck hla (show na - 1<la.length by lia)) hlb (base:=0) (m:=nb - 1) (hint:=nb - 1 - 1) (by lia) (by lia) (fun i j a b c=>dS p2.2.2 b (by lia) (by lia)) (by exact hs.k.trans hkind) ?_)
      intro k2 hk2 lo2 hi2
      dsimp only
      by_cases hk3:nb - 1 - k2 > 0
      ·rw[if_pos hk3]
       have p3:=gI k2 (by lia) (show nb - 1≤lb.length by lia) p2.1 p2.2.1 p2.2.2 (fun x hx y hy=>by
        obtain⟨j,j0,j1,j2,rfl⟩:=jX hx
        obtain⟨j',a1,a2,rfl⟩:=cl hy
        have:=hi2 j (by lia) (by lia)
        have:=dS p2.2.1 (show j'≤na - 1 by lia) (by lia) (by lia)
        lia)
       by_cases hz4:k2=1
       ·rw[if_pos (bq hz4)]
        exact kasC_pure (HiC.a ⟨hs.k,hs.a,hs.p,hs.f⟩ (by rw[aK,bp];exact fO p3.1 p3.2.1 p3.2.2 hz4 first))
       rw[if_neg (nbq hz4)]
       by_cases hz6:k2=0
       ·rw[if_pos (bq hz6)]
        exact kasC_pure (HiC.a ⟨hs.k,hs.a,hs.p,hs.f⟩ (by rw[aK,bp];exact dz p3.1 p3.2.1 p3.2.2 (.inr hz6)))
       rw[if_neg (nbq hz6)]
       have hiB:∀ i,i<k2→key (lb.getD i 0)<key (la.getD (na - 1) 0):=fun i a=>lo2 i (by lia) (by lia)
       refine kasC_bind (aO (show na - 1<la.length by lia) ?_)
       have p4:=eV (na - 1) (by lia) (show na≤la.length by lia) p3.1 p3.2.1 p3.2.2 (fun x hx y hy=>by
        rw[bG (by lia) (show na≤la.length by lia),List.mem_singleton] at hx
        obtain⟨j,j1,j2,rfl⟩:=cl hy
        have:=hiB j j1
        rw[hx]
        lia)
       rw[bG (by lia) (show na≤la.length by lia)] at p4
       by_cases hz5:na - 1=0
       ·rw[if_pos (bq hz5)]
        exact kasC_pure (HiC.a ⟨hs.k,hs.a,hs.p,hs.f⟩ (by rw[aK,bp,aK];exact dz p4.1 p4.2.1 p4.2.2 (.inl hz5)))
       rw[if_neg (nbq hz5)]
       by_cases hb:(decide (na - k<7) && decide (nb - 1 - k2<7))=true
       ·rw[if_pos hb]
        exact kasC_pure (HiC.b ⟨hs.k,hs.a,hs.p,hs.f⟩ ⟨_,by rw[aK,bp,aK],p4.1,p4.2.1,p4.2.2,by lia,by lia,by lia,by lia⟩ (by lia))
       ·rw[if_neg hb]
        exact kasC_pure (HiK.k ⟨hs.k,hs.a,hs.p,hs.f⟩ ⟨_,by rw[aK,bp,aK],p4.1,p4.2.1,p4.2.2,by lia,by lia,by lia,by lia⟩ (by lia))
      ·rw[if_neg hk3]
       have p3:=p2
       have hiB:∀ i,i<nb - 1→key (lb.getD i 0)<key (la.getD (na - 1) 0):=fun i a=>lo2 i (by lia) (by lia)
       refine kasC_bind (aO (show na - 1<la.length by lia) ?_)
       have p4:=eV (na - 1) (by lia) (show na≤la.length by lia) p3.1 p3.2.1 p3.2.2 (fun x hx y hy=>by
        rw[bG (by lia) (show na≤la.length by lia),List.mem_singleton] at hx
        obtain⟨j,j1,j2,rfl⟩:=cl hy
        have:=hiB j j1
        rw[hx]
        lia)
       rw[bG (by lia) (show na≤la.length by lia)] at p4
       by_cases hz5:na - 1=0
       ·rw[if_pos (bq hz5)]
        exact kasC_pure (HiC.a ⟨hs.k,hs.a,hs.p,hs.f⟩ (by rw[aK,aK];exact dz p4.1 p4.2.1 p4.2.2 (.inl hz5)))
       rw[if_neg (nbq hz5)]
       by_cases hb:(decide (na - k<7) && decide (nb - 1 - k2<7))=true
       ·rw[if_pos hb]
        exact kasC_pure (HiC.b ⟨hs.k,hs.a,hs.p,hs.f⟩ ⟨_,by rw[aK,aK],p4.1,p4.2.1,p4.2.2,by lia,by lia,by lia,by lia⟩ (by lia))
       ·rw[if_neg hb]
        exact kasC_pure (HiK.k ⟨hs.k,hs.a,hs.p,hs.f⟩ ⟨_,by rw[aK,aK],p4.1,p4.2.1,p4.2.2,by lia,by lia,by lia,by lia⟩ (by lia))
end
section
variable {prog:Program}{w:World}{A:Around}{E:Value→Shared→Prop}{κ:SortKind}{it:Array Keyed}{key:Nat→Int}{n:Nat}{s:Shared}
theorem vk {σ:Type}{M:Model}{Q:PUnit→σ→Shared→Prop}{st st2:σ}{s:Shared} (h:Q ⟨⟩ st2 s):kasC M A E (set st2:StateT σ Sem PUnit) Q st s:=by
 unfold kasC;rw[StateT.run_set];exact wpAny_pure h
theorem jY {α:Type}:∀ (l:List α) (arr:List α) (q j0 s0:Nat),q+l.length≤arr.length→q=s0+j0→((l.zipIdx j0).foldl (fun (a:Array α) (x:α×Nat)=>a.setIfInBounds (s0+x.2) x.1) arr.toArray)=(arr.take q++l++arr.drop (q+l.length)).toArray
 | [],arr,q,j0,s0,h,e=>by simp
 | x::l,arr,q,j0,s0,h,e=>by
  rw[List.length_cons] at h
  rw[List.zipIdx_cons,List.foldl_cons]
  dsimp only
  rw[← e,List.setIfInBounds_toArray,jY l (arr.set q x) (q+1) (j0+1) s0 (by rw[List.length_set];lia) (by lia)]
  congr 1
  have e1:(arr.set q x).take (q+1)=arr.take q++[x]:=by
   apply List.ext_getElem?
   intro i
   rw[List.getElem?_take,List.getElem?_append,List.length_take,List.getElem?_take,List.getElem?_set]
   by_cases h1:i<q
   ·rw[if_pos (by lia),if_neg (by lia),if_pos (by lia),if_pos h1]
   ·by_cases h2:i=q
    ·subst h2
     rw[if_pos (by lia),if_pos rfl,if_pos (by lia),if_neg (by lia)]
     simp[show i - min i arr.length=0 by lia]
    ·rw[if_neg (by lia),if_neg (by lia)]
     rw[List.getElem?_eq_none]
     rw[List.length_singleton]
     lia
  have e2:(arr.set q x).drop (q+1+l.length)=arr.drop (q+(l.length+1)):=by
   apply List.ext_getElem?
   intro i
   rw[List.getElem?_drop,List.getElem?_drop,List.getElem?_set,if_neg (by lia)]
   congr 1
   lia
  rw[e1,e2,List.length_cons,List.append_assoc,List.append_assoc,List.append_assoc]
  rfl
theorem ny {LA LB po:List Nat}{k m:Nat} (sA:Srt key LA) (sB:Srt key LB) (hb:0<LB.length) (ha:0<LA.length) (h1:∀ x∈LA.take k,key x≤key (LB.getD 0 0)) (h4:∀ x∈LB.drop m,key (LA.getD (LA.length - 1) 0)≤key x)
  (hp:po.Perm (LA.drop k++LB.take m)) (sp:Srt key po):Srt key (LA.take k++po++LB.drop m)∧(LA.take k++po++LB.drop m).Perm (LA++LB):=by
 have b0:∀ y∈LB,key (LB.getD 0 0)≤key y:=fun y hy=>by
  obtain⟨j,_,hj,rfl⟩:=bM (i:=0) (l:=LB) (by rwa [List.drop_zero])
  exact eS sB (Nat.zero_le _) hj
 have aL:∀ x∈LA,key x≤key (LA.getD (LA.length - 1) 0):=fun x hx=>by
  obtain⟨j,_,hj,rfl⟩:=bM (i:=0) (l:=LA) (by rwa [List.drop_zero])
  exact eS sA (by lia) (by lia)
 have cA:Srt key (LA.take k++LA.drop k):=by rwa [List.take_append_drop]
 have cB:Srt key (LB.take m++LB.drop m):=by rwa [List.take_append_drop]
 have cA:=a9.mp cA
 have cB:=a9.mp cB
 refine⟨a9.mpr ⟨a9.mpr ⟨cA.1,sp,fun x hx y hy=>?_⟩,cB.2.1,fun x hx y hy=>?_⟩,?_⟩
 ·rcases List.mem_append.mp (hp.mem_iff.mp hy) with hy | hy
  ·exact cA.2.2 x hx y hy
  ·exact Int.le_trans (h1 x hx) (b0 y (List.mem_of_mem_take hy))
 ·rcases List.mem_append.mp hx with hx | hx
  ·exact Int.le_trans (h1 x hx) (b0 y (List.mem_of_mem_drop hy))
  ·rcases List.mem_append.mp (hp.mem_iff.mp hx) with hx | hx
   ·exact Int.le_trans (aL x (List.mem_of_mem_drop hx)) (h4 y hy)
   ·exact cB.2.2 x hx y hy
 ·refine (List.Perm.append_right _ (List.Perm.append_left _ hp)).trans ?_
  rw[← List.append_assoc,List.take_append_drop,List.append_assoc,List.take_append_drop]
theorem vm (hc:aZ n key (kas_cmp prog w A κ it) s) {lp:List Nat} (hlp:∀ x∈lp,x<n) {i sa na nb pw pw2:Nat}{st:SortSt} (hkind:PyProof.Rows.kindOf st=κ) (harr:arrOf st=(lp.map (kas_item it)).toArray) (hf:failedOf st=none)
  (hi:(pendingOf st)[i]?=some (sa,na,pw)) (hj:(pendingOf st)[i+1]?=some (sa+na,nb,pw2)) (ha:0<na) (hb:0<nb) (hz:sa+na+nb≤lp.length)
  (sA:Srt key ((lp.drop sa).take na)) (sB:Srt key ((lp.drop (sa+na)).take nb)) {Q:Bool→SortSt→Shared→Prop}
  (h:∀ mid st',PyProof.Rows.kindOf st'=κ→failedOf st'=none→pendingOf st'=((pendingOf st).setIfInBounds i (sa,na+nb,pw)).eraseIdxIfInBounds (i+1)→mid.Perm ((lp.drop sa).take (na+nb))→Srt key mid→
   arrOf st'=((lp.take sa++mid++lp.drop (sa+(na+nb))).map (kas_item it)).toArray→Q true st' s):
  kasC (model prog w) A E (mergeAt' i) Q st s:=by
 have lA:((lp.drop sa).take na).length=na:=by rw[List.length_take,List.length_drop];lia
 have lB:((lp.drop (sa+na)).take nb).length=nb:=by rw[List.length_take,List.length_drop];lia
 have gtA:∀ j,j<na→((lp.drop sa).take na).getD j 0=lp.getD (sa+j) 0:=fun j hj=>by simp[List.getD,List.getElem?_take,List.getElem?_drop,hj]
 have gtB:∀ j,j<nb→((lp.drop (sa+na)).take nb).getD j 0=lp.getD (sa+na+j) 0:=fun j hj=>by simp[List.getD,List.getElem?_take,List.getElem?_drop,hj]
 have eW:(lp.drop sa).take na++(lp.drop (sa+na)).take nb=(lp.drop sa).take (na+nb):=by rw[← List.drop_drop,fN]
 have eAll:lp.take sa++(lp.drop sa).take (na+nb)++lp.drop (sa+(na+nb))=lp:=by rw[fN,List.take_append_drop]
 have gA:∀ i j,sa≤i→i≤j→j<sa+na→key (lp.getD i 0)≤key (lp.getD j 0):=fun i j a b c=>by
  have:=eS sA (i:=i - sa) (j:=j - sa) (by lia) (by lia)
  rwa [gtA _ (by lia),gtA _ (by lia),show sa+(i - sa)=i by lia,show sa+(j - sa)=j by lia] at this
 have gB:∀ i j,sa+na≤i→i≤j→j<sa+na+nb→key (lp.getD i 0)≤key (lp.getD j 0):=fun i j a b c=>by
  have:=eS sB (i:=i - (sa+na)) (j:=j - (sa+na)) (by lia) (by lia)
  rwa [gtB _ (by lia),gtB _ (by lia),show sa+na+(i - (sa+na))=i by lia,show sa+na+(j - (sa+na))=j by lia] at this
 have mA:∀ x∈(lp.drop sa).take na,∃ j,sa≤j∧j<sa+na∧x=lp.getD j 0:=fun x hx=>by
  obtain⟨j,j0,j1,rfl⟩:=eQ hx
  exact⟨sa+j,by lia,by lia,rfl⟩
 have mB:∀ x∈(lp.drop (sa+na)).take nb,∃ j,sa+na≤j∧j<sa+na+nb∧x=lp.getD j 0:=fun x hx=>by
  obtain⟨j,j0,j1,rfl⟩:=eQ hx
  exact⟨sa+na+j,by lia,by lia,rfl⟩
 unfold mergeAt'
 with_unfolding_all refine kasC_bind (kasC_get ?_)
 simp only[hi,hj,harr]
 refine kasC_bind (vk ?_)
 refine kasC_bind (aO (show sa+na<lp.length by lia) ?_)
 refine kasC_bind (jV hc (ck hlp (show sa+na<lp.length by lia)) hlp (base:=sa) (m:=na) (hint:=0) (by lia) ha gA (by exact hkind) ?_)
 intro k hk1 lo1 hi1
 dsimp only
 by_cases c1:na - k=0
 ·rw[if_pos (by simpa using c1)]
  refine kasC_pure (h _ _ (by exact hkind) (by exact hf) rfl (List.Perm.refl _) ?_ ?_)
  ·rw[← eW]
   refine a9.mpr ⟨sA,sB,fun x hx y hy=>?_⟩
   obtain⟨j,j1,j2,rfl⟩:=mA x hx
   obtain⟨j',j3,j4,rfl⟩:=mB y hy
   have:=lo1 j j1 (by lia)
   have:=gB (sa+na) j' (by lia) j3 j4
   lia
  ·rw[eAll]
 rw[if_neg (by simpa using c1)]
 rw[show sa+k+(na - k) - 1=sa+na - 1 by lia]
 refine kasC_bind (aO (show sa+na - 1<lp.length by lia) ?_)
 refine kasC_bind (gH hc (ck hlp (show sa+na - 1<lp.length by lia)) hlp (base:=sa+na) (m:=nb) (hint:=nb - 1) (by lia) (by lia) gB (by exact hkind) ?_)
 intro nb' hk2 lo2 hi2
 dsimp only
 by_cases c2:nb'=0
 ·rw[if_pos (by simpa using c2)]
  refine kasC_pure (h _ _ (by exact hkind) (by exact hf) rfl (List.Perm.refl _) ?_ ?_)
  ·rw[← eW]
   refine a9.mpr ⟨sA,sB,fun x hx y hy=>?_⟩
   obtain⟨j,j1,j2,rfl⟩:=mA x hx
   obtain⟨j',j3,j4,rfl⟩:=mB y hy
   have:=hi2 j' (by lia) j4
   have:=gA j (sa+na - 1) j1 (by lia) (by lia)
   lia
  ·rw[eAll]
 rw[if_neg (by simpa using c2)]
 have eX:(lp.map (kas_item it)).toArray.extract (sa+k) (sa+na)=((((lp.drop sa).take na).drop k).map (kas_item it)).toArray:=by
  apply Array.ext'
  simp only[List.extract_toArray,List.extract_eq_drop_take,List.map_drop,List.map_take]
  rw[List.drop_take,List.drop_drop,show sa+na - (sa+k)=na - k by lia]
 have eY:(lp.map (kas_item it)).toArray.extract (sa+na) (sa+na+nb')=((((lp.drop (sa+na)).take nb).take nb').map (kas_item it)).toArray:=by
  apply Array.ext'
  simp only[List.extract_toArray,List.extract_eq_drop_take,List.map_drop,List.map_take]
  rw[List.take_take,Nat.min_eq_left hk2,show sa+na+nb' - (sa+na)=nb' by lia]
 rw[eX,eY]
 have h1:∀ x∈((lp.drop sa).take na).take k,key x≤key (((lp.drop (sa+na)).take nb).getD 0 0):=fun x hx=>by
  rw[gtB 0 hb]
  obtain⟨j,j0,j1,rfl⟩:=cl hx
  rw[gtA j (by lia)]
  exact lo1 _ (by lia) (by lia)
 have h4:∀ x∈((lp.drop (sa+na)).take nb).drop nb',key (((lp.drop sa).take na).getD (((lp.drop sa).take na).length - 1) 0)≤key x:=fun x hx=>by
  rw[lA,gtA _ (by lia)]
  obtain⟨j,j0,j1,rfl⟩:=bM hx
  rw[gtB j (by lia),show sa+(na - 1)=sa+na - 1 by lia]
  exact hi2 _ (by lia) (by lia)
 have f1:∀ x∈((lp.drop sa).take na).drop k,key ((((lp.drop (sa+na)).take nb).take nb').getD 0 0)≤key x:=fun x hx=>by
  rw[show (((lp.drop (sa+na)).take nb).take nb').getD 0 0=((lp.drop (sa+na)).take nb).getD 0 0 by simp only[List.getD,List.getElem?_take,if_pos (show 0<nb' by lia)],gtB 0 hb]
  obtain⟨j,j0,j1,rfl⟩:=bM hx
  rw[gtA j (by lia)]
  have:=hi1 (sa+j) (by lia) (by lia)
  rw[Nat.add_zero]
  lia
 have l2:(((lp.drop sa).take na).drop k).length=na - k:=by rw[List.length_drop,lA]
 have l3:(((lp.drop (sa+na)).take nb).take nb').length=nb':=by rw[List.length_take,lB];lia
 have f2:∀ x∈((lp.drop (sa+na)).take nb).take nb',key x≤key ((((lp.drop sa).take na).drop k).getD ((((lp.drop sa).take na).drop k).length - 1) 0):=fun x hx=>by
  rw[l2,show (((lp.drop sa).take na).drop k).getD (na - k - 1) 0=((lp.drop sa).take na).getD (na - 1) 0 by simp only[List.getD,List.getElem?_drop,show k+(na - k - 1)=na - 1 by lia],gtA _ (by lia),show sa+(na - 1)=sa+na - 1 by lia]
  obtain⟨j,j0,j1,rfl⟩:=cl hx
  rw[gtB j (by lia)]
  have:=lo2 (sa+na+j) (by lia) (by lia)
  lia
 have u1:∀ x∈((lp.drop sa).take na).drop k,x<n:=fun x hx=>hlp x (List.mem_of_mem_drop (List.mem_of_mem_take (List.mem_of_mem_drop hx)))
 have u2:∀ x∈((lp.drop (sa+na)).take nb).take nb',x<n:=fun x hx=>hlp x (List.mem_of_mem_drop (List.mem_of_mem_take (List.mem_of_mem_take hx)))
 by_cases c3:na - k≤nb'
 ·rw[if_pos c3]
  refine kasC_bind (vg hc u1 u2 (sA.sublist (List.drop_sublist _ _)) (sB.sublist (List.take_sublist _ _)) (by lia) (by lia) f1 f2 (by exact hkind) ?_)
  intro out st' hM hss
  obtain⟨po,rfl,hperm,hsrt⟩:=hM
  have hmid:=ny (key:=key) sA sB (by lia) (by lia) h1 h4 hperm hsrt
  refine kasC_bind (kasC_modify ?_)
  refine kasC_bind (kasC_get ?_)
  refine kasC_pure ?_
  have e:failedOf st'=none:=hss.f.trans hf
  show Q (failedOf st').isNone _ s
  rw[e]
  refine h (((lp.drop sa).take na).take k++po++((lp.drop (sa+na)).take nb).drop nb') _ (hss.k.trans hkind) (by first | rfl | exact e) (by exact hss.p) (by rw[← eW];exact hmid.2) hmid.1 ?_
  have ea:arrOf st'=(lp.map (kas_item it)).toArray:=hss.a
  have pl:po.length=na - k+nb':=by rw[hperm.length_eq,List.length_append,l2,l3]
  have sA':=jY (po.map (kas_item it)) (lp.map (kas_item it)) (sa+k) 0 (sa+k) (by rw[List.length_map,List.length_map,pl];lia) rfl
  show List.foldl (fun a x=>a.setIfInBounds (sa+k+x.2) x.1) (arrOf st') (po.map (kas_item it)).toArray.toList.zipIdx=_
  rw[ea]
  refine sA'.trans ?_
  rw[List.length_map,pl,← List.map_take,← List.map_drop,← List.map_append,← List.map_append]
  congr 2
  have q1:lp.take (sa+k)=lp.take sa++((lp.drop sa).take na).take k:=by
   rw[List.take_take,Nat.min_eq_left hk1,fN]
  have q2:lp.drop (sa+k+(na - k+nb'))=((lp.drop (sa+na)).take nb).drop nb'++lp.drop (sa+(na+nb)):=by
   have:=jW (l:=lp.drop (sa+na)) (i:=nb') (j:=nb) hk2 (by rw[List.length_drop];lia)
   rw[List.drop_drop,List.drop_drop] at this
   rw[show sa+k+(na - k+nb')=sa+na+nb' by lia,this,show sa+na+nb=sa+(na+nb) by lia]
  rw[q1,q2]
  simp only[List.append_assoc]
 ·rw[if_neg c3]
  refine kasC_bind (vj hc u1 u2 (sA.sublist (List.drop_sublist _ _)) (sB.sublist (List.take_sublist _ _)) (by lia) (by lia) f1 f2 (by exact hkind) ?_)
  intro out st' hM hss
  obtain⟨po,rfl,hperm,hsrt⟩:=hM
  have hmid:=ny (key:=key) sA sB (by lia) (by lia) h1 h4 hperm hsrt
  refine kasC_bind (kasC_modify ?_)
  refine kasC_bind (kasC_get ?_)
  refine kasC_pure ?_
  have e:failedOf st'=none:=hss.f.trans hf
  show Q (failedOf st').isNone _ s
  rw[e]
  refine h (((lp.drop sa).take na).take k++po++((lp.drop (sa+na)).take nb).drop nb') _ (hss.k.trans hkind) (by first | rfl | exact e) (by exact hss.p) (by rw[← eW];exact hmid.2) hmid.1 ?_
  have ea:arrOf st'=(lp.map (kas_item it)).toArray:=hss.a
  have pl:po.length=na - k+nb':=by rw[hperm.length_eq,List.length_append,l2,l3]
  have sA':=jY (po.map (kas_item it)) (lp.map (kas_item it)) (sa+k) 0 (sa+k) (by rw[List.length_map,List.length_map,pl];lia) rfl
  show List.foldl (fun a x=>a.setIfInBounds (sa+k+x.2) x.1) (arrOf st') (po.map (kas_item it)).toArray.toList.zipIdx=_
  rw[ea]
  refine sA'.trans ?_
  rw[List.length_map,pl,← List.map_take,← List.map_drop,← List.map_append,← List.map_append]
  congr 2
  have q1:lp.take (sa+k)=lp.take sa++((lp.drop sa).take na).take k:=by
   rw[List.take_take,Nat.min_eq_left hk1,fN]
  have q2:lp.drop (sa+k+(na - k+nb'))=((lp.drop (sa+na)).take nb).drop nb'++lp.drop (sa+(na+nb)):=by
   have:=jW (l:=lp.drop (sa+na)) (i:=nb') (j:=nb) hk2 (by rw[List.length_drop];lia)
   rw[List.drop_drop,List.drop_drop] at this
   rw[show sa+k+(na - k+nb')=sa+na+nb' by lia,this,show sa+na+nb=sa+(na+nb) by lia]
  rw[q1,q2]
  simp only[List.append_assoc]
end
section
variable {prog:Program}{w:World}{A:Around}{E:Value→Shared→Prop}{κ:SortKind}{it:Array Keyed}{key:Nat→Int}{n:Nat}{s:Shared}{pend:Array (Nat×Nat×Nat)}
structure Hd (κ:SortKind) (it:Array Keyed) (pend:Array (Nat×Nat×Nat)) (st:SortSt) (p:Array Nat):Prop where
 k:PyProof.Rows.kindOf st=κ
 a:arrOf st=p.map (kas_item it)
 p:pendingOf st=pend
 f:failedOf st=none
theorem gJ (hc:aZ n key (kas_cmp prog w A κ it) s) {p:Array Nat} (hp:Rg n p) {i j:Nat} (hi:i<n) (hj:j<n) {st:SortSt} (H:Hd κ it pend st p) {Q:Option Bool→SortSt→Shared→Prop} (h:Q (some (decide (kyA key p i<kyA key p j))) st s):
  kasC (model prog w) A E (ltAt' i j) Q st s:=by
 have el:∀ i,i<n→(p.map (kas_item it))[i]?=some (kas_item it (p.getD i 0)):=fun i hi=>by
  have:i<p.size:=by rw[hp.size];exact hi
  simp[Array.getD,this]
 rw[ltAt'_eq]
 refine kasC_bind (kasC_get ?_)
 rw[H.a]
 dsimp only
 rw[elem'_eq,elem'_eq,el i hi,el j hj]
 refine kasC_bind (kasC_pure ?_)
 refine kasC_bind (kasC_pure ?_)
 exact gF hc (hp.lt hi) (hp.lt hj) H.k h
theorem vn {p:Array Nat}{st:SortSt} (H:Hd κ it pend st p) {i j:Nat}{Q:Unit→SortSt→Shared→Prop} (h:∀ st',Hd κ it pend st' (kas_rev p i j)→Q () st' s):kasC (model prog w) A E (reverseSlice' i j) Q st s:=by
 rw[reverseSlice'_eq]
 refine kasC_modify (h _ ⟨H.k,?_,H.p,H.f⟩)
 show mirror (arrOf st) i j ((j - i) / 2)=_
 rw[H.a]
 exact kas_swaps_map (kas_item it) (fun k=>i+k) (fun k=>j - 1 - k) _ p
theorem vo {p:Array Nat}{st:SortSt} (H:Hd κ it pend st p) {i j:Nat}{Q:Unit→SortSt→Shared→Prop} (h:∀ st',Hd κ it pend st' (bubble p i (i - j))→Q () st' s):kasC (model prog w) A E (moveDown' i j) Q st s:=by
 rw[moveDown'_eq]
 refine kasC_modify (h _ ⟨H.k,?_,H.p,H.f⟩)
 show bubble (arrOf st) i (i - j)=_
 rw[H.a]
 exact kas_swaps_map (kas_item it) (fun k=>i - k) (fun k=>i - k - 1) _ p
theorem gK {σ β:Type}{M:Model}{f:Nat→β→StateT σ Sem (ForInStep β)}{Q:β→σ→Shared→Prop} (I:Nat→β→σ→Shared→Prop) (B:Nat)
  (step:∀ x c st s',x<B→I x c st s'→kasC M A E (f x c) (fun r st2 s2=>match r with | .yield c'=>I (x+1) c' st2 s2 | .done c'=>Q c' st2 s2) st s'):∀ (m a:Nat) (c:β) (st:σ) (s':Shared),a+m≤B→(∀ c st s',I (a+m) c st s'→Q c st s')→I a c st s'→
   kasC M A E (forIn (List.range' a m) c f) Q st s'
 | 0,a,c,st,s',hB,fin,h=>by
  show kasC M A E (forIn ([]:List Nat) c f) Q st s'
  exact kasC_nil (fin c st s' h)
 | m+1,a,c,st,s',hB,fin,h=>by
  show kasC M A E (forIn (a::List.range' (a+1) m) c f) Q st s'
  refine kasC_cons (wpAny_mono (step a c st s' (by lia) h) (fun r s2 h'=>?_) fun _ _ e=>e)
  obtain⟨r,st2⟩:=r
  cases r with
  | done c'=>exact h'
  | yield c'=>exact gK I B step m (a+1) c' st2 s2 (by lia) (fun c st s' hi=>fin c st s' (by rw[show a+(m+1)=a+1+m by lia];exact hi)) h'
theorem vp (hc:aZ n key (kas_cmp prog w A κ it) s) (inj:∀ i j,i<n→j<n→key i=key j→i=j) {p:Array Nat} (hp:Rg n p) {lo nrem:Nat} (h1:1≤nrem) (hz:lo+nrem≤n) {st:SortSt} (H:Hd κ it pend st p) {Q:Option Nat→SortSt→Shared→Prop}
  (h:∀ m p' st',1≤m→m≤nrem→Rg n p'→Hd κ it pend st' p'→(∀ i,i<lo→p'[i]?=p[i]?)→(∀ j,lo+1≤j→j<lo+m→kyA key p' (j - 1)≤kyA key p' j)→Q (some m) st' s):
  kasC (model prog w) A E (countRun' lo nrem) Q st s:=by
 unfold countRun'
 have asc:∀ (q:Array Nat) (st1:SortSt) (a:Nat),Rg n q→Hd κ it pend st1 q→1≤a→a≤nrem→(∀ j,lo+1≤j→j<lo+a→kyA key q (j - 1)≤kyA key q j)→
   kasC (model prog w) A E (forIn [a:nrem] ((none:Option (Option Nat)),a) fun x c=>do
    let r ← ltAt' (lo+c.2) (lo+c.2 - 1)
    match r with
    | some smaller=>if smaller=true then pure (ForInStep.done (none,c.2)) else pure (ForInStep.yield (none,c.2+1))
    | x=>pure (ForInStep.done (some none,c.2)))
    (fun c st' s'=>s=s'∧st1=st'∧∃ m,c=(none,m)∧a≤m∧m≤nrem∧(∀ j,lo+1≤j→j<lo+m→kyA key q (j - 1)≤kyA key q j)∧(m=nrem∨kyA key q (lo+m)<kyA key q (lo+m - 1))) st1 s:=fun q st1 a hq H1 a1 a2 a3=>by
  refine kasC_range (gK (fun x c st' s'=>s=s'∧st1=st'∧c=(none,x)∧a≤x∧∀ j,lo+1≤j→j<lo+x→kyA key q (j - 1)≤kyA key q j) nrem ?_ _ _ _ _ _ (by lia) ?_ ⟨rfl,rfl,rfl,Nat.le_refl _,a3⟩)
  ·rintro x c st' s' hx ⟨rfl,rfl,rfl,x1,x2⟩
   dsimp only
   refine kasC_bind (gJ hc hq (by lia) (by lia) H1 ?_)
   dsimp only
   by_cases hk:kyA key q (lo+x)<kyA key q (lo+x - 1)
   ·rw[if_pos (by simpa using hk)]
    exact kasC_pure ⟨rfl,rfl,x,rfl,x1,by lia,x2,.inr hk⟩
   ·rw[if_neg (by simpa using hk)]
    refine kasC_pure ⟨rfl,rfl,rfl,by lia,fun j j1 j2=>?_⟩
    by_cases e:j=lo+x
    ·subst e
     lia
    ·exact x2 j j1 (by lia)
  ·rintro c st' s' ⟨rfl,rfl,rfl,x1,x2⟩
   rw[show a+(nrem - a)=nrem by lia] at x2 ⊢
   exact⟨rfl,rfl,nrem,rfl,by lia,Nat.le_refl _,x2,.inl rfl⟩
 with_unfolding_all refine kasC_bind (bN (asc p st 1 hp H (Nat.le_refl _) h1 fun j a b=>by lia) ?_)
 rintro c st' s' ⟨rfl,rfl,m,rfl,m1,m2,m3,m4⟩
 dsimp only
 by_cases e:m=nrem
 ·rw[if_pos (by simpa using e)]
  exact kasC_pure (h m p _ m1 m2 hp H (fun _ _=>rfl) m3)
 rw[if_neg (by simpa using e)]
 have lt1:kyA key p (lo+m)<kyA key p (lo+m - 1):=m4.resolve_left e
 by_cases e1:m > 1
 ·rw[if_pos e1]
  refine kasC_bind (gJ hc hp (by lia) (by lia) H ?_)
  dsimp only
  have:∀ d,1≤d→d<m→kyA key p lo<kyA key p (lo+d):=fun d=>by
   induction d with
   | zero=>intro x;lia
   | succ d ih=>
    intro _ hd
    have a:=m3 (lo+(d+1)) (by lia) (by lia)
    rw[show lo+(d+1) - 1=lo+d by lia] at a
    have b:=hp.ne inj (show lo+d<lo+(d+1) by lia) (by lia)
    by_cases z:d=0
    ·subst z
     rw[Nat.add_zero] at a b
     lia
    ·have:=ih (by lia) (by lia)
     lia
  have hr:=this (m - 1) (by lia) (by lia)
  rw[show lo+(m - 1)=lo+m - 1 by lia] at hr
  rw[if_pos (by simpa using hr)]
  exact kasC_pure (h m p _ m1 m2 hp H (fun _ _=>rfl) m3)
 rw[if_neg e1]
 obtain rfl:m=1:=by lia
 refine kasC_bind (kasC_lift (wpAny_rule ?_))
 refine kasC_bind (bN (Q':=fun c st' s'=>s=s'∧st=st'∧∃ m,c=(none,m,0)∧2≤m∧m≤nrem∧∀ j,lo+1≤j→j<lo+m→kyA key p j<kyA key p (j - 1))
  (kasC_range (gK (fun x c st' s'=>s=s'∧st=st'∧c=(none,x,0)∧2≤x∧∀ j,lo+1≤j→j<lo+x→kyA key p j<kyA key p (j - 1)) nrem ?d1 _ _ _ _ _ (by lia) ?d2 ⟨rfl,rfl,rfl,Nat.le_refl _,fun j j1 j2=>by
   obtain rfl:j=lo+1:=by lia
   exact lt1⟩)) ?d3)
 case d1=>
  rintro x c st' s' hx ⟨rfl,rfl,rfl,x1,x2⟩
  dsimp only
  refine kasC_bind (gJ hc hp (by lia) (by lia) H ?_)
  dsimp only
  by_cases hk:kyA key p (lo+x)<kyA key p (lo+x - 1)
  ·rw[if_pos (by simpa using hk),if_neg (by lia)]
   refine kasC_pure ⟨rfl,rfl,rfl,by lia,fun j j1 j2=>?_⟩
   by_cases e:j=lo+x
   ·subst e
    exact hk
   ·exact x2 j j1 (by lia)
  ·rw[if_neg (by simpa using hk)]
   refine kasC_bind (gJ hc hp (by lia) (by lia) H ?_)
   dsimp only
   have b:=hp.ne inj (show lo+x - 1<lo+x by lia) (by lia)
   rw[if_pos (by rw[decide_eq_true_eq];lia)]
   exact kasC_pure ⟨rfl,rfl,x,rfl,x1,by lia,x2⟩
 case d2=>
  rintro c st' s' ⟨rfl,rfl,rfl,x1,x2⟩
  rw[show 1+1+(nrem - (1+1))=nrem by lia] at x2 ⊢
  exact⟨rfl,rfl,nrem,rfl,by lia,Nat.le_refl _,x2⟩
 case d3=>
  rintro c st' s' ⟨rfl,rfl,k,rfl,k1,k2,k3⟩
  dsimp only
  rw[if_neg (by lia)]
  refine kasC_bind (vn H ?_)
  intro st2 H2
  have hp':=hp.rev lo (lo+k)
  have g:∀ i,(kas_rev p lo (lo+k))[i]?=if lo≤i∧i<lo+k then p[lo+(lo+k) - 1 - i]? else p[i]?:=fun i=>by
   unfold kas_rev
   rw[getElem?_mirror_all (by rw[hp.size];lia)]
  have ky:∀ i,lo≤i→i<lo+k→kyA key (kas_rev p lo (lo+k)) i=kyA key p (lo+(lo+k) - 1 - i):=fun i a b=>cX (by rw[g,if_pos ⟨a,b⟩])
  refine kasC_bind (bN (asc (kas_rev p lo (lo+k)) st2 k hp' H2 (by lia) k2 fun j j1 j2=>?_) ?_)
  ·rw[ky _ (by lia) (by lia),ky _ (by lia) (by lia)]
   have:=k3 (lo+(lo+k) - 1 - (j - 1)) (by lia) (by lia)
   rw[show lo+(lo+k) - 1 - (j - 1) - 1=lo+(lo+k) - 1 - j by lia] at this
   lia
  ·rintro c st' s' ⟨rfl,rfl,m',rfl,q1,q2,q3,q4⟩
   dsimp only
   exact kasC_pure (h m' _ _ (by lia) q2 hp' H2 (fun i hi=>by rw[g,if_neg (by lia)]) q3)
end
section
variable {prog:Program}{w:World}{A:Around}{E:Value→Shared→Prop}{κ:SortKind}{it:Array Keyed}{key:Nat→Int}{n:Nat}{s:Shared}{pend:Array (Nat×Nat×Nat)}
noncomputable def bU (key:Nat→Int) (p:Array Nat) (lo m:Nat):Prop:=∀ i j,lo≤i→i≤j→j<lo+m→kyA key p i≤kyA key p j
theorem nz {p:Array Nat}{lo m:Nat} (h:∀ j,lo+1≤j→j<lo+m→kyA key p (j - 1)≤kyA key p j):bU key p lo m:=by
 intro i j hi hij hj
 obtain⟨d,rfl⟩:∃ d,j=i+d:=⟨j - i,by lia⟩
 clear hij
 induction d with
 | zero=>exact Int.le_refl _
 | succ d ih=>
  have a:=ih (by lia)
  have b:=h (i+(d+1)) (by lia) hj
  rw[show i+(d+1) - 1=i+d by lia] at b
  lia
theorem vq (hc:aZ n key (kas_cmp prog w A κ it) s) {p:Array Nat} (hp:Rg n p) {lo m okk:Nat} (hz:lo+m≤n) (h1:1≤okk) (hm:okk≤m) (up:bU key p lo okk) {st:SortSt} (H:Hd κ it pend st p) {Q:Bool→SortSt→Shared→Prop}
  (h:∀ p' st',Rg n p'→Hd κ it pend st' p'→(∀ i,i<lo→p'[i]?=p[i]?)→bU key p' lo m→Q true st' s):
  kasC (model prog w) A E (binarySort' lo m okk) Q st s:=by
 rw[binarySort'_eq]
 rw[show max okk 1=okk by lia]
 with_unfolding_all refine kasC_bind (bN (Q':=fun c st' s'=>s=s'∧c=(none,())∧∃ q,Rg n q∧Hd κ it pend st' q∧(∀ i,i<lo→q[i]?=p[i]?)∧bU key q lo m)
  (kasC_range (gK (fun x c st' s'=>s=s'∧c=(none,())∧1≤x∧∃ q,Rg n q∧Hd κ it pend st' q∧(∀ i,i<lo→q[i]?=p[i]?)∧bU key q lo x) m ?step _ _ _ _ _ (by lia) ?fin ⟨rfl,rfl,h1,p,hp,H,fun _ _=>rfl,up⟩)) ?after)
 case after=>
  rintro c st' s' ⟨rfl,rfl,q,q1,q2,q3,q4⟩
  exact kasC_pure (h q _ q1 q2 q3 q4)
 case fin=>
  rintro c st' s' ⟨rfl,rfl,x1,q,q1,q2,q3,q4⟩
  rw[show okk+(m - okk)=m by lia] at q4
  exact⟨rfl,rfl,q,q1,q2,q3,q4⟩
 case step=>
  rintro k c st' s' hk ⟨rfl,rfl,k1,q,hq,H',fr,up⟩
  dsimp only
  have L0:∀ i,lo≤i→i<lo+0→kyA key q i≤kyA key q (lo+k):=fun i a b=>by lia
  have R0:∀ i,lo+k≤i→i<lo+k→kyA key q (lo+k)≤kyA key q i:=fun i a b=>by lia
  refine kasC_bind (bN (Q':=fun c st2 s'=>s=s'∧st'=st2∧∃ l r,c=(none,l,r)∧l≤k∧(∀ i,lo≤i→i<lo+l→kyA key q i≤kyA key q (lo+k))∧(∀ i,lo+l≤i→i<lo+k→kyA key q (lo+k)≤kyA key q i))
   (kasC_range (gK (fun x c st2 s'=>s=s'∧st'=st2∧∃ l r,c=(none,l,r)∧l≤r∧r≤k∧r - l≤k - x∧(∀ i,lo≤i→i<lo+l→kyA key q i≤kyA key q (lo+k))∧(∀ i,lo+r≤i→i<lo+k→kyA key q (lo+k)≤kyA key q i)) k ?s2 _ _ _ _ _ (by lia) ?f2 ⟨rfl,rfl,0,k,rfl,by lia,by lia,by lia,L0,R0⟩)) ?a2)
  case f2=>
   rintro c st2 s' ⟨rfl,rfl,l,r,rfl,b1,b2,b3,b4,b5⟩
   exact⟨rfl,rfl,l,r,rfl,by lia,b4,fun i x y=>b5 i (by lia) y⟩
  case s2=>
   rintro x c st2 s' hx ⟨rfl,rfl,l,r,rfl,b1,b2,b3,b4,b5⟩
   dsimp only
   by_cases e:l ≥ r
   ·rw[if_pos e]
    exact kasC_pure ⟨rfl,rfl,l,r,rfl,by lia,b4,fun i x y=>b5 i (by lia) y⟩
   rw[if_neg e]
   have m1:l≤(l+r) / 2:=by lia
   have m2:(l+r) / 2<r:=by lia
   have m3:(l+r) / 2 - l≤k - (x+1):=by lia
   have m4:r - ((l+r) / 2+1)≤k - (x+1):=by lia
   generalize (l+r) / 2=mid at m1 m2 m3 m4 ⊢
   refine kasC_bind (gJ hc hq (by lia) (by lia) H' ?_)
   dsimp only
   by_cases hk2:kyA key q (lo+k)<kyA key q (lo+mid)
   ·rw[if_pos (by simpa using hk2)]
    refine kasC_pure ⟨rfl,rfl,l,mid,rfl,m1,by lia,m3,b4,fun i x y=>?_⟩
    have:=up (lo+mid) i (by lia) x y
    lia
   ·rw[if_neg (by simpa using hk2)]
    refine kasC_pure ⟨rfl,rfl,mid+1,r,rfl,by lia,b2,m4,fun i x y=>?_,b5⟩
    have:=up i (lo+mid) x (by lia) (by lia)
    lia
  case a2=>
   rintro c st2 s' ⟨rfl,rfl,l,r,rfl,b1,b4,b5⟩
   dsimp only
   refine kasC_bind (vo H' ?_)
   intro st3 H3
   have g:∀ i,(bubble q (lo+k) (lo+k - (lo+l)))[i]?=if i=lo+l then q[lo+k]? else if lo+l<i∧i≤lo+k then q[i - 1]? else q[i]?:=fun i=>by
    have:=getElem?_bubble (xs:=q) (src:=lo+k) (by rw[hq.size];lia) (lo+k - (lo+l)) (by lia) i
    rwa [show lo+k - (lo+k - (lo+l))=lo+l by lia] at this
   have ky:∀ i,kyA key (bubble q (lo+k) (lo+k - (lo+l))) i=if i=lo+l then kyA key q (lo+k) else if lo+l<i∧i≤lo+k then kyA key q (i - 1) else kyA key q i:=fun i=>by
    have g:=g i
    by_cases e:i=lo+l
    ·rw[if_pos e] at g ⊢;exact cX g
    ·rw[if_neg e] at g ⊢
     by_cases e2:lo+l<i∧i≤lo+k
     ·rw[if_pos e2] at g ⊢;exact cX g
     ·rw[if_neg e2] at g ⊢;exact cX g
   refine kasC_pure ⟨rfl,rfl,by lia,_,hq.bub _ _,H3,fun i hi=>by rw[g,if_neg (by lia),if_neg (by lia)];exact fr i hi,nz fun j x y=>?_⟩
   rw[ky,ky]
   by_cases c1:j - 1=lo+l
   ·rw[if_pos c1,if_neg (by lia),if_pos (by lia)]
    exact b5 (j - 1) (by lia) (by lia)
   ·rw[if_neg c1]
    by_cases c2:j=lo+l
    ·rw[if_pos c2,if_neg (by lia)]
     exact b4 (j - 1) (by lia) (by lia)
    ·rw[if_neg c2]
     by_cases c3:lo+l<j - 1
     ·rw[if_pos (by lia),if_pos (by lia)]
      exact up _ _ (by lia) (by lia) (by lia)
     ·rw[if_neg (by lia),if_neg (by lia)]
      exact up _ _ (by lia) (by lia) (by lia)
end
section
variable {prog:Program}{w:World}{A:Around}{E:Value→Shared→Prop}{κ:SortKind}{it:Array Keyed}{key:Nat→Int}{n:Nat}{s:Shared}{pend:Array (Nat×Nat×Nat)}
noncomputable def aG (key:Nat→Int) (p:Array Nat):Nat→List (Nat×Nat×Nat)→Nat→Prop
 | a,[],b=>a=b
 | a,(x,l,_)::t,b=>x=a∧0<l∧bU key p x l∧aG key p (a+l) t b
theorem aG.le {p:Array Nat}:∀ {t:List (Nat×Nat×Nat)}{a b:Nat},aG key p a t b→a+t.length≤b
 | [],a,b,h=>by rw[show b=a from h.symm];exact Nat.le_refl _
 | (x,l,_)::t,a,b,h=>by
  have:=h.2.2.2.le
  have:=h.2.1
  rw[List.length_cons]
  lia
theorem aG.congr {p q:Array Nat}:∀ {t:List (Nat×Nat×Nat)}{a b:Nat},aG key p a t b→(∀ i,a≤i→i<b→kyA key q i=kyA key p i)→aG key q a t b
 | [],a,b,h,_=>h
 | (x,l,_)::t,a,b,h,g=>by
  have:=h.2.2.2.le
  obtain⟨rfl,h2,h3,h4⟩:=h
  refine⟨rfl,h2,fun i j hi hij hj=>?_,h4.congr fun i a b=>g i (by lia) b⟩
  rw[g i hi (by lia),g j (by lia) (by lia)]
  exact h3 i j hi hij hj
theorem aG.app {p:Array Nat}:∀ {t u:List (Nat×Nat×Nat)}{a b:Nat},aG key p a (t++u) b↔∃ c,aG key p a t c∧aG key p c u b
 | [],u,a,b=>⟨fun h=>⟨a,rfl,h⟩,fun ⟨c,e,h⟩=>by rw[show a=c from e];exact h⟩
 | (x,l,z)::t,u,a,b=>by
  show (x=a∧0<l∧bU key p x l∧aG key p (a+l) (t++u) b)↔_
  rw[aG.app]
  constructor
  ·rintro⟨h1,h2,h3,c,h4,h5⟩
   exact⟨c,⟨h1,h2,h3,h4⟩,h5⟩
  ·rintro⟨c,⟨h1,h2,h3,h4⟩,h5⟩
   exact⟨h1,h2,h3,c,h4,h5⟩
theorem vv {α:Type}{l:List α}{i:Nat} (h:i+1<l.length):∃ l1 x y l2,l=l1++x::y::l2∧l1.length=i:=by
 refine⟨l.take i,l[i]'(by lia),l[i+1],l.drop (i+2),?_,by rw[List.length_take];lia⟩
 have e1:=List.drop_eq_getElem_cons (l:=l) (i:=i) (by lia)
 have e2:=List.drop_eq_getElem_cons (l:=l) (i:=i+1) h
 rw[← e2,← e1,List.take_append_drop]
theorem kyT (l:List Nat) (i:Nat):kyA key l.toArray i=key (l.getD i 0):=by unfold kyA;rw[dy]
theorem jZ (hc:aZ n key (kas_cmp prog w A κ it) s) {p:Array Nat} (hp:Rg n p) {st:SortSt} (H:Hd κ it pend st p) {lo i:Nat} (hi:i+1<pend.size) (R:aG key p 0 pend.toList lo) (hlo:lo≤n) {Q:Bool→SortSt→Shared→Prop}
  (h:∀ pend' p' st',Rg n p'→Hd κ it pend' st' p'→pend'.size+1=pend.size→aG key p' 0 pend'.toList lo→(∀ i,lo≤i→kyA key p' i=kyA key p i)→Q true st' s):kasC (model prog w) A E (mergeAt' i) Q st s:=by
 obtain⟨l1,⟨sa,na,pw⟩,⟨sb,nb,pw2⟩,l2,e,rfl⟩:=vv (l:=pend.toList) (i:=i) (by simpa using hi)
 rw[e] at R
 obtain⟨c,R1,rfl,na0,A1,rfl,nb0,A2,R2⟩:=aG.app.mp R
 have b2:=R2.le
 have pe:pend=(l1++(sa,na,pw)::(sa+na,nb,pw2)::l2).toArray:=by rw[← e]
 have psz:p.size=n:=hp.size
 have plt:∀ x∈p.toList,x<n:=fun x hx=>List.mem_range.mp (hp.mem_iff.mp hx)
 have gk:∀ i,kyA key p i=key (p.toList.getD i 0):=fun i=>kyT p.toList i
 have pl:p.toList.length=n:=by rw[Array.length_toList,psz]
 have srtOf:∀ a m,a+m≤n→bU key p a m→Srt key ((p.toList.drop a).take m):=fun a m hz h=>by
  refine List.pairwise_iff_getElem.mpr fun i j hi hj hij=>?_
  have hi':=hi
  have hj':=hj
  rw[List.length_take,List.length_drop,pl] at hi' hj'
  have:=h (a+i) (a+j) (by lia) (by lia) (by lia)
  rw[gk,gk] at this
  rw[List.getElem_take,List.getElem_drop,List.getElem_take,List.getElem_drop]
  rw[List.getD_eq_getElem?_getD,List.getD_eq_getElem?_getD,List.getElem?_eq_getElem (by lia),List.getElem?_eq_getElem (by lia)] at this
  exact this
 refine vm hc (lp:=p.toList) plt (i:=l1.length) (sa:=sa) (na:=na) (nb:=nb) (pw:=pw) (pw2:=pw2) H.k (by rw[H.a];apply Array.ext';simp) H.f (by rw[H.p,pe];simp) (by rw[H.p,pe];simp) na0 nb0 (by lia) (srtOf _ _ (by lia) A1) (srtOf _ _ (by lia) A2) ?_
 intro mid st' k1 f1 p1 m1 m2 a1
 have ml:mid.length=na+nb:=by rw[m1.length_eq,List.length_take,List.length_drop,pl];lia
 have eAll:p.toList.take sa++(p.toList.drop sa).take (na+nb)++p.toList.drop (sa+(na+nb))=p.toList:=by rw[fN,List.take_append_drop]
 have hp':Rg n (p.toList.take sa++mid++p.toList.drop (sa+(na+nb))).toArray:=by
  show (p.toList.take sa++mid++p.toList.drop (sa+(na+nb))).Perm (List.range n)
  refine List.Perm.trans (List.Perm.append_right _ (List.Perm.append_left _ m1)) ?_
  rw[eAll]
  exact hp
 have tl:(p.toList.take sa).length=sa:=by rw[List.length_take,pl];lia
 have k1':∀ i,i<sa→kyA key (p.toList.take sa++mid++p.toList.drop (sa+(na+nb))).toArray i=kyA key p i:=fun i hi=>by
  rw[kyT,gk]
  congr 1
  rw[List.getD_eq_getElem?_getD,List.getD_eq_getElem?_getD,List.append_assoc,List.getElem?_append_left (by lia),List.getElem?_take,if_pos hi]
 have k2':∀ i,sa+(na+nb)≤i→kyA key (p.toList.take sa++mid++p.toList.drop (sa+(na+nb))).toArray i=kyA key p i:=fun i hi=>by
  rw[kyT,gk]
  congr 1
  rw[List.getD_eq_getElem?_getD,List.getD_eq_getElem?_getD,List.getElem?_append_right (by rw[List.length_append];lia),List.getElem?_drop,List.length_append,tl,ml]
  congr 2
  lia
 have k3':∀ i,sa≤i→i<sa+(na+nb)→kyA key (p.toList.take sa++mid++p.toList.drop (sa+(na+nb))).toArray i=key (mid.getD (i - sa) 0):=fun i h1 h2=>by
  rw[kyT]
  congr 1
  rw[List.getD_eq_getElem?_getD,List.getD_eq_getElem?_getD,List.append_assoc,List.getElem?_append_right (by lia),tl,List.getElem?_append_left (by lia)]
 have pe':((l1++(sa,na,pw)::(sa+na,nb,pw2)::l2).toArray.setIfInBounds l1.length (sa,na+nb,pw)).eraseIdxIfInBounds (l1.length+1)=(l1++(sa,na+nb,pw)::l2).toArray:=by
  rw[List.setIfInBounds_toArray,List.set_append_right _ _ (Nat.le_refl _),Nat.sub_self,List.set_cons_zero]
  rw[List.eraseIdxIfInBounds_toArray,List.eraseIdx_append_of_length_le (by lia),show l1.length+1 - l1.length=1 by lia]
  rfl
 refine h ((l1++(sa,na+nb,pw)::l2).toArray) _ st' hp' ⟨k1,by rw[a1];apply Array.ext';simp,by rw[p1,H.p,pe,pe'],f1⟩ (by rw[pe];simp;lia) ?_ (fun i hi=>k2' i (by lia))
 have R2':aG key p (sa+(na+nb)) l2 lo:=by rw[← Nat.add_assoc];exact R2
 refine aG.app.mpr ⟨sa,R1.congr fun i _ b=>k1' i b,rfl,by lia,fun i j h1 h2 h3=>?_,R2'.congr fun i a b=>k2' i a⟩
 ·rw[k3' i h1 (by lia),k3' j (by lia) h3]
  exact eS m2 (by lia) (by lia)
end
section
variable {prog:Program}{w:World}{A:Around}{E:Value→Shared→Prop}{κ:SortKind}{it:Array Keyed}{key:Nat→Int}{n:Nat}{s:Shared}{pend:Array (Nat×Nat×Nat)}
theorem aG.same {p:Array Nat}:∀ {t u:List (Nat×Nat×Nat)}{a b:Nat},aG key p a t b→(t.map fun x=>(x.1,x.2.1))=(u.map fun x=>(x.1,x.2.1))→aG key p a u b
 | [],[],a,b,h,_=>h
 | [],_::_,a,b,h,e=>by cases e
 | _::_,[],a,b,h,e=>by cases e
 | (x,l,z)::t,(x',l',z')::u,a,b,h,e=>by
  rw[List.map_cons,List.map_cons] at e
  injection e with e1 e2
  injection e1 with e3 e4
  dsimp only at e3 e4
  subst e3
  subst e4
  exact⟨h.1,h.2.1,h.2.2.1,h.2.2.2.same e2⟩
theorem nA (xs:Array (Nat×Nat×Nat)) (i z:Nat):(xs.toList.map fun x=>(x.1,x.2.1))=((xs.modify i fun x=>(x.1,x.2.1,z)).toList.map fun x=>(x.1,x.2.1)):=by
 apply List.ext_getElem?
 intro j
 rw[List.getElem?_map,List.getElem?_map,Array.getElem?_toList,Array.getElem?_toList,Array.getElem?_modify]
 split
 ·rw[Option.map_map]
  rfl
 ·rfl
theorem bU.congr {p q:Array Nat}{lo m:Nat} (h:bU key p lo m) (g:∀ i,lo≤i→kyA key q i=kyA key p i):bU key q lo m:=fun i j a b c=>by
 rw[g i a,g j (by lia)]
 exact h i j a b c
theorem vw {Q:Unit→SortSt→Shared→Prop} (hc:aZ n key (kas_cmp prog w A κ it) s) (inj:∀ i j,i<n→j<n→key i=key j→i=j) (h2:2≤n)
  (hG:∀ p' st',Rg n p'→Up key p' n→arrOf st'=p'.map (kas_item it)→failedOf st'=none→Q () st' s):kasC (model prog w) A E sortRuns' Q (kas_st κ it (List.range n).toArray) s:=by
 rw[sortRuns'_eq]
 refine kasC_bind (kasC_get ?_)
 dsimp only
 have hsz:(arrOf (kas_st κ it (List.range n).toArray)).size=n:=by
  show ((List.range n).toArray.map (kas_item it)).size=n
  simp
 simp only[hsz]
 refine kasC_bind (bN (Q':=fun c st' s'=>s=s'∧c=(none,n)∧∃ pend p,Rg n p∧Hd κ it pend st' p∧aG key p 0 pend.toList n)
  (kasC_range (bv (fun x c st' s'=>s=s'∧∃ lo pend p,c=(none,lo)∧x≤lo∧lo≤n∧Rg n p∧Hd κ it pend st' p∧aG key p 0 pend.toList lo) ?step _ 0 _ _ _ ?fin ⟨rfl,0,#[],(List.range n).toArray,rfl,Nat.le_refl _,by lia,List.Perm.refl _,⟨rfl,rfl,rfl,rfl⟩,rfl⟩)) ?after)
 case fin=>
  rintro c st' s' ⟨rfl,lo,pend,p,rfl,a,b,d,e,f⟩
  have:lo=n:=by lia
  subst this
  exact⟨rfl,rfl,pend,p,d,e,f⟩
 case after=>
  rintro c st' s' ⟨rfl,rfl,pend,p,hp,H,R⟩
  dsimp only
  refine kasC_bind (bN (Q':=fun c st' s'=>s=s'∧c=(none,())∧∃ p,Rg n p∧Up key p n∧arrOf st'=p.map (kas_item it)∧failedOf st'=none)
   (kasC_range (bv (fun x c st' s'=>s=s'∧c=(none,())∧∃ pend p,Rg n p∧Hd κ it pend st' p∧aG key p 0 pend.toList n∧pend.size+x≤n) ?s2 _ 0 _ _ _ ?f2 ⟨rfl,rfl,pend,p,hp,H,R,by have:=R.le;rw[Array.length_toList] at this;lia⟩)) ?a2)
  case a2=>
   rintro c st' s' ⟨rfl,rfl,p,a,b,c,d⟩
   exact kasC_pure (hG p _ a b c d)
  case f2=>
   rintro c st' s' ⟨rfl,rfl,pend,p,hp,H,R,hx⟩
   have e:pend.toList=[]:=List.eq_nil_of_length_eq_zero (by rw[Array.length_toList];lia)
   rw[e] at R
   have:0=n:=R
   lia
  case s2=>
   rintro x c st' s' ⟨rfl,rfl,pend,p,hp,H,R,hx⟩
   refine kasC_bind (kasC_get ?_)
   by_cases e:(pendingOf st').size≤1
   ·rw[if_pos e]
    refine kasC_pure ⟨rfl,rfl,p,hp,?_,H.a,H.f⟩
    rw[H.p] at e
    have el:pend.toList.length≤1:=by rw[Array.length_toList];exact e
    match hl:pend.toList,el with
    | [],_=>
     rw[hl] at R
     have:0=n:=R
     lia
    | [(x,l,z)],_=>
     rw[hl] at R
     obtain⟨rfl,_,a3,a4⟩:=R
     have:0+l=n:=a4
     exact fun i j hij hj=>a3 i j (Nat.zero_le _) hij (by lia)
    | _::_::_,h=>exact absurd h (by simp)
   ·rw[if_neg e]
    rw[H.p] at e
    have stp:∀ idx,idx+1<pend.size→kasC (model prog w) A E (mergeAt' idx) (fun b st2 s2=>b=true∧s=s2∧∃ pend p,Rg n p∧Hd κ it pend st2 p∧aG key p 0 pend.toList n∧pend.size+(x+1)≤n) st' s:=fun idx hidx=>
     jZ hc hp H hidx R (Nat.le_refl _) fun pend' p' st'' a b c d fr=>⟨rfl,rfl,pend',p',a,b,d,by lia⟩
    refine kasC_bind (bN (stp _ ?_) ?_)
    ·rw[H.p]
     have:∀ (c:Prop) [Decidable c],(if c then pend.size - 2 - 1 else pend.size - 2)+1<pend.size:=fun c _=>by split<;>lia
     exact this _
    ·rintro b st2 s2 ⟨rfl,rfl,hh⟩
     rw[if_neg (by decide)]
     exact kasC_pure ⟨rfl,rfl,hh⟩
 case step=>
  rintro x c st' s' ⟨rfl,lo,pend,p,rfl,x1,x2,hp,H,R⟩
  dsimp only
  by_cases c1:lo ≥ n
  ·rw[if_pos c1]
   have:lo=n:=by lia
   subst this
   exact kasC_pure ⟨rfl,rfl,pend,p,hp,H,R⟩
  rw[if_neg c1]
  refine kasC_bind (vp hc inj hp (by lia) (by lia) H ?_)
  intro m p1 st1 m1 m2 hp1 H1 fr1 A1
  have A1:=nz A1
  have R1:aG key p1 0 pend.toList lo:=R.congr fun i _ b=>cX (fr1 i b)
  dsimp only
  by_cases c2:m<minRun' n n 0
  ·rw[if_pos c2]
   refine kasC_bind (kasC_lift (wpAny_rule ?_))
   have mm:m≤min (n - lo) (minRun' n n 0):=by lia
   have mn:min (n - lo) (minRun' n n 0)≤n - lo:=by lia
   generalize min (n - lo) (minRun' n n 0)=force at mm mn ⊢
   refine kasC_bind (vq hc hp1 (by lia) m1 mm A1 H1 ?_)
   intro p2 st2 hp2 H2 fr2 A2
   have R2:aG key p2 0 pend.toList lo:=R1.congr fun i _ b=>cX (fr2 i b)
   rw[if_neg (by decide)]
   refine kasC_bind (kasC_get ?_)
   rcases hbk:(pendingOf st2).back? with _ | ⟨s1,n1,z1⟩
   ·dsimp only
    refine kasC_bind (kasC_modify ?_)
    refine kasC_pure ⟨rfl,lo+force,pend.push (lo,force,0),p2,rfl,by lia,by lia,hp2,⟨H2.k,H2.a,by show (pendingOf st2).push _=_;rw[H2.p],H2.f⟩,?_⟩
    rw[Array.toList_push]
    exact aG.app.mpr ⟨lo,R2,rfl,by lia,A2,rfl⟩
   ·dsimp only
    refine kasC_bind (bN (Q':=fun c st' s'=>s=s'∧c=(none,())∧∃ pend p,Rg n p∧Hd κ it pend st' p∧aG key p 0 pend.toList lo∧bU key p lo (force))
     (kasC_range (bv (fun x c st' s'=>s=s'∧c=(none,())∧∃ pend p,Rg n p∧Hd κ it pend st' p∧aG key p 0 pend.toList lo∧bU key p lo (force)) ?_ _ 0 _ _ _ (fun _ _ _ z=>z) ⟨rfl,rfl,pend,p2,hp2,H2,R2,A2⟩)) ?_)
    ·rintro y c st' s' ⟨rfl,rfl,pend,p,hp,H,R,A⟩
     refine kasC_bind (kasC_get ?_)
     by_cases e:(pendingOf st').size > 1
     ·rw[if_pos e]
      rcases hg:(pendingOf st')[(pendingOf st').size - 2]? with _ | ⟨a,b,older⟩
      ·dsimp only
       exact kasC_pure ⟨rfl,rfl,pend,p,hp,H,R,A⟩
      ·dsimp only
       split
       ·exact kasC_pure ⟨rfl,rfl,pend,p,hp,H,R,A⟩
       ·refine kasC_bind (jZ hc hp H (by rw[H.p] at e ⊢;lia) R (by lia) ?_)
        intro pend' p' st'' a b c d fr
        rw[if_neg (by decide)]
        exact kasC_pure ⟨rfl,rfl,pend',p',a,b,d,A.congr fr⟩
     ·rw[if_neg e]
      dsimp only
      exact kasC_pure ⟨rfl,rfl,pend,p,hp,H,R,A⟩
    ·rintro c st' s' ⟨rfl,rfl,pend,p,hp,H,R,A⟩
     dsimp only
     refine kasC_bind (kasC_modify ?_)
     refine kasC_bind (kasC_modify ?_)
     refine kasC_pure ⟨rfl,lo+force,(pend.modify (pend.size - 1) _).push (lo,force,0),p,rfl,by lia,by lia,hp,⟨H.k,H.a,by show ((pendingOf st').modify ((pendingOf st').size - 1) _).push _=_;rw[H.p],H.f⟩,?_⟩
     rw[Array.toList_push]
     exact aG.app.mpr ⟨lo,R.same (nA _ _ _),rfl,by lia,A,rfl⟩
  ·rw[if_neg c2]
   have hp2:=hp1
   have H2:=H1
   have R2:=R1
   have A2:=A1
   revert hp2 H2 R2 A2
   generalize p1=p2
   generalize st1=st2
   intro hp2 H2 R2 A2
   refine kasC_bind (kasC_get ?_)
   rcases hbk:(pendingOf st2).back? with _ | ⟨s1,n1,z1⟩
   ·dsimp only
    refine kasC_bind (kasC_modify ?_)
    refine kasC_pure ⟨rfl,lo+m,pend.push (lo,m,0),p2,rfl,by lia,by lia,hp2,⟨H2.k,H2.a,by show (pendingOf st2).push _=_;rw[H2.p],H2.f⟩,?_⟩
    rw[Array.toList_push]
    exact aG.app.mpr ⟨lo,R2,rfl,by lia,A2,rfl⟩
   ·dsimp only
    refine kasC_bind (bN (Q':=fun c st' s'=>s=s'∧c=(none,())∧∃ pend p,Rg n p∧Hd κ it pend st' p∧aG key p 0 pend.toList lo∧bU key p lo (m))
     (kasC_range (bv (fun x c st' s'=>s=s'∧c=(none,())∧∃ pend p,Rg n p∧Hd κ it pend st' p∧aG key p 0 pend.toList lo∧bU key p lo (m)) ?_ _ 0 _ _ _ (fun _ _ _ z=>z) ⟨rfl,rfl,pend,p2,hp2,H2,R2,A2⟩)) ?_)
    ·rintro y c st' s' ⟨rfl,rfl,pend,p,hp,H,R,A⟩
     refine kasC_bind (kasC_get ?_)
     by_cases e:(pendingOf st').size > 1
     ·rw[if_pos e]
      rcases hg:(pendingOf st')[(pendingOf st').size - 2]? with _ | ⟨a,b,older⟩
      ·dsimp only
       exact kasC_pure ⟨rfl,rfl,pend,p,hp,H,R,A⟩
      ·dsimp only
       split
       ·exact kasC_pure ⟨rfl,rfl,pend,p,hp,H,R,A⟩
       ·refine kasC_bind (jZ hc hp H (by rw[H.p] at e ⊢;lia) R (by lia) ?_)
        intro pend' p' st'' a b c d fr
        rw[if_neg (by decide)]
        exact kasC_pure ⟨rfl,rfl,pend',p',a,b,d,A.congr fr⟩
     ·rw[if_neg e]
      dsimp only
      exact kasC_pure ⟨rfl,rfl,pend,p,hp,H,R,A⟩
    ·rintro c st' s' ⟨rfl,rfl,pend,p,hp,H,R,A⟩
     dsimp only
     refine kasC_bind (kasC_modify ?_)
     refine kasC_bind (kasC_modify ?_)
     refine kasC_pure ⟨rfl,lo+m,(pend.modify (pend.size - 1) _).push (lo,m,0),p,rfl,by lia,by lia,hp,⟨H.k,H.a,by show ((pendingOf st').modify ((pendingOf st').size - 1) _).push _=_;rw[H.p],H.f⟩,?_⟩
     rw[Array.toList_push]
     exact aG.app.mpr ⟨lo,R.same (nA _ _ _),rfl,by lia,A,rfl⟩
theorem vx {Q:Unit→SortSt→Shared→Prop} (hc:aZ n key (kas_cmp prog w A κ it) s) (inj:∀ i j,i<n→j<n→key i=key j→i=j) (h2:2≤n) (up:n<1001∨∀ j,1≤j→j<n→key (j - 1)≤key j)
  (hG:∀ p' st',Rg n p'→Up key p' n→arrOf st'=p'.map (kas_item it)→failedOf st'=none→Q () st' s):kasC (model prog w) A E sortRuns' Q (kas_st κ it (List.range n).toArray) s:=vw hc inj h2 hG
end
end L2
namespace L2
open PySem PySem.Spec PyProof.Rows
section
variable {X:Cx}{pins:List (Addr×Obj)}{σ:St}{H:Hp}{s:Shared}{h':Heap}
theorem Inv.turnT {ch:List Addr}{T:Addr}{xs:List V}{t':Nat} (I:Inv X pins σ H s) (hch:∀ b∈ch,cV X pins H b) (k:∀ b o,b∉ch→s.heap.get? b=some o→h'.get? b=some o) (hT:s.heap.objs.size≤T)
  (new:aW X.prog X.w (upd H T (.tup xs)) h' T (.tup xs)):Inv X pins σ (upd H T (.tup xs)) { s with heap:=h',toks:=t' }:=by
 have fT:H T=none:=I.hok.fresh hT
 have nT:∀ b o,s.heap.get? b=some o→b≠T:=fun b o e=>Nat.ne_of_lt (Nat.lt_of_lt_of_le (Heap.lt_size e) hT)
 have nc:∀ b u,H b=some u→b∉ch:=fun b u e z=>by rw[(hch b z).1] at e;cases e
 refine I.step (g':=s.gens) (d':=s.drawn) (ch:=ch) (fun b hb=>⟨(hch b hb).2.2.2.1,(hch b hb).2.1,(hch b hb).2.2.2.2.1,(hch b hb).2.2.2.2.2⟩) (fun b o _ _ hc e _=>k b o hc e) (fun b o _ _ hc e _=>⟨o.slots,k b o hc e⟩)
  (fun b o _ e n=>by rw[aA (nT b o e)];exact n) (fun b o hc e=>⟨o,k b o hc e⟩) (fun b ys e=>by rw[aA (bK e fT)];exact e) (fun b o u e=>by rw[aA (bK e fT)];exact e)
  (fun b ps e=>⟨#[],by rw[aA (bK e fT),e];simp⟩) (fun m hm=>?_) (fun a o e=>?_) I.bare
 ·obtain⟨o,es,ep,ho,r⟩:=hm
  exact⟨o,es,ep,k _ o (fun z=>(hch _ z).2.1 rfl) ho,r⟩
 ·by_cases ha:a=T
  ·subst ha
   rw[bi] at e
   cases e
   exact new
  ·rw[aA ha] at e
   refine (I.hok a o e).stay (fun b u hb q=>k b u ?_ q) (fun b q=>by rw[aA (bK q fT)];exact q) fun b ys q=>by rw[aA (bK q fT)];exact q
   rcases hb with z | z
   ·rw[z];exact nc a o e
   ·exact nc b _ z
theorem Inv.turnL {ch:List Addr}{t':Nat} (I:Inv X pins σ H s) (hch:∀ b∈ch,cV X pins H b) (k:∀ b o,b∉ch→s.heap.get? b=some o→h'.get? b=some o):Inv X pins σ H { s with heap:=h',toks:=t' }:=by
 have nc:∀ b u,H b=some u→b∉ch:=fun b u e z=>by rw[(hch b z).1] at e;cases e
 refine I.step (g':=s.gens) (d':=s.drawn) (ch:=ch) (fun b hb=>⟨(hch b hb).2.2.2.1,(hch b hb).2.1,(hch b hb).2.2.2.2.1,(hch b hb).2.2.2.2.2⟩) (fun b o _ _ hc e _=>k b o hc e) (fun b o _ _ hc e _=>⟨o.slots,k b o hc e⟩)
  (fun b o _ _ n=>n) (fun b o hc e=>⟨o,k b o hc e⟩) (fun b ys e=>e) (fun b o u e=>e) (fun b ps e=>⟨#[],by rw[e];simp⟩) (fun m hm=>?_) (fun a o e=>?_) I.bare
 ·obtain⟨o,es,ep,ho,r⟩:=hm
  exact⟨o,es,ep,k _ o (fun z=>(hch _ z).2.1 rfl) ho,r⟩
 ·refine (I.hok a o e).stay (fun b u hb q=>k b u ?_ q) (fun b q=>q) fun b ys q=>q
  rcases hb with z | z
  ·rw[z];exact nc a o e
  ·exact nc b _ z
end
section
variable {prog:Program}{w:World}{A:Around}{E:Value→Shared→Prop}{s:Shared}
theorem j6 {it t:Addr}{i:Nat}{items:Array Value}{x:Value}{Q:Value→Shared→Prop} (hit:s.heap.IsTupleIter it t i) (ht:s.heap.IsTuple t items) (hx:items[i]?=some x)
  (q:∀ h',h'.IsTupleIter it t (i+1)→Heap.SameBut it s.heap h'→Q x { s with heap:=h' }):wpAny (model prog w) A (Builtin.SmallTypes.nextOf (.ref it)) Q E s:=by
 obtain⟨o,f1,f2,f3⟩:=id hit
 obtain⟨ol,g1,_,nl,g2⟩:=ht
 unfold Builtin.SmallTypes.nextOf
 refine wpAny_bind (wpAny_callSpecial?_slot (name:=Str.ofString "__next__") hit.typeIs F.slot_tuple_iterator_next (wpAny_call_entry F.slot_tuple_iterator_next hit.typeIs F.entry_tuple_iterator_next ?z (F.args_tuple_iterator_next_1 _)))
 case z=>
  show wpAny _ _ (field (.ref it) 0 >>= _) _ _ s
  refine wpAny_bind (wpAny_field f1 f3 (x:=.ref t) rfl ?_)
  show wpAny _ _ (if (Value.ref t == Value.none)=true then _ else _) _ _ s
  rw[if_neg (show ¬ (Value.ref t == Value.none)=true by intro z;cases z)]
  show wpAny _ _ (field (.ref it) 1 >>= _) _ _ s
  refine wpAny_bind (wpAny_field f1 f3 (x:=.int i 0) rfl ?_)
  show wpAny _ _ (seqItems? (.ref t) >>= _) _ _ s
  refine wpAny_bind (wpAny_seqItems g1 g2 ?_)
  simp only[Int.toNat_natCast,hx]
  refine wpAny_bind (wpAny_setField f1 f3 (by simp) (wpAny_pure ⟨x,rfl,wpAny_pure (q _ ⟨_,Heap.get?_update_self _ f1 (Obj.isFreed_of_fields (Obj.data_mapFields f3 _)),(Obj.cls_mapFields ..).trans f2,by rw[Obj.data_mapFields f3];simp[rawInt]⟩ (Heap.SameBut.update ..))⟩))
theorem nE {it t:Addr}{i:Nat}{items:Array Value}{Q:Value→Shared→Prop} (hh:A.handled=none) (hit:s.heap.IsTupleIter it t i) (ht:s.heap.IsTuple t items) (hx:items[i]?=none)
  (q:∀ h' e,Heap.ExtBut it s.heap h'→(∃ o,h'.get? e=some o∧o.cls=.type "StopIteration")→E (.ref e) { s with heap:=h' }):wpAny (model prog w) A (Builtin.SmallTypes.nextOf (.ref it)) Q E s:=by
 obtain⟨o,f1,f2,f3⟩:=id hit
 obtain⟨ol,g1,_,nl,g2⟩:=ht
 unfold Builtin.SmallTypes.nextOf
 refine wpAny_bind (wpAny_callSpecial?_slot (name:=Str.ofString "__next__") hit.typeIs F.slot_tuple_iterator_next (wpAny_call_entry F.slot_tuple_iterator_next hit.typeIs F.entry_tuple_iterator_next ?z (F.args_tuple_iterator_next_1 _)))
 case z=>
  show wpAny _ _ (field (.ref it) 0 >>= _) _ _ s
  refine wpAny_bind (wpAny_field f1 f3 (x:=.ref t) rfl ?_)
  show wpAny _ _ (if (Value.ref t == Value.none)=true then _ else _) _ _ s
  rw[if_neg (show ¬ (Value.ref t == Value.none)=true by intro z;cases z)]
  show wpAny _ _ (field (.ref it) 1 >>= _) _ _ s
  refine wpAny_bind (wpAny_field f1 f3 (x:=.int i 0) rfl ?_)
  show wpAny _ _ (seqItems? (.ref t) >>= _) _ _ s
  refine wpAny_bind (wpAny_seqItems g1 g2 ?_)
  simp only[Int.toNat_natCast,hx]
  refine wpAny_bind (wpAny_rule (wpAny_bind (wpAny_setField f1 f3 (by simp) ?_)))
  show wpAny _ _ (newExc (.type "StopIteration") [] >>= _) _ _ _
  apply wpAny_bind
  simp only[newExc,newTuple]
  refine wpAny_bind (wpAny_newObj_type (wpAny_bind (m:=firstArgMember _ _) (wpAny_of_eq (a:=Value.none) (by first | rfl | (simp only[firstArgMember];rfl)) (wpAny_newObj_type ?_ (by size_fits)))) (by size_fits))
  simp only[raiseNew]
  apply wpAny_bind
  apply wpAny_handled
  rw[show A.in1.handled=none from hh]
  refine wpAny_bind (m:=pure _) (wpAny_pure (wpAny_throw ?_))
  exact q _ _ (((Heap.SameBut.update ..).extBut.push _).push _) ⟨_,Heap.get?_push_size _ rfl,rfl⟩
end
section
variable {prog:Program}{w:World}{A:Around}{E:Value→Shared→Prop}{s:Shared}
theorem cx {h h':Heap}{a t:Addr}{i:Nat} (x:h.IsTupleIter a t i) (k:∀ o,h.get? a=some o→h'.get? a=some o):h'.IsTupleIter a t i:=let ⟨o,e,r⟩:=x;⟨o,k o e,r⟩
theorem fP {h h':Heap}{a:Addr}{xs:Array Value} (x:h.IsTuple a xs) (k:∀ o,h.get? a=some o→h'.get? a=some o):h'.IsTuple a xs:=let ⟨o,e,r⟩:=x;⟨o,k o e,r⟩
theorem vy {z TI TO i1 i2 l1 l2:Addr}{k1 k2:Nat}{xs ys:Array Value}{x y a b:Value}{Q:Value→Shared→Prop} (D:ZipApart z TI TO i1 i2 l1 l2)
  (hz:IsZip s.heap z TI TO .none) (hTI:IsPair s.heap TI (.ref i1) (.ref i2)) (hTO:IsPair s.heap TO a b)
  (h1:s.heap.IsTupleIter i1 l1 k1) (h2:s.heap.IsTupleIter i2 l2 k2) (hl1:s.heap.IsTuple l1 xs) (hl2:s.heap.IsTuple l2 ys) (hx:xs[k1]?=some x) (hy:ys[k2]?=some y)
  (hQ:∀ h',IsZip h' z TI TO (rawInt s.heap.objs.size)→IsPair h' TO x y→h'.IsTupleIter i1 l1 (k1+1)→h'.IsTupleIter i2 l2 (k2+1)→IsPair h' s.heap.objs.size x y→
   (∀ c o,c≠z→c≠TO→c≠i1→c≠i2→s.heap.get? c=some o→h'.get? c=some o)→Q (.ref s.heap.objs.size) { s with heap:=h' }):
  wpAny (model prog w) A (Builtin.«zip.__next__» ⟨[.ref z],[]⟩) (fun fin s'=>∃ v,fin=.done (.ret v)∧Q v s') E s:=by
 show wpAny _ _ (field (.ref z) 2 >>= _) _ _ _
 refine wpAny_bind (wpAny_field hz rfl (x:=.bool false) rfl ?_)
 show wpAny _ _ (field (.ref z) 3 >>= _) _ _ _
 refine wpAny_bind (wpAny_field hz rfl (x:=.ref TI) rfl (wpAny_bind (wpAny_seqItems hTI rfl ?_)))
 show wpAny _ _ (Builtin.SmallTypes.ownedTupleIsFree (.ref z) >>= _) _ _ _
 apply wpAny_bind
 unfold Builtin.SmallTypes.ownedTupleIsFree
 refine wpAny_bind (wpAny_field hz rfl (x:=.none) rfl (wpAny_pure ?_))
 simp only[if_true]
 refine wpAny_bind (wpAny_rule (wpAny_bind (wpAny_field hz rfl (x:=.ref TO) rfl (wpAny_bind (wpAny_setField_rec hz (by simp) fun j1 z1 s1=>?_)))))
 replace z1:IsZip j1 z TI TO .ellipsis:=z1
 apply wpAny_bind
 simp only[List.zipIdx_cons,List.zipIdx_nil,List.forIn_cons,List.forIn_nil]
 refine wpAny_bind (wpAny_bind (wpAny_onRaise ?_))
 show wpAny _ _ (Builtin.SmallTypes.nextOf (.ref i1) >>= _) _ _ _
 refine wpAny_bind (j6 (s:={ s with heap:=j1 }) (cx h1 fun o e=>s1.extBut _ o D.i1z e) (fP hl1 fun o e=>s1.extBut _ o D.l1z e) hx fun j2 a2 s2=>wpAny_pure ?_)
 have o2:IsPair j2 TO a b:=s2.extBut _ _ D.TOi1 (s1.extBut _ _ D.TOz hTO)
 refine wpAny_bind (wpAny_seqItems (s:={ s with heap:=j2 }) o2 rfl (wpAny_bind (wpAny_updateSeq_pair (s:={ s with heap:=j2 }) o2 fun j3 o3 s3=>?_)))
 replace o3:IsPair j3 TO x b:=o3
 refine wpAny_bind (wpAny_letGo (wpAny_pure (wpAny_bind (wpAny_bind (wpAny_onRaise ?_)))))
 show wpAny _ _ (Builtin.SmallTypes.nextOf (.ref i2) >>= _) _ _ _
 refine wpAny_bind (j6 (s:={ s with heap:=j3 }) (cx h2 fun o e=>s3.extBut _ o D.TOi2.symm (s2.extBut _ o D.i12.symm (s1.extBut _ o D.i2z e))) (fP hl2 fun o e=>s3.extBut _ o D.l2TO (s2.extBut _ o D.l2i1 (s1.extBut _ o D.l2z e))) hy fun j4 a4 s4=>wpAny_pure ?_)
 have o4:IsPair j4 TO x b:=s4.extBut _ _ D.TOi2 o3
 refine wpAny_bind (wpAny_seqItems (s:={ s with heap:=j4 }) o4 rfl (wpAny_bind (wpAny_updateSeq_pair (s:={ s with heap:=j4 }) o4 fun j5 o5 s5=>?_)))
 replace o5:IsPair j5 TO x y:=o5
 refine wpAny_bind (wpAny_letGo (wpAny_pure (wpAny_pure (wpAny_bind (wpAny_seqItems (s:={ s with heap:=j5 }) o5 rfl (wpAny_bind (wpAny_newTuple ?_)))))))
 have hsz:j5.objs.size=s.heap.objs.size:=by rw[s5.1,s4.1,s3.1,s2.1,s1.1]
 have z5:IsZip j5 z TI TO .ellipsis:=s5.extBut _ _ D.TOz.symm (s4.extBut _ _ D.i2z.symm (s3.extBut _ _ D.TOz.symm (s2.extBut _ _ D.i1z.symm z1)))
 have k5:∀ c o,c≠z→c≠TO→c≠i1→c≠i2→s.heap.get? c=some o→j5.get? c=some o:=fun c o c1 c2 c3 c4 e=>s5.extBut _ _ c2 (s4.extBut _ _ c4 (s3.extBut _ _ c2 (s2.extBut _ _ c3 (s1.extBut _ _ c1 e))))
 have b1:j5.IsTupleIter i1 l1 (k1+1):=cx a2 fun o e=>s5.extBut _ o D.TOi1.symm (s4.extBut _ o D.i12 (s3.extBut _ o D.TOi1.symm e))
 have b2:j5.IsTupleIter i2 l2 (k2+1):=cx a4 fun o e=>s5.extBut _ o D.TOi2.symm e
 have zlt:z<j5.objs.size:=Heap.lt_size z5
 show wpAny _ _ (Builtin.SmallTypes.ownedTupleHandOut (.ref z) (.ref j5.objs.size) >>= _) _ _ _
 apply wpAny_bind
 unfold Builtin.SmallTypes.ownedTupleHandOut
 have z6:IsZip (j5.push { cls:=.type "tuple",data:=.seq #[x,y] }) z TI TO .ellipsis:=Heap.get?_push_of_some _ z5
 refine wpAny_bind (wpAny_setField_rec z6 (by simp) fun j7 z7 s7=>?_)
 replace z7:IsZip j7 z TI TO (rawInt j5.objs.size):=z7
 refine wpAny_setField_rec z7 (by simp) fun j8 z8 s8=>?_
 replace z8:IsZip j8 z TI TO (rawInt j5.objs.size):=z8
 have up:∀ c o,c≠z→j5.get? c=some o→j8.get? c=some o:=fun c o c1 e=>s8.extBut _ _ c1 (s7.extBut _ _ c1 (Heap.get?_push_of_some _ e))
 have t8:IsPair j8 j5.objs.size x y:=s8.extBut _ _ (Nat.ne_of_gt zlt) (s7.extBut _ _ (Nat.ne_of_gt zlt) (Heap.get?_push_size _ rfl))
 rw[hsz] at z8 t8
 refine wpAny_pure ⟨_,rfl,?_⟩
 show Q (.ref j5.objs.size) _
 rw[hsz]
 exact hQ j8 z8 (up _ _ D.TOz o5) (cx b1 fun o e=>up _ o D.i1z e) (cx b2 fun o e=>up _ o D.i2z e) t8 fun c o c1 c2 c3 c4 e=>up c o c1 (k5 c o c1 c2 c3 c4 e)
theorem vz {z TI TO i1 i2 l1 l2:Addr}{k1 k2:Nat}{xs ys:Array Value}{a b:Value}{Q:PySem.Fin→Shared→Prop} (hh:A.handled=none) (D:ZipApart z TI TO i1 i2 l1 l2)
  (hz:IsZip s.heap z TI TO .none) (hTI:IsPair s.heap TI (.ref i1) (.ref i2)) (hTO:IsPair s.heap TO a b)
  (h1:s.heap.IsTupleIter i1 l1 k1) (h2:s.heap.IsTupleIter i2 l2 k2) (hl1:s.heap.IsTuple l1 xs) (hl2:s.heap.IsTuple l2 ys) (hend:xs[k1]?=none∨ys[k2]?=none)
  (hE:∀ h' e,(∀ c o,c≠z→c≠TO→c≠i1→c≠i2→s.heap.get? c=some o→h'.get? c=some o)→(∃ o,h'.get? e=some o∧o.cls=.type "StopIteration")→E (.ref e) { s with heap:=h' }):
  wpAny (model prog w) A (Builtin.«zip.__next__» ⟨[.ref z],[]⟩) Q E s:=by
 show wpAny _ _ (field (.ref z) 2 >>= _) _ _ _
 refine wpAny_bind (wpAny_field hz rfl (x:=.bool false) rfl ?_)
 show wpAny _ _ (field (.ref z) 3 >>= _) _ _ _
 refine wpAny_bind (wpAny_field hz rfl (x:=.ref TI) rfl (wpAny_bind (wpAny_seqItems hTI rfl ?_)))
 show wpAny _ _ (Builtin.SmallTypes.ownedTupleIsFree (.ref z) >>= _) _ _ _
 apply wpAny_bind
 unfold Builtin.SmallTypes.ownedTupleIsFree
 refine wpAny_bind (wpAny_field hz rfl (x:=.none) rfl (wpAny_pure ?_))
 simp only[if_true]
 refine wpAny_bind (wpAny_rule (wpAny_bind (wpAny_field hz rfl (x:=.ref TO) rfl (wpAny_bind (wpAny_setField_rec hz (by simp) fun j1 z1 s1=>?_)))))
 replace z1:IsZip j1 z TI TO .ellipsis:=z1
 apply wpAny_bind
 simp only[List.zipIdx_cons,List.zipIdx_nil,List.forIn_cons,List.forIn_nil]
 refine wpAny_bind (wpAny_bind (wpAny_onRaise ?_))
 show wpAny _ _ (Builtin.SmallTypes.nextOf (.ref i1) >>= _) _ _ _
 cases hx:xs[k1]? with
 | none=>
  refine wpAny_bind (nE (s:={ s with heap:=j1 }) hh (cx h1 fun o e=>s1.extBut _ o D.i1z e) (fP hl1 fun o e=>s1.extBut _ o D.l1z e) hx fun j2 e s2 ⟨oe,e1,e2⟩=>?_)
  have z2:IsZip j2 z TI TO .ellipsis:=s2 _ _ D.i1z.symm z1
  have ez:e≠z:=fun q=>by subst q;rw[z2] at e1;cases e1;simp at e2
  refine wpAny_setField_rec z2 (by simp) fun j3 _ s3=>hE j3 e (fun c o c1 _ c3 _ q=>s3.extBut _ _ c1 (s2 _ _ c3 (s1.extBut _ _ c1 q))) ⟨oe,s3.extBut _ _ ez e1,e2⟩
 | some x=>
  have hy:ys[k2]?=none:=by
   rcases hend with h | h
   ·rw[hx] at h;cases h
   ·exact h
  refine wpAny_bind (j6 (s:={ s with heap:=j1 }) (cx h1 fun o e=>s1.extBut _ o D.i1z e) (fP hl1 fun o e=>s1.extBut _ o D.l1z e) hx fun j2 a2 s2=>wpAny_pure ?_)
  have o2:IsPair j2 TO a b:=s2.extBut _ _ D.TOi1 (s1.extBut _ _ D.TOz hTO)
  refine wpAny_bind (wpAny_seqItems (s:={ s with heap:=j2 }) o2 rfl (wpAny_bind (wpAny_updateSeq_pair (s:={ s with heap:=j2 }) o2 fun j3 o3 s3=>?_)))
  refine wpAny_bind (wpAny_letGo (wpAny_pure (wpAny_bind (wpAny_bind (wpAny_onRaise ?_)))))
  show wpAny _ _ (Builtin.SmallTypes.nextOf (.ref i2) >>= _) _ _ _
  refine wpAny_bind (nE (s:={ s with heap:=j3 }) hh (cx h2 fun o e=>s3.extBut _ o D.TOi2.symm (s2.extBut _ o D.i12.symm (s1.extBut _ o D.i2z e))) (fP hl2 fun o e=>s3.extBut _ o D.l2TO (s2.extBut _ o D.l2i1 (s1.extBut _ o D.l2z e))) hy fun j4 e s4 ⟨oe,e1,e2⟩=>?_)
  have z4:IsZip j4 z TI TO .ellipsis:=s4 _ _ D.i2z.symm (s3.extBut _ _ D.TOz.symm (s2.extBut _ _ D.i1z.symm z1))
  have ez:e≠z:=fun q=>by subst q;rw[z4] at e1;cases e1;simp at e2
  refine wpAny_setField_rec z4 (by simp) fun j5 _ s5=>hE j5 e (fun c o c1 c2 c3 c4 q=>s5.extBut _ _ c1 (s4 _ _ c4 (s3.extBut _ _ c2 (s2.extBut _ _ c3 (s1.extBut _ _ c1 q))))) ⟨oe,s5.extBut _ _ ez e1,e2⟩
end
noncomputable def ztH (h:Heap) (l1 l2:Addr):Heap:=((((h.push { cls:=.type "tuple_iterator",data:=.fields #[.ref l1,.int 0 0] }).push { cls:=.type "tuple_iterator",data:=.fields #[.ref l2,.int 0 0] }).push
 { cls:=.type "tuple",data:=.seq #[.ref h.objs.size,.ref (h.push { cls:=.type "tuple_iterator",data:=.fields #[.ref l1,.int 0 0] }).objs.size] }).push { cls:=.type "tuple",data:=.seq #[.none,.none] })
theorem vA (l1 l2 : Addr) (xs ys : Array Value) :
    Meets (Builtin.«zip.__new__» ⟨[.type "zip", .ref l1, .ref l2], []⟩) (fun _ R s => s.heap.IsTuple l1 xs ∧ s.heap.IsTuple l2 ys ∧
      R (.ok (.ret (.ref (ztH s.heap l1 l2).objs.size))) { s with heap := (ztH s.heap l1 l2).push { cls := .type "zip", data := .fields #[.none, .bool false, .bool false, .ref ((s.heap.push { cls := .type "tuple_iterator", data := .fields #[.ref l1, .int 0 0] }).push { cls := .type "tuple_iterator", data := .fields #[.ref l2, .int 0 0] }).objs.size,
        .ref (((s.heap.push { cls := .type "tuple_iterator", data := .fields #[.ref l1, .int 0 0] }).push { cls := .type "tuple_iterator", data := .fields #[.ref l2, .int 0 0] }).push
  { cls := .type "tuple", data := .seq #[.ref s.heap.objs.size, .ref (s.heap.push { cls := .type "tuple_iterator", data := .fields #[.ref l1, .int 0 0] }).objs.size] }).objs.size] } }) :=
  .of_wp fun prog w A R s h => by
    obtain ⟨hp, g, d, tk, os⟩ := s
    obtain ⟨q1, q2, h⟩ := h
    have hsub := sub_zip
    have m1 : Heap.IsTuple (Shared.heap ⟨hp, g, d, tk, os⟩) l1 xs := q1
    have m2 : Heap.IsTuple (Shared.heap ⟨hp.push { cls := .type "tuple_iterator", data := .fields #[.ref l1, .int 0 0] }, g, d, tk, os⟩) l2 ys := fP q2 fun o e => Heap.get?_push_of_some _ e
    wp_walk using wpAny_pyIter_tuple m1, wpAny_pyIter_tuple m2
    exact ⟨_, rfl, h⟩
noncomputable def Itz (K:PySem.W.Frag) (a b:Addr):It:=
 ⟨fun i H=>∃ xs ys x y,SqT K H a xs∧SqT K H b ys∧xs[i]?=some x∧ys[i]?=some y,
  fun i H v H'=>∃ T x y,H T=none∧v=.ref T∧H'=upd H T (.tup [x,y])∧(∀ xs,SqT K H a xs→xs[i]?=some x)∧(∀ ys,SqT K H b ys→ys[i]?=some y),
  fun i H=>∃ xs ys,SqT K H a xs∧SqT K H b ys∧(xs.length≤i∨ys.length≤i)⟩
noncomputable def nF (a b z TI TO i1 i2:Addr) (i:Nat) (h:Heap):Prop:=IsZip h z TI TO .none∧IsPair h TI (.ref i1) (.ref i2)∧(∃ p q,IsPair h TO p q)∧h.IsTupleIter i1 a i∧h.IsTupleIter i2 b i
theorem vB {P:Program}{w:World}{K:PySem.W.Frag}{es:List Expr}{ek:Nat}{pos:Pos} (a b z TI TO i1 i2:Addr) (D:ZipApart z TI TO i1 i2 a b):
  Turn P w K (.Tuple es ek pos) (Itz K a b) [z,TI,TO,i1,i2] z (nF a b z TI TO i1 i2) where
 mem:=by simp
 obj:=fun i h st c hc=>by
  obtain⟨h1,h2,⟨p,q,h3⟩,⟨o4,e4,_,d4⟩,⟨o5,e5,_,d5⟩⟩:=st
  simp only[List.mem_cons,List.mem_nil_iff,or_false] at hc
  rcases hc with rfl | rfl | rfl | rfl | rfl
  ·exact⟨_,h1,fun v e=>by cases e⟩
  ·exact⟨_,h2,fun v e=>by cases e⟩
  ·exact⟨_,h3,fun v e=>by cases e⟩
  ·exact⟨_,e4,fun v e=>by rw[d4] at e;cases e⟩
  ·exact⟨_,e5,fun v e=>by rw[d5] at e;cases e⟩
 keep:=fun i h h' st k=>by
  obtain⟨h1,h2,⟨p,q,h3⟩,h4,h5⟩:=st
  exact⟨k z (by simp) _ h1,k TI (by simp) _ h2,⟨p,q,k TO (by simp) _ h3⟩,cx h4 fun o e=>k i1 (by simp) o e,cx h5 fun o e=>k i2 (by simp) o e⟩
 item:=by
  intro X hP hw hK hc i pins s σ H E I hf st hg
  subst hP hw hK
  obtain⟨xs,ys,x,y,q1,q2,x1,y1⟩:=hg
  obtain⟨its,rv,p,hz⟩:=I.tuple q1
  obtain⟨its2,rv2,p2,hz2⟩:=I.tuple q2
  obtain⟨u,hu,ru⟩:=rv.get x1
  obtain⟨u2,hu2,ru2⟩:=rv2.get y1
  have there:=st
  obtain⟨h1,h2,⟨pa,pb,h3⟩,h4,h5⟩:=st
  have hT:s.TypeIs (.ref z) "zip" := ⟨_,h1,rfl⟩
  unfold pyNext
  refine wpAny_bind (wpAny_attempt (wpAny_callSpecial?_slot (name:=Str.ofString "__next__") hT F.slot_zip_next (wpAny_call_entry F.slot_zip_next hT F.entry_zip_next
   (vy (Q:=fun v s'=>wpAny (model X.prog X.w) X.A (pure (some v)) (fun r s1=>∃ u,r=some u∧wpAny (model X.prog X.w) X.A (letOwnedTupleGo (.Tuple es ek pos) (.ref z) u) (fun _ s2=>∃ x H',Inv X pins σ H' s2∧ao x u∧(Itz X.K a b).yld i H x H'∧nF a b z TI TO i1 i2 (i+1) s2.heap∧∀ b∈[z,TI,TO,i1,i2],H' b=none) E s1) E s')
    D h1 h2 h3 h4 h5 (show s.heap.IsTuple a its.toArray from p) (show s.heap.IsTuple b its2.toArray from p2) (x:=u) (y:=u2) (by simpa using hu) (by simpa using hu2) fun h' g1 g2 g3 g4 g5 kk=>wpAny_pure ⟨_,rfl,?_⟩) (F.args_zip_next_1 _))))
  refine wpAny_letOwnedTupleGo_zip g1 fun h2' g1' sb=>?_
  have lt:∀ c∈[z,TI,TO,i1,i2],c<s.heap.objs.size:=fun c hc=>by
   obtain⟨h1,h2,⟨p,q,h3⟩,⟨o4,e4,_⟩,⟨o5,e5,_⟩⟩:=there
   simp only[List.mem_cons,List.mem_nil_iff,or_false] at hc
   rcases hc with rfl | rfl | rfl | rfl | rfl
   ·exact Heap.lt_size h1
   ·exact Heap.lt_size h2
   ·exact Heap.lt_size h3
   ·exact Heap.lt_size e4
   ·exact Heap.lt_size e5
  have kp:∀ c o,c∉[z,TI,TO,i1,i2]→s.heap.get? c=some o→h2'.get? c=some o:=fun c o hc e=>by
   simp only[List.mem_cons,List.mem_nil_iff,or_false,not_or] at hc
   exact sb.extBut _ _ hc.1 (kk c o hc.1 hc.2.2.1 hc.2.2.2.1 hc.2.2.2.2 e)
  have zT:s.heap.objs.size≠z:=Nat.ne_of_gt (lt z (by simp))
  have fT:H s.heap.objs.size=none:=I.hok.fresh (Nat.le_refl _)
  refine⟨.ref s.heap.objs.size,upd H s.heap.objs.size (.tup [x,y]),I.turnT (t':=s.toks) hf kp (Nat.le_refl _) ⟨by show 2≤sizeLine;decide,[u,u2],.cons ru (.cons ru2 .nil),?_⟩,rfl,⟨_,x,y,fT,rfl,rfl,fun zs hz=>?_,fun zs hz=>?_⟩,?_,fun c hc=>?_⟩
  ·exact⟨_,sb.extBut _ _ zT g5,rfl,0,rfl⟩
  ·rw[I.tuple_inj hz q1];exact x1
  ·rw[I.tuple_inj hz q2];exact y1
  ·exact⟨g1',sb.extBut _ _ D.TIz (kk _ _ D.TIz D.TITO D.TIi1 D.TIi2 h2),⟨_,_,sb.extBut _ _ D.TOz g2⟩,cx g3 fun o e=>sb.extBut _ o D.i1z e,cx g4 fun o e=>sb.extBut _ o D.i2z e⟩
  ·rw[aA (Nat.ne_of_lt (lt c hc))]
   exact (hf c hc).1
 done:=by
  intro X hP hw hK hc i pins s σ H E I hf st hg
  subst hP hw hK
  obtain⟨xs,ys,q1,q2,hend⟩:=hg
  obtain⟨its,rv,p,hz⟩:=I.tuple q1
  obtain⟨its2,rv2,p2,hz2⟩:=I.tuple q2
  obtain⟨h1,h2,⟨pa,pb,h3⟩,h4,h5⟩:=st
  have hT:s.TypeIs (.ref z) "zip" := ⟨_,h1,rfl⟩
  have l1:=rv.length
  have l2:=rv2.length
  unfold pyNext
  refine wpAny_bind (wpAny_attempt (wpAny_callSpecial?_slot (name:=Str.ofString "__next__") hT F.slot_zip_next (wpAny_call_entry F.slot_zip_next hT F.entry_zip_next
   (vz (I.ok.hd hc) D h1 h2 h3 h4 h5 (show s.heap.IsTuple a its.toArray from p) (show s.heap.IsTuple b its2.toArray from p2) (by
    rcases hend with h | h
    ·exact .inl (by simp;lia)
    ·exact .inr (by simp;lia)) fun h' e kk ⟨o,ho,hcl⟩=>?_) (F.args_zip_next_1 _))))
  refine wpAny_bind (wpAny_isInstance (T := "StopIteration") (b:=true) ⟨o,ho,hcl⟩ isSubtype_stop (wpAny_pure ⟨rfl,I.turnL (t':=s.toks) hf fun c o hc e=>?_⟩))
  simp only[List.mem_cons,List.mem_nil_iff,or_false,not_or] at hc
  exact kk c o hc.1 hc.2.2.1 hc.2.2.2.1 hc.2.2.2.2 e
 self:=fun _ _ _ _ _ st h=>wpAny_pyIter_zip st.1 h
section
variable {X:Cx}
noncomputable def vC (K:PySem.W.Frag) (ta:TA):TI:=fun σ H R=>ta σ H fun vs H1=>∃ a b,vs=[.ref a,.ref b]∧(∃ xs,SqT K H1 a xs)∧(∃ ys,SqT K H1 b ys)∧R (Itz K a b) H1
theorem vD {a b:Expr}{ta:TA}{p pos:Pos}{es:List Expr}{ek:Nat}{ps:Pos} (hg:Gl X "zip") (hm:X.mg "zip" = none) (ha:PA X [a,b] ta) (hs:starEach [a,b] X.env=[(false,eval a X.env),(false,eval b X.env)]:=by rfl) (hs2:starEach [b] X.env=[(false,eval b X.env)]:=by rfl):
  PI X (.Tuple es ek ps) (.Call (.Name "zip" p) [a,b] [] pos) (vC X.K ta):=by
 intro pins s σ H R I h
 refine Call_ (eG I hg hm boot_zip (PyProof.Rows.callWith_type1 (thn (ha pos pins s σ H _ I h) fun us s1 ⟨vs,H1,I1,r1,q1⟩=>?_) (by rw[hs,hs2]) (by rw[hs2];rfl)))
 obtain⟨l1,l2,e,⟨xs,hx⟩,⟨ys,hy⟩,q⟩:=q1
 subst e
 cases r1 with
 | cons r rr=>
  cases rr with
  | cons r' rr=>
   cases rr
   cases r
   cases r'
   obtain⟨its,rv,p,hz⟩:=I1.tuple hx
   obtain⟨its2,rv2,p2,hz2⟩:=I1.tuple hy
   have lt1:l1<s1.heap.objs.size:=by obtain⟨o,e,_⟩:=p;exact Heap.lt_size e
   have lt2:l2<s1.heap.objs.size:=by obtain⟨o,e,_⟩:=p2;exact Heap.lt_size e
   refine callType_new F.called_zip (by decide) (F.typeCall_zip_2 _ _) (F.newCall_zip_2 _ _) (fun obj=>F.args_object_init_3 obj _ _) F.entry_zip_new (vA l1 l2 its.toArray its2.toArray) ⟨p,p2,?_⟩
   have z1:(s1.heap.push { cls:=.type "tuple_iterator",data:=.fields #[.ref l1,.int 0 0] }).objs.size=s1.heap.objs.size+1:=Heap.size_push ..
   have z2:((s1.heap.push { cls:=.type "tuple_iterator",data:=.fields #[.ref l1,.int 0 0] }).push { cls:=.type "tuple_iterator",data:=.fields #[.ref l2,.int 0 0] }).objs.size=s1.heap.objs.size+2:=by rw[Heap.size_push,z1]
   have z3:(((s1.heap.push { cls:=.type "tuple_iterator",data:=.fields #[.ref l1,.int 0 0] }).push { cls:=.type "tuple_iterator",data:=.fields #[.ref l2,.int 0 0] }).push
    { cls:=.type "tuple",data:=.seq #[.ref s1.heap.objs.size,.ref (s1.heap.push { cls:=.type "tuple_iterator",data:=.fields #[.ref l1,.int 0 0] }).objs.size] }).objs.size=s1.heap.objs.size+3:=by rw[Heap.size_push,z2]
   have z4:(ztH s1.heap l1 l2).objs.size=s1.heap.objs.size+4:=by unfold ztH;rw[Heap.size_push,z3]
   show _∧_
   refine⟨⟨_,Heap.get?_push_size _ rfl,rfl⟩,wpAny_pyIter_zip (TI:=s1.heap.objs.size+2) (TO:=s1.heap.objs.size+3) (f0:=.none) ?_ ?_⟩
   ·rw[z2,z3]
    exact Heap.get?_push_size _ rfl
   ·rw[z2,z3,z4]
    have g5:((ztH s1.heap l1 l2).push { cls:=.type "zip",data:=.fields #[.none,.bool false,.bool false,.ref (s1.heap.objs.size+2),.ref (s1.heap.objs.size+3)] }).get? (s1.heap.objs.size+4)=some { cls:=.type "zip",data:=.fields #[.none,.bool false,.bool false,.ref (s1.heap.objs.size+2),.ref (s1.heap.objs.size+3)] }:=by rw[← z4];exact Heap.get?_push_size _ rfl
    have g4:((ztH s1.heap l1 l2).push { cls:=.type "zip",data:=.fields #[.none,.bool false,.bool false,.ref (s1.heap.objs.size+2),.ref (s1.heap.objs.size+3)] }).get? (s1.heap.objs.size+3)=some { cls:=.type "tuple",data:=.seq #[.none,.none] }:=by
     rw[← z3];exact Heap.get?_push_of_some _ (Heap.get?_push_size _ rfl)
    have g3:((ztH s1.heap l1 l2).push { cls:=.type "zip",data:=.fields #[.none,.bool false,.bool false,.ref (s1.heap.objs.size+2),.ref (s1.heap.objs.size+3)] }).get? (s1.heap.objs.size+2)=some { cls:=.type "tuple",data:=.seq #[.ref s1.heap.objs.size,.ref (s1.heap.objs.size+1)] }:=by
     rw[← z2,← z1];exact Heap.get?_push_of_some _ (Heap.get?_push_of_some _ (Heap.get?_push_size _ rfl))
    have g2:((ztH s1.heap l1 l2).push { cls:=.type "zip",data:=.fields #[.none,.bool false,.bool false,.ref (s1.heap.objs.size+2),.ref (s1.heap.objs.size+3)] }).get? (s1.heap.objs.size+1)=some { cls:=.type "tuple_iterator",data:=.fields #[.ref l2,.int 0 0] }:=by
     rw[← z1];exact Heap.get?_push_of_some _ (Heap.get?_push_of_some _ (Heap.get?_push_of_some _ (Heap.get?_push_size _ rfl)))
    have g1:((ztH s1.heap l1 l2).push { cls:=.type "zip",data:=.fields #[.none,.bool false,.bool false,.ref (s1.heap.objs.size+2),.ref (s1.heap.objs.size+3)] }).get? s1.heap.objs.size=some { cls:=.type "tuple_iterator",data:=.fields #[.ref l1,.int 0 0] }:=
     Heap.get?_push_of_some _ (Heap.get?_push_of_some _ (Heap.get?_push_of_some _ (Heap.get?_push_of_some _ (Heap.get?_push_size _ rfl))))
    have kp:∀ c o,s1.heap.get? c=some o→((ztH s1.heap l1 l2).push { cls:=.type "zip",data:=.fields #[.none,.bool false,.bool false,.ref (s1.heap.objs.size+2),.ref (s1.heap.objs.size+3)] }).get? c=some o:=fun c o e=>
     Heap.get?_push_of_some _ (Heap.get?_push_of_some _ (Heap.get?_push_of_some _ (Heap.get?_push_of_some _ (Heap.get?_push_of_some _ e))))
    generalize ((ztH s1.heap l1 l2).push { cls:=.type "zip",data:=.fields #[.none,.bool false,.bool false,.ref (s1.heap.objs.size+2),.ref (s1.heap.objs.size+3)] })=h5 at g1 g2 g3 g4 g5 kp ⊢
    have D:ZipApart (s1.heap.objs.size+4) (s1.heap.objs.size+2) (s1.heap.objs.size+3) s1.heap.objs.size (s1.heap.objs.size+1) l1 l2:=PySem.W.ktu_apart _ _ _ lt1 lt2
    refine⟨_,_,_,_,H1,rfl,I1.kept (t':=s1.toks) kp,vB l1 l2 _ _ _ _ _ D,⟨g5,g3,⟨_,_,g4⟩,⟨_,g1,rfl,rfl⟩,⟨_,g2,rfl,rfl⟩⟩,fun c hc=>?_,q⟩
    have:s1.heap.objs.size≤c:=by
     simp only[List.mem_cons,List.mem_nil_iff,or_false] at hc
     rcases hc with rfl | rfl | rfl | rfl | rfl
     ·exact Nat.le_add_right _ _
     ·exact Nat.le_add_right _ _
     ·exact Nat.le_add_right _ _
     ·exact Nat.le_refl _
     ·exact Nat.le_add_right _ _
    exact I1.fpOk this (I1.hok.fresh this)
end
noncomputable def nG (K:PySem.W.Frag) (H:Hp) (x:V) (T:String) (b:Bool):Prop:=
 (∃ i,x=.int i∧((T = "int" ∧ b=true)∨(T = "tuple" ∧ b=false)∨(T = "str" ∧ b=false)∨(T = "bool" ∧ b=false)∨(T = "list" ∧ b=false)))∨
 (∃ i,x=.bl i∧((T = "bool" ∧ b=true)∨(T = "int" ∧ b=true)∨(T = "tuple" ∧ b=false)∨(T = "str" ∧ b=false)∨(T = "list" ∧ b=false)))∨
 (∃ i,x=.str i∧((T = "str" ∧ b=true)∨(T = "int" ∧ b=false)∨(T = "tuple" ∧ b=false)∨(T = "bool" ∧ b=false)∨(T = "list" ∧ b=false)))∨
 (∃ a xs,x=.ref a∧SqT K H a xs∧((T = "tuple" ∧ b=true)∨(T = "int" ∧ b=false)∨(T = "str" ∧ b=false)∨(T = "bool" ∧ b=false)∨(T = "list" ∧ b=false)))∨
 (∃ a xs,x=.ref a∧SqL K H a xs∧((T = "list" ∧ b=true)∨(T = "int" ∧ b=false)∨(T = "str" ∧ b=false)∨(T = "bool" ∧ b=false)∨(T = "tuple" ∧ b=false)))
section
variable {X:Cx}
theorem vE:aX X (.builtin "isinstance") (fun xs H Q=>∃ x T b,xs=[x,.ty T]∧nG X.K H x T b∧Q (.bl b) H):=by
 intro pins s σ H xs us Q I r h
 obtain⟨x,T,b,rfl,hi,q⟩:=h
 cases r with
 | cons r rr=>
  cases rr with
  | cons r' rr=>
   cases rr
   cases r'
   have f0:∀ {b:Bool},Q (.bl b) H→EP X pins σ Q (.bool b) s:=fun {b} q=>⟨.bl b,H,I,rfl,q⟩
   have f1:∀ {b:Bool},Q (.bl b) H→EP X pins σ Q (.bool b) { s with toks:=s.toks+1 }:=fun {b} q=>⟨.bl b,H,I.tok _,rfl,q⟩
   rcases hi with ⟨i,rfl,hi⟩ | ⟨i,rfl,hi⟩ | ⟨i,rfl,hi⟩ | ⟨a,xs,rfl,hs,hi⟩ | ⟨a,xs,rfl,hs,hi⟩
   ·obtain⟨t,rfl⟩:=r
    rcases hi with ⟨rfl,rfl⟩ | ⟨rfl,rfl⟩ | ⟨rfl,rfl⟩ | ⟨rfl,rfl⟩ | ⟨rfl,rfl⟩
    ·exact IsiPair.int_int (f0 q)
    ·exact IsiPair.int_tuple (f1 q)
    ·exact IsiPair.int_str (f1 q)
    ·exact IsiPair.int_bool (f1 q)
    ·exact IsiPair.int_list (f1 q)
   ·cases r
    rcases hi with ⟨rfl,rfl⟩ | ⟨rfl,rfl⟩ | ⟨rfl,rfl⟩ | ⟨rfl,rfl⟩ | ⟨rfl,rfl⟩
    ·exact IsiPair.bool_bool (f0 q)
    ·exact IsiPair.bool_int (f0 q)
    ·exact IsiPair.bool_tuple (f1 q)
    ·exact IsiPair.bool_str (f1 q)
    ·exact IsiPair.bool_list (f1 q)
   ·obtain⟨t,rfl⟩:=r
    rcases hi with ⟨rfl,rfl⟩ | ⟨rfl,rfl⟩ | ⟨rfl,rfl⟩ | ⟨rfl,rfl⟩ | ⟨rfl,rfl⟩
    ·exact IsiPair.str_str (f0 q)
    ·exact IsiPair.str_int (f1 q)
    ·exact IsiPair.str_tuple (f1 q)
    ·exact IsiPair.str_bool (f1 q)
    ·exact IsiPair.str_list (f1 q)
   ·cases r
    obtain⟨its,rv,⟨o,ho,hc,_⟩,hz⟩:=I.tuple hs
    rcases hi with ⟨rfl,rfl⟩ | ⟨rfl,rfl⟩ | ⟨rfl,rfl⟩ | ⟨rfl,rfl⟩ | ⟨rfl,rfl⟩
    ·exact IsiPair.tuple_tuple ho hc (f0 q)
    ·exact IsiPair.tuple_int ho hc (f1 q)
    ·exact IsiPair.tuple_str ho hc (f1 q)
    ·exact IsiPair.tuple_bool ho hc (f1 q)
    ·exact IsiPair.tuple_list ho hc (f1 q)
   ·cases r
    obtain⟨its,rv,p,hz⟩:=I.list hs
    obtain⟨o,ho,hc,_⟩:=p.isList
    rcases hi with ⟨rfl,rfl⟩ | ⟨rfl,rfl⟩ | ⟨rfl,rfl⟩ | ⟨rfl,rfl⟩ | ⟨rfl,rfl⟩
    ·exact IsiPair.list_list ho hc (f0 q)
    ·exact IsiPair.list_int ho hc (f1 q)
    ·exact IsiPair.list_str ho hc (f1 q)
    ·exact IsiPair.list_bool ho hc (f1 q)
    ·exact IsiPair.list_tuple ho hc (f1 q)
theorem nH:∀ {bs:List Bool}{us:List Value},am (bs.map V.bl) us→∀ (i:Nat) (v:Value),us[i]?=some v→∃ b,bs[i]?=some b∧v=Value.bool b:=by
 intro bs us r i v h
 have hl:=r.length
 rw[List.length_map] at hl
 have hi:i<bs.length:=by rw[hl];exact (List.getElem?_eq_some_iff.mp h).1
 obtain⟨u,hu,ru⟩:=r.get (i:=i) (x:=V.bl bs[i]) (by simp[hi])
 rw[h] at hu
 cases hu
 exact⟨bs[i],by simp[hi],ru⟩
theorem vF (hc:X.calm=true):aX X (.builtin "all") (fun xs H Q=>∃ l bs,xs=[.ref l]∧H l=some (.lst (List.map V.bl bs))∧Q (.bl (bs.all id)) H):=by
 intro pins s σ H xs us Q I r h
 obtain⟨l,bs,rfl,hl,q⟩:=h
 obtain⟨u,rfl,ru⟩:=cg r
 cases ru
 obtain⟨z,its,n,rv,e⟩:=I.hok l _ hl
 have isl:s.heap.IsList l its.toArray:=⟨_,e,rfl,n,rfl⟩
 refine call_all_walk (wpAny_pyIter_list isl ⟨s.heap.objs.size,[s.heap.objs.size,l],[s.heap.objs.size],its.toArray.size,_,_,fun i=>(bs[i]?).getD true,rfl,Walks.list (A:=X.A.in1) (I.ok.hd hc) _ l (Nat.ne_of_lt (Heap.lt_size e)) its.toArray,
  ⟨⟨_,Heap.get?_push_size _ rfl,rfl,rfl⟩,isl.push _⟩,fun i v s' Q' E' hP hQ=>?_,fun h' tk hk=>?_⟩)
 ·obtain⟨b,eb,rfl⟩:=nH rv i v (by simpa using hP)
  simp only[eb,Option.getD_some] at hQ
  exact wpAny_truthy_bool hQ
 ·have el:its.toArray.size=bs.length:=by
   have:=rv.length
   rw[List.length_map] at this
   rw[List.size_toArray,this]
  rw[el,LSm.range_all]
  exact⟨.bl _,H,I.kept (LSm.kept_iter hk),rfl,q⟩
theorem vG:OpR X (binaryOp .Mult) (rI IntMulOk fun i j=>.int (i * j)):=opI fun _ _ _ _ _ _ _ hc q=>mul_int q hc
end
inductive Vl where
 | im (d:Im)
 | jk
 | fz (ds:List Im)
 | lst (ds:List Im)
 | dK (kvs:List (Key×Im))
 | dT (kvs:List (List Im×Im))
 | lstM (xs:List Vl)
 | dTM (ks:List (List Im)) (xs:List Vl)
 | tpl (xs:List Vl)
 | obj (C:Addr) (ns:List Str) (xs:List Vl)
noncomputable abbrev SD:=List (Option Vl)
noncomputable abbrev PKv {κ:Type} (H:Hp):List (κ×Im)→List (κ×V)→Prop:=Paired fun p q=>p.1=q.1∧IsI H p.2 q.2
theorem PKv.mono {κ:Type}{H H':Hp}{l:List (κ×Im)}{m:List (κ×V)} (t:TupS H H') (h:PKv H l m):PKv H' l m:=Paired.mapP h fun _ _ z=>⟨z.1,z.2.mono t⟩
structure StayS (H H':Hp):Prop where
 tup:TupS H H'
 frz:∀ a o u,H a=some (.frz o u)→H' a=some (.frz o u)
mutual
noncomputable def Own (H:Hp):Vl→V→List Addr→Prop
 | .im d,v,F=>IsI H d v∧F=[]
 | .jk,_,F=>F=[]
 | .fz ds,v,F=>∃ a xs o,v=.ref a∧H a=some (.frz o (.lst xs))∧aj H ds xs∧F=[]
 | .lst ds,v,F=>∃ a xs,v=.ref a∧H a=some (.lst xs)∧aj H ds xs∧F=[a]
 | .dK kvs,v,F=>∃ a kws,v=.ref a∧H a=some (.dK kws)∧PKv H kvs kws∧F=[a]
 | .dT kvs,v,F=>∃ a kws,v=.ref a∧H a=some (.dT kws)∧PKv H kvs kws∧F=[a]
 | .lstM ds,v,F=>∃ a xs G,v=.ref a∧H a=some (.lst xs)∧aE H ds xs G∧F=a::G
 | .dTM ks ds,v,F=>∃ a kws G,v=.ref a∧H a=some (.dT kws)∧kws.map (·.1)=ks∧aE H ds (kws.map (·.2)) G∧F=a::G
 | .tpl ds,v,F=>∃ a xs,v=.ref a∧H a=some (.tup xs)∧aE H ds xs F
 | .obj C ns ds,v,F=>∃ a dx fs G,v=.ref a∧H a=some (.ins C dx fs)∧fs.map (·.1)=ns∧aE H ds (fs.map (·.2)) G∧F=a::G
noncomputable def aE (H:Hp):List Vl→List V→List Addr→Prop
 | [],vs,F=>vs=[]∧F=[]
 | d::ds,vs,F=>∃ v r F1 F2,vs=v::r∧Own H d v F1∧aE H ds r F2∧F=F1++F2
end
mutual
theorem Own.mono {H H':Hp} (t:StayS H H'):∀ {d:Vl}{v:V}{F:List Addr},Own H d v F→(∀ a∈F,∀ o,H a=some o→H' a=some o)→Own H' d v F
 | .im d,v,F,h,_=>⟨h.1.mono t.tup,h.2⟩
 | .jk,v,F,h,_=>h
 | .fz ds,v,F,h,_=>by
  obtain⟨a,xs,o,rfl,h1,h2,rfl⟩:=h
  exact⟨a,xs,o,rfl,t.frz _ _ _ h1,h2.mono t.tup,rfl⟩
 | .lst ds,v,F,h,k=>by
  obtain⟨a,xs,rfl,h1,h2,rfl⟩:=h
  exact⟨a,xs,rfl,k a (.head _) _ h1,h2.mono t.tup,rfl⟩
 | .dK kvs,v,F,h,k=>by
  obtain⟨a,xs,rfl,h1,h2,rfl⟩:=h
  exact⟨a,xs,rfl,k a (.head _) _ h1,h2.mono t.tup,rfl⟩
 | .dT kvs,v,F,h,k=>by
  obtain⟨a,xs,rfl,h1,h2,rfl⟩:=h
  exact⟨a,xs,rfl,k a (.head _) _ h1,h2.mono t.tup,rfl⟩
 | .lstM ds,v,F,h,k=>by
  obtain⟨a,xs,G,rfl,h1,h2,rfl⟩:=h
  exact⟨a,xs,G,rfl,k a (.head _) _ h1,aE.mono t h2 fun b hb=>k b (.tail _ hb),rfl⟩
 | .dTM ks ds,v,F,h,k=>by
  obtain⟨a,xs,G,rfl,h1,hk,h2,rfl⟩:=h
  exact⟨a,xs,G,rfl,k a (.head _) _ h1,hk,aE.mono t h2 fun b hb=>k b (.tail _ hb),rfl⟩
 | .tpl ds,v,F,h,k=>by
  obtain⟨a,xs,rfl,h1,h2⟩:=h
  exact⟨a,xs,rfl,t.tup a xs h1,aE.mono t h2 k⟩
 | .obj C ns ds,v,F,h,k=>by
  obtain⟨a,dx,fs,G,rfl,h1,hk,h2,rfl⟩:=h
  exact⟨a,dx,fs,G,rfl,k a (.head _) _ h1,hk,aE.mono t h2 fun b hb=>k b (.tail _ hb),rfl⟩
theorem aE.mono {H H':Hp} (t:StayS H H'):∀ {ds:List Vl}{vs:List V}{F:List Addr},aE H ds vs F→(∀ a∈F,∀ o,H a=some o→H' a=some o)→aE H' ds vs F
 | [],vs,F,h,_=>h
 | d::ds,vs,F,h,k=>by
  obtain⟨v,r,F1,F2,rfl,h1,h2,rfl⟩:=h
  exact⟨v,r,F1,F2,rfl,Own.mono t h1 fun a ha=>k a (List.mem_append_left _ ha),aE.mono t h2 fun a ha=>k a (List.mem_append_right _ ha),rfl⟩
end
noncomputable def Chg (H:Hp) (a:Addr):Prop:=∃ o,H a=some o∧(∀ xs,o≠.tup xs)∧∀ p u,o≠.frz p u
mutual
theorem Own.chg {H:Hp}:∀ {d:Vl}{v:V}{F:List Addr},Own H d v F→∀ a∈F,Chg H a
 | .im d,v,F,h,a,ha=>by rw[h.2] at ha;cases ha
 | .jk,v,F,h,a,ha=>by rw[show F=[] from h] at ha;cases ha
 | .fz ds,v,F,h,b,hb=>by
  obtain⟨a,xs,o,rfl,h1,h2,rfl⟩:=h
  cases hb
 | .lst ds,v,F,h,b,hb=>by
  obtain⟨a,xs,rfl,h1,h2,rfl⟩:=h
  rw[List.mem_singleton.mp hb]
  exact⟨_,h1,(fun _ e=>by cases e),(fun _ _ e=>by cases e)⟩
 | .dK kvs,v,F,h,b,hb=>by
  obtain⟨a,xs,rfl,h1,h2,rfl⟩:=h
  rw[List.mem_singleton.mp hb]
  exact⟨_,h1,(fun _ e=>by cases e),(fun _ _ e=>by cases e)⟩
 | .dT kvs,v,F,h,b,hb=>by
  obtain⟨a,xs,rfl,h1,h2,rfl⟩:=h
  rw[List.mem_singleton.mp hb]
  exact⟨_,h1,(fun _ e=>by cases e),(fun _ _ e=>by cases e)⟩
 | .lstM ds,v,F,h,b,hb=>by
  obtain⟨a,xs,G,rfl,h1,h2,rfl⟩:=h
  rcases List.mem_cons.mp hb with rfl | hb
  ·exact⟨_,h1,(fun _ e=>by cases e),(fun _ _ e=>by cases e)⟩
  ·exact aE.chg h2 b hb
 | .dTM ks ds,v,F,h,b,hb=>by
  obtain⟨a,xs,G,rfl,h1,hk,h2,rfl⟩:=h
  rcases List.mem_cons.mp hb with rfl | hb
  ·exact⟨_,h1,(fun _ e=>by cases e),(fun _ _ e=>by cases e)⟩
  ·exact aE.chg h2 b hb
 | .tpl ds,v,F,h,b,hb=>by
  obtain⟨a,xs,rfl,h1,h2⟩:=h
  exact aE.chg h2 b hb
 | .obj C ns ds,v,F,h,b,hb=>by
  obtain⟨a,dx,fs,G,rfl,h1,hk,h2,rfl⟩:=h
  rcases List.mem_cons.mp hb with rfl | hb
  ·exact⟨_,h1,(fun _ e=>by cases e),(fun _ _ e=>by cases e)⟩
  ·exact aE.chg h2 b hb
theorem aE.chg {H:Hp}:∀ {ds:List Vl}{vs:List V}{F:List Addr},aE H ds vs F→∀ a∈F,Chg H a
 | [],vs,F,h,a,ha=>by rw[h.2] at ha;cases ha
 | d::ds,vs,F,h,a,ha=>by
  obtain⟨v,r,F1,F2,rfl,h1,h2,rfl⟩:=h
  rcases List.mem_append.mp ha with ha | ha
  ·exact Own.chg h1 a ha
  ·exact aE.chg h2 a ha
end
theorem aE.length {H:Hp}:∀ {ds:List Vl}{vs:List V}{F:List Addr},aE H ds vs F→ds.length=vs.length
 | [],vs,F,h=>by rw[h.1];rfl
 | d::ds,vs,F,h=>by
  obtain⟨v,r,F1,F2,rfl,h1,h2,rfl⟩:=h
  rw[List.length_cons,List.length_cons,h2.length]
theorem aj.length {H:Hp}:∀ {ds:List Im}{vs:List V},aj H ds vs→ds.length=vs.length
 | [],vs,h=>by rw[show vs=[] from h];rfl
 | d::ds,vs,h=>by
  obtain⟨v,r,rfl,h1,h2⟩:=h
  rw[List.length_cons,List.length_cons,h2.length]
noncomputable def dU (H:Hp):Option Vl→Option V→List Addr→Prop
 | none,_,F=>F=[]
 | some d,x,F=>∃ v,x=some v∧Own H d v F
noncomputable def ai (H:Hp):SD→St→List Addr→Prop
 | [],σ,F=>σ=[]∧F=[]
 | o::D,σ,F=>∃ x r F1 F2,σ=x::r∧dU H o x F1∧ai H D r F2∧F=F1++F2
structure Stp (H:Hp) (F:List Addr) (H':Hp) (F':List Addr):Prop where
 keep:∀ a o,H a=some o→a∉F→H' a=some o
 sub:∀ a∈F',a∈F∨H a=none
 nd:F'.Nodup
 tup:StayS H H'
 grow:∀ a o,H a=some o→∃ o',H' a=some o'
theorem dU.mono {H H':Hp} (t:StayS H H'):∀ {o:Option Vl}{x:Option V}{F:List Addr},dU H o x F→(∀ a∈F,∀ o,H a=some o→H' a=some o)→dU H' o x F
 | none,_,_,h,_=>h
 | some d,x,F,h,k=>by
  obtain⟨v,rfl,h⟩:=h
  exact⟨v,rfl,h.mono t k⟩
theorem ai.mono {H H':Hp} (t:StayS H H'):∀ {D:SD}{σ:St}{F:List Addr},ai H D σ F→(∀ a∈F,∀ o,H a=some o→H' a=some o)→ai H' D σ F
 | [],σ,F,h,_=>h
 | o::D,σ,F,h,k=>by
  obtain⟨x,r,F1,F2,rfl,h1,h2,rfl⟩:=h
  exact⟨x,r,F1,F2,rfl,h1.mono t fun a ha=>k a (List.mem_append_left _ ha),ai.mono t h2 fun a ha=>k a (List.mem_append_right _ ha),rfl⟩
theorem dU.chg {H:Hp}:∀ {o:Option Vl}{x:Option V}{F:List Addr},dU H o x F→∀ a∈F,Chg H a
 | none,_,F,h,a,ha=>by rw[show F=[] from h] at ha;cases ha
 | some d,x,F,h,a,ha=>by
  obtain⟨v,rfl,h⟩:=h
  exact h.chg a ha
theorem ai.chg {H:Hp}:∀ {D:SD}{σ:St}{F:List Addr},ai H D σ F→∀ a∈F,Chg H a
 | [],σ,F,h,a,ha=>by rw[h.2] at ha;cases ha
 | o::D,σ,F,h,a,ha=>by
  obtain⟨x,r,F1,F2,rfl,h1,h2,rfl⟩:=h
  rcases List.mem_append.mp ha with ha | ha
  ·exact h1.chg a ha
  ·exact ai.chg h2 a ha
theorem ai.len {H:Hp}:∀ {D:SD}{σ:St}{F:List Addr},ai H D σ F→D.length=σ.length
 | [],σ,F,h=>by rw[h.1];rfl
 | o::D,σ,F,h=>by
  obtain⟨x,r,F1,F2,rfl,h1,h2,rfl⟩:=h
  rw[List.length_cons,List.length_cons,ai.len h2]
noncomputable def Vl.cp:Vl→Bool
 | .im _=>true
 | .fz _=>true
 | _=>false
theorem Own.cp {H:Hp}{d:Vl}{v:V}{F:List Addr} (h:Own H d v F) (c:d.cp=true):F=[]:=by
 cases d with
 | im d=>exact h.2
 | fz ds=>obtain⟨a,xs,o,rfl,h1,h2,rfl⟩:=h;rfl
 | _=>cases c
theorem ai.out {H:Hp}:∀ {D:SD}{σ:St}{F:List Addr}{i:Nat}{d:Vl},ai H D σ F→D[i]?=some (some d)→∃ v F1 F2,σ[i]?=some (some v)∧Own H d v F1∧ai H (D.set i (some .jk)) σ F2∧(F2++F1).Perm F
 | [],σ,F,i,d,h,e=>by simp at e
 | o::D,σ,F,0,d,h,e=>by
  obtain⟨x,r,F1,F2,rfl,h1,h2,rfl⟩:=h
  simp at e
  subst e
  obtain⟨v,rfl,h1⟩:=h1
  exact⟨v,F1,F2,rfl,h1,⟨some v,r,[],F2,rfl,⟨v,rfl,rfl⟩,h2,rfl⟩,List.perm_append_comm⟩
 | o::D,σ,F,i+1,d,h,e=>by
  obtain⟨x,r,F1,F2,rfl,h1,h2,rfl⟩:=h
  obtain⟨v,G1,G2,g1,g2,g3,g4⟩:=ai.out (i:=i) h2 (by simpa using e)
  refine⟨v,G1,F1++G2,by simpa using g1,g2,⟨x,r,F1,G2,rfl,h1,g3,rfl⟩,?_⟩
  rw[List.append_assoc]
  exact List.Perm.append_left _ g4
theorem ai.put {H:Hp}:∀ {D:SD}{σ:St}{F:List Addr}{i:Nat}{d:Vl}{v:V}{G:List Addr},ai H D σ F→Own H d v G→i<D.length→∃ F1 F2,ai H (D.set i (some d)) (σ.set i (some v)) F1∧(F1++F2).Perm (F++G)
 | [],σ,F,i,d,v,G,h,w,l=>by simp at l
 | o::D,σ,F,0,d,v,G,h,w,l=>by
  obtain⟨x,r,F1,F2,rfl,h1,h2,rfl⟩:=h
  refine⟨G++F2,F1,⟨some v,r,G,F2,rfl,⟨v,rfl,w⟩,h2,rfl⟩,?_⟩
  refine List.perm_append_comm.trans ?_
  rw[List.append_assoc]
  exact List.Perm.append_left _ List.perm_append_comm
 | o::D,σ,F,i+1,d,v,G,h,w,l=>by
  obtain⟨x,r,F1,F2,rfl,h1,h2,rfl⟩:=h
  obtain⟨G1,G2,g1,g2⟩:=ai.put (i:=i) h2 w (by simpa using l)
  refine⟨F1++G1,G2,⟨x,_,F1,G1,rfl,h1,g1,rfl⟩,?_⟩
  rw[List.append_assoc,List.append_assoc]
  exact List.Perm.append_left _ g2
theorem ai.cp {H:Hp}{D:SD}{σ:St}{F:List Addr}{i:Nat}{d:Vl} (h:ai H D σ F) (e:D[i]?=some (some d)) (c:d.cp=true):∃ v,σ[i]?=some (some v)∧Own H d v []:=by
 obtain⟨v,F1,F2,g1,g2,_⟩:=h.out e
 obtain rfl:=g2.cp c
 exact⟨v,g1,g2⟩
theorem vH {σ:St}{i:Nat}{v:V} (h:σ[i]?=some (some v)):σ.set i (some v)=σ:=by
 refine List.ext_getElem? fun j=>?_
 by_cases e:i=j
 ·subst e
  rw[h,List.getElem?_set_self (List.getElem?_eq_some_iff.mp h).1]
 ·rw[List.getElem?_set_ne e]
theorem ai.back {H:Hp}{D:SD}{σ:St}{F:List Addr}{i:Nat}{d:Vl}{v:V}{G:List Addr} (h:ai H D σ F) (w:Own H d v G) (hv:σ[i]?=some (some v)):∃ F1 F2,ai H (D.set i (some d)) σ F1∧(F1++F2).Perm (F++G):=by
 have l:i<D.length:=by rw[h.len];exact (List.getElem?_eq_some_iff.mp hv).1
 obtain⟨F1,F2,h1,h2⟩:=h.put (i:=i) w l
 rw[vH hv] at h1
 exact⟨F1,F2,h1,h2⟩
theorem StayS.of {H H':Hp} (f:gD H H') (g:∀ a o u,H a=some (.frz o u)→H' a=some (.frz o u)):StayS H H':=⟨⟨f,g⟩,g⟩
theorem vI (H:Hp):StayS H H:=⟨⟨fun _ _ e=>e,fun _ _ _ e=>e⟩,fun _ _ _ e=>e⟩
theorem StayS.trans {H H1 H2:Hp} (a:StayS H H1) (b:StayS H1 H2):StayS H H2:=⟨⟨fun x xs e=>b.tup.t x xs (a.tup.t x xs e),fun x o u e=>b.frz x o u (a.frz x o u e)⟩,fun x o u e=>b.frz x o u (a.frz x o u e)⟩
theorem Stp.refl {H:Hp}{F F':List Addr} (h:F'.Nodup) (s:∀ a∈F',a∈F):Stp H F H F':=⟨fun _ _ e _=>e,fun a ha=>.inl (s a ha),h,vI H,fun _ o e=>⟨o,e⟩⟩
theorem Stp.perm {H:Hp}{F F':List Addr} (h:F.Nodup) (p:F'.Perm F):Stp H F H F':=Stp.refl ((p.nodup_iff).mpr h) fun a ha=>p.mem_iff.mp ha
theorem Stp.trans {H H1 H2:Hp}{F F1 F2 R:List Addr} (a:Stp H F H1 (F1++R)) (b:Stp H1 F1 H2 F2) (cr:∀ x∈R,Chg H1 x):Stp H F H2 (F2++R):=by
 have nd:=List.nodup_append.mp a.nd
 have al:∀ x∈F2,x∉R:=fun x hx hr=>by
  rcases b.sub x hx with h | h
  ·exact nd.2.2 x h x hr rfl
  ·obtain⟨o,e,_⟩:=cr x hr
   rw[e] at h
   cases h
 refine⟨fun x o e hx=>?_,fun x hx=>?_,List.nodup_append.mpr ⟨b.nd,nd.2.1,fun x hx y hy e=>al x hx (e ▸ hy)⟩,a.tup.trans b.tup,fun x o e=>let ⟨o',e'⟩:=a.grow x o e;b.grow x o' e'⟩
 ·refine b.keep x o (a.keep x o e hx) fun h1=>?_
  rcases a.sub x (List.mem_append_left _ h1) with h | h
  ·exact hx h
  ·rw[e] at h;cases h
 ·rcases List.mem_append.mp hx with hx | hx
  ·rcases b.sub x hx with h | h
   ·exact a.sub x (List.mem_append_left _ h)
   ·refine .inr ?_
    cases e:H x with
    | none=>rfl
    | some o=>
     obtain⟨o',e'⟩:=a.grow x o e
     rw[e'] at h
     cases h
  ·exact a.sub x (List.mem_append_right _ hx)
theorem ax.tupS {H H':Hp} (s:ax H H'):StayS H H':=⟨⟨fun a xs e=>s a _ e,fun a o u e=>s a _ e⟩,fun a o u e=>s a _ e⟩
theorem vJ {H:Hp}{a b:Addr}{o u:HO} (e:H b=some o) (h:H a=none):L2.upd H a u b=some o:=by rw[aA (bK e h)];exact e
theorem ax.upd {H H':Hp} (s:ax H H') {a:Addr}{o:HO} (h:H' a=none):ax H (L2.upd H' a o):=fun b u e=>vJ (s b u e) h
noncomputable abbrev M (α:Type):=SD→Option (α×SD)
inductive Opd where
 | sl (i:Nat)
 | vl (d:Vl)
noncomputable def rsl (D:SD):Opd→Option Vl
 | .sl i=>(D[i]?).getD none
 | .vl d=>some d
noncomputable def bW (H:Hp) (σ:St):Opd→V→List Addr→Prop
 | .sl i,v,R=>σ[i]?=some (some v)∧R=[]
 | .vl d,v,R=>Own H d v R
noncomputable def tV (g:M Vl):TE:=fun σ H Q=>∃ D F r D',ai H D σ F∧F.Nodup∧g D=some (r,D')∧∀ v H' F' R,ai H' D' σ F'→Own H' r v R→Stp H F H' (F'++R)→Q v H'
noncomputable def tO (g:M Opd):TE:=fun σ H Q=>∃ D F r D',ai H D σ F∧F.Nodup∧g D=some (r,D')∧∀ v H' F' R,ai H' D' σ F'→bW H' σ r v R→Stp H F H' (F'++R)→Q v H'
noncomputable def tVT (g:M Bool):TT:=fun σ H Q=>∃ D F b D',ai H D σ F∧F.Nodup∧g D=some (b,D')∧∀ H' F',ai H' D' σ F'→Stp H F H' F'→Q b H'
noncomputable def VE (X:Cx) (e:Expr) (g:M Vl):Prop:=PE X e (tV g)
noncomputable def VO (X:Cx) (e:Expr) (g:M Opd):Prop:=PE X e (tO g)
noncomputable def VT (X:Cx) (e:Expr) (g:M Bool):Prop:=PT X e (tVT g)
theorem aR {X:Cx}{e:Expr}{t t':TE} (h:PE X e t) (i:∀ σ H Q,t' σ H Q→t σ H Q):PE X e t':=fun pins s σ H Q I hw=>h pins s σ H Q I (i σ H Q hw)
theorem j9 {X:Cx}{e:Expr}{t t':TT} (h:PT X e t) (i:∀ σ H Q,t' σ H Q→t σ H Q):PT X e t':=fun pins s σ H Q I hw=>h pins s σ H Q I (i σ H Q hw)
theorem bW.mono {H H':Hp}{σ:St}{r:Opd}{v:V}{R:List Addr} (h:bW H σ r v R) (t:StayS H H') (k:∀ a∈R,∀ o,H a=some o→H' a=some o):bW H' σ r v R:=by
 cases r with
 | sl i=>exact h
 | vl d=>exact Own.mono t h k
theorem bW.chg {H:Hp}{σ:St}{r:Opd}{v:V}{R:List Addr} (h:bW H σ r v R):∀ a∈R,Chg H a:=by
 cases r with
 | sl i=>intro a ha;rw[h.2] at ha;cases ha
 | vl d=>exact Own.chg h
noncomputable def Rdb (H:Hp) (d:Vl) (v:V):Prop:=∃ R,Own H d v R
theorem bW.read {H:Hp}{D:SD}{σ:St}{F:List Addr}{r:Opd}{v:V}{R:List Addr}{d:Vl} (h:bW H σ r v R) (st:ai H D σ F) (e:rsl D r=some d):Rdb H d v:=by
 cases r with
 | vl d'=>cases e;exact⟨R,h⟩
 | sl i=>
  have e':D[i]?=some (some d):=by
   have:(D[i]?).getD none=some d:=e
   cases q:D[i]? with
   | none=>rw[q] at this;cases this
   | some o=>rw[q] at this;rw[show o=some d from this]
  obtain⟨v',F1,F2,g1,g2,_⟩:=st.out e'
  rw[h.1] at g1
  cases g1
  exact⟨F1,g2⟩
@[simp] noncomputable def cH (i:Nat):M Vl:=fun D=>match D[i]? with
 | some (some d)=>if d.cp=true then some (d,D) else some (d,D.set i (some .jk))
 | _=>none
noncomputable def eC (d:Im):M Vl:=fun D=>some (.im d,D)
@[simp] noncomputable def oSl (i:Nat):M Opd:=fun D=>match D[i]? with
 | some (some _)=>some (.sl i,D)
 | _=>none
@[simp] noncomputable def oV (g:M Vl):M Opd:=fun D=>(g D).map fun p=>(.vl p.1,p.2)
section
variable {X:Cx}
theorem gL {i:Nat}{e:Expr} (h:PE X e (eF i)):VE X e (cH i):=by
 refine aR h fun σ H Q ⟨D,F,r,D',st,nd,hg,q⟩=>?_
 unfold cH at hg
 split at hg
 ·rename_i d hd
  split at hg
  ·rename_i hc
   cases hg
   obtain⟨v,h1,h2⟩:=st.cp hd hc
   exact⟨v,h1,q v H F [] st h2 (by rw[List.append_nil];exact Stp.perm nd (List.Perm.refl _))⟩
  ·cases hg
   obtain⟨v,F1,F2,h1,h2,h3,h4⟩:=st.out hd
   exact⟨v,h1,q v H F2 F1 h3 h2 (Stp.perm nd h4)⟩
 ·cases hg
theorem ae {i:Nat}{e:Expr} (h:PE X e (eF i)):VO X e (oSl i):=by
 refine aR h fun σ H Q ⟨D,F,r,D',st,nd,hg,q⟩=>?_
 unfold oSl at hg
 split at hg
 ·rename_i d hd
  cases hg
  obtain⟨v,F1,F2,h1,h2,h3,h4⟩:=st.out hd
  exact⟨v,h1,q v H F [] st ⟨h1,rfl⟩ (by rw[List.append_nil];exact Stp.perm nd (List.Perm.refl _))⟩
 ·cases hg
theorem aa {e:Expr}{g:M Vl} (h:VE X e g):VO X e (oV g):=by
 refine aR h fun σ H Q ⟨D,F,r,D',st,nd,hg,q⟩=>?_
 unfold oV at hg
 obtain⟨⟨r',D1⟩,h1,h2⟩:=Option.map_eq_some_iff.mp hg
 cases h2
 exact⟨D,F,r',_,st,nd,h1,q⟩
theorem fQ {e:Expr}{v:V}{d:Im} (h:PE X e (tC v)) (hd:∀ H,IsI H d v):VE X e (eC d):=by
 refine aR h fun σ H Q ⟨D,F,r,D',st,nd,hg,q⟩=>?_
 cases hg
 exact q v H F [] st ⟨hd H,rfl⟩ (by rw[List.append_nil];exact Stp.perm nd (List.Perm.refl _))
theorem ah {i:Int}{j pos}:VE X (.Constant (.int i) j pos) (eC (.int i)):=fQ rF fun _=>rfl
theorem bX {b:Bool}{j pos}:VE X (.Constant (.bool b) j pos) (eC (.bl b)):=fQ rG fun _=>rfl
theorem kc {j pos}:VE X (.Constant .none j pos) (eC .non):=fQ rH fun _=>rfl
theorem iQ {x:Str}{j pos}:VE X (.Constant (.str x) j pos) (eC (.str x)):=fQ rJ fun _=>rfl
theorem two {ga gb:M Opd}{D D1 D2:SD}{x y:Opd}{σ:St}{H:Hp}{F:List Addr}{K:V→V→Hp→Prop} (st:ai H D σ F) (nd:F.Nodup) (ha:ga D=some (x,D1)) (hb:gb D1=some (y,D2))
  (k:∀ v u H' F' R1 R2,ai H' D2 σ F'→bW H' σ x v R1→bW H' σ y u R2→Stp H F H' ((F'++R2)++R1)→K v u H'):tO ga σ H fun v H1=>tO gb σ H1 fun u H2=>K v u H2:=by
 refine⟨D,F,x,D1,st,nd,ha,fun v H1 F1 R1 st1 o1 s1=>⟨D1,F1,y,D2,st1,(List.nodup_append.mp s1.nd).1,hb,fun u H2 F2 R2 st2 o2 s2=>?_⟩⟩
 refine k v u H2 F2 R1 R2 st2 (o1.mono s2.tup fun a ha o e=>s2.keep a o e fun h=>?_) o2 (s1.trans s2 o1.chg)
 exact (List.nodup_append.mp s1.nd).2.2 a h a ha rfl
theorem Stp.new {H H1 H2:Hp}{F F1 R R':List Addr} (a:Stp H F H1 (F1++R)) (s:ax H1 H2) (nd:R'.Nodup) (fr:∀ x∈R',H1 x=none) (c:∀ x∈F1,Chg H1 x):Stp H F H2 (F1++R'):=by
 refine⟨fun x o e hx=>s _ _ (a.keep x o e hx),fun x hx=>?_,List.nodup_append.mpr ⟨(List.nodup_append.mp a.nd).1,nd,fun x hx y hy e=>?_⟩,a.tup.trans s.tupS,fun x o e=>let ⟨o',e'⟩:=a.grow x o e;⟨o',s _ _ e'⟩⟩
 ·rcases List.mem_append.mp hx with hx | hx
  ·exact a.sub x (List.mem_append_left _ hx)
  ·refine .inr ?_
   cases e:H x with
   | none=>rfl
   | some o=>
    obtain⟨o',e'⟩:=a.grow x o e
    rw[fr x hx] at e'
    cases e'
 ·subst e
  obtain⟨o,e,_⟩:=c x hx
  rw[fr x hy] at e
  cases e
noncomputable def OpV (X:Cx) (f:Value→Value→Sem Value) (op:Vl→Vl→Option Vl):Prop:=
 OpR X f fun x y H Q=>∃ d1 d2 d,Rdb H d1 x∧Rdb H d2 y∧op d1 d2=some d∧∀ v H' R,ax H H'→Own H' d v R→R.Nodup→(∀ a∈R,H a=none)→Q v H'
@[simp] noncomputable def af (op:Vl→Vl→Option Vl) (ga gb:M Opd):M Vl:=fun D=>(ga D).bind fun p=>(gb p.2).bind fun q=>(rsl q.2 p.1).bind fun d1=>(rsl q.2 q.1).bind fun d2=>(op d1 d2).map fun d=>(d,q.2)
theorem iR {op:Vl→Vl→Option Vl}{ga gb:M Opd}{σ:St}{H:Hp}{Q:VK} (h:tV (af op ga gb) σ H Q):
  tO ga σ H fun x H1=>tO gb σ H1 fun y H2=>∃ d1 d2 d,Rdb H2 d1 x∧Rdb H2 d2 y∧op d1 d2=some d∧∀ v H' R,ax H2 H'→Own H' d v R→R.Nodup→(∀ a∈R,H2 a=none)→Q v H':=by
 obtain⟨D,F,r,D',st,nd,hg,q⟩:=h
 unfold af at hg
 obtain⟨⟨x,D1⟩,ha,hg⟩:=Option.bind_eq_some_iff.mp hg
 obtain⟨⟨y,D2⟩,hb,hg⟩:=Option.bind_eq_some_iff.mp hg
 obtain⟨d1,h1,hg⟩:=Option.bind_eq_some_iff.mp hg
 obtain⟨d2,h2,hg⟩:=Option.bind_eq_some_iff.mp hg
 obtain⟨d,h3,hg⟩:=Option.map_eq_some_iff.mp hg
 cases hg
 refine two st nd ha hb fun v u H2 F2 R1 R2 st2 o1 o2 s2=>⟨d1,d2,_,o1.read st2 h1,o2.read st2 h2,h3,fun w H3 R s3 ow ndR fr=>?_⟩
 rw[List.append_assoc] at s2
 exact q w H3 F2 R (st2.mono s3.tupS fun a _ o e=>s3 a o e) ow (s2.new s3 ndR fr st2.chg)
theorem ak {op:Operator}{f:Vl→Vl→Option Vl}{a b:Expr}{ga gb:M Opd}{pos:Pos} (ho:OpV X (binaryOp op) f) (ha:VO X a ga) (hb:VO X b gb):VE X (.BinOp a op b pos) (af f ga gb):=
 aR (sQ ho ha hb) fun _ _ _ h=>iR h
theorem cJ {op:CmpOp}{f:Vl→Vl→Option Vl}{a b:Expr}{ga gb:M Opd}{pos:Pos} (ho:OpV X (compareOp op) f) (ha:VO X a ga) (hb:VO X b gb) (hm:behindInMarks op b=false):VE X (.Compare a [op] [b] pos) (af f ga gb):=
 aR (tz ho ha hb hm) fun _ _ _ h=>iR h
theorem bY {f:Vl→Vl→Option Vl}{a b:Expr}{ga gb:M Opd}{pos:Pos} (ho:IxR X (fun x y H Q=>∃ d1 d2 d,Rdb H d1 x∧Rdb H d2 y∧f d1 d2=some d∧∀ v H' R,ax H H'→Own H' d v R→R.Nodup→(∀ a∈R,H a=none)→Q v H')) (ha:VO X a ga) (hb:VO X b gb) (hs:mY b):VE X (.Subscript a b pos) (af f ga gb):=
 aR (uo ho ha hb hs) fun _ _ _ h=>iR h
@[simp] noncomputable def asB:Vl→Option Bool
 | .im (.bl b)=>some b
 | _=>none
@[simp] noncomputable def kB (g:M Vl):M Bool:=fun D=>(g D).bind fun p=>(asB p.1).map fun b=>(b,p.2)
theorem iS {d:Vl}{b:Bool} (h:asB d=some b):d=.im (.bl b):=by
 unfold asB at h
 split at h
 ·cases h;rfl
 ·cases h
theorem fR {op:CmpOp}{f:Vl→Vl→Option Vl}{a b:Expr}{ga gb:M Opd}{pos:Pos} (ho:OpV X (compareOp op) f) (ha:VO X a ga) (hb:VO X b gb) (hm:behindInMarks op b=false):VT X (.Compare a [op] [b] pos) (kB (af f ga gb)):=by
 refine j9 (tD ho ha hb hm) fun σ H Q ⟨D,F,c,D',st,nd,hg,q⟩=>?_
 refine iR ⟨D,F,.im (.bl c),D',st,nd,?_,fun v H' F' R st' ow s=>⟨c,ow.1,q H' F' st' (by rw[ow.2,List.append_nil] at s;exact s)⟩⟩
 obtain⟨p,h1,h2⟩:=Option.bind_eq_some_iff.mp hg
 obtain⟨c',h3,h4⟩:=Option.map_eq_some_iff.mp h2
 cases h4
 rw[h1,← iS h3]
@[simp] noncomputable def bx (g:M Bool):M Bool:=fun D=>(g D).map fun p=>(!p.1,p.2)
theorem eZ {a:Expr}{g:M Bool}{pos:Pos} (h:VT X a g):VT X (.UnaryOp .Not a pos) (bx g):=by
 refine j9 (rP h) fun σ H Q ⟨D,F,c,D',st,nd,hg,q⟩=>?_
 obtain⟨p,h1,h2⟩:=Option.map_eq_some_iff.mp hg
 cases h2
 exact⟨D,F,p.1,_,st,nd,h1,q⟩
@[simp] noncomputable def bZ (g h:M Bool):M Bool:=fun D=>(g D).bind fun p=>if p.1=true then h p.2 else some (false,p.2)
@[simp] noncomputable def kOr (g h:M Bool):M Bool:=fun D=>(g D).bind fun p=>if p.1=true then some (true,p.2) else h p.2
theorem vK {g h:M Bool}{σ:St}{H:Hp}{Q:Bool→Hp→Prop} (w:tVT (bZ g h) σ H Q):rL (tVT g) (tVT h) σ H Q:=by
 obtain⟨D,F,c,D',st,nd,hg,q⟩:=w
 obtain⟨⟨b,D1⟩,h1,h2⟩:=Option.bind_eq_some_iff.mp hg
 refine⟨D,F,b,D1,st,nd,h1,fun H1 F1 st1 s1=>?_⟩
 cases b with
 | true=>
  rw[if_pos rfl]
  rw[if_pos rfl] at h2
  exact⟨D1,F1,c,D',st1,s1.nd,h2,fun H2 F2 st2 s2=>q H2 F2 st2 (by
   have:=Stp.trans (R:=[]) (by rw[List.append_nil];exact s1) s2 (fun x hx=>nomatch hx)
   rwa [List.append_nil] at this)⟩
 | false=>
  rw[if_neg Bool.false_ne_true] at h2 ⊢
  cases h2
  exact q H1 F1 st1 s1
theorem nJ {g h:M Bool}{σ:St}{H:Hp}{Q:Bool→Hp→Prop} (w:tVT (kOr g h) σ H Q):tOr (tVT g) (tVT h) σ H Q:=by
 obtain⟨D,F,c,D',st,nd,hg,q⟩:=w
 obtain⟨⟨b,D1⟩,h1,h2⟩:=Option.bind_eq_some_iff.mp hg
 refine⟨D,F,b,D1,st,nd,h1,fun H1 F1 st1 s1=>?_⟩
 cases b with
 | false=>
  rw[if_neg Bool.false_ne_true] at h2 ⊢
  exact⟨D1,F1,c,D',st1,s1.nd,h2,fun H2 F2 st2 s2=>q H2 F2 st2 (by
   have:=Stp.trans (R:=[]) (by rw[List.append_nil];exact s1) s2 (fun x hx=>nomatch hx)
   rwa [List.append_nil] at this)⟩
 | true=>
  rw[if_pos rfl] at h2 ⊢
  cases h2
  exact q H1 F1 st1 s1
noncomputable def VW (X:Cx) (e:Expr) (g:M Bool):Prop:=PW X e (tVT g)
theorem vL {e:Expr}{t t':TT} (h:PW X e t) (i:∀ σ H Q,t' σ H Q→t σ H Q):PW X e t':=fun wh pins s σ H Q I hw=>h wh pins s σ H Q I (i σ H Q hw)
theorem iT {a:Expr}{g:M Bool}{pos:Pos} (h:VT X a g):VW X (.BoolOp .Or [a] pos) g:=rN h
theorem iU {a b:Expr}{r:List Expr}{g k:M Bool}{pos:Pos} (h:VT X a g) (hb:VW X (.BoolOp .Or (b::r) pos) k):VW X (.BoolOp .Or (a::b::r) pos) (kOr g k):=vL (rO h hb) fun _ _ _ w=>nJ w
theorem VW.vt {e:Expr}{g:M Bool} (h:VW X e g):VT X e g:=h.pt
@[simp] noncomputable def eB (g:M Bool):M Vl:=fun D=>(g D).map fun p=>(.im (.bl p.1),p.2)
theorem gM {e:Expr}{g:M Bool} (h:VE X e (eB g)):PE X e fun σ H Q=>tVT g σ H fun b H'=>Q (.bl b) H':=by
 refine aR h fun σ H Q ⟨D,F,c,D',st,nd,hg,q⟩=>⟨D,F,.im (.bl c),D',st,nd,by unfold eB;rw[hg];rfl,fun v H' F' R st' ow s=>?_⟩
 rw[show v=.bl c from ow.1]
 exact q H' F' st' (by rw[ow.2,List.append_nil] at s;exact s)
theorem ke {e:Expr}{g:M Bool} (h:PE X e fun σ H Q=>tVT g σ H fun b H'=>Q (.bl b) H'):VE X e (eB g):=by
 refine aR h fun σ H Q ⟨D,F,r,D',st,nd,hg,q⟩=>?_
 obtain⟨p,h1,h2⟩:=Option.map_eq_some_iff.mp hg
 cases h2
 exact⟨D,F,p.1,_,st,nd,h1,fun H' F' st' s=>q _ H' F' [] st' ⟨rfl,rfl⟩ (by rw[List.append_nil];exact s)⟩
theorem bj {e:Expr}{g:M Vl} (h:VE X e g):VE X e (eB (kB g)):=by
 refine aR h fun σ H Q ⟨D,F,r,D',st,nd,hg,q⟩=>?_
 obtain⟨p,h1,h2⟩:=Option.map_eq_some_iff.mp hg
 obtain⟨p',h3,h4⟩:=Option.bind_eq_some_iff.mp h1
 obtain⟨c,h5,h6⟩:=Option.map_eq_some_iff.mp h4
 cases h6
 cases h2
 exact⟨D,F,p'.1,_,st,nd,h3,by rw[iS h5];exact q⟩
theorem kf {a:Expr}{g:M Bool}{pos:Pos} (h:VE X a (eB g)):VE X (.UnaryOp .Not a pos) (eB (bx g)):=by
 refine ke (aR (rX (gM h)) fun σ H Q ⟨D,F,c,D',st,nd,hg,q⟩=>?_)
 obtain⟨p,h1,h2⟩:=Option.map_eq_some_iff.mp hg
 cases h2
 exact⟨D,F,p.1,_,st,nd,h1,fun H' F' st' s=>⟨_,rfl,q H' F' st' s⟩⟩
theorem fb {a:Expr}{op}{g:M Vl}{pos:Pos} (h:VE X a g):VE X (.BoolOp op [a] pos) g:=rT h
theorem dA {a b:Expr}{r:List Expr}{g k:M Bool}{pos:Pos} (h:VE X a (eB g)) (hb:VE X (.BoolOp .And (b::r) pos) (eB k)):VE X (.BoolOp .And (a::b::r) pos) (eB (bZ g k)):=by
 refine ke (aR (rV (gM h) (gM hb)) fun σ H Q w=>?_)
 have:=vK w
 obtain⟨D,F,c,D',st,nd,hg,q⟩:=this
 exact⟨D,F,c,D',st,nd,hg,fun H' F' st' s=>⟨c,rfl,q H' F' st' s⟩⟩
theorem nK {a b:Expr}{r:List Expr}{g k:M Bool}{pos:Pos} (h:VE X a (eB g)) (hb:VE X (.BoolOp .Or (b::r) pos) (eB k)):VE X (.BoolOp .Or (a::b::r) pos) (eB (kOr g k)):=by
 refine ke (aR (rW (gM h) (gM hb)) fun σ H Q w=>?_)
 have:=nJ w
 obtain⟨D,F,c,D',st,nd,hg,q⟩:=this
 exact⟨D,F,c,D',st,nd,hg,fun H' F' st' s=>⟨c,rfl,q H' F' st' s⟩⟩
theorem Stp.seq {H H1 H2:Hp}{F F1 F2:List Addr} (a:Stp H F H1 F1) (b:Stp H1 F1 H2 F2):Stp H F H2 F2:=by
 have:=Stp.trans (R:=[]) (by rw[List.append_nil];exact a) b (fun x hx=>nomatch hx)
 rwa [List.append_nil] at this
end
noncomputable def da (H:Hp) (σ:St):List Opd→List V→List Addr→Prop
 | [],vs,R=>vs=[]∧R=[]
 | o::os,vs,R=>∃ v r R1 R2,vs=v::r∧bW H σ o v R1∧da H σ os r R2∧R=R1++R2
noncomputable def tA (g:M (List Opd)):TA:=fun σ H Q=>∃ D F r D',ai H D σ F∧F.Nodup∧g D=some (r,D')∧∀ vs H' F' R,ai H' D' σ F'→da H' σ r vs R→Stp H F H' (F'++R)→Q vs H'
noncomputable def VA (X:Cx) (es:List Expr) (g:M (List Opd)):Prop:=PA X es (tA g)
theorem nL {X:Cx}{es:List Expr}{t t':TA} (h:PA X es t) (i:∀ σ H Q,t' σ H Q→t σ H Q):PA X es t':=fun pos pins s σ H Q I hw=>h pos pins s σ H Q I (i σ H Q hw)
noncomputable def aNil:M (List Opd):=fun D=>some ([],D)
@[simp] noncomputable def ab (g:M Opd) (h:M (List Opd)):M (List Opd):=fun D=>(g D).bind fun p=>(h p.2).map fun q=>(p.1::q.1,q.2)
theorem Stp.permR {H H':Hp}{F A B:List Addr} (s:Stp H F H' A) (p:A.Perm B):Stp H F H' B:=⟨s.keep,fun a ha=>s.sub a (p.mem_iff.mpr ha),(p.nodup_iff).mp s.nd,s.tup,s.grow⟩
theorem Stp.less {H H':Hp}{F A B C:List Addr} (s:Stp H F H' A) (p:(B++C).Perm A):Stp H F H' B:=
 ⟨s.keep,fun a ha=>s.sub a (p.mem_iff.mp (List.mem_append_left _ ha)),(List.nodup_append.mp ((p.nodup_iff).mpr s.nd)).1,s.tup,s.grow⟩
section
variable {X:Cx}
theorem ag:VA X [] aNil:=by
 refine nL mI fun σ H Q ⟨D,F,r,D',st,nd,hg,q⟩=>?_
 cases hg
 exact q [] H F [] st ⟨rfl,rfl⟩ (by rw[List.append_nil];exact Stp.perm nd (List.Perm.refl _))
theorem ad {e:Expr}{es:List Expr}{g:M Opd}{h:M (List Opd)} (he:VO X e g) (hr:VA X es h) (hs:starEach (e::es) X.env=(false,eval e X.env)::starEach es X.env:=by rfl):VA X (e::es) (ab g h):=by
 refine nL (jK he hr hs) fun σ H Q ⟨D,F,r,D',st,nd,hg,q⟩=>?_
 obtain⟨⟨x,D1⟩,h1,h2⟩:=Option.bind_eq_some_iff.mp hg
 obtain⟨⟨ys,D2⟩,h3,h4⟩:=Option.map_eq_some_iff.mp h2
 cases h4
 refine⟨D,F,x,D1,st,nd,h1,fun v H1 F1 R1 st1 o1 s1=>⟨D1,F1,ys,_,st1,(List.nodup_append.mp s1.nd).1,h3,fun vs H2 F2 R2 st2 o2 s2=>?_⟩⟩
 refine q (v::vs) H2 F2 (R1++R2) st2 ⟨v,vs,R1,R2,rfl,o1.mono s2.tup fun a ha o e=>s2.keep a o e fun h=>?_,o2,rfl⟩ ((s1.trans s2 o1.chg).permR ?_)
 ·exact (List.nodup_append.mp s1.nd).2.2 a h a ha rfl
 ·rw[List.append_assoc]
  exact List.Perm.append_left _ List.perm_append_comm
end
noncomputable def b6 (D:SD):List Opd→Option (List Vl)
 | []=>some []
 | o::os=>(rsl D o).bind fun d=>(b6 D os).map fun ds=>d::ds
noncomputable def dW (H:Hp):List Vl→List V→Prop
 | [],vs=>vs=[]
 | d::ds,vs=>∃ v r,vs=v::r∧Rdb H d v∧dW H ds r
theorem da.read {H:Hp}{D:SD}{σ:St}{F:List Addr} (st:ai H D σ F):∀ {os:List Opd}{vs:List V}{R:List Addr}{ds:List Vl},da H σ os vs R→b6 D os=some ds→dW H ds vs
 | [],_,_,_,h,e=>by cases e;exact h.1
 | o::os,_,_,_,h,e=>by
  obtain⟨v,r,R1,R2,rfl,h1,h2,rfl⟩:=h
  obtain⟨d,e1,e2⟩:=Option.bind_eq_some_iff.mp e
  obtain⟨ds,e3,e4⟩:=Option.map_eq_some_iff.mp e2
  cases e4
  exact⟨v,r,rfl,h1.read st e1,da.read st h2 e3⟩
noncomputable def aV:List Opd→SD→Option (List Vl×SD)
 | [],D=>some ([],D)
 | .vl d::os,D=>(aV os D).map fun p=>(d::p.1,p.2)
 | .sl i::os,D=>(cH i D).bind fun p=>(aV os p.2).map fun q=>(p.1::q.1,q.2)
theorem nM {H:Hp}{D D':SD}{σ:St}{F:List Addr}{i:Nat}{d:Vl} (st:ai H D σ F) (h:cH i D=some (d,D')):∃ v F1 R,σ[i]?=some (some v)∧Own H d v R∧ai H D' σ F1∧(F1++R).Perm F:=by
 unfold cH at h
 split at h
 ·rename_i e hd
  split at h
  ·rename_i hc
   cases h
   obtain⟨v,h1,h2⟩:=st.cp hd hc
   exact⟨v,F,[],h1,h2,st,by rw[List.append_nil]⟩
  ·cases h
   obtain⟨v,F1,F2,h1,h2,h3,h4⟩:=st.out hd
   exact⟨v,F2,F1,h1,h2,h3,h4⟩
 ·cases h
theorem db {A B C:List Addr}:(A++(B++C)).Perm (B++(A++C)):=by
 rw[← List.append_assoc,← List.append_assoc]
 exact List.Perm.append_right _ List.perm_append_comm
theorem fc {H:Hp}{σ:St}:∀ {os:List Opd}{vs:List V}{R F:List Addr}{D D':SD}{ds:List Vl},ai H D σ F→da H σ os vs R→aV os D=some (ds,D')→∃ F1 R1,ai H D' σ F1∧aE H ds vs R1∧(F1++R1).Perm (F++R)
 | [],_,_,F,_,_,_,st,h,e=>by
  cases e
  exact⟨F,[],st,⟨h.1,rfl⟩,by rw[h.2]⟩
 | .vl d::os,_,_,F,D,_,_,st,h,e=>by
  obtain⟨v,r,R1,R2,rfl,h1,h2,rfl⟩:=h
  rw[aV] at e
  obtain⟨p,e3,e4⟩:=Option.map_eq_some_iff.mp e
  cases e4
  obtain⟨F1,R3,g1,g2,g3⟩:=fc (D':=p.2) (ds:=p.1) st h2 e3
  exact⟨F1,R1++R3,g1,⟨v,r,R1,R3,rfl,h1,g2,rfl⟩,db.trans ((List.Perm.append_left _ g3).trans db)⟩
 | .sl i::os,_,_,F,D,_,_,st,h,e=>by
  obtain⟨v,r,R1,R2,rfl,⟨h1,rfl⟩,h2,rfl⟩:=h
  rw[aV] at e
  obtain⟨⟨d,D1⟩,e1,e2⟩:=Option.bind_eq_some_iff.mp e
  obtain⟨p,e3,e4⟩:=Option.map_eq_some_iff.mp e2
  cases e4
  obtain⟨v',F1,R3,g1,g2,g3,g4⟩:=nM st e1
  rw[h1] at g1
  cases g1
  obtain⟨F2,R4,k1,k2,k3⟩:=fc (D':=p.2) (ds:=p.1) g3 h2 e3
  refine⟨F2,R3++R4,k1,⟨v,r,R3,R4,rfl,g2,k2,rfl⟩,db.trans ((List.Perm.append_left _ k3).trans ?_)⟩
  rw[← List.append_assoc]
  exact List.Perm.append_right _ (List.perm_append_comm.trans g4)
@[simp] noncomputable def wb:List Opd→List Vl→SD→SD
 | .sl i::os,d::ds,D=>wb os ds (match D[i]? with | some (some .jk)=>D.set i (some d) | _=>D)
 | .vl _::os,_::ds,D=>wb os ds D
 | _,_,D=>D
theorem iV {H H0:Hp}{σ:St}:∀ {os:List Opd}{ds:List Vl}{vs:List V}{R F S:List Addr}{D:SD},ai H D σ F→da H0 σ os vs S→aE H ds vs R→∃ F1 R1,ai H (wb os ds D) σ F1∧(F1++R1).Perm (F++R)
 | [],ds,_,R,F,_,D,st,_,_=>⟨F,R,by unfold wb;exact st,List.Perm.refl _⟩
 | .vl _::os,[],_,R,F,_,D,st,_,_=>⟨F,R,by unfold wb;exact st,List.Perm.refl _⟩
 | .sl _::os,[],_,R,F,_,D,st,_,_=>⟨F,R,by unfold wb;exact st,List.Perm.refl _⟩
 | .vl _::os,d::ds,_,R,F,_,D,st,h,w=>by
  obtain⟨v,r,S1,S2,rfl,h1,h2,rfl⟩:=h
  obtain⟨v',r',R1,R2,e,w1,w2,rfl⟩:=w
  cases e
  obtain⟨F1,R3,g1,g2⟩:=iV (D:=D) st h2 w2
  refine⟨F1,R1++R3,by rw[wb];exact g1,db.trans ((List.Perm.append_left _ g2).trans db)⟩
 | .sl i::os,d::ds,_,R,F,_,D,st,h,w=>by
  obtain⟨v,r,S1,S2,rfl,⟨h1,_⟩,h2,rfl⟩:=h
  obtain⟨v',r',R1,R2,e,w1,w2,rfl⟩:=w
  cases e
  rw[wb]
  split
  ·obtain⟨F1,G,g1,g2⟩:=st.back w1 h1
   obtain⟨F2,R3,k1,k2⟩:=iV g1 h2 w2
   refine⟨F2,R3++G,k1,?_⟩
   rw[← List.append_assoc,← List.append_assoc]
   refine (List.Perm.append_right _ k2).trans ?_
   rw[List.append_assoc]
   refine (List.Perm.append_left _ List.perm_append_comm).trans ?_
   rw[← List.append_assoc]
   exact List.Perm.append_right _ g2
  ·obtain⟨F1,R3,g1,g2⟩:=iV st h2 w2
   exact⟨F1,R1++R3,g1,db.trans ((List.Perm.append_left _ g2).trans db)⟩
noncomputable def ims:List Vl→Option (List Im)
 | []=>some []
 | .im d::ds=>(ims ds).map fun r=>d::r
 | _::_=>none
@[simp] noncomputable def mkT (ds:List Vl):Vl:=match ims ds with
 | some is=>.im (.tup is)
 | none=>.tpl ds
@[simp] noncomputable def mkL (ds:List Vl):Vl:=match ims ds with
 | some is=>.lst is
 | none=>.lstM ds
theorem kg {H:Hp}:∀ {ds:List Vl}{vs:List V}{R:List Addr}{is:List Im},aE H ds vs R→ims ds=some is→aj H is vs∧R=[]
 | [],_,_,_,h,e=>by cases e;exact h
 | .im d::ds,_,_,_,h,e=>by
  obtain⟨v,r,R1,R2,rfl,⟨h1,rfl⟩,h2,rfl⟩:=h
  rw[ims] at e
  obtain⟨p,e3,e4⟩:=Option.map_eq_some_iff.mp e
  cases e4
  obtain⟨g1,rfl⟩:=kg h2 e3
  exact⟨⟨v,r,rfl,h1,g1⟩,rfl⟩
 | .jk::_,_,_,_,_,e=>by rw[ims] at e;cases e;all_goals (intro _ z;cases z)
 | .fz _::_,_,_,_,_,e=>by rw[ims] at e;cases e;all_goals (intro _ z;cases z)
 | .lst _::_,_,_,_,_,e=>by rw[ims] at e;cases e;all_goals (intro _ z;cases z)
 | .dK _::_,_,_,_,_,e=>by rw[ims] at e;cases e;all_goals (intro _ z;cases z)
 | .dT _::_,_,_,_,_,e=>by rw[ims] at e;cases e;all_goals (intro _ z;cases z)
 | .lstM _::_,_,_,_,_,e=>by rw[ims] at e;cases e;all_goals (intro _ z;cases z)
 | .dTM _ _::_,_,_,_,_,e=>by rw[ims] at e;cases e;all_goals (intro _ z;cases z)
 | .tpl _::_,_,_,_,_,e=>by rw[ims] at e;cases e;all_goals (intro _ z;cases z)
 | .obj _ _ _::_,_,_,_,_,e=>by rw[ims] at e;cases e;all_goals (intro _ z;cases z)
@[simp] noncomputable def ar (g:M (List Opd)):M Vl:=fun D=>(g D).bind fun p=>(aV p.1 p.2).bind fun q=>if q.1.length≤100000 then some (mkT q.1,q.2) else none
@[simp] noncomputable def aU (g:M (List Opd)):M Vl:=fun D=>(g D).bind fun p=>(aV p.1 p.2).bind fun q=>if q.1.length≤100000 then some (mkL q.1,q.2) else none
theorem vM {H H':Hp}{ds:List Vl}{vs:List V}{R:List Addr}{p:Addr} (s:ax H H') (h:aE H ds vs R) (e:H' p=some (.tup vs)):∃ R',Own H' (mkT ds) (.ref p) R'∧R'=R:=by
 unfold mkT
 split
 ·rename_i is hi
  obtain⟨g1,rfl⟩:=kg h hi
  exact⟨[],⟨⟨p,vs,rfl,e,g1.mono s.tupS.tup⟩,rfl⟩,rfl⟩
 ·exact⟨R,⟨p,vs,rfl,e,h.mono s.tupS fun a _ o q=>s a o q⟩,rfl⟩
theorem vN {H H':Hp}{ds:List Vl}{vs:List V}{R:List Addr}{p:Addr} (s:ax H H') (h:aE H ds vs R) (e:H' p=some (.lst vs)):Own H' (mkL ds) (.ref p) (p::R):=by
 unfold mkL
 split
 ·rename_i is hi
  obtain⟨g1,rfl⟩:=kg h hi
  exact⟨p,vs,rfl,e,g1.mono s.tupS.tup,rfl⟩
 ·exact⟨p,vs,R,rfl,e,h.mono s.tupS fun a _ o q=>s a o q,rfl⟩
theorem fe {n:Nat} (h:n≤100000):n≤sizeLine:=Nat.le_trans h (by decide)
theorem Stp.add {H H1:Hp}{F A:List Addr}{p:Addr}{o:HO} (a:Stp H F H1 A) (fr:H1 p=none) (c:∀ x∈A,Chg H1 x):Stp H F (upd H1 p o) (A++[p]):=by
 have s:ax H1 (upd H1 p o):=(ax.refl H1).upd fr
 have:=Stp.new (R:=[]) (R':=[p]) (by rw[List.append_nil];exact a) s (List.pairwise_singleton _ _) (fun x hx=>by rw[List.mem_singleton.mp hx];exact fr) c
 exact this
theorem Stp.same {H H1 H2:Hp}{F A:List Addr} (a:Stp H F H1 A) (s:ax H1 H2):Stp H F H2 A:=
 ⟨fun x o e hx=>s _ _ (a.keep x o e hx),a.sub,a.nd,a.tup.trans s.tupS,fun x o e=>let ⟨o',e'⟩:=a.grow x o e;⟨o',s _ _ e'⟩⟩
section
variable {X:Cx}
theorem aB {es:List Expr}{g:M (List Opd)}{x1}{pos:Pos} (h:VA X es g):VE X (.Tuple es x1 pos) (ar g):=by
 refine aR (tU h) fun σ H Q ⟨D,F,r,D',st,nd,hg,q⟩=>?_
 obtain⟨⟨os,D1⟩,h1,h2⟩:=Option.bind_eq_some_iff.mp hg
 obtain⟨⟨ds,D2⟩,h3,h4⟩:=Option.bind_eq_some_iff.mp h2
 refine⟨D,F,os,D1,st,nd,h1,fun vs H1 F1 R1 st1 o1 s1=>?_⟩
 obtain⟨F2,R2,st2,ow,pm⟩:=fc st1 o1 h3
 split at h4
 ·rename_i hl
  cases h4
  have hl':vs.length≤100000:=by rw[← ow.length];exact hl
  refine⟨fe hl',fun p hp=>?_⟩
  have s:ax H1 (upd H1 p (.tup vs)):=(ax.refl H1).upd hp
  obtain⟨R',g1,rfl⟩:=vM s ow bi
  exact q _ _ F2 R' (st2.mono s.tupS fun a _ o e=>s a o e) g1 ((s1.permR pm.symm).same s)
 ·cases h4
theorem br {es:List Expr}{g:M (List Opd)}{pos:Pos} (h:VA X es g):VE X (.List es pos) (aU g):=by
 refine aR (tW h) fun σ H Q ⟨D,F,r,D',st,nd,hg,q⟩=>?_
 obtain⟨⟨os,D1⟩,h1,h2⟩:=Option.bind_eq_some_iff.mp hg
 obtain⟨⟨ds,D2⟩,h3,h4⟩:=Option.bind_eq_some_iff.mp h2
 refine⟨D,F,os,D1,st,nd,h1,fun vs H1 F1 R1 st1 o1 s1=>?_⟩
 obtain⟨F2,R2,st2,ow,pm⟩:=fc st1 o1 h3
 split at h4
 ·rename_i hl
  cases h4
  have hl':vs.length≤100000:=by rw[← ow.length];exact hl
  refine⟨fe hl',fun p hp=>?_⟩
  have s:ax H1 (upd H1 p (.lst vs)):=(ax.refl H1).upd hp
  have g1:=vN s ow (p:=p) bi
  refine q _ _ F2 (p::R2) (st2.mono s.tupS fun a _ o e=>s a o e) g1 (((s1.permR pm.symm).add hp fun x hx=>?_).permR ?_)
  ·rcases List.mem_append.mp hx with hx | hx
   ·exact st2.chg x hx
   ·exact ow.chg x hx
  ·rw[List.append_assoc]
   exact List.Perm.append_left _ List.perm_append_comm
 ·cases h4
noncomputable def cy (X:Cx) (f:Value) (op:List Vl→Option Vl):Prop:=
 aX X f fun xs H Q=>∃ ds d,dW H ds xs∧op ds=some d∧∀ v H' R,ax H H'→Own H' d v R→R.Nodup→(∀ a∈R,H a=none)→Q v H'
@[simp] noncomputable def aF (op:List Vl→Option Vl) (g:M (List Opd)):M Vl:=fun D=>(g D).bind fun p=>(b6 p.2 p.1).bind fun ds=>(op ds).map fun d=>(d,p.2)
theorem nN {op:List Vl→Option Vl}{g:M (List Opd)}{σ:St}{H:Hp}{Q:VK} (h:tV (aF op g) σ H Q):
  tA g σ H fun xs H1=>∃ ds d,dW H1 ds xs∧op ds=some d∧∀ v H' R,ax H1 H'→Own H' d v R→R.Nodup→(∀ a∈R,H1 a=none)→Q v H':=by
 obtain⟨D,F,r,D',st,nd,hg,q⟩:=h
 obtain⟨⟨os,D1⟩,h1,h2⟩:=Option.bind_eq_some_iff.mp hg
 obtain⟨ds,h3,h4⟩:=Option.bind_eq_some_iff.mp h2
 obtain⟨d,h5,h6⟩:=Option.map_eq_some_iff.mp h4
 cases h6
 refine⟨D,F,os,D1,st,nd,h1,fun vs H1 F1 R1 st1 o1 s1=>⟨ds,_,o1.read st1 h3,h5,fun v H2 R s2 ow ndR fr=>?_⟩⟩
 exact q v H2 F1 R (st1.mono s2.tupS fun a _ o e=>s2 a o e) ow (s1.new s2 ndR fr st1.chg)
theorem bO {id:String}{op:List Vl→Option Vl}{x:Str}{p pos:Pos}{e:Expr}{es:List Expr}{g:M (List Opd)} (hc:cy X (.builtin id) op) (hg:Gl X x) (hm:X.mg x=none) (hv:bootBuiltins x=some (.builtin id)) (ha:VA X (e::es) g)
  (hn:x ≠ "__name__" := by decide) (hdb:(x == ("__debug__" : Str))=false:=by decide) (he:starEach (e::es) X.env=(false,eval e X.env)::starEach es X.env:=by rfl) (hpl:(backTo pos (starEach es X.env)).any (·.1)=false:=by rfl):
  VE X (.Call (.Name x p) (e::es) [] pos) (aF op g):=aR (mP hc hg hm hv ha hn hdb he hpl) fun _ _ _ h=>nN h
theorem ff {T:String}{op:List Vl→Option Vl}{x:Str}{p pos:Pos}{e:Expr}{es:List Expr}{g:M (List Opd)} (hc:cy X (.type T) op) (hg:Gl X x) (hm:X.mg x=none) (hv:bootBuiltins x=some (.type T)) (ha:VA X (e::es) g)
  (hn:x ≠ "__name__" := by decide) (hdb:(x == ("__debug__" : Str))=false:=by decide) (he:starEach (e::es) X.env=(false,eval e X.env)::starEach es X.env:=by rfl) (hpl:(backTo pos (starEach es X.env)).any (·.1)=false:=by rfl):
  VE X (.Call (.Name x p) (e::es) [] pos) (aF op g):=aR (t5 hc hg hm hv ha hn hdb he hpl) fun _ _ _ h=>nN h
noncomputable abbrev Fn:=List Vl→Option (Vl×List Vl)
noncomputable def spV (n:Nat) (G:Fn):Sp:=fun vs H Q _=>vs.length=n∧∃ ds F r outs,aE H ds vs F∧F.Nodup∧G ds=some (r,outs)∧∀ v H' R R',Own H' r v R→aE H' outs vs R'→Stp H F H' (R++R')→Q v H'
@[simp] noncomputable def av (n:Nat) (G:Fn) (g:M (List Opd)):M Vl:=fun D=>(g D).bind fun p=>if p.1.length=n then (aV p.1 p.2).bind fun q=>(G q.1).map fun r=>(r.1,wb p.1 r.2 q.2) else none
theorem da.length {H:Hp}{σ:St}:∀ {os:List Opd}{vs:List V}{R:List Addr},da H σ os vs R→os.length=vs.length
 | [],_,_,h=>by rw[h.1];rfl
 | o::os,_,_,h=>by
  obtain⟨v,r,R1,R2,rfl,h1,h2,rfl⟩:=h
  rw[List.length_cons,List.length_cons,da.length h2]
theorem nO {n:Nat}{G:Fn}{g:M (List Opd)}{E:XK}{σ:St}{H:Hp}{Q:VK} (h:tV (av n G g) σ H Q):jL (spV n G) [] E (tA g) σ H Q:=by
 obtain⟨D,F,r,D',st,nd,hg,q⟩:=h
 obtain⟨⟨os,D1⟩,h1,h2⟩:=Option.bind_eq_some_iff.mp hg
 split at h2
 ·rename_i hn
  obtain⟨⟨ds,D2⟩,h3,h4⟩:=Option.bind_eq_some_iff.mp h2
  obtain⟨⟨r',outs⟩,h5,h6⟩:=Option.map_eq_some_iff.mp h4
  cases h6
  refine⟨D,F,os,D1,st,nd,h1,fun vs H1 F1 R1 st1 o1 s1=>?_⟩
  obtain⟨F2,R2,st2,ow,pm⟩:=fc st1 o1 h3
  have s2:=s1.permR (pm.symm.trans List.perm_append_comm)
  rw[List.append_nil]
  refine⟨by rw[← o1.length];exact hn,ds,R2,_,outs,ow,(List.nodup_append.mp s2.nd).1,h5,fun v H3 R R' w1 w2 s3=>?_⟩
  have s4:=s2.trans s3 st2.chg
  have dis:∀ a∈F2,a∉R2:=fun a ha hb=>(List.nodup_append.mp s2.nd).2.2 a hb a ha rfl
  have st3:ai H3 D2 σ F2:=st2.mono s3.tup fun a ha o e=>s3.keep a o e (dis a ha)
  obtain⟨F3,R3,st4,pm4⟩:=iV st3 o1 w2
  refine q v H3 F3 R st4 w1 (s4.less (C:=R3) ?_)
  refine List.Perm.trans ?_ List.perm_append_comm
  rw[List.append_assoc]
  refine (List.Perm.append_left _ List.perm_append_comm).trans ?_
  rw[← List.append_assoc]
  refine (List.Perm.append_right _ pm4).trans ?_
  rw[List.append_assoc]
  exact List.Perm.append_left _ List.perm_append_comm
 ·cases h2
end
section
variable {X:Cx}
theorem aS {n k:Nat}{G:Fn}{f:Addr}{fd:FuncData}{ps:List Str}{x:Str}{p pos:Pos}{e:Expr}{es:List Expr}{g:M (List Opd)} (F:FnOk X.prog X.w X.K X.mg X.base CX0 k f fd ps (spV n G)) (hr:Room k X.A) (hg:Gl X x) (hm:X.mg x=some (.ref f)) (hk:PySem.W.keepIn X.K (.ref f)=true) (hb:aT X.K fd ps [])
  (ha:VA X (e::es) g) (hdb:(x == ("__debug__" : Str))=false:=by decide) (he:starEach (e::es) X.env=(false,eval e X.env)::starEach es X.env:=by rfl) (hpl:(backTo pos (starEach es X.env)).any (·.1)=false:=by rfl):
  VE X (.Call (.Name x p) (e::es) [] pos) (av n G g):=aR (tX F hr hg hm hk hb .nil nh ha hdb he hpl) fun _ _ _ h=>nO h
inductive Fl where
 | nx | rt (d:Vl) | bk | ct
noncomputable abbrev MS:=SD→Option (Fl×SD)
noncomputable def aH (fix:List Nat) (σ σ':St):Prop:=σ'.length=σ.length∧∀ i∈fix,σ'[i]?=σ[i]?
theorem aH.refl {fix:List Nat}{σ:St}:aH fix σ σ:=⟨rfl,fun _ _=>rfl⟩
theorem aH.trans {fix:List Nat}{σ σ1 σ2:St} (a:aH fix σ σ1) (b:aH fix σ1 σ2):aH fix σ σ2:=⟨b.1.trans a.1,fun i hi=>(b.2 i hi).trans (a.2 i hi)⟩
theorem aH.set {fix:List Nat}{σ:St}{j:Nat}{v:Option V} (h:j∉fix):aH fix σ (σ.set j v):=⟨List.length_set,fun i hi=>List.getElem?_set_ne fun e=>h (by rw[e];exact hi)⟩
noncomputable def Aft (fix:List Nat) (E:Ends) (σ:St) (H:Hp) (F:List Addr) (D':SD):Fl→Prop
 | .nx=>∀ σ' H' F',aH fix σ σ'→ai H' D' σ' F'→Stp H F H' F'→E.nx σ' H'
 | .bk=>∀ σ' H' F',aH fix σ σ'→ai H' D' σ' F'→Stp H F H' F'→E.bk σ' H'
 | .ct=>∀ σ' H' F',aH fix σ σ'→ai H' D' σ' F'→Stp H F H' F'→E.ct σ' H'
 | .rt d=>∀ v σ' H' F' R,aH fix σ σ'→ai H' D' σ' F'→Own H' d v R→Stp H F H' (F'++R)→E.rt v H'
noncomputable def tS (fix:List Nat) (g:MS):TS:=fun E σ H=>∃ D F fl D',ai H D σ F∧F.Nodup∧g D=some (fl,D')∧Aft fix E σ H F D' fl
noncomputable def VS (X:Cx) (fix:List Nat) (st:Stmt) (g:MS):Prop:=PS X st (tS fix g)
noncomputable def VSs (X:Cx) (fix:List Nat) (sts:List Stmt) (g:MS):Prop:=PSs X sts (tS fix g)
theorem fg {st:Stmt}{t t':TS} (h:PS X st t) (i:∀ E σ H,t' E σ H→t E σ H):PS X st t':=fun pins s σ H D I hw=>h pins s σ H D I (i D σ H hw)
theorem nP {st:List Stmt}{t t':TS} (h:PSs X st t) (i:∀ E σ H,t' E σ H→t E σ H):PSs X st t':=fun pins s σ H D I hw=>h pins s σ H D I (i D σ H hw)
theorem Aft.on {fix:List Nat}{E:Ends}{σ σ1:St}{H H1:Hp}{F F1:List Addr}{D':SD}{fl:Fl} (h:Aft fix E σ H F D' fl) (fx:aH fix σ σ1) (s:Stp H F H1 F1):Aft fix E σ1 H1 F1 D' fl:=by
 cases fl with
 | nx=>exact fun σ' H' F' f st s'=>h σ' H' F' (fx.trans f) st (s.seq s')
 | bk=>exact fun σ' H' F' f st s'=>h σ' H' F' (fx.trans f) st (s.seq s')
 | ct=>exact fun σ' H' F' f st s'=>h σ' H' F' (fx.trans f) st (s.seq s')
 | rt d=>exact fun v σ' H' F' R f st ow s'=>h v σ' H' F' R (fx.trans f) st ow (s.seq s')
noncomputable def sNil:MS:=fun D=>some (.nx,D)
@[simp] noncomputable def aq (g h:MS):MS:=fun D=>(g D).bind fun p=>match p.1 with
 | .nx=>h p.2
 | fl=>some (fl,p.2)
theorem de {fix:List Nat}:VSs X fix [] sNil:=by
 refine nP rZ fun E σ H ⟨D,F,fl,D',st,nd,hg,q⟩=>?_
 cases hg
 exact q σ H F aH.refl st (Stp.perm nd (List.Perm.refl _))
theorem aQ {fix:List Nat}{st:Stmt}{g:MS} (h:VS X fix st g):VSs X fix [st] g:=se h
theorem vO {fix:List Nat}{g h:MS}{E:Ends}{σ:St}{H:Hp} (w:tS fix (aq g h) E σ H):mw (tS fix g) (tS fix h) E σ H:=by
 obtain⟨D,F,fl,D',st,nd,hg,q⟩:=w
 obtain⟨⟨f1,D1⟩,h1,h2⟩:=Option.bind_eq_some_iff.mp hg
 cases f1 with
 | nx=>exact⟨D,F,.nx,D1,st,nd,h1,fun σ' H' F' fx st' s=>⟨D1,F',fl,D',st',s.nd,h2,q.on fx s⟩⟩
 | bk=>cases h2;exact⟨D,F,.bk,D1,st,nd,h1,q⟩
 | ct=>cases h2;exact⟨D,F,.ct,D1,st,nd,h1,q⟩
 | rt d=>cases h2;exact⟨D,F,.rt d,D1,st,nd,h1,q⟩
theorem au {fix:List Nat}{st:Stmt}{sts:List Stmt}{g h:MS} (h1:VS X fix st g) (h2:VSs X fix sts h):VSs X fix (st::sts) (aq g h):=nP (r6 h1 h2) fun _ _ _ w=>vO w
@[simp] noncomputable def gO (g:M Vl):MS:=fun D=>(g D).map fun p=>(.nx,p.2)
theorem vP {fix:List Nat}{e:Expr}{g:M Vl}{pos:Pos} (h:VE X e g) (hs:swapsWith e none pos.line X.env=pure false:=by rfl):VS X fix (.Expr e pos) (gO g):=by
 refine fg (si h hs) fun E σ H ⟨D,F,fl,D',st,nd,hg,q⟩=>?_
 obtain⟨⟨r,D1⟩,h1,h2⟩:=Option.map_eq_some_iff.mp hg
 cases h2
 exact⟨D,F,r,_,st,nd,h1,fun v H' F' R st' ow s=>q σ H' F' aH.refl st' (s.less (List.Perm.refl _))⟩
@[simp] noncomputable def a0 (g:M Vl):MS:=fun D=>(g D).map fun p=>(.rt p.1,p.2)
theorem bt {fix:List Nat}{e:Expr}{g:M Vl}{pos:Pos} (h:VE X e g):VS X fix (.Return (some e) pos) (a0 g):=by
 refine fg (sk h) fun E σ H ⟨D,F,fl,D',st,nd,hg,q⟩=>?_
 obtain⟨⟨r,D1⟩,h1,h2⟩:=Option.map_eq_some_iff.mp hg
 cases h2
 exact⟨D,F,r,_,st,nd,h1,fun v H' F' R st' ow s=>q v σ H' F' R aH.refl st' ow s⟩
@[simp] noncomputable def sIf (c:M Bool) (a b:MS):MS:=fun D=>(c D).bind fun p=>if p.1=true then a p.2 else b p.2
theorem df {fix:List Nat}{c:Expr}{a b:List Stmt}{gc:M Bool}{ga gb:MS}{pos:Pos} (hc:VT X c gc) (ha:VSs X fix a ga) (hb:VSs X fix b gb):VS X fix (.If c a b pos) (sIf gc ga gb):=by
 refine fg (sq hc ha hb) fun E σ H ⟨D,F,fl,D',st,nd,hg,q⟩=>?_
 obtain⟨⟨t,D1⟩,h1,h2⟩:=Option.bind_eq_some_iff.mp hg
 refine⟨D,F,t,D1,st,nd,h1,fun H1 F1 st1 s1=>?_⟩
 cases t with
 | true=>
  rw[if_pos rfl] at h2 ⊢
  exact⟨D1,F1,fl,D',st1,s1.nd,h2,q.on aH.refl s1⟩
 | false=>
  rw[if_neg Bool.false_ne_true] at h2 ⊢
  exact⟨D1,F1,fl,D',st1,s1.nd,h2,q.on aH.refl s1⟩
@[simp] noncomputable def ay (i:Nat) (g:M Vl):MS:=fun D=>(g D).bind fun p=>if i<p.2.length then some (.nx,p.2.set i (some p.1)) else none
theorem aI {fix:List Nat}{i:Nat}{x:Str}{e:Expr}{g:M Vl}{pos pos':Pos} (hN:X.N.Nodup) (hi:X.N[i]?=some x) (hx:Loc X.env.scope x) (he:VE X e g) (hf:i∉fix) (hs:swapsWith e (some (.Name x pos')) pos.line X.env=pure false:=by rfl)
  (hfn:X.fn x=true∨X.env.scope.names.lookup x=some .local:=by first | exact .inl rfl | exact .inr rfl | assumption):VS X fix (.Assign [.Name x pos'] e pos) (ay i g):=by
 refine fg (sF hN hi hx he hs hfn) fun E σ H ⟨D,F,fl,D',st,nd,hg,q⟩=>?_
 obtain⟨⟨r,D1⟩,h1,h2⟩:=Option.bind_eq_some_iff.mp hg
 split at h2
 ·rename_i hl
  cases h2
  refine⟨D,F,r,_,st,nd,h1,fun v H1 F1 R st1 ow s1=>?_⟩
  obtain⟨F2,R2,st2,pm⟩:=st1.put (i:=i) ow hl
  exact q _ H1 F2 (aH.set hf) st2 (s1.less pm)
 ·cases h2
noncomputable abbrev MG:=Vl→SD→Option SD
noncomputable def tG (fix:List Nat) (g:MG):TG:=fun v σ H Q=>∃ D F d R D',ai H D σ F∧Own H d v R∧(F++R).Nodup∧g d D=some D'∧∀ σ' H' F',aH fix σ σ'→ai H' D' σ' F'→Stp H (F++R) H' F'→Q σ' H'
noncomputable def VG (X:Cx) (fix:List Nat) (e:Expr) (g:MG):Prop:=PG X e (tG fix g)
theorem kh {e:Expr}{t t':TG} (h:PG X e t) (i:∀ v σ H Q,t' v σ H Q→t v σ H Q):PG X e t':=fun pins s σ H x v Q I r hw=>h pins s σ H x v Q I r (i x σ H Q hw)
@[simp] noncomputable def gN (i:Nat):MG:=fun d D=>if i<D.length then some (D.set i (some d)) else none
theorem bP {fix:List Nat}{i:Nat}{x:Str}{pos:Pos} (hN:X.N.Nodup) (hi:X.N[i]?=some x) (hx:Loc X.env.scope x) (hf:i∉fix) (hfn:X.fn x=true∨X.env.scope.names.lookup x=some .local:=by first | exact .inl rfl | exact .inr rfl | assumption):VG X fix (.Name x pos) (gN i):=by
 refine kh (sr hN hi hx hfn) fun v σ H Q ⟨D,F,d,R,D',st,ow,nd,hg,q⟩=>?_
 unfold gN at hg
 split at hg
 ·rename_i hl
  cases hg
  obtain⟨F2,R2,st2,pm⟩:=st.put (i:=i) ow hl
  exact q _ H F2 (aH.set hf) st2 ((Stp.perm nd (List.Perm.refl _)).less pm)
 ·cases hg
noncomputable def tGs (fix:List Nat) (g:List Vl→SD→Option SD):TGs:=fun vs σ H Q=>∃ D F ds R D',ai H D σ F∧aE H ds vs R∧(F++R).Nodup∧g ds D=some D'∧∀ σ' H' F',aH fix σ σ'→ai H' D' σ' F'→Stp H (F++R) H' F'→Q σ' H'
noncomputable def VGs (X:Cx) (fix:List Nat) (es:List Expr) (g:List Vl→SD→Option SD):Prop:=PGs X es (tGs fix g)
@[simp] noncomputable def gNil':List Vl→SD→Option SD
 | [],D=>some D
 | _,_=>none
@[simp] noncomputable def cz (g:MG) (h:List Vl→SD→Option SD):List Vl→SD→Option SD
 | d::ds,D=>(g d D).bind (h ds)
 | _,_=>none
theorem nQ {es:List Expr}{t t':TGs} (h:PGs X es t) (i:∀ v σ H Q,t' v σ H Q→t v σ H Q):PGs X es t':=fun pins s σ H xs vs Q I r hw=>h pins s σ H xs vs Q I r (i xs σ H Q hw)
theorem iW {fix:List Nat}:VGs X fix [] gNil':=by
 refine nQ su fun vs σ H Q ⟨D,F,ds,R,D',st,ow,nd,hg,q⟩=>?_
 cases ds with
 | cons d ds=>cases hg
 | nil=>
  cases hg
  exact⟨ow.1,q σ H F aH.refl st ((Stp.perm nd (List.Perm.refl _)).less (List.Perm.refl _))⟩
theorem dX {fix:List Nat}{e:Expr}{es:List Expr}{g:MG}{h:List Vl→SD→Option SD} (h1:VG X fix e g) (h2:VGs X fix es h) (hs:(assignEach (e::es) X.env).map (·.2)=assign e X.env::(assignEach es X.env).map (·.2):=by rfl):VGs X fix (e::es) (cz g h):=by
 refine nQ (sv h1 h2 hs) fun vs σ H Q ⟨D,F,ds,R,D',st,ow,nd,hg,q⟩=>?_
 cases ds with
 | nil=>cases hg
 | cons d ds=>
  obtain⟨v,r,R1,R2,rfl,w1,w2,rfl⟩:=ow
  obtain⟨D1,g1,g2⟩:=Option.bind_eq_some_iff.mp (show (g d D).bind (h ds)=some D' from hg)
  have nd':((F++R1)++R2).Nodup:=by rw[List.append_assoc];exact nd
  refine⟨v,r,rfl,D,F,d,R1,D1,st,w1,(List.nodup_append.mp nd').1,g1,fun σ1 H1 F1 fx st1 s1=>?_⟩
  have dis:∀ a∈R2,a∉F++R1:=fun a ha hb=>(List.nodup_append.mp nd').2.2 a hb a ha rfl
  have w2':aE H1 ds r R2:=w2.mono s1.tup fun a ha o e=>s1.keep a o e (dis a ha)
  have s2:Stp H (F++(R1++R2)) H1 (F1++R2):=by
   refine⟨fun a o e ha=>s1.keep a o e fun h=>ha ?_,fun a ha=>?_,List.nodup_append.mpr ⟨s1.nd,(List.nodup_append.mp nd').2.1,fun a ha b hb e=>?_⟩,s1.tup,s1.grow⟩
   ·rw[← List.append_assoc]
    exact List.mem_append_left _ h
   ·rcases List.mem_append.mp ha with ha | ha
    ·rcases s1.sub a ha with h | h
     ·left
      rw[← List.append_assoc]
      exact List.mem_append_left _ h
     ·exact .inr h
    ·left
     rw[← List.append_assoc]
     exact List.mem_append_right _ ha
   ·subst e
    rcases s1.sub a ha with h | h
    ·exact dis a hb h
    ·obtain⟨o,e,_⟩:=w2.chg a hb
     rw[e] at h
     cases h
  exact⟨D1,F1,ds,R2,D',st1,w2',s2.nd,g2,fun σ2 H2 F2 fx2 st2 s3=>q σ2 H2 F2 (fx.trans fx2) st2 (s2.seq s3)⟩
@[simp] noncomputable def gT (n:Nat) (h:List Vl→SD→Option SD):MG:=fun d D=>match d with
 | .im (.tup is)=>if is.length=n then h (is.map .im) D else none
 | .tpl ds=>if ds.length=n then h ds D else none
 | _=>none
theorem nR {H:Hp}:∀ {is:List Im}{vs:List V},aj H is vs→aE H (is.map .im) vs []
 | [],vs,h=>⟨h,rfl⟩
 | d::is,vs,h=>by
  obtain⟨v,r,rfl,h1,h2⟩:=h
  exact⟨v,r,[],[],rfl,⟨h1,rfl⟩,nR h2,rfl⟩
theorem iX {fix:List Nat}{es:List Expr}{k n:Nat}{pos:Pos}{h:List Vl→SD→Option SD} (hc:X.calm=true) (hs:VGs X fix es h) (hn:(assignEach es X.env).length=n:=by rfl) (hst:(assignEach es X.env).findIdx? (·.1)=none:=by rfl):VG X fix (.Tuple es k pos) (gT n h):=by
 refine kh (sx hc hs hn hst) fun v σ H Q ⟨D,F,d,R,D',st,ow,nd,hg,q⟩=>?_
 unfold gT at hg
 split at hg
 ·rename_i is
  split at hg
  ·rename_i hl
   obtain⟨⟨a,xs,rfl,h1,h2⟩,rfl⟩:=ow
   exact⟨a,xs,rfl,SqT.of h1,by rw[← h2.length];exact hl,D,F,_,[],D',st,nR h2,nd,hg,q⟩
  ·cases hg
 ·rename_i ds
  split at hg
  ·rename_i hl
   obtain⟨a,xs,rfl,h1,h2⟩:=ow
   exact⟨a,xs,rfl,SqT.of h1,by rw[← h2.length];exact hl,D,F,_,R,D',st,h2,nd,hg,q⟩
  ·cases hg
 ·cases hg
@[simp] noncomputable def cK (g:M Vl) (h:MG):MS:=fun D=>(g D).bind fun p=>(h p.1 p.2).map fun D'=>(.nx,D')
theorem fh {fix:List Nat}{tg e:Expr}{g:M Vl}{h:MG}{pos:Pos} (he:VE X e g) (hg:VG X fix tg h) (hs:swapsWithSole [tg] e pos.line X.env=pure false:=by rfl) (hw:swappedStores [tg] e X.env=pure none:=by rfl)
  (h1:(assignEach [tg] X.env).map (·.2)=[assign tg X.env]:=by rfl):VS X fix (.Assign [tg] e pos) (cK g h):=by
 refine fg (sE he hg hs hw h1) fun E σ H ⟨D,F,fl,D',st,nd,hgg,q⟩=>?_
 obtain⟨⟨r,D1⟩,g1,g2⟩:=Option.bind_eq_some_iff.mp hgg
 obtain⟨D2,g3,g4⟩:=Option.map_eq_some_iff.mp g2
 cases g4
 exact⟨D,F,r,D1,st,nd,g1,fun v H1 F1 R st1 ow s1=>⟨D1,F1,r,R,_,st1,ow,s1.nd,g3,fun σ' H' F' fx st' s2=>q σ' H' F' fx st' (s1.seq s2)⟩⟩
@[simp] noncomputable def fi (i j:Nat) (g:M (List Opd)):MS:=fun D=>(g D).bind fun p=>(aV p.1 p.2).bind fun q=>match q.1 with
 | [d1,d2]=>if i<q.2.length∧j<q.2.length then some (.nx,(q.2.set i (some d1)).set j (some d2)) else none
 | _=>none
theorem nS {fix:List Nat}{i j:Nat}{x y:Str}{a b:Expr}{g:M (List Opd)}{px py pt pos:Pos}{kt k2 pt2} (hc:X.calm=true) (hN:X.N.Nodup) (hi:X.N[i]?=some x) (hj:X.N[j]?=some y) (hij:i≠j)
  (hx:X.env.scope.names.lookup x=some .local) (hy:X.env.scope.names.lookup y=some .local) (ha:VA X [a,b] g) (hfi:i∉fix) (hfj:j∉fix)
  (hw:swappedStores [.Tuple [.Name x px,.Name y py] kt pt] (.Tuple [a,b] k2 pt2) X.env=pure (some [x,y]))
  (hs:swapsWithSole [.Tuple [.Name x px,.Name y py] kt pt] (.Tuple [a,b] k2 pt2) pos.line X.env=pure false:=by rfl):
  VS X fix (.Assign [.Tuple [.Name x px,.Name y py] kt pt] (.Tuple [a,b] k2 pt2) pos) (fi i j g):=by
 refine fg (sH hc hN hi hj hij hx hy ha hw hs) fun E σ H ⟨D,F,fl,D',st,nd,hg,q⟩=>?_
 obtain⟨⟨os,D1⟩,h1,h2⟩:=Option.bind_eq_some_iff.mp hg
 obtain⟨⟨ds,D2⟩,h3,h4⟩:=Option.bind_eq_some_iff.mp h2
 refine⟨D,F,os,D1,st,nd,h1,fun vs H1 F1 R1 st1 o1 s1=>?_⟩
 obtain⟨F2,R2,st2,ow,pm⟩:=fc st1 o1 h3
 dsimp only at h4
 split at h4
 ·rename_i d1 d2 e
  split at h4
  ·rename_i hl
   cases h4
   obtain⟨v,r,A,B,rfl,w1,w2,rfl⟩:=ow
   obtain⟨u,r',A',B',rfl,w3,⟨rfl,rfl⟩,rfl⟩:=w2
   obtain⟨F3,G3,st3,pm3⟩:=st2.put (i:=i) w1 hl.1
   obtain⟨F4,G4,st4,pm4⟩:=st3.put (i:=j) w3 (by rw[List.length_set];exact hl.2)
   refine⟨v,u,rfl,q _ H1 F4 ((aH.set hfi).trans (aH.set hfj)) st4 ((s1.permR pm.symm).less (C:=G4++G3) ?_)⟩
   rw[← List.append_assoc,List.append_nil,← List.append_assoc]
   refine (List.Perm.append_right G3 pm4).trans ?_
   rw[List.append_assoc]
   refine (List.Perm.append_left F3 List.perm_append_comm).trans ?_
   rw[← List.append_assoc]
   exact List.Perm.append_right _ pm3
  ·cases h4
 ·cases h4
noncomputable def nU (c:M Bool) (b:MS):Nat→MS
 | 0=>fun _=>none
 | n+1=>fun D=>(c D).bind fun p=>if p.1=true then (b p.2).bind fun q=>match q.1 with
  | .nx=>nU c b n q.2
  | .ct=>nU c b n q.2
  | .bk=>some (.nx,q.2)
  | .rt d=>some (.rt d,q.2) else some (.nx,p.2)
structure ItOk (J:It) (H:Hp) (R:List Addr) (ds:List Im):Prop where
 go:∀ H',StayS H H'→(∀ a∈R,∀ o,H a=some o→H' a=some o)→∀ (i:Nat) (d:Im),ds[i]?=some d→J.go i H'∧∀ x H'',J.yld i H' x H''→ax H' H''∧IsI H'' d x
 stop:∀ H',StayS H H'→(∀ a∈R,∀ o,H a=some o→H' a=some o)→J.stop ds.length H'
noncomputable def gP (H:Hp) (σ:St) (R:List Addr):Option (Nat×Vl)→Prop
 | none=>True
 | some (i,d)=>∃ v,σ[i]?=some (some v)∧Own H d v R
noncomputable def tI (g:M (List Im×Option (Nat×Vl))):TI:=fun σ H Rk=>∃ D F r D',ai H D σ F∧F.Nodup∧g D=some (r,D')∧∀ J H' F' R,ai H' D' σ F'→ItOk J H' R r.1→gP H' σ R r.2→(∀ a∈R,Chg H' a)→Stp H F H' (F'++R)→Rk J H'
noncomputable def VI (X:Cx) (tg iter:Expr) (g:M (List Im×Option (Nat×Vl))):Prop:=PI X tg iter (tI g)
theorem kj {tg iter:Expr}{t t':TI} (h:PI X tg iter t) (i:∀ σ H R,t' σ H R→t σ H R):PI X tg iter t':=fun pins s σ H R I hw=>h pins s σ H R I (i σ H R hw)
noncomputable def bz (tg:MG) (b:MS):List Im→MS
 | []=>fun D=>some (.nx,D)
 | x::r=>fun D=>(tg (.im x) D).bind fun D1=>(b D1).bind fun q=>match q.1 with
  | .nx=>bz tg b r q.2
  | .ct=>bz tg b r q.2
  | .bk=>some (.nx,q.2)
  | .rt d=>some (.rt d,q.2)
@[simp] noncomputable def rst:Option (Nat×Vl)→SD→SD
 | none,D=>D
 | some (i,d),D=>match D[i]? with
  | some (some .jk)=>D.set i (some d)
  | _=>D
@[simp] noncomputable def cC (g:M (List Im×Option (Nat×Vl))) (tg:MG) (b:MS):MS:=fun D=>(g D).bind fun p=>(bz tg b p.1.1 p.2).map fun q=>(q.1,rst p.1.2 q.2)
theorem kl {H:Hp}{σ:St}{R F:List Addr}{o:Option (Nat×Vl)}{D:SD} (st:ai H D σ F) (h:gP H σ R o):∃ F1 G,ai H (rst o D) σ F1∧(F1++G).Perm (F++R):=by
 cases o with
 | none=>exact⟨F,R,st,List.Perm.refl _⟩
 | some p=>
  obtain⟨i,d⟩:=p
  obtain⟨v,h1,h2⟩:=h
  unfold rst
  dsimp only
  split
  ·exact st.back h2 h1
  ·exact⟨F,R,st,List.Perm.refl _⟩
noncomputable def fS (fx:List Nat):Option (Nat×Vl)→Prop
 | none=>True
 | some (i,_)=>i∈fx
theorem vQ {fix fx:List Nat}{tg iter:Expr}{body:List Stmt}{g:M (List Im×Option (Nat×Vl))}{gt:MG}{gb:MS}{pos:Pos} (hp:PassesOwn (model X.prog X.w) X.A X.env X.xe) (hc:X.calm=true) (hi:VI X tg iter g) (hg:VG X fx tg gt) (hb:VSs X fx body gb)
  (hf:∀ i∈fix,i∈fx) (hs:∀ D r D',g D=some (r,D')→fS fx r.2) (hps:PS X (.For tg iter body [] pos) (mz (tI g) (tG fx gt) (tS fx gb))):VS X fix (.For tg iter body [] pos) (cC g gt gb):=by
 refine fg hps fun E σ H ⟨D,F,fl,D',st,nd,hgg,q⟩=>?_
 obtain⟨⟨⟨ds,o⟩,D1⟩,h1,h2⟩:=Option.bind_eq_some_iff.mp hgg
 obtain⟨⟨f,D2⟩,h3,h4⟩:=Option.map_eq_some_iff.mp h2
 cases h4
 refine⟨D,F,(ds,o),D1,st,nd,h1,fun J H1 F1 R st1 it ln cR s1=>?_⟩
 have hso:fS fx o:=hs D _ _ h1
 have nd1:=List.nodup_append.mp s1.nd
 -- what R holds stays while the body runs
 have keepR:∀ {H2:Hp}{F2:List Addr},Stp H1 F1 H2 F2→∀ a∈R,∀ u,H1 a=some u→H2 a=some u:=fun s a ha u e=>s.keep a u e fun h=>nd1.2.2 a h a ha rfl
 have lent:∀ {H2:Hp}{F2:List Addr}{σ2:St},Stp H1 F1 H2 F2→aH fx σ σ2→gP H2 σ2 R o:=fun {H2 F2 σ2} s f=>by
  cases o with
  | none=>trivial
  | some p=>
   obtain⟨i,d⟩:=p
   obtain⟨v,e1,e2⟩:=ln
   exact⟨v,(f.2 i hso).trans e1,e2.mono s.tup (keepR s)⟩
 have fxx:∀ {σ2:St},aH fx σ σ2→aH fix σ σ2:=fun f=>⟨f.1,fun i hi=>f.2 i (hf i hi)⟩
 -- leaving by going on
 have leave:∀ {σ2:St}{H2:Hp}{F2:List Addr}{D2:SD},Aft fix E σ H F (rst o D2) .nx→aH fx σ σ2→ai H2 D2 σ2 F2→Stp H1 F1 H2 F2→E.nx σ2 H2:=fun {σ2 H2 F2 D2} q f st2 s2=>by
  obtain⟨F3,G,st3,pm⟩:=kl st2 (lent s2 f)
  exact q σ2 H2 F3 (fxx f) st3 ((s1.trans s2 cR).less pm)
 refine⟨fun i m σ' H'=>m+i=ds.length∧∃ Dd F',aH fx σ σ'∧ai H' Dd σ' F'∧Stp H1 F1 H' F'∧bz gt gb (ds.drop i) Dd=some (f,D2),⟨ds.length,rfl,D1,F1,aH.refl,st1,Stp.perm nd1.1 (List.Perm.refl _),h3⟩,?_⟩
 rintro i m σ' H' ⟨hm,Dd,F',fx',st',s',hw⟩
 by_cases hlt:i<ds.length
 ·obtain⟨hgo,hy⟩:=it.go H' s'.tup (keepR s') i ds[i] (by simp[hlt])
  rw[List.drop_eq_getElem_cons hlt,bz] at hw
  obtain⟨D3,w1,w2⟩:=Option.bind_eq_some_iff.mp hw
  obtain⟨⟨f2,D4⟩,w3,w4⟩:=Option.bind_eq_some_iff.mp w2
  refine .inr ⟨hgo,fun σ2 H2=>(m - 1)+(i+1)=ds.length∧∃ Dd F',aH fx σ σ2∧ai H2 Dd σ2 F'∧Stp H1 F1 H2 F'∧bz gt gb (ds.drop (i+1)) Dd=some (f,D2),fun σ2 H2 h=>⟨m - 1,by lia,h⟩,fun x H2 hx=>?_⟩
  obtain⟨sm,isx⟩:=hy x H2 hx
  have st2:=st'.mono sm.tupS fun a _ o e=>sm a o e
  have s2:=s'.same sm
  refine⟨Dd,F',.im ds[i],[],D3,st2,⟨isx,rfl⟩,by rw[List.append_nil];exact s2.nd,w1,fun σ3 H3 F3 fx3 st3 sg=>?_⟩
  have s3:Stp H1 F1 H3 F3:=s2.seq (by rw[List.append_nil] at sg;exact sg)
  refine⟨D3,F3,f2,D4,st3,s3.nd,w3,?_⟩
  cases f2 with
  | nx=>exact fun σ4 H4 F4 fx4 st4 s4=>⟨by lia,D4,F4,(fx'.trans fx3).trans fx4,st4,s3.seq s4,w4⟩
  | ct=>exact fun σ4 H4 F4 fx4 st4 s4=>⟨by lia,D4,F4,(fx'.trans fx3).trans fx4,st4,s3.seq s4,w4⟩
  | bk=>
   cases w4
   exact fun σ4 H4 F4 fx4 st4 s4=>leave q ((fx'.trans fx3).trans fx4) st4 (s3.seq s4)
  | rt d=>
   cases w4
   intro v σ4 H4 F4 R4 fx4 st4 ow4 s4
   have s5:=s3.seq s4
   have f5:=(fx'.trans fx3).trans fx4
   obtain⟨F5,G5,st5,pm5⟩:=kl (R:=R) st4 (lent s5 f5)
   refine q v σ4 H4 F5 R4 (fxx f5) st5 ow4 ((s1.trans s5 cR).less (C:=G5) ?_)
   rw[List.append_assoc]
   refine (List.Perm.append_left F5 List.perm_append_comm).trans ?_
   rw[← List.append_assoc]
   refine (List.Perm.append_right R4 pm5).trans ?_
   rw[List.append_assoc,List.append_assoc]
   exact List.Perm.append_left _ List.perm_append_comm
 ·have hi:i=ds.length:=by lia
  subst hi
  refine .inl ⟨it.stop H' s'.tup (keepR s'),?_⟩
  rw[List.drop_of_length_le (Nat.le_refl _)] at hw
  cases hw
  exact leave q fx' st' s'
end
section
variable {X:Cx}
theorem fU {fix fx:List Nat}{tg iter:Expr}{body:List Stmt}{g:M (List Im×Option (Nat×Vl))}{gt:MG}{gb:MS}{pos:Pos} (hp:PassesOwn (model X.prog X.w) X.A X.env X.xe) (hc:X.calm=true) (hi:VI X tg iter g) (hg:VG X fx tg gt) (hb:VSs X fx body gb)
  (hf:∀ i∈fix,i∈fx) (hs:∀ D r D',g D=some (r,D')→fS fx r.2) (hfs:∀ x,foldedSetIterable iter X.env x=pure x:=by intro _;rfl):VS X fix (.For tg iter body [] pos) (cC g gt gb):=
 vQ hp hc hi hg hb hf hs (sO hp hc hi hg hb hfs)
noncomputable def iSq (K:PySem.W.Frag) (tl:TE):TI:=fun σ H R=>tl σ H fun x H1=>∃ a,x=.ref a∧(((∃ xs,SqL K H1 a xs)∧R (Itl K a) H1)∨((∃ xs,SqT K H1 a xs)∧R (Itt K a) H1))
theorem vR {tg l:Expr}{tl:TE} (hl:PE X l tl):PI X tg l (iSq X.K tl):=by
 intro pins s σ H R I h
 refine thn (hl pins s σ H _ I h) fun v s1 ⟨x,H1,I1,r1,q1⟩=>?_
 obtain⟨a,e,q⟩:=q1
 subst e
 cases r1
 rcases q with ⟨⟨xs,hq⟩,q⟩ | ⟨⟨xs,hq⟩,q⟩
 ·obtain⟨its,rv,p,hz⟩:=I1.list hq
  refine wpAny_pyIter_list p.isList ?_
  refine⟨s1.heap.objs.size,[s1.heap.objs.size],_,_,H1,rfl,I1.kept (t':=s1.toks) fun b o e=>Heap.get?_push_of_some _ e,sI a _,⟨_,Heap.get?_push_size _ rfl,rfl,rfl⟩,fun b hb=>?_,q⟩
  have e:b=s1.heap.objs.size:=by simpa using hb
  subst e
  exact I1.fpOk (Nat.le_refl _) (I1.hok.fresh (Nat.le_refl _))
 ·obtain⟨its,rv,p,hz⟩:=I1.tuple hq
  refine wpAny_pyIter_tuple (show s1.heap.IsTuple a its.toArray from p) ?_
  refine⟨s1.heap.objs.size,[s1.heap.objs.size],_,_,H1,rfl,I1.kept (t':=s1.toks) fun b o e=>Heap.get?_push_of_some _ e,sJ a _,⟨_,Heap.get?_push_size _ rfl,rfl,rfl⟩,fun b hb=>?_,q⟩
  have e:b=s1.heap.objs.size:=by simpa using hb
  subst e
  exact I1.fpOk (Nat.le_refl _) (I1.hok.fresh (Nat.le_refl _))
theorem aj.get {H:Hp}:∀ {ds:List Im}{vs:List V}{i:Nat}{d:Im},aj H ds vs→ds[i]?=some d→∃ v,vs[i]?=some v∧IsI H d v
 | [],_,_,_,_,e=>by simp at e
 | d::ds,_,0,_,h,e=>by
  obtain⟨v,r,rfl,h1,h2⟩:=h
  simp at e
  subst e
  exact⟨v,rfl,h1⟩
 | d::ds,_,i+1,_,h,e=>by
  obtain⟨v,r,rfl,h1,h2⟩:=h
  obtain⟨u,g1,g2⟩:=aj.get (i:=i) h2 (by simpa using e)
  exact⟨u,by simpa using g1,g2⟩
theorem vS {K:PySem.W.Frag}{H:Hp}{a:Addr}{xs:List V}{ds:List Im} (h:H a=some (.lst xs)) (hd:aj H ds xs):ItOk (Itl K a) H [a] ds where
 go:=fun H' t k i d e=>by
  obtain⟨v,g1,g2⟩:=hd.get e
  have h':=SqL.of (K:=K) (k a (.head _) _ h)
  refine⟨⟨xs,v,h',g1⟩,fun x H'' ⟨e1,e2⟩=>?_⟩
  subst e1
  rw[e2 xs h'] at g1
  cases g1
  exact⟨ax.refl _,g2.mono t.tup⟩
 stop:=fun H' t k=>⟨xs,SqL.of (k a (.head _) _ h),by rw[← hd.length];exact Nat.le_refl _⟩
theorem vT {K:PySem.W.Frag}{H:Hp}{a:Addr}{xs:List V}{o:Obj}{ds:List Im} (h:H a=some (.frz o (.lst xs))) (hd:aj H ds xs):ItOk (Itl K a) H [] ds where
 go:=fun H' t k i d e=>by
  obtain⟨v,g1,g2⟩:=hd.get e
  have h':SqL K H' a xs:=.inl (.inr ⟨o,t.frz _ _ _ h⟩)
  refine⟨⟨xs,v,h',g1⟩,fun x H'' ⟨e1,e2⟩=>?_⟩
  subst e1
  rw[e2 xs h'] at g1
  cases g1
  exact⟨ax.refl _,g2.mono t.tup⟩
 stop:=fun H' t k=>⟨xs,.inl (.inr ⟨o,t.frz _ _ _ h⟩),by rw[← hd.length];exact Nat.le_refl _⟩
theorem vU {K:PySem.W.Frag}{H:Hp}{a:Addr}{xs:List V}{ds:List Im} (h:H a=some (.tup xs)) (hd:aj H ds xs):ItOk (Itt K a) H [] ds where
 go:=fun H' t k i d e=>by
  obtain⟨v,g1,g2⟩:=hd.get e
  have h':=SqT.of (K:=K) (t.tup a _ h)
  refine⟨⟨xs,v,h',g1⟩,fun x H'' ⟨e1,e2⟩=>?_⟩
  subst e1
  rw[e2 xs h'] at g1
  cases g1
  exact⟨ax.refl _,g2.mono t.tup⟩
 stop:=fun H' t k=>⟨xs,SqT.of (t.tup a _ h),by rw[← hd.length];exact Nat.le_refl _⟩
noncomputable abbrev MI:=M (List Im×Option (Nat×Vl))
@[simp] noncomputable def dY (d:Vl):Option (List Im):=match d with
 | .im (.tup ds)=>some ds
 | .lst ds=>some ds
 | .fz ds=>some ds
 | _=>none
@[simp] noncomputable def dZ (g:M Opd):MI:=fun D=>(g D).bind fun p=>match p.1 with
 | .vl d=>(dY d).map fun ds=>((ds,none),p.2)
 | .sl i=>(cH i p.2).bind fun q=>(dY q.1).map fun ds=>((ds,if q.1.cp=true then none else some (i,q.1)),q.2)
theorem nV {K:PySem.W.Frag}{H:Hp}{d:Vl}{v:V}{R:List Addr}{ds:List Im} (w:Own H d v R) (e:dY d=some ds):
  ∃ a,v=.ref a∧(((∃ xs,SqL K H a xs)∧ItOk (Itl K a) H R ds)∨((∃ xs,SqT K H a xs)∧ItOk (Itt K a) H R ds)):=by
 unfold dY at e
 split at e
 ·cases e
  obtain⟨⟨a,xs,rfl,h1,h2⟩,rfl⟩:=w
  exact⟨a,rfl,.inr ⟨⟨xs,SqT.of h1⟩,vU h1 h2⟩⟩
 ·cases e
  obtain⟨a,xs,rfl,h1,h2,rfl⟩:=w
  exact⟨a,rfl,.inl ⟨⟨xs,SqL.of h1⟩,vS h1 h2⟩⟩
 ·cases e
  obtain⟨a,xs,o,rfl,h1,h2,rfl⟩:=w
  exact⟨a,rfl,.inl ⟨⟨xs,.inl (.inr ⟨o,h1⟩)⟩,vT h1 h2⟩⟩
 ·cases e
theorem km {tg l:Expr}{g:M Opd} (h:VO X l g):VI X tg l (dZ g):=by
 refine kj (vR h) fun σ H Rk ⟨D,F,r,D',st,nd,hg,q⟩=>?_
 obtain⟨⟨x,D1⟩,h1,h2⟩:=Option.bind_eq_some_iff.mp hg
 refine⟨D,F,x,D1,st,nd,h1,fun v H1 F1 R st1 o1 s1=>?_⟩
 cases x with
 | vl d=>
  obtain⟨ds,h3,h4⟩:=Option.map_eq_some_iff.mp h2
  cases h4
  obtain⟨a,rfl,hh⟩:=nV (K:=X.K) o1 h3
  refine⟨a,rfl,?_⟩
  rcases hh with ⟨hx,it⟩ | ⟨hx,it⟩
  ·exact .inl ⟨hx,q _ H1 F1 R st1 it trivial (Own.chg o1) s1⟩
  ·exact .inr ⟨hx,q _ H1 F1 R st1 it trivial (Own.chg o1) s1⟩
 | sl i=>
  obtain⟨⟨d,D2⟩,h3,h4⟩:=Option.bind_eq_some_iff.mp h2
  obtain⟨ds,h5,h6⟩:=Option.map_eq_some_iff.mp h4
  cases h6
  obtain⟨v',F2,R2,g1,g2,g3,g4⟩:=nM st1 h3
  obtain⟨o1,rfl⟩:=o1
  rw[o1] at g1
  cases g1
  rw[List.append_nil] at s1
  have s2:=s1.permR g4.symm
  obtain⟨a,rfl,hh⟩:=nV (K:=X.K) g2 h5
  have ln:gP H1 σ R2 (if d.cp=true then none else some (i,d)):=by
   split
   ·trivial
   ·exact⟨_,o1,g2⟩
  refine⟨a,rfl,?_⟩
  rcases hh with ⟨hx,it⟩ | ⟨hx,it⟩
  ·exact .inl ⟨hx,q _ H1 F2 R2 g3 it ln g2.chg s2⟩
  ·exact .inr ⟨hx,q _ H1 F2 R2 g3 it ln g2.chg s2⟩
theorem vV {fx:List Nat}{i:Nat} (hi:i∈fx):∀ D r D',dZ (oSl i) D=some (r,D')→fS fx r.2:=by
 intro D r D' h
 obtain⟨⟨x,D1⟩,h1,h2⟩:=Option.bind_eq_some_iff.mp h
 unfold oSl at h1
 split at h1
 ·cases h1
  obtain⟨⟨d,D2⟩,h3,h4⟩:=Option.bind_eq_some_iff.mp h2
  obtain⟨ds,h5,h6⟩:=Option.map_eq_some_iff.mp h4
  cases h6
  show fS fx (if d.cp=true then none else some (i,d))
  split
  ·trivial
  ·exact hi
 ·cases h1
noncomputable def bQ (lo:Int) (n:Nat):List Im:=(List.range n).map fun (k:Nat)=>Im.int (lo+(k:Int))
theorem vW {H:Hp}{lo:Int}{n:Nat}:ItOk (Itr lo n) H [] (bQ lo n) where
 go:=fun H' t k i d e=>by
  have hi:i<n:=by
   have:=(List.getElem?_eq_some_iff.mp e).1
   rwa [bQ,List.length_map,List.length_range] at this
  refine⟨hi,fun x H'' ⟨e1,e2⟩=>?_⟩
  subst e1
  rw[bQ,List.getElem?_map,List.getElem?_range hi] at e
  cases e
  exact⟨ax.refl _,e2⟩
 stop:=fun H' t k=>by
  show n≤_
  rw[bQ,List.length_map,List.length_range]
  exact Nat.le_refl _
noncomputable def iY (i:Int):Prop := -1000000≤i∧i≤1000000
noncomputable instance (i:Int):Decidable (iY i):=inferInstanceAs (Decidable (_∧_))
@[simp] noncomputable def iR1 (g:M (List Opd)):MI:=fun D=>(g D).bind fun p=>(b6 p.2 p.1).bind fun ds=>match ds with
 | [.im (.int j)]=>if iY j then some ((bQ 0 j.toNat,none),p.2) else none
 | _=>none
theorem kn {H:Hp}{d:Im}{vs:List V} (h:dW H [.im d] vs):∃ v,vs=[v]∧IsI H d v:=by
 obtain⟨v,r,rfl,⟨R,h1,_⟩,h2⟩:=h
 cases (show r=[] from h2)
 exact⟨v,rfl,h1⟩
theorem vX {H:Hp}{d e:Im}{vs:List V} (h:dW H [.im d,.im e] vs):∃ v u,vs=[v,u]∧IsI H d v∧IsI H e u:=by
 obtain⟨v,r,rfl,⟨R,h1,_⟩,h2⟩:=h
 obtain⟨u,rfl,h3⟩:=kn h2
 exact⟨v,u,rfl,h1,h3⟩
theorem gQ {tg a:Expr}{g:M (List Opd)}{p pos:Pos} (hg:Gl X "range") (hm:X.mg "range" = none) (ha:VA X [a] g) (hs:starEach [a] X.env=[(false,eval a X.env)]:=by rfl):VI X tg (.Call (.Name "range" p) [a] [] pos) (iR1 g):=by
 refine kj (sN hg hm ha hs) fun σ H Rk ⟨D,F,r,D',st,nd,hgg,q⟩=>?_
 obtain⟨⟨os,D1⟩,h1,h2⟩:=Option.bind_eq_some_iff.mp hgg
 obtain⟨ds,h3,h4⟩:=Option.bind_eq_some_iff.mp h2
 refine⟨D,F,os,D1,st,nd,h1,fun vs H1 F1 R1 st1 o1 s1=>?_⟩
 have rd:=o1.read st1 h3
 split at h4
 ·rename_i j
  split at h4
  ·rename_i hj
   cases h4
   obtain⟨v,rfl,e⟩:=kn rd
   cases (show v=.int j from e)
   exact⟨j,rfl,by have:=hj.1;lia,by have:=hj.2;lia,q _ H1 F1 [] st1 vW trivial (fun a ha=>nomatch ha) (by rw[List.append_nil];exact s1.less (List.Perm.refl _))⟩
  ·cases h4
 ·cases h4
theorem gR {fx:List Nat}{g:M (List Opd)}:∀ D r D',iR1 g D=some (r,D')→fS fx r.2:=by
 intro D r D' h
 obtain⟨⟨os,D1⟩,h1,h2⟩:=Option.bind_eq_some_iff.mp h
 obtain⟨ds,h3,h4⟩:=Option.bind_eq_some_iff.mp h2
 split at h4
 ·split at h4
  ·cases h4;trivial
  ·cases h4
 ·cases h4
noncomputable def VTs (X:Cx) (ifs:List Expr) (g:M Bool):Prop:=PTs X ifs (tVT g)
noncomputable def kYes:M Bool:=fun D=>some (true,D)
theorem ko:VTs X [] kYes:=by
 intro pins s σ H Q I ⟨D,F,b,D',st,nd,hg,q⟩
 cases hg
 exact u3 pins s σ H Q I (q H F st (Stp.perm nd (List.Perm.refl _)))
@[simp] noncomputable def dg (caps:List Nat) (D:SD):SD:=caps.map fun i=>D.getD i none
noncomputable def dh:List Nat→SD→SD
 | [],D=>D
 | i::r,D=>dh r (match D[i]? with | some (some _)=>D.set i (some .jk) | _=>D)
@[simp] noncomputable def cD:List Nat→SD→SD→SD
 | i::r,o::C,D=>cD r C (D.set i o)
 | _,_,D=>D
noncomputable def bR (own : Nat) (tg : MG) (c : M Bool) (e : M Vl) : List Im → List Im → SD → Option (List Im × SD)
  | [], acc, C => some (acc, C)
  | x :: r, acc, C => (tg (.im x) (List.replicate own none ++ C)).bind fun D1 => (c D1).bind fun p => if p.1 = true then (e p.2).bind fun q => match q.1 with
      | .im d => if acc.length < 100000 then bR own tg c e r (acc ++ [d]) (q.2.drop own) else none
      | _ => none
    else bR own tg c e r acc (p.2.drop own)
@[simp] noncomputable def cN (own:Nat) (caps:List Nat) (gi:MI) (tg:MG) (c:M Bool) (e:M Vl):M Vl:=fun D=>(gi D).bind fun p=>(bR own tg c e p.1.1 [] (dg caps p.2)).map fun q=>(.lst q.1,rst p.1.2 (cD caps q.2 p.2))
noncomputable def i0 (own n:Nat):List Nat:=(List.range n).map (·+own)
theorem vY {D:SD}{i:Nat}{o:Option Vl} (h:D[i]?=some o):D.getD i none=o:=by rw[List.getD_eq_getElem?_getD,h];rfl
theorem ai.void {H:Hp}{D:SD}{σ:St}{F:List Addr} (st:ai H D σ F) (i:Nat):∃ F1 F2,ai H (match D[i]? with | some (some _)=>D.set i (some .jk) | _=>D) σ F1∧dU H (D.getD i none) (σ.getD i none) F2∧(F1++F2).Perm F:=by
 split
 ·rename_i d hd
  obtain⟨v,F1,F2,h1,h2,h3,h4⟩:=st.out hd
  refine⟨F2,F1,h3,?_,h4⟩
  rw[vY hd,List.getD_eq_getElem?_getD,h1]
  exact⟨v,rfl,h2⟩
 ·rename_i hn
  refine⟨F,[],st,?_,by rw[List.append_nil]⟩
  have:D.getD i none=none:=by
   rw[List.getD_eq_getElem?_getD]
   cases e:D[i]? with
   | none=>rfl
   | some o=>
    cases o with
    | none=>rfl
    | some d=>exact absurd e (hn d)
  rw[this]
  exact rfl
theorem nW {H:Hp}{σ:St}:∀ {caps:List Nat}{D:SD}{F:List Addr},caps.Nodup→ai H D σ F→∃ F1 F2,ai H (dh caps D) σ F1∧ai H (dg caps D) (caps.map fun i=>σ.getD i none) F2∧(F1++F2).Perm F
 | [],D,F,_,st=>⟨F,[],st,⟨rfl,rfl⟩,by rw[List.append_nil]⟩
 | i::r,D,F,nd,st=>by
  obtain⟨F1,F2,h1,h2,h3⟩:=st.void i
  have hn:=List.nodup_cons.mp nd
  obtain⟨F3,F4,g1,g2,g3⟩:=nW (caps:=r) hn.2 h1
  refine⟨F3,F2++F4,g1,⟨_,_,F2,F4,rfl,h2,?_,rfl⟩,db.trans ((List.Perm.append_left _ g3).trans (List.perm_append_comm.trans h3))⟩
  have e:dg r (match D[i]? with | some (some _)=>D.set i (some .jk) | _=>D)=dg r D:=by
   unfold dg
   refine List.map_congr_left fun j hj=>?_
   split
   ·rw[List.getD_eq_getElem?_getD,List.getD_eq_getElem?_getD,List.getElem?_set_ne]
    rintro rfl
    exact hn.1 hj
   ·rfl
  rw[e] at g2
  exact g2
theorem ai.putO {H:Hp}{D:SD}{σ:St}{F G:List Addr}{i:Nat}{o:Option Vl} (st:ai H D σ F) (h:dU H o (σ.getD i none) G):∃ F1 F2,ai H (D.set i o) σ F1∧(F1++F2).Perm (F++G):=by
 cases o with
 | some d=>
  obtain⟨v,e,w⟩:=h
  refine st.back w ?_
  rw[List.getD_eq_getElem?_getD] at e
  cases q:σ[i]? with
  | none=>rw[q] at e;cases e
  | some x=>rw[q] at e;rw[show x=some v from e]
 | none=>
  cases (show G=[] from h)
  rw[List.append_nil]
  by_cases hi:i<D.length
  ·cases q:D[i]? with
   | none=>exact absurd (List.getElem?_eq_none_iff.mp q) (by lia)
   | some x=>
    cases x with
    | none=>
     refine⟨F,[],?_,by rw[List.append_nil]⟩
     have:D.set i none=D:=by
      refine List.ext_getElem? fun j=>?_
      by_cases e:i=j
      ·subst e;rw[q,List.getElem?_set_self hi]
      ·rw[List.getElem?_set_ne e]
     rw[this]
     exact st
    | some d=>
     obtain⟨v,F1,F2,h1,h2,h3,h4⟩:=st.out q
     have gen:∀ {D:SD}{σ:St}{F:List Addr}{i:Nat},ai H D σ F→∃ F1 F2,ai H (D.set i none) σ F1∧(F1++F2).Perm F:=by
      intro D
      induction D with
      | nil=>intro σ F i st;exact⟨F,[],by simpa using st,by rw[List.append_nil]⟩
      | cons o D ih=>
       intro σ F i st
       obtain⟨x,r,A,B,rfl,s1,s2,rfl⟩:=st
       cases i with
       | zero=>exact⟨B,A,⟨x,r,[],B,rfl,rfl,s2,rfl⟩,List.perm_append_comm⟩
       | succ i=>
        obtain⟨C,E,c1,c2⟩:=ih (i:=i) s2
        refine⟨A++C,E,⟨x,r,A,C,rfl,s1,c1,rfl⟩,?_⟩
        rw[List.append_assoc]
        exact List.Perm.append_left _ c2
     exact gen st
  ·refine⟨F,[],?_,by rw[List.append_nil]⟩
   rw[List.set_eq_of_length_le (by lia)]
   exact st
theorem nX {H:Hp}{σ:St}:∀ {caps:List Nat}{C D:SD}{F G:List Addr},ai H D σ F→ai H C (caps.map fun i=>σ.getD i none) G→∃ F1 F2,ai H (cD caps C D) σ F1∧(F1++F2).Perm (F++G)
 | [],C,D,F,G,st,_=>⟨F,G,by cases C<;>exact st,List.Perm.refl _⟩
 | i::r,[],D,F,G,st,h=>⟨F,G,st,List.Perm.refl _⟩
 | i::r,o::C,D,F,G,st,h=>by
  obtain⟨x,t,G1,G2,e,h1,h2,rfl⟩:=h
  cases e
  obtain⟨F1,A,g1,g2⟩:=st.putO h1
  obtain⟨F2,B,k1,k2⟩:=nX (caps:=r) (C:=C) g1 h2
  refine⟨F2,B++A,k1,?_⟩
  rw[← List.append_assoc,← List.append_assoc]
  refine (List.Perm.append_right A k2).trans ?_
  rw[List.append_assoc]
  refine (List.Perm.append_left F1 List.perm_append_comm).trans ?_
  rw[← List.append_assoc]
  exact List.Perm.append_right _ g2
theorem vZ:∀ {caps:List Nat}{C D:SD},caps.length=C.length→caps.Nodup→cD caps C (dh caps D)=cD caps C D:=by
 -- what is put over is forgotten
 have comm:∀ {r:List Nat}{C D:SD}{i:Nat}{o:Option Vl},i∉r→cD r C (D.set i o)=(cD r C D).set i o:=by
  intro r
  induction r with
  | nil=>intro C D i o _;cases C<;>rfl
  | cons j r ih=>
   intro C D i o h
   cases C with
   | nil=>rfl
   | cons c C=>
    have hj:i≠j:=fun e=>h (by rw[e];exact .head _)
    show cD r C ((D.set i o).set j c)=(cD r C (D.set j c)).set i o
    rw[List.set_comm _ _ hj,ih fun z=>h (.tail _ z)]
 have jcomm:∀ {r:List Nat}{D:SD}{i:Nat}{o:Option Vl},i∉r→dh r (D.set i o)=(dh r D).set i o:=by
  intro r
  induction r with
  | nil=>intro D i o _;rfl
  | cons j r ih=>
   intro D i o h
   have hj:i≠j:=fun e=>h (by rw[e];exact .head _)
   show dh r (match (D.set i o)[j]? with | some (some _)=>(D.set i o).set j (some .jk) | _=>D.set i o)=(dh r (match D[j]? with | some (some _)=>D.set j (some .jk) | _=>D)).set i o
   rw[List.getElem?_set_ne hj]
   cases D[j]? with
   | none=>exact ih fun z=>h (.tail _ z)
   | some q=>
    cases q with
    | none=>exact ih fun z=>h (.tail _ z)
    | some d=>
     show dh r ((D.set i o).set j (some .jk))=_
     rw[List.set_comm _ _ hj]
     exact ih fun z=>h (.tail _ z)
 intro caps
 induction caps with
 | nil=>intro C D _ _;cases C<;>rfl
 | cons i r ih=>
  intro C D hl nd
  have hn:=List.nodup_cons.mp nd
  cases C with
  | nil=>cases hl
  | cons c C=>
   have hl':r.length=C.length:=by simpa using hl
   show cD r C ((dh r (match D[i]? with | some (some _)=>D.set i (some .jk) | _=>D)).set i c)=cD r C (D.set i c)
   split
   ·rw[jcomm hn.1,List.set_set,← jcomm hn.1,ih hl' hn.2]
   ·rw[← jcomm hn.1,ih hl' hn.2]
theorem nY {H:Hp}{D:SD}{r:St}{F:List Addr} (h:ai H D r F):∀ {own:List Str},ai H (List.replicate own.length none++D) (own.map (fun _=>none)++r) F
 | []=>h
 | x::own=>⟨none,_,[],F,rfl,rfl,nY h (own:=own),rfl⟩
theorem ku {H:Hp}:∀ {n:Nat}{D:SD}{σ:St}{F:List Addr},ai H D σ F→∃ F1 F2,ai H (D.drop n) (σ.drop n) F1∧(F1++F2).Perm F
 | 0,D,σ,F,h=>⟨F,[],h,by rw[List.append_nil]⟩
 | n+1,[],σ,F,h=>by
  cases h.1
  exact⟨[],F,⟨rfl,rfl⟩,List.Perm.refl _⟩
 | n+1,o::D,σ,F,h=>by
  obtain⟨x,r,A,B,rfl,h1,h2,rfl⟩:=h
  obtain⟨F1,F2,g1,g2⟩:=ku (n:=n) h2
  exact⟨F1,F2++A,g1,by rw[← List.append_assoc];exact (List.Perm.append_right A g2).trans List.perm_append_comm⟩
theorem Stp.both {H H1:Hp}{F F1 R:List Addr} (a:Stp H F H1 (F1++R)):Stp H F H1 F1:=a.less (List.Perm.refl _)
theorem aj.snoc {H:Hp}:∀ {ds:List Im}{vs:List V}{d:Im}{v:V},aj H ds vs→IsI H d v→aj H (ds++[d]) (vs++[v])
 | [],vs,d,v,h,w=>by cases (show vs=[] from h);exact⟨v,[],rfl,w,rfl⟩
 | e::ds,vs,d,v,h,w=>by
  obtain⟨u,r,rfl,h1,h2⟩:=h
  exact⟨u,r++[v],rfl,h1,h2.snoc w⟩
theorem v3 {own:List Str}{caps:List Nat}{gi:MI}{gt:MG}{gc:M Bool}{ge:M Vl}{σ:St}{H:Hp}{Q:VK} (nd:caps.Nodup) (h:tV (cN own.length caps gi gt gc ge) σ H Q):
  jS own caps (tI gi) (fun _=>tG (i0 own.length caps.length) gt) (fun _=>tVT gc) (fun _=>tV ge) σ H Q:=by
 obtain⟨D,F,r,D',st,ndF,hgg,q⟩:=h
 obtain⟨⟨⟨xs,o⟩,D1⟩,h1,h2⟩:=Option.bind_eq_some_iff.mp hgg
 obtain⟨⟨ds,C'⟩,h3,h4⟩:=Option.map_eq_some_iff.mp h2
 cases h4
 refine⟨D,F,(xs,o),D1,st,ndF,h1,fun J H1 F1 R st1 it ln cR s1 Y=>?_⟩
 obtain⟨Fo,Fc,so,sc,pm⟩:=nW nd st1
 have s2:Stp H F H1 (Fc++(Fo++R)):=s1.permR (by
  refine (List.Perm.append_right R pm.symm).trans ?_
  rw[List.append_assoc]
  exact db)
 have nd2:=List.nodup_append.mp s2.nd
 have cO:∀ x∈Fo++R,Chg H1 x:=fun x hx=>by
  rcases List.mem_append.mp hx with hx | hx
  ·exact so.chg x hx
  ·exact cR x hx
 have keepO:∀ {H2:Hp}{F2:List Addr},Stp H1 Fc H2 F2→∀ a∈Fo++R,∀ u,H1 a=some u→H2 a=some u:=fun s a ha u e=>s.keep a u e fun h=>nd2.2.2 a h a ha rfl
 refine⟨fun i m ys H'=>m+i=xs.length∧∃ acc C Fc',ai H' C (caps.map fun i=>σ.getD i none) Fc'∧C.length=caps.length∧Stp H1 Fc H' Fc'∧aj H' acc ys∧bR own.length gt gc ge (xs.drop i) acc C=some (ds,C'),
  ⟨xs.length,rfl,[],dg caps D1,Fc,sc,by rw[dg,List.length_map],Stp.perm nd2.1 (List.Perm.refl _),rfl,h3⟩,?_⟩
 rintro i m ys H' ⟨hm,acc,C,Fc',sC,lC,s',hys,hw⟩
 by_cases hlt:i<xs.length
 ·obtain⟨hgo,hy⟩:=it.go H' s'.tup (fun a ha=>keepO s' a (List.mem_append_right _ ha)) i xs[i] (by simp[hlt])
  rw[List.drop_eq_getElem_cons hlt,bR] at hw
  obtain⟨D3,w1,w2⟩:=Option.bind_eq_some_iff.mp hw
  obtain⟨⟨b,D4⟩,w3,w4⟩:=Option.bind_eq_some_iff.mp w2
  refine .inr ⟨hgo,fun ys2 H2=>(m - 1)+(i+1)=xs.length∧∃ acc C Fc',ai H2 C (caps.map fun i=>σ.getD i none) Fc'∧C.length=caps.length∧Stp H1 Fc H2 Fc'∧aj H2 acc ys2∧bR own.length gt gc ge (xs.drop (i+1)) acc C=some (ds,C'),fun ys2 H2 h=>⟨m - 1,by lia,h⟩,fun x H2 hx=>?_⟩
  obtain⟨sm,isx⟩:=hy x H2 hx
  have sC2:=sC.mono sm.tupS fun a _ o e=>sm a o e
  have s2':=s'.same sm
  have hys2:=hys.mono sm.tupS.tup
  refine⟨List.replicate own.length none++C,Fc',.im xs[i],[],D3,nY sC2,⟨isx,rfl⟩,by rw[List.append_nil];exact s2'.nd,w1,fun σ3 H3 F3 fx3 st3 sg=>⟨fun j v hj=>?_,?_⟩⟩
  ·-- captured names stay
   have hlen:own.length≤j:=by
    by_cases hjo:j<own.length
    ·rw[cW,List.getElem?_append_left (by simpa using hjo),List.getElem?_map] at hj
     cases e:own[j]? with
     | none=>rw[e] at hj;cases hj
     | some z=>rw[e] at hj;cases hj
    ·lia
   have hlt2:j<own.length+caps.length:=by
    have:=(List.getElem?_eq_some_iff.mp hj).1
    rwa [cW,List.length_append,List.length_map,List.length_map] at this
   have hm:j∈i0 own.length caps.length:=List.mem_map.mpr ⟨j - own.length,List.mem_range.mpr (by lia),by lia⟩
   exact (fx3.2 j hm).trans hj
  ·have s3:Stp H1 Fc H3 F3:=s2'.seq (by rw[List.append_nil] at sg;exact sg)
   have hys2:=hys2.mono sg.tup.tup
   have σdrop:σ3.drop own.length=caps.map fun i=>σ.getD i none:=by
    have hl3:=st3.len
    refine List.ext_getElem? fun j=>?_
    by_cases hj:j<caps.length
    ·have hm:j+own.length∈i0 own.length caps.length:=List.mem_map.mpr ⟨j,List.mem_range.mpr hj,rfl⟩
     have:=fx3.2 _ hm
     rw[List.getElem?_drop,Nat.add_comm,this,cW,List.getElem?_append_right (by simp),List.length_map,Nat.add_sub_cancel]
    ·have l1:σ3.length≤own.length+caps.length:=by
      rw[fx3.1,cW,List.length_append,List.length_map,List.length_map]
      exact Nat.le_refl _
     rw[List.getElem?_eq_none (by rw[List.length_drop];lia),List.getElem?_eq_none (by rw[List.length_map];lia)]
   have lσ:σ3.length=own.length+caps.length:=by rw[fx3.1,cW,List.length_append,List.length_map,List.length_map]
   refine⟨D3,F3,b,D4,st3,s3.nd,w3,fun H4 F4 st4 s4=>?_⟩
   have s5:=s3.seq s4
   dsimp only at w4 ⊢
   cases b with
   | false=>
    rw[if_neg Bool.false_ne_true] at w4 ⊢
    obtain⟨F5,G5,st5,pm5⟩:=ku (n:=own.length) st4
    rw[σdrop] at st5
    exact⟨by lia,acc,D4.drop own.length,F5,st5,by rw[List.length_drop,st4.len,lσ];lia,s5.less pm5,hys2.mono s4.tup.tup,w4⟩
   | true=>
    rw[if_pos rfl] at w4 ⊢
    obtain⟨⟨v,D5⟩,w5,w6⟩:=Option.bind_eq_some_iff.mp w4
    dsimp only at w6
    split at w6
    ·rename_i d
     split at w6
     ·rename_i hl
      refine⟨D4,F4,.im d,D5,st4,s5.nd,w5,fun u H5 F5 R5 st5 ow s6=>?_⟩
      obtain⟨iu,rfl⟩:=ow
      rw[List.append_nil] at s6
      have hacc:=(hys2.mono s4.tup.tup).mono s6.tup.tup
      refine⟨Nat.lt_of_le_of_lt (show ys.length≤100000 by rw[← hacc.length];lia) (by decide),?_⟩
      obtain⟨F6,G6,st6,pm6⟩:=ku (n:=own.length) st5
      rw[σdrop] at st6
      exact⟨by lia,acc++[d],D5.drop own.length,F6,st6,by rw[List.length_drop,st5.len,lσ];lia,(s5.seq s6).less pm6,hacc.snoc iu,w6⟩
     ·cases w6
    ·cases w6
 ·have hi:i=xs.length:=by lia
  subst hi
  refine .inl ⟨it.stop H' s'.tup (fun a ha=>keepO s' a (List.mem_append_right _ ha)),fun Dn hDn=>?_⟩
  rw[List.drop_of_length_le (Nat.le_refl _),bR] at hw
  cases hw
  have so':ai H' (dh caps D1) σ Fo:=so.mono s'.tup fun a ha=>keepO s' a (List.mem_append_left _ ha)
  obtain⟨F4,G4,st4,pm4⟩:=nX so' sC
  rw[vZ (by rw[lC]) nd] at st4
  have ln':gP H' σ R o:=by
   cases o with
   | none=>trivial
   | some p=>
    obtain⟨i,d⟩:=p
    obtain⟨v,e1,e2⟩:=ln
    exact⟨v,e1,e2.mono s'.tup fun a ha=>keepO s' a (List.mem_append_right _ ha)⟩
  obtain⟨F5,G5,st5,pm5⟩:=kl (R:=R) st4 ln'
  have sm:ax H' (upd H' Dn (.lst ys)):=(ax.refl H').upd hDn
  have s5:Stp H F H' F5:=(s2.trans s' cO).less (C:=G5++G4) (by
   rw[← List.append_assoc]
   refine (List.Perm.append_right G4 pm5).trans ?_
   rw[List.append_assoc]
   refine (List.Perm.append_left F4 List.perm_append_comm).trans ?_
   rw[← List.append_assoc]
   refine (List.Perm.append_right R pm4).trans ?_
   rw[List.append_assoc]
   exact db)
  exact q _ _ F5 [Dn] (st5.mono sm.tupS fun a _ o e=>sm a o e) ⟨Dn,ys,rfl,bi,hys.mono sm.tupS.tup,rfl⟩ (s5.add hDn st5.chg)
theorem kw {tg iter elt:Expr}{ifs:List Expr}{scope:Scope}{pos:Pos}{own:List Str}{caps:List Nat}{gi:MI}{gt:MG}{gc:M Bool}{ge:M Vl} (hc:X.calm=true) (S:CompScope X scope own caps) (nd:caps.Nodup) (hi:VI X tg iter gi)
  (hg:∀ Y,VG (X.blk (cv X own caps) scope Y) (i0 own.length caps.length) tg gt) (ht:∀ Y,VTs (X.blk (cv X own caps) scope Y) ifs gc) (he:∀ Y,VE (X.blk (cv X own caps) scope Y) elt ge)
  (hs:∀ x,foldedSetIterable iter X.env x=pure x:=by intro _;rfl):VE X (.ListComp elt [⟨tg,iter,ifs,0⟩] scope pos) (cN own.length caps gi gt gc ge):=
 aR (u7 hc S hi hg ht he hs) fun σ H Q h=>v3 nd h
end
@[simp] noncomputable def cP (fix:List Nat):List Vl→SD→Nat→List Vl
 | d::ds,o::D,j=>(if d.cp=true then d else if j∈fix then o.getD .jk else .jk)::cP fix ds D (j+1)
 | d::ds,[],j=>(if d.cp=true then d else .jk)::cP fix ds [] (j+1)
 | [],_,_=>[]
@[simp] noncomputable def bA (n m:Nat) (fix:List Nat) (g:MS):Fn:=fun ds=>if ds.length=n then match g (ds.map some++List.replicate (m - n) none) with
 | some (.rt r,D)=>some (r,cP fix ds D 0)
 | some (.nx,D)=>some (.im .non,cP fix ds D 0)
 | _=>none else none
theorem nZ {H:Hp}:∀ {ds:List Vl}{vs:List V}{F:List Addr}{m:Nat},aE H ds vs F→ai H (ds.map some++List.replicate m none) (vs.map some++List.replicate m none) F
 | [],vs,F,m,h=>by
  obtain⟨rfl,rfl⟩:=h
  show ai H (List.replicate m none) (List.replicate m none) []
  induction m with
  | zero=>exact⟨rfl,rfl⟩
  | succ m ih=>exact⟨none,_,[],[],rfl,rfl,ih,rfl⟩
 | d::ds,vs,F,m,h=>by
  obtain⟨v,r,F1,F2,rfl,h1,h2,rfl⟩:=h
  exact⟨some v,_,F1,F2,rfl,⟨v,rfl,h1⟩,nZ h2,rfl⟩
theorem kz {H H':Hp}{fix:List Nat} (t:StayS H H'):∀ {ds:List Vl}{vs:List V}{F0:List Addr}{D:SD}{σ:St}{F:List Addr}{j0:Nat},aE H ds vs F0→ai H' D σ F→(∀ (j:Nat) (v:V),(j0+j)∈fix→vs[j]?=some v→σ[j]?=some (some v))→
  ∃ R G,aE H' (cP fix ds D j0) vs R∧(R++G).Perm F
 | [],vs,F0,D,σ,F,j0,h,st,_=>⟨[],F,by unfold cP;exact⟨h.1,rfl⟩,List.Perm.refl _⟩
 | d::ds,vs,F0,[],σ,F,j0,h,st,k=>by
  obtain⟨v,r,A,B,rfl,h1,h2,rfl⟩:=h
  obtain⟨rfl,rfl⟩:=st
  obtain⟨R,G,g1,g2⟩:=kz (D:=[]) (σ:=[]) (F:=[]) (j0:=j0+1) t h2 ⟨rfl,rfl⟩ fun j v hj hv=>by
   have:=k (j+1) v (by rw[show j0+(j+1)=j0+1+j by lia];exact hj) (by simpa using hv)
   simp at this
  rw[cP]
  refine⟨R,G,⟨v,r,[],R,rfl,?_,g1,rfl⟩,g2⟩
  split
  ·rename_i hc
   have:=h1.mono t fun a ha=>by rw[h1.cp hc] at ha;cases ha
   rw[h1.cp hc] at this
   exact this
  ·exact rfl
 | d::ds,vs,F0,o::D,σ,F,j0,h,st,k=>by
  obtain⟨v,r,A,B,rfl,h1,h2,rfl⟩:=h
  obtain⟨x,s,C,E,rfl,s1,s2,rfl⟩:=st
  obtain⟨R,G,g1,g2⟩:=kz (D:=D) (σ:=s) (j0:=j0+1) t h2 s2 fun j v hj hv=>by
   have:=k (j+1) v (by rw[show j0+(j+1)=j0+1+j by lia];exact hj) (by simpa using hv)
   simpa using this
  rw[cP]
  split
  ·rename_i hc
   have hm:=h1.mono t fun a ha=>by rw[h1.cp hc] at ha;cases ha
   rw[h1.cp hc] at hm
   refine⟨R,G++C,⟨v,r,[],R,rfl,hm,g1,rfl⟩,?_⟩
   rw[← List.append_assoc]
   exact (List.Perm.append_right C g2).trans List.perm_append_comm
  ·split
   ·rename_i hf
    have hx:x=some v:=by
     have:=k 0 v hf rfl
     simpa using this
    subst hx
    cases o with
    | none=>
     refine⟨R,G++C,⟨v,r,[],R,rfl,rfl,g1,rfl⟩,?_⟩
     rw[← List.append_assoc]
     exact (List.Perm.append_right C g2).trans List.perm_append_comm
    | some e=>
     obtain⟨v',e1,w⟩:=s1
     cases e1
     refine⟨C++R,G,⟨v,r,C,R,rfl,w,g1,rfl⟩,?_⟩
     rw[List.append_assoc]
     exact List.Perm.append_left _ g2
   ·refine⟨R,G++C,⟨v,r,[],R,rfl,rfl,g1,rfl⟩,?_⟩
    rw[← List.append_assoc]
    exact (List.Perm.append_right C g2).trans List.perm_append_comm
section
variable {P:Program}{w:World}{K:PySem.W.Frag}{mg:Str→Option Value}{base:Heap}
theorem fnV {x qual:Str}{st:Stmt}{f:Addr}{fd:FuncData}{N ps:List Str}{k n:Nat}{fix:List Nat}{g:MS} (F:Fun K x qual st f fd) (S:FnScope N ps (az st)) (hn:ps.length=n) (hfx:∀ i∈fix,i<n)
  (hb:∀ (cdv:Value) (A:Around) (outer:List Env) (s:Shared) (H:Hp) (E:XK),Room k (A.deeper (envOfC qual (az st) s.heap.objs.size f cdv))→VSs (eI CX0 P w K mg base N qual (az st) f cdv A outer s H E).nox fix (bd st) g):
  FnOk P w K mg base CX0 (k+1) f fd ps (spV n (bA n N.length fix g)):=by
 refine F.ok S (fun vs H Q E h=>h.1.trans hn.symm) (fun cdv A outer s H vs Q E hr h=>⟨_,hb cdv A outer s H E hr,?_⟩)
 obtain⟨hl,ds,F0,r,outs,ow,nd,hg,q⟩:=h
 have hdl:ds.length=n:=ow.length.trans hl
 unfold bA at hg
 rw[if_pos hdl] at hg
 have st:=nZ (m:=N.length - n) ow
 have es:c9 N vs=vs.map some++List.replicate (N.length - n) none:=by unfold c9;rw[hl]
 rw[es]
 have fin:∀ {σ':St}{H':Hp}{F':List Addr}{D':SD}{v:V}{R:List Addr},cP fix ds D' 0=outs→aH fix (vs.map some++List.replicate (N.length - n) none) σ'→ai H' D' σ' F'→Own H' r v R→Stp H F0 H' (F'++R)→Q v H':=fun {σ' H' F' D' v R} eo fx st' wr s'=>by
  obtain⟨R2,G,g1,g2⟩:=kz (fix:=fix) (j0:=0) s'.tup ow st' fun j v hj hv=>by
   rw[Nat.zero_add] at hj
   rw[fx.2 j hj,List.getElem?_append_left (by rw[List.length_map];exact (List.getElem?_eq_some_iff.mp hv).1),List.getElem?_map,hv]
   rfl
  rw[eo] at g1
  refine q v H' R R2 wr g1 (s'.less (C:=G) ?_)
  rw[List.append_assoc]
  exact (List.Perm.append_left R g2).trans List.perm_append_comm
 split at hg
 ·rename_i r' D' e
  cases hg
  exact⟨_,F0,.rt r,D',st,nd,e,fun v σ' H' F' R fx st' wr s'=>fin rfl fx st' wr s'⟩
 ·rename_i D' e
  cases hg
  exact⟨_,F0,.nx,D',st,nd,e,fun σ' H' F' fx st' s'=>fin rfl fx st' ⟨rfl,rfl⟩ (by rw[List.append_nil];exact s')⟩
 ·cases hg
end
noncomputable def Out (H:Hp) (d:Vl) (Q:VK):Prop:=∀ v H' R,ax H H'→Own H' d v R→R.Nodup→(∀ a∈R,H a=none)→Q v H'
theorem Out.imS {H H':Hp}{d:Im}{Q:VK}{v:V} (q:Out H (.im d) Q) (s:ax H H') (h:IsI H' d v):Q v H':=q v H' [] s ⟨h,rfl⟩ List.nodup_nil (fun a ha=>nomatch ha)
theorem Out.i {H:Hp}{d:Im}{Q:VK}{v:V} (q:Out H (.im d) Q) (h:IsI H d v):Q v H:=q.imS (ax.refl H) h
theorem Out.l {H:Hp}{ds:List Im}{xs:List V}{Q:VK}{p:Addr} (q:Out H (.lst ds) Q) (hp:H p=none) (h:aj H ds xs):Q (.ref p) (upd H p (.lst xs)):=by
 have s:ax H (upd H p (.lst xs)):=(ax.refl H).upd hp
 exact q _ _ [p] s ⟨p,xs,rfl,bi,h.mono s.tupS.tup,rfl⟩ (List.pairwise_singleton _ _) fun a ha=>by rw[List.mem_singleton.mp ha];exact hp
theorem Out.t {H:Hp}{ds:List Im}{xs:List V}{Q:VK}{p:Addr} (q:Out H (.im (.tup ds)) Q) (hp:H p=none) (h:aj H ds xs):Q (.ref p) (upd H p (.tup xs)):=by
 have s:ax H (upd H p (.tup xs)):=(ax.refl H).upd hp
 exact q.imS s ⟨p,xs,rfl,bi,h.mono s.tupS.tup⟩
section
variable {X:Cx}
theorem OpR.imp {f:Value→Value→Sem Value}{r r':R2} (h:OpR X f r) (i:∀ x y H Q,r' x y H Q→r x y H Q):OpR X f r':=fun pins s σ H x y v u Q I rx ry hh=>h pins s σ H x y v u Q I rx ry (i x y H Q hh)
theorem aX.imp {f:Value}{r r':List V→Hp→VK→Prop} (h:aX X f r) (i:∀ xs H Q,r' xs H Q→r xs H Q):aX X f r':=fun pins s σ H xs us Q I rx hh=>h pins s σ H xs us Q I rx (i xs H Q hh)
theorem IxR.imp {r r':R2} (h:IxR X r) (i:∀ x y H Q,r' x y H Q→r x y H Q):IxR X r':=fun e1 e2 pins s σ H x y v u Q I rx ry hh=>h e1 e2 pins s σ H x y v u Q I rx ry (i x y H Q hh)
theorem Rdb.i {H:Hp}{d:Im}{v:V} (h:Rdb H (.im d) v):IsI H d v:=h.elim fun _ w=>w.1
end
noncomputable abbrev Op2:=Vl→Vl→Option Vl
@[simp] noncomputable def cE (C:Int→Int→Bool) (g:Int→Int→Im):Op2:=fun a b=>match a,b with
 | .im (.int i),.im (.int j)=>if C i j=true then some (.im (g i j)) else none
 | _,_=>none
theorem n3 {C:Int→Int→Bool}{g:Int→Int→Im}{a b d:Vl} (h:cE C g a b=some d):∃ i j,a=.im (.int i)∧b=.im (.int j)∧C i j=true∧d=.im (g i j):=by
 unfold cE at h
 split at h
 ·rename_i i j
  split at h
  ·rename_i hc
   cases h
   exact⟨i,j,rfl,rfl,hc,rfl⟩
  ·cases h
 ·cases h
section
variable {X:Cx}
theorem i5 {f:Value→Value→Sem Value}{C:Int→Int→Prop}{B:Int→Int→Bool}{g:Int→Int→V}{h:Int→Int→Im} (o:OpR X f (rI C g)) (hB:∀ i j,B i j=true→C i j) (hg:∀ H i j,IsI H (h i j) (g i j)):OpV X f (cE B h):=
 o.imp fun x y H Q ⟨d1,d2,d,r1,r2,e,q⟩=>by
  obtain⟨i,j,rfl,rfl,hc,rfl⟩:=n3 e
  exact⟨i,j,r1.i,r2.i,hB i j hc,Out.i q (hg H i j)⟩
theorem gS {f:Value→Value→Sem Value}{g:Int→Int→V}{h:Int→Int→Im} (o:OpR X f (rI0 g)) (hg:∀ H i j,IsI H (h i j) (g i j)):OpV X f (cE (fun _ _=>true) h):=
 o.imp fun x y H Q ⟨d1,d2,d,r1,r2,e,q⟩=>by
  obtain⟨i,j,rfl,rfl,hc,rfl⟩:=n3 e
  exact⟨i,j,r1.i,r2.i,Out.i q (hg H i j)⟩
@[simp] noncomputable def vSub:Op2:=cE (fun _ _=>true) fun i j=>.int (i - j)
noncomputable def bH (i j:Int):Bool:=!(decide (Builtin.Int.intBits i > shortFactorBits) && decide (Builtin.Int.intBits j > shortFactorBits) && Builtin.Int.intTooBig (Builtin.Int.intBits i+Builtin.Int.intBits j))
@[simp] noncomputable def vMul:Op2:=cE bH fun i j=>.int (i * j)
@[simp] noncomputable def vDiv:Op2:=cE (fun _ j=>decide (0<j∧j<1073741824)) fun i j=>.int (i / j)
@[simp] noncomputable def vMod:Op2:=cE (fun _ j=>decide (0<j)) fun i j=>.int (i % j)
@[simp] noncomputable def vPow:Op2:=cE (fun i j=>decide (0≤j∧j≤1000000∧i.natAbs<2 ^ 64)) fun i j=>.int (i ^ j.toNat)
@[simp] noncomputable def vLt:Op2:=cE (fun _ _=>true) fun i j=>.bl (decide (i<j))
@[simp] noncomputable def vLe:Op2:=cE (fun _ _=>true) fun i j=>.bl (decide (i≤j))
@[simp] noncomputable def vGt:Op2:=cE (fun _ _=>true) fun i j=>.bl (decide (j<i))
@[simp] noncomputable def vGe:Op2:=cE (fun _ _=>true) fun i j=>.bl (decide (j≤i))
theorem fV:OpV X (binaryOp .Sub) vSub:=gS sV fun _ _ _=>rfl
theorem cY:OpV X (binaryOp .Mult) vMul:=i5 vG (fun i j h=>by unfold bH at h;unfold IntMulOk;rw[Bool.not_eq_true'] at h;rw[h];exact Bool.false_ne_true) fun _ _ _=>rfl
theorem i6:OpV X (binaryOp .FloorDiv) vDiv:=i5 sW (fun i j h=>show 0<j∧j<1073741824 from of_decide_eq_true h) fun _ _ _=>rfl
theorem dB:OpV X (binaryOp .Mod) vMod:=i5 sX (fun i j h=>of_decide_eq_true h) fun _ _ _=>rfl
theorem i7:OpV X (binaryOp .Pow) vPow:=i5 sY (fun i j h=>show 0≤j∧j≤1000000∧i.natAbs<2 ^ 64 from of_decide_eq_true h) fun _ _ _=>rfl
theorem n4:OpV X (compareOp .Lt) vLt:=gS tf fun _ _ _=>rfl
theorem gU:OpV X (compareOp .LtE) vLe:=gS tj fun _ _ _=>rfl
theorem n5:OpV X (compareOp .Gt) vGt:=gS tm fun _ _ _=>rfl
theorem v4:OpV X (compareOp .GtE) vGe:=gS tq fun _ _ _=>rfl
theorem v6:OpR X (binaryOp .Add) (fun x y H Q=>∃ a b ys,x=.ref a∧y=.ref b∧SqT X.K H a []∧SqT X.K H b ys∧Q (.ref b) H):=by
 intro pins s σ H x y v u Q I rx ry h
 obtain⟨a,b,ys,rfl,rfl,ha,hb,q⟩:=h
 cases rx
 cases ry
 obtain⟨its,r1,p1,_⟩:=I.tuple ha
 obtain⟨its2,r2,p2,_⟩:=I.tuple hb
 have e:its=[]:=r1.nil_iff.mpr rfl
 subst e
 obtain⟨⟨cls,dd,data,sl⟩,ho,hc,n,hd⟩:=id p1
 obtain⟨⟨cls2,dd2,data2,sl2⟩,ho2,hc2,n2,hd2⟩:=id p2
 simp only at hc hd hc2 hd2
 subst hc hd hc2 hd2
 exact concat_meets ⟨_,ho,rfl⟩ ⟨_,ho2,rfl⟩ noFill_tuple_add seq_tuple_add PySem.F.slot_tuple_add PySem.F.entry_tuple_add (PySem.F.args_tuple_add_2 _ _) (tuple_addW0 a b _ _ n n2 dd dd2 sl sl2 rfl) ⟨ho,ho2,.ref b,H,I,rfl,q⟩
@[simp] noncomputable def vAdd:Op2:=fun a b=>match a,b with
 | .im (.int i),.im (.int j)=>some (.im (.int (i+j)))
 | .im (.tup x),.im (.tup y)=>if x.length+y.length≤100000 then some (.im (.tup (x++y))) else none
 | .lst x,.lst y=>if x.length+y.length≤100000 then some (.lst (x++y)) else none
 | .im (.str x),.im (.str y)=>if x.length+y.length≤100000 then some (.im (.str (x++y))) else none
 | _,_=>none
theorem aj.app {H:Hp}:∀ {a b:List Im}{x y:List V},aj H a x→aj H b y→aj H (a++b) (x++y)
 | [],b,x,y,h,k=>by cases (show x=[] from h);exact k
 | d::a,b,x,y,h,k=>by
  obtain⟨v,r,rfl,h1,h2⟩:=h
  exact⟨v,r++y,rfl,h1,h2.app k⟩
theorem aj.nil {H:Hp}{a:List Im} (h:aj H a []):a=[]:=by
 cases a with
 | nil=>rfl
 | cons d a=>obtain⟨_,_,e,_⟩:=h;cases e
theorem aC:OpV X (binaryOp .Add) vAdd:=by
 refine (sU.or (v6.or (um.or (uJ.or tK)))).imp fun x y H Q ⟨d1,d2,d,r1,r2,e,q⟩=>?_
 unfold vAdd at e
 split at e
 ·cases e
  exact .inl ⟨_,_,r1.i,r2.i,Out.i q rfl⟩
 ·rename_i a b
  split at e
  ·rename_i hl
   cases e
   obtain⟨p,xs,rfl,h1,h2⟩:=r1.i
   obtain⟨p',ys,rfl,h3,h4⟩:=r2.i
   refine .inr ?_
   by_cases hx:xs=[]
   ·subst hx
    cases h2.nil
    exact .inl ⟨p,p',ys,rfl,rfl,SqT.of h1,SqT.of h3,Out.i q ⟨p',ys,rfl,h3,h4⟩⟩
   ·refine .inr (.inl ⟨p,p',xs,ys,rfl,rfl,SqT.of h1,SqT.of h3,hx,fe (by rw[← h2.length,← h4.length];exact hl),fun hy=>?_,fun hy n hn=>Out.t q hn (h2.app h4)⟩)
    subst hy
    cases h4.nil
    rw[List.append_nil] at q
    exact Out.i q ⟨p,xs,rfl,h1,h2⟩
  ·cases e
 ·rename_i a b
  split at e
  ·rename_i hl
   cases e
   obtain⟨_,p,xs,rfl,h1,h2,_⟩:=r1
   obtain⟨_,p',ys,rfl,h3,h4,_⟩:=r2
   exact .inr (.inr (.inr (.inl ⟨p,p',xs,ys,rfl,rfl,h1,h3,fe (by rw[← h2.length,← h4.length];exact hl),fun n hn=>Out.l q hn (h2.app h4)⟩)))
  ·cases e
 ·rename_i a b
  split at e
  ·rename_i hl
   cases e
   exact .inr (.inr (.inr (.inr ⟨a,b,r1.i,r2.i,fe hl,Out.i q rfl⟩)))
  ·cases e
 ·cases e
theorem v7 {s:Shared} (n:Nat) {A:Around}{x y:Im}{u v:Value} (kx:Im.pl n x=true) (ky:Im.pl n y=true) (hu:A.units+n+2<cLine) (hx:ImV s.heap x u) (hy:ImV s.heap y v):SeqAt.RcAt A s u v (aw x y):=by
 cases x with
 | non=>
  cases (show u=.none from hx)
  cases y with
  | non=>cases (show v=.none from hy);exact SeqAt.RcAt.none_none
  | bl b=>cases (show v=.bool b from hy);exact SeqAt.RcAt.none_bool b
  | int j=>obtain⟨t,rfl⟩:=hy;exact SeqAt.RcAt.none_int j t
  | str z=>obtain⟨t,rfl⟩:=hy;exact SeqAt.RcAt.none_str z t
  | tup ds=>obtain⟨a,o,items,m,rfl,h1,h2,h3,_⟩:=hy;exact SeqAt.RcAt.none_tuple ⟨o,h1,h2,m,h3⟩ (by lia)
  | fn a=>cases n<;>cases ky
  | fl a=>cases n<;>cases ky
  | fd=>cases n<;>cases ky
 | bl b=>
  cases (show u=.bool b from hx)
  cases y with
  | non=>cases (show v=.none from hy);exact SeqAt.RcAt.bool_none b
  | bl c=>cases (show v=.bool c from hy);exact SeqAt.RcAt.bool_bool b c
  | int j=>obtain⟨t,rfl⟩:=hy;exact SeqAt.RcAt.bool_int b j t
  | str z=>obtain⟨t,rfl⟩:=hy;exact SeqAt.RcAt.bool_str b z t
  | tup ds=>obtain⟨a,o,items,m,rfl,h1,h2,h3,_⟩:=hy;exact SeqAt.RcAt.bool_tuple b ⟨o,h1,h2,m,h3⟩ (by lia)
  | fn a=>cases n<;>cases ky
  | fl a=>cases n<;>cases ky
  | fd=>cases n<;>cases ky
 | int i=>
  obtain⟨t0,rfl⟩:=hx
  cases y with
  | non=>cases (show v=.none from hy);exact SeqAt.RcAt.int_none i t0
  | bl c=>cases (show v=.bool c from hy);exact SeqAt.RcAt.int_bool i t0 c
  | int j=>obtain⟨t,rfl⟩:=hy;exact SeqAt.RcAt.int_int i t0 j t
  | str z=>obtain⟨t,rfl⟩:=hy;exact SeqAt.RcAt.int_str i t0 z t
  | tup ds=>obtain⟨a,o,items,m,rfl,h1,h2,h3,_⟩:=hy;exact SeqAt.RcAt.int_tuple i t0 ⟨o,h1,h2,m,h3⟩ (by lia)
  | fn a=>cases n<;>cases ky
  | fl a=>cases n<;>cases ky
  | fd=>cases n<;>cases ky
 | str i=>
  obtain⟨t0,rfl⟩:=hx
  cases y with
  | non=>cases (show v=.none from hy);exact SeqAt.RcAt.str_none i t0
  | bl c=>cases (show v=.bool c from hy);exact SeqAt.RcAt.str_bool i t0 c
  | int j=>obtain⟨t,rfl⟩:=hy;exact SeqAt.RcAt.str_int i t0 j t
  | str z=>obtain⟨t,rfl⟩:=hy;exact SeqAt.RcAt.str_str i t0 z t
  | tup ds=>obtain⟨a,o,items,m,rfl,h1,h2,h3,_⟩:=hy;exact SeqAt.RcAt.str_tuple i t0 ⟨o,h1,h2,m,h3⟩ (by lia)
  | fn a=>cases n<;>cases ky
  | fl a=>cases n<;>cases ky
  | fd=>cases n<;>cases ky
 | fn a=>cases n<;>cases kx
 | fl a=>cases n<;>cases kx
 | fd=>cases n<;>cases kx
 | tup ds=>
  cases n with
  | zero=>cases kx
  | succ n=>
  obtain⟨a,o,items,m,rfl,h1,h2,h3,h4⟩:=hx
  have ta:s.heap.IsTuple a items:=⟨o,h1,h2,m,h3⟩
  cases y with
  | non=>cases (show v=.none from hy);exact SeqAt.RcAt.tuple_none ta (by lia)
  | bl c=>cases (show v=.bool c from hy);exact SeqAt.RcAt.tuple_bool c ta (by lia)
  | int j=>obtain⟨t,rfl⟩:=hy;exact SeqAt.RcAt.tuple_int j t ta (by lia)
  | str z=>obtain⟨t,rfl⟩:=hy;exact SeqAt.RcAt.tuple_str z t ta (by lia)
  | fn a=>cases ky
  | fl a=>cases ky
  | fd=>cases ky
  | tup es=>
   obtain⟨b,o',items',m',rfl,g1,g2,g3,g4⟩:=hy
   have tb:s.heap.IsTuple b items':=⟨o',g1,g2,m',g3⟩
   have l1:=h4.length
   have l2:=g4.length
   have l3:items.toList.length=items.size:=by simp
   have l4:items'.toList.length=items'.size:=by simp
   rw[l3] at l1
   rw[l4] at l2
   have q:=SeqAt.RcAt.tuples (A:=A) (e:=fun j=>aw (ds.getD j .non) (es.getD j .non)) ta tb (by lia) fun j j1 j2=>by
    obtain⟨d1,e1,r1⟩:=h4.get (j:=j) (v:=items[j]) (by rw[Array.getElem?_toList];simp[j1])
    obtain⟨d2,e2,r2⟩:=g4.get (j:=j) (v:=items'[j]) (by rw[Array.getElem?_toList];simp[j2])
    rw[List.getD_eq_getElem?_getD,e1,List.getD_eq_getElem?_getD,e2]
    exact c7 n (cU kx e1) (cU ky e2) (by show A.units+1+n+1<cLine;lia) r1 r2
   rw[← l1,← l2,gC (ds:=ds) (es:=es) (fun j x y a b=>by rw[List.getD_eq_getElem?_getD,a,List.getD_eq_getElem?_getD,b];rfl)] at q
   rw[aw]
   exact q
@[simp] noncomputable def vEq:Op2:=fun a b=>match a,b with
 | .im x,.im y=>if (Im.pl 8 x && Im.pl 8 y)=true then some (.im (.bl (aw x y))) else none
 | .lst x,.lst y=>if (Im.pls 8 x && Im.pls 8 y)=true then some (.im (.bl (bn x y))) else none
 | _,_=>none
theorem kA:∀ {x y:List Im},x.length≠y.length→bn x y=false
 | [],[],h=>absurd rfl h
 | [],_::_,_=>rfl
 | _::_,[],_=>rfl
 | a::x,b::y,h=>by
  rw[bn,kA (fun e=>h (by rw[List.length_cons,List.length_cons,e])),Bool.and_false]
theorem gW {pins:List (Addr×Obj)}{σ:St}{H:Hp}{s:Shared} (I:Inv X pins σ H s) {a:Addr}{xs:List V}{ds:List Im} (h1:H a=some (.lst xs)) (h2:aj H ds xs):∃ its:List Value,s.heap.IsList a its.toArray∧aD s.heap ds its∧its.length=ds.length:=by
 obtain⟨z,its,n,rv,e⟩:=I.hok a _ h1
 have:=h2.imv I.hok rv
 exact⟨its,⟨_,e,rfl,n,rfl⟩,this,this.length.symm⟩
theorem fj (hu:X.A.units+20<cLine):OpV X (compareOp .Eq) vEq:=by
 intro pins s σ H x y v u Q I rx ry ⟨d1,d2,d,r1,r2,e,q⟩
 unfold vEq at e
 split at e
 ·rename_i a b
  split at e
  ·rename_i hp
   cases e
   rw[Bool.and_eq_true] at hp
   exact v7 8 hp.1 hp.2 (by lia) (r1.i.imv I.hok rx) (r2.i.imv I.hok ry) X.prog X.w _ _ ⟨.bl _,H,I,rfl,Out.i q rfl⟩
  ·cases e
 ·rename_i a b
  split at e
  ·rename_i hp
   cases e
   rw[Bool.and_eq_true] at hp
   obtain⟨_,p,xs,rfl,h1,h2,_⟩:=r1
   obtain⟨_,p',ys,rfl,h3,h4,_⟩:=r2
   cases rx
   cases ry
   obtain⟨i1,l1,v1,n1⟩:=gW I h1 h2
   obtain⟨i2,l2,v2,n2⟩:=gW I h3 h4
   by_cases hl:a.length=b.length
   ·have:=SeqAt.RcAt.lists (A:=X.A) (e:=fun j=>aw (a.getD j .non) (b.getD j .non)) l1 l2 (by rw[List.size_toArray,List.size_toArray,n1,n2];exact hl) (by lia) fun j j1 j2=>by
     obtain⟨d1,e1,r1⟩:=v1.get (j:=j) (v:=i1.toArray[j]) (by simp at j1;simp[j1])
     obtain⟨d2,e2,r2⟩:=v2.get (j:=j) (v:=i2.toArray[j]) (by simp at j2;simp[j2])
     rw[List.getD_eq_getElem?_getD,e1,List.getD_eq_getElem?_getD,e2]
     exact c7 8 (cU hp.1 e1) (cU hp.2 e2) (by show X.A.units+1+8+1<cLine;lia) r1 r2
    refine this X.prog X.w _ _ ⟨.bl _,H,I,rfl,?_⟩
    have e5:=gC (ds:=a) (es:=b) (e:=fun j=>aw (a.getD j .non) (b.getD j .non)) (fun j x y a b=>by rw[List.getD_eq_getElem?_getD,a,List.getD_eq_getElem?_getD,b];rfl)
    rw[← hl,Nat.min_self,beq_self_eq_true,Bool.and_true] at e5
    rw[List.size_toArray,n1,e5]
    exact Out.i q rfl
   ·refine SeqAt.RcAt.lists_lengths (A:=X.A) l1 l2 (by rw[List.size_toArray,List.size_toArray,n1,n2];simpa using hl) (by lia) X.prog X.w _ _ ⟨.bl _,H,I,rfl,?_⟩
    rw[kA hl] at q
    exact Out.i q rfl
  ·cases e
 ·cases e
end
section
variable {X:Cx}
theorem v9 {s:Shared} (n:Nat) {A:Around}{x y:Im}{u v:Value} (kx:Im.pl n x=true) (ky:Im.pl n y=true) (hu:A.units+n+2<cLine) (hx:ImV s.heap x u) (hy:ImV s.heap y v):SeqAt.RcNeAt A s u v (!aw x y):=by
 cases x with
 | non=>
  cases (show u=.none from hx)
  cases y with
  | non=>cases (show v=.none from hy);exact SeqAt.RcNeAt.none_none
  | bl b=>cases (show v=.bool b from hy);exact SeqAt.RcNeAt.none_bool b
  | int j=>obtain⟨t,rfl⟩:=hy;exact SeqAt.RcNeAt.none_int j t
  | str z=>obtain⟨t,rfl⟩:=hy;exact SeqAt.RcNeAt.none_str z t
  | tup ds=>obtain⟨a,o,items,m,rfl,h1,h2,h3,_⟩:=hy;exact SeqAt.RcNeAt.none_tuple ⟨o,h1,h2,m,h3⟩ (by lia)
  | fn a=>cases n<;>cases ky
  | fl a=>cases n<;>cases ky
  | fd=>cases n<;>cases ky
 | bl b=>
  cases (show u=.bool b from hx)
  cases y with
  | non=>cases (show v=.none from hy);exact SeqAt.RcNeAt.bool_none b
  | bl c=>cases (show v=.bool c from hy);exact SeqAt.RcNeAt.bool_bool b c
  | int j=>obtain⟨t,rfl⟩:=hy;exact SeqAt.RcNeAt.bool_int b j t
  | str z=>obtain⟨t,rfl⟩:=hy;exact SeqAt.RcNeAt.bool_str b z t
  | tup ds=>obtain⟨a,o,items,m,rfl,h1,h2,h3,_⟩:=hy;exact SeqAt.RcNeAt.bool_tuple b ⟨o,h1,h2,m,h3⟩ (by lia)
  | fn a=>cases n<;>cases ky
  | fl a=>cases n<;>cases ky
  | fd=>cases n<;>cases ky
 | int i=>
  obtain⟨t0,rfl⟩:=hx
  cases y with
  | non=>cases (show v=.none from hy);exact SeqAt.RcNeAt.int_none i t0
  | bl c=>cases (show v=.bool c from hy);exact SeqAt.RcNeAt.int_bool i t0 c
  | int j=>obtain⟨t,rfl⟩:=hy;exact SeqAt.RcNeAt.int_int i t0 j t
  | str z=>obtain⟨t,rfl⟩:=hy;exact SeqAt.RcNeAt.int_str i t0 z t
  | tup ds=>obtain⟨a,o,items,m,rfl,h1,h2,h3,_⟩:=hy;exact SeqAt.RcNeAt.int_tuple i t0 ⟨o,h1,h2,m,h3⟩ (by lia)
  | fn a=>cases n<;>cases ky
  | fl a=>cases n<;>cases ky
  | fd=>cases n<;>cases ky
 | str i=>
  obtain⟨t0,rfl⟩:=hx
  cases y with
  | non=>cases (show v=.none from hy);exact SeqAt.RcNeAt.str_none i t0
  | bl c=>cases (show v=.bool c from hy);exact SeqAt.RcNeAt.str_bool i t0 c
  | int j=>obtain⟨t,rfl⟩:=hy;exact SeqAt.RcNeAt.str_int i t0 j t
  | str z=>obtain⟨t,rfl⟩:=hy;exact SeqAt.RcNeAt.str_str i t0 z t
  | tup ds=>obtain⟨a,o,items,m,rfl,h1,h2,h3,_⟩:=hy;exact SeqAt.RcNeAt.str_tuple i t0 ⟨o,h1,h2,m,h3⟩ (by lia)
  | fn a=>cases n<;>cases ky
  | fl a=>cases n<;>cases ky
  | fd=>cases n<;>cases ky
 | fn a=>cases n<;>cases kx
 | fl a=>cases n<;>cases kx
 | fd=>cases n<;>cases kx
 | tup ds=>
  cases n with
  | zero=>cases kx
  | succ n=>
  obtain⟨a,o,items,m,rfl,h1,h2,h3,h4⟩:=hx
  have ta:s.heap.IsTuple a items:=⟨o,h1,h2,m,h3⟩
  cases y with
  | non=>cases (show v=.none from hy);exact SeqAt.RcNeAt.tuple_none ta (by lia)
  | bl c=>cases (show v=.bool c from hy);exact SeqAt.RcNeAt.tuple_bool c ta (by lia)
  | int j=>obtain⟨t,rfl⟩:=hy;exact SeqAt.RcNeAt.tuple_int j t ta (by lia)
  | str z=>obtain⟨t,rfl⟩:=hy;exact SeqAt.RcNeAt.tuple_str z t ta (by lia)
  | fn a=>cases ky
  | fl a=>cases ky
  | fd=>cases ky
  | tup es=>
   obtain⟨b,o',items',m',rfl,g1,g2,g3,g4⟩:=hy
   have tb:s.heap.IsTuple b items':=⟨o',g1,g2,m',g3⟩
   have l1:=h4.length
   have l2:=g4.length
   have l3:items.toList.length=items.size:=by simp
   have l4:items'.toList.length=items'.size:=by simp
   rw[l3] at l1
   rw[l4] at l2
   have q:=SeqAt.RcNeAt.tuples (A:=A) (e:=fun j=>aw (ds.getD j .non) (es.getD j .non)) ta tb (by lia) fun j j1 j2=>by
    obtain⟨d1,e1,r1⟩:=h4.get (j:=j) (v:=items[j]) (by rw[Array.getElem?_toList];simp[j1])
    obtain⟨d2,e2,r2⟩:=g4.get (j:=j) (v:=items'[j]) (by rw[Array.getElem?_toList];simp[j2])
    rw[List.getD_eq_getElem?_getD,e1,List.getD_eq_getElem?_getD,e2]
    exact c7 n (cU kx e1) (cU ky e2) (by show A.units+1+n+1<cLine;lia) r1 r2
   rw[← l1,← l2,gC (ds:=ds) (es:=es) (fun j x y a b=>by rw[List.getD_eq_getElem?_getD,a,List.getD_eq_getElem?_getD,b];rfl)] at q
   rw[aw]
   exact q
@[simp] noncomputable def vNe:Op2:=fun a b=>match a,b with
 | .im x,.im y=>if (Im.pl 8 x && Im.pl 8 y)=true then some (.im (.bl (!aw x y))) else none
 | .lst x,.lst y=>if (Im.pls 8 x && Im.pls 8 y)=true then some (.im (.bl (!bn x y))) else none
 | _,_=>none
theorem n6 (hu:X.A.units+20<cLine):OpV X (compareOp .NotEq) vNe:=by
 intro pins s σ H x y v u Q I rx ry ⟨d1,d2,d,r1,r2,e,q⟩
 unfold vNe at e
 split at e
 ·rename_i a b
  split at e
  ·rename_i hp
   cases e
   rw[Bool.and_eq_true] at hp
   exact v9 8 hp.1 hp.2 (by lia) (r1.i.imv I.hok rx) (r2.i.imv I.hok ry) X.prog X.w _ _ ⟨.bl _,H,I,rfl,Out.i q rfl⟩
  ·cases e
 ·rename_i a b
  split at e
  ·rename_i hp
   cases e
   rw[Bool.and_eq_true] at hp
   obtain⟨_,p,xs,rfl,h1,h2,_⟩:=r1
   obtain⟨_,p',ys,rfl,h3,h4,_⟩:=r2
   cases rx
   cases ry
   obtain⟨i1,l1,v1,n1⟩:=gW I h1 h2
   obtain⟨i2,l2,v2,n2⟩:=gW I h3 h4
   by_cases hl:a.length=b.length
   ·have:=SeqAt.RcNeAt.lists (A:=X.A) (e:=fun j=>aw (a.getD j .non) (b.getD j .non)) l1 l2 (by rw[List.size_toArray,List.size_toArray,n1,n2];exact hl) (by lia) fun j j1 j2=>by
     obtain⟨d1,e1,r1⟩:=v1.get (j:=j) (v:=i1.toArray[j]) (by simp at j1;simp[j1])
     obtain⟨d2,e2,r2⟩:=v2.get (j:=j) (v:=i2.toArray[j]) (by simp at j2;simp[j2])
     rw[List.getD_eq_getElem?_getD,e1,List.getD_eq_getElem?_getD,e2]
     exact c7 8 (cU hp.1 e1) (cU hp.2 e2) (by show X.A.units+1+8+1<cLine;lia) r1 r2
    refine this X.prog X.w _ _ ⟨.bl _,H,I,rfl,?_⟩
    have e5:=gC (ds:=a) (es:=b) (e:=fun j=>aw (a.getD j .non) (b.getD j .non)) (fun j x y a b=>by rw[List.getD_eq_getElem?_getD,a,List.getD_eq_getElem?_getD,b];rfl)
    rw[← hl,Nat.min_self,beq_self_eq_true,Bool.and_true] at e5
    rw[List.size_toArray,n1,e5]
    exact Out.i q rfl
   ·refine SeqAt.RcNeAt.lists_lengths (A:=X.A) l1 l2 (by rw[List.size_toArray,List.size_toArray,n1,n2];simpa using hl) (by lia) X.prog X.w _ _ ⟨.bl _,H,I,rfl,?_⟩
    rw[kA hl] at q
    exact Out.i q rfl
  ·cases e
 ·cases e
@[simp] noncomputable def oIs (n:Bool):Op2:=fun a b=>match a,b with
 | .im x,.im .non=>some (.im (.bl (n != decide (x=.non))))
 | .im (.bl x),.im (.bl y)=>some (.im (.bl (n != (x == y))))
 | _,_=>none
theorem n9 {H:Hp}{d:Im}{v:V} (h:IsI H d v):decide (v=.non)=decide (d=.non):=by
 cases d with
 | non=>cases (show v=.non from h);rfl
 | bl b=>cases (show v=.bl b from h);rfl
 | int b=>cases (show v=.int b from h);rfl
 | str b=>cases (show v=.str b from h);rfl
 | fn b=>cases (show v=.ref b from h);rfl
 | tup ds=>obtain⟨a,xs,rfl,_⟩:=h;rfl
 | fl ds=>obtain⟨a,xs,o,rfl,_⟩:=h;rfl
 | fd=>obtain⟨a,o,rfl,_⟩:=h;rfl
theorem we:OpR X (compareOp .Is) (fun x y H Q=>∃ a b,x=.bl a∧y=.bl b∧Q (.bl (a == b)) H):=by
 intro pins s σ H x y v u Q I rx ry ⟨a,b,e1,e2,q⟩
 subst e1 e2
 cases rx
 cases ry
 refine wpAny_is_plain (by cases a<;>cases b<;>rfl) ⟨.bl (a == b),H,I,?_,q⟩
 cases a<;>cases b<;>rfl
theorem wf:OpR X (compareOp .IsNot) (fun x y H Q=>∃ a b,x=.bl a∧y=.bl b∧Q (.bl (!(a == b))) H):=by
 intro pins s σ H x y v u Q I rx ry ⟨a,b,e1,e2,q⟩
 subst e1 e2
 cases rx
 cases ry
 refine wpAny_isNot_plain (by cases a<;>cases b<;>rfl) ⟨.bl (!(a == b)),H,I,?_,q⟩
 cases a<;>cases b<;>rfl
theorem wg:OpV X (compareOp .Is) (oIs false):=by
 refine (tu.or we).imp fun x y H Q ⟨d1,d2,d,r1,r2,e,q⟩=>?_
 unfold oIs at e
 split at e
 ·rename_i a
  cases e
  refine .inl ⟨r2.i,?_⟩
  rw[n9 r1.i]
  refine Out.i q ?_
  show _=_
  rw[Bool.false_bne]
 ·cases e
  refine .inr ⟨_,_,r1.i,r2.i,Out.i q ?_⟩
  show _=_
  rw[Bool.false_bne]
 ·cases e
theorem wj:OpV X (compareOp .IsNot) (oIs true):=by
 refine (tw.or wf).imp fun x y H Q ⟨d1,d2,d,r1,r2,e,q⟩=>?_
 unfold oIs at e
 split at e
 ·rename_i a
  cases e
  refine .inl ⟨r2.i,?_⟩
  rw[n9 r1.i]
  refine Out.i q ?_
  show _=_
  rw[Bool.true_bne]
 ·cases e
  refine .inr ⟨_,_,r1.i,r2.i,Out.i q ?_⟩
  show _=_
  rw[Bool.true_bne]
 ·cases e
noncomputable def bC {κ:Type} [DecidableEq κ] (kvs:List (κ×Im)) (k:κ):Option Im:=(kvs.find? fun p=>decide (p.1=k)).map (·.2)
theorem fW {κ:Type} [DecidableEq κ] {H:Hp}{k:κ}:∀ {kvs:List (κ×Im)}{kws:List (κ×V)},PKv H kvs kws→(∀ d,bC kvs k=some d→∃ v,bT kws k=some v∧IsI H d v)∧(bC kvs k=none→bT kws k=none)
 | _,_,.nil=>⟨(fun d e=>by cases e),(fun _=>rfl)⟩
 | _,_,.cons (a:=p) (b:=q) h t=>by
  obtain⟨h1,h2⟩:=fW (k:=k) t
  by_cases e:p.1=k
  ·have e':q.1=k:=h.1.symm.trans e
   refine⟨fun d hd=>?_,fun hn=>?_⟩
   ·have:∀ r,bC (p::r) k=some p.2:=fun r=>by simp[bC,List.find?_cons,e]
    rw[this] at hd
    cases hd
    exact⟨q.2,iH e',h.2⟩
   ·have:∀ r,bC (p::r) k=some p.2:=fun r=>by simp[bC,List.find?_cons,e]
    rw[this] at hn
    cases hn
  ·have e':¬ q.1=k:=fun z=>e (h.1.trans z)
   have:∀ r,bC (p::r) k=bC r k:=fun r=>by simp[bC,List.find?_cons,e]
   rw[this,iJ e']
   exact⟨h1,h2⟩
@[simp] noncomputable def vIx:Op2:=fun a b=>match a,b with
 | .im (.tup ds),.im (.int i)=>(atI ds i).map .im
 | .lst ds,.im (.int i)=>(atI ds i).map .im
 | .fz ds,.im (.int i)=>(atI ds i).map .im
 | .dT kvs,.im (.tup k)=>if Im.keys 7 k=true then (bC kvs k).map .im else none
 | .dK kvs,.im (.int i)=>(bC kvs (.inl i)).map .im
 | .dK kvs,.im (.str i)=>(bC kvs (.inr i)).map .im
 | _,_=>none
theorem wl (hu:X.A.units+20<cLine):IxR X (fun x y H Q=>∃ a v,x=.ref a∧cj H a y (some v)∧Q v H):=by
 intro value slice pins s σ H x y v u Q I rx ry ⟨a,z,e,g,q⟩ hs
 subst e
 cases rx
 exact tail_any (uP I g) PySem.F.slot_dict_getitem.lookup (uM hu I g ry fun w' s3 I3 rw'=>⟨z,H,I3,rw',q⟩) hs
theorem kC {H:Hp}{ds:List Im}{xs:List V}{i:Int}{d:Im} (h:aj H ds xs) (e:atI ds i=some d):∃ v,atI xs i=some v∧IsI H d v:=by
 unfold atI at e ⊢
 rw[← h.length]
 obtain⟨j,e1,e2⟩:=Option.bind_eq_some_iff.mp e
 obtain⟨v,g1,g2⟩:=h.get e2
 exact⟨v,by rw[e1];exact g1,g2⟩
theorem b7 (hu:X.A.units+20<cLine):IxR X (fun x y H Q=>∃ d1 d2 d,Rdb H d1 x∧Rdb H d2 y∧vIx d1 d2=some d∧∀ v H' R,ax H H'→Own H' d v R→R.Nodup→(∀ a∈R,H a=none)→Q v H'):=by
 refine (ut.or (uu.or (wl hu))).imp fun x y H Q ⟨d1,d2,d,r1,r2,e,q⟩=>?_
 unfold vIx at e
 split at e
 ·obtain⟨d',e1,e2⟩:=Option.map_eq_some_iff.mp e
  cases e2
  obtain⟨p,xs,rfl,h1,h2⟩:=r1.i
  obtain⟨v,g1,g2⟩:=kC h2 e1
  exact .inr (.inl ⟨p,xs,_,v,rfl,r2.i,SqT.of h1,g1,Out.i q g2⟩)
 ·obtain⟨d',e1,e2⟩:=Option.map_eq_some_iff.mp e
  cases e2
  obtain⟨_,p,xs,rfl,h1,h2,_⟩:=r1
  obtain⟨v,g1,g2⟩:=kC h2 e1
  exact .inl ⟨p,xs,_,v,rfl,r2.i,SqL.of h1,g1,Out.i q g2⟩
 ·obtain⟨d',e1,e2⟩:=Option.map_eq_some_iff.mp e
  cases e2
  obtain⟨_,p,xs,o,rfl,h1,h2,_⟩:=r1
  obtain⟨v,g1,g2⟩:=kC h2 e1
  exact .inl ⟨p,xs,_,v,rfl,r2.i,.inl (.inr ⟨o,h1⟩),g1,Out.i q g2⟩
 ·rename_i kvs k
  split at e
  ·rename_i hk
   obtain⟨d',e1,e2⟩:=Option.map_eq_some_iff.mp e
   cases e2
   obtain⟨_,p,kws,rfl,h1,h2,_⟩:=r1
   obtain⟨v,g1,g2⟩:=(fW h2).1 d' e1
   obtain⟨b,xs,rfl,k1,k2⟩:=r2.i
   exact .inr (.inr ⟨p,v,rfl,by rw[← g1];exact cj.t h1 ⟨hk,b,xs,rfl,k1,k2⟩,Out.i q g2⟩)
  ·cases e
 ·rename_i kvs i
  obtain⟨d',e1,e2⟩:=Option.map_eq_some_iff.mp e
  cases e2
  obtain⟨_,p,kws,rfl,h1,h2,_⟩:=r1
  obtain⟨v,g1,g2⟩:=(fW h2).1 d' e1
  refine .inr (.inr ⟨p,v,rfl,?_,Out.i q g2⟩)
  rw[show y=kV (.inl i) from r2.i,← g1]
  exact cj.k h1
 ·rename_i kvs i
  obtain⟨d',e1,e2⟩:=Option.map_eq_some_iff.mp e
  cases e2
  obtain⟨_,p,kws,rfl,h1,h2,_⟩:=r1
  obtain⟨v,g1,g2⟩:=(fW h2).1 d' e1
  refine .inr (.inr ⟨p,v,rfl,?_,Out.i q g2⟩)
  rw[show y=kV (.inr i) from r2.i,← g1]
  exact cj.k h1
 ·cases e
end
end L2
namespace HT
open PySem PySem.Spec PyProof.Rows
section
variable {prog:Program}{w:World}{A:Around}{E:Value→Shared→Prop}{s:Shared}
theorem wm {t sl:Addr}{its:Array Value}{vl vu:Value}{lo hi:Option Int}{Q:Value→Shared→Prop} (p:IsTup s.heap t its) (hs:s.heap.IsSliceOf sl vl vu .none) (pl:IsPart vl lo) (pu:IsPart vu hi)
  (h0:sIx its.size 0 lo=0) (h1:sIx its.size its.size hi=its.size) (q:Q (.ref t) s):wpAny (model prog w) A (getItem (.ref t) (.ref sl)) Q E s:=by
 obtain⟨os,ho,hc,hd⟩:=id hs
 have ty:s.TypeIs (.ref sl) "slice" := ⟨os,ho,hc⟩
 unfold getItem
 try with_reducible refine wpAny_holding ?_
 first | refine wpAny_bind (wpAny_pure ?_) | skip
 refine wpAny_bind (wpAny_sequenceKey p.typeIs (by decide) ?_)
 refine wpAny_bind (wpAny_callSpecial?_slot (name:=Str.ofString "__getitem__") p.typeIs PyProof.Rows.slot_tuple_getitem (wpAny_call_entry PyProof.Rows.slot_tuple_getitem p.typeIs entry_tuple_getitem ?_ (args_tuple_getitem _ _)))
 show wpAny _ _ (Builtin.Tuple.tupleItemsOf (.ref t) >>= _) _ _ s
 refine wpAny_bind (tupleItemsOf_ p ?_)
 refine wpAny_bind (wpAny_typeOf ty ?_)
 rw[if_pos (by decide)]
 refine wpAny_bind (mU hs pl pu ?_)
 rw[h0,h1]
 show wpAny _ _ (if (((0:Nat):Int) == 0 && (1:Int) == 1 && (its.size - 0) == its.size)=true then _ else _) _ _ s
 rw[if_pos (by simp)]
 refine wpAny_bind (m:=Builtin.Tuple.tupleIsExact _) (wpAny_bind (wpAny_typeOf p.typeIs (wpAny_pure ?_)))
 show wpAny _ _ (if (Value.type "tuple" == Value.type "tuple")=true then _ else _) _ _ s
 rw[if_pos (by decide)]
 exact wpAny_bind (wpAny_rule (wpAny_pure ⟨_,rfl,wpAny_pure q⟩))
end
end HT
namespace L2
open PySem PySem.Spec PyProof.Rows
section
variable {X:Cx}
@[simp] noncomputable def fX (g:M Vl):M Vl:=fun D=>(g D).bind fun p=>match p.1 with
 | .im (.int i)=>some (.im (.int (-i)),p.2)
 | _=>none
theorem gX {a:Expr}{g:M Vl}{pos:Pos} (h:VE X a g):VE X (.UnaryOp .USub a pos) (fX g):=by
 refine aR (sR sZ h) fun σ H Q ⟨D,F,r,D',st,nd,hg,q⟩=>?_
 obtain⟨⟨x,D1⟩,h1,h2⟩:=Option.bind_eq_some_iff.mp hg
 refine⟨D,F,x,D1,st,nd,h1,fun v H1 F1 R st1 ow s1=>?_⟩
 dsimp only at h2
 split at h2
 ·rename_i i
  cases h2
  exact⟨i,ow.1,q _ H1 F1 [] st1 ⟨rfl,rfl⟩ (by rw[List.append_nil];exact s1.both)⟩
 ·cases h2
noncomputable def tP (g:M (Option Int)):TO:=fun σ H Q=>∃ D F l D',ai H D σ F∧F.Nodup∧g D=some (l,D')∧∀ H' F',ai H' D' σ F'→Stp H F H' F'→Q l H'
noncomputable def VP (X:Cx) (e:Option Expr) (g:M (Option Int)):Prop:=PO X e (tP g)
theorem oa {e:Option Expr}{t t':TO} (h:PO X e t) (i:∀ σ H Q,t' σ H Q→t σ H Q):PO X e t':=fun pins s σ H Q I hw=>h pins s σ H Q I (i σ H Q hw)
noncomputable def pNone:M (Option Int):=fun D=>some (none,D)
@[simp] noncomputable def di (g:M Vl):M (Option Int):=fun D=>(g D).bind fun p=>match p.1 with
 | .im (.int i)=>some (some i,p.2)
 | _=>none
theorem d0:VP X none pNone:=by
 refine oa ug fun σ H Q ⟨D,F,r,D',st,nd,hg,q⟩=>?_
 cases hg
 exact q H F st (Stp.perm nd (List.Perm.refl _))
theorem d6 {e:Expr}{g:M Vl} (h:VE X e g):VP X (some e) (di g):=by
 refine oa (uh h) fun σ H Q ⟨D,F,r,D',st,nd,hg,q⟩=>?_
 obtain⟨⟨x,D1⟩,h1,h2⟩:=Option.bind_eq_some_iff.mp hg
 refine⟨D,F,x,D1,st,nd,h1,fun v H1 F1 R st1 ow s1=>?_⟩
 dsimp only at h2
 split at h2
 ·rename_i i
  cases h2
  exact⟨i,ow.1,q H1 F1 st1 s1.both⟩
 ·cases h2
noncomputable def cQ {α:Type} (xs:List α) (lo hi:Option Int):List α:=(xs.drop (HT.sIx xs.length 0 lo)).take (HT.sIx xs.length xs.length hi - HT.sIx xs.length 0 lo)
theorem aj.drop {H:Hp}:∀ {ds:List Im}{xs:List V} (n:Nat),aj H ds xs→aj H (ds.drop n) (xs.drop n)
 | ds,xs,0,h=>h
 | [],xs,n+1,h=>by cases (show xs=[] from h);exact rfl
 | d::ds,xs,n+1,h=>by
  obtain⟨v,r,rfl,h1,h2⟩:=h
  exact h2.drop n
theorem aj.take {H:Hp}:∀ {ds:List Im}{xs:List V} (n:Nat),aj H ds xs→aj H (ds.take n) (xs.take n)
 | ds,xs,0,h=>rfl
 | [],xs,n+1,h=>by cases (show xs=[] from h);exact rfl
 | d::ds,xs,n+1,h=>by
  obtain⟨v,r,rfl,h1,h2⟩:=h
  exact⟨v,_,rfl,h1,h2.take n⟩
theorem aj.cut {H:Hp}{ds:List Im}{xs:List V} (lo hi:Option Int) (h:aj H ds xs):aj H (cQ ds lo hi) (dQ xs lo hi):=by
 unfold cQ dQ
 rw[h.length]
 exact (h.drop _).take _
@[simp] noncomputable def vSl (d:Vl) (lo hi:Option Int):Option Vl:=match d with
 | .im (.tup ds)=>some (.im (.tup (cQ ds lo hi)))
 | .lst ds=>some (.lst (cQ ds lo hi))
 | .fz ds=>some (.lst (cQ ds lo hi))
 | _=>none
noncomputable def wn (K:PySem.W.Frag):V→Option Int→Option Int→Hp→VK→Prop:=fun x lo hi H Q=>∃ a xs,x=.ref a∧SqT K H a xs∧HT.sIx xs.length 0 lo=0∧HT.sIx xs.length xs.length hi=xs.length∧Q (.ref a) H
theorem wo:SlR X (fun x lo hi H Q=>∃ d r,Rdb H d x∧vSl d lo hi=some r∧Out H r Q):=by
 have all:SlR X (wn X.K):=by
  intro pins s σ H x v vl vu lo hi sl Q I rx hs pl pu h
  obtain⟨a,xs,rfl,hx,h0,h1,q⟩:=h
  cases rx
  obtain⟨its,r,ht,hz⟩:=I.tuple hx
  have hlen:its.toArray.size=xs.length:=by rw[List.size_toArray];exact r.length.symm
  exact⟨"tuple",_,PyProof.Rows.slot_tuple_getitem.lookup,ht.typeIs,HT.wm ht hs pl pu (by rw[hlen];exact h0) (by rw[hlen];exact h1) ⟨.ref a,H,I,rfl,q⟩⟩
 intro pins s σ H x v vl vu lo hi sl Q I rx hs pl pu ⟨d,r,rd,e,q⟩
 unfold vSl at e
 split at e
 ·rename_i ds
  cases e
  obtain⟨p,xs,rfl,h1,h2⟩:=rd.i
  by_cases hw:HT.sIx xs.length 0 lo=0∧HT.sIx xs.length xs.length hi=xs.length
  ·refine all pins s σ H _ v vl vu lo hi sl Q I rx hs pl pu ⟨p,xs,rfl,SqT.of h1,hw.1,hw.2,Out.i q ⟨p,xs,rfl,h1,?_⟩⟩
   have:cQ ds lo hi=ds:=by
    unfold cQ
    rw[h2.length,hw.1,hw.2,List.drop_zero,Nat.sub_zero,← h2.length,List.take_length]
   rw[this]
   exact h2
  ·exact uk pins s σ H _ v vl vu lo hi sl Q I rx hs pl pu ⟨p,xs,rfl,SqT.of h1,hw,fun n hn=>Out.t q hn (h2.cut lo hi)⟩
 ·cases e
  obtain⟨_,p,xs,rfl,h1,h2,_⟩:=rd
  exact mZ pins s σ H _ v vl vu lo hi sl Q I rx hs pl pu ⟨p,xs,rfl,SqL.of h1,fun n hn=>Out.l q hn (h2.cut lo hi)⟩
 ·cases e
  obtain⟨_,p,xs,o,rfl,h1,h2,_⟩:=rd
  exact mZ pins s σ H _ v vl vu lo hi sl Q I rx hs pl pu ⟨p,xs,rfl,.inl (.inr ⟨o,h1⟩),fun n hn=>Out.l q hn (h2.cut lo hi)⟩
 ·cases e
@[simp] noncomputable def eSl (g:M Opd) (l h:M (Option Int)):M Vl:=fun D=>(g D).bind fun p=>(l p.2).bind fun q=>(h q.2).bind fun r=>(rsl r.2 p.1).bind fun d=>(vSl d q.1 r.1).map fun d'=>(d',r.2)
theorem d7 {e:Expr}{lo hi:Option Expr}{g:M Opd}{gl gh:M (Option Int)}{p2 pos:Pos} (he:VO X e g) (hl:VP X lo gl) (hh:VP X hi gh):VE X (.Subscript e (.Slice lo hi none p2) pos) (eSl g gl gh):=by
 refine aR (ui wo he hl hh) fun σ H Q ⟨D,F,r,D',st,nd,hg,q⟩=>?_
 obtain⟨⟨x,D1⟩,h1,h2⟩:=Option.bind_eq_some_iff.mp hg
 obtain⟨⟨l,D2⟩,h3,h4⟩:=Option.bind_eq_some_iff.mp h2
 obtain⟨⟨u,D3⟩,h5,h6⟩:=Option.bind_eq_some_iff.mp h4
 obtain⟨d,h7,h8⟩:=Option.bind_eq_some_iff.mp h6
 obtain⟨d',h9,h10⟩:=Option.map_eq_some_iff.mp h8
 cases h10
 refine⟨D,F,x,D1,st,nd,h1,fun v H1 F1 R st1 o1 s1=>⟨D1,F1,l,D2,st1,(List.nodup_append.mp s1.nd).1,h3,fun H2 F2 st2 s2=>⟨D2,F2,u,D3,st2,s2.nd,h5,fun H3 F3 st3 s3=>?_⟩⟩⟩
 have s4:=s2.seq s3
 have o3:bW H3 σ x v R:=o1.mono s4.tup fun a ha o e=>s4.keep a o e fun h=>(List.nodup_append.mp s1.nd).2.2 a h a ha rfl
 have s5:=s1.trans s4 o1.chg
 exact⟨d,_,o3.read st3 h7,h9,fun w H4 R4 s6 ow ndR fr=>q w H4 F3 R4 (st3.mono s6.tupS fun a _ o e=>s6 a o e) ow (s5.new s6 ndR fr st3.chg)⟩
noncomputable abbrev OpN:=List Vl→Option Vl
@[simp] noncomputable def vLen:OpN:=fun ds=>match ds with
 | [.im (.tup x)]=>some (.im (.int x.length))
 | [.lst x]=>some (.im (.int x.length))
 | [.fz x]=>some (.im (.int x.length))
 | [.lstM x]=>some (.im (.int x.length))
 | [.dK x]=>some (.im (.int x.length))
 | [.im (.str x)]=>if x.length≤100000 then some (.im (.int x.length)) else none
 | _=>none
theorem bD {H:Hp}{d:Vl}{vs:List V} (h:dW H [d] vs):∃ v,vs=[v]∧Rdb H d v:=by
 obtain⟨v,r,rfl,h1,h2⟩:=h
 cases (show r=[] from h2)
 exact⟨v,rfl,h1⟩
theorem og {H:Hp}{d e:Vl}{vs:List V} (h:dW H [d,e] vs):∃ v u,vs=[v,u]∧Rdb H d v∧Rdb H e u:=by
 obtain⟨v,r,rfl,h1,h2⟩:=h
 obtain⟨u,rfl,h3⟩:=bD h2
 exact⟨v,u,rfl,h1,h3⟩
theorem PKv.length {κ:Type}{H:Hp}{l:List (κ×Im)}{m:List (κ×V)} (h:PKv H l m):l.length=m.length:=Paired.length h
theorem fY:cy X (.builtin "len") vLen:=by
 refine (uB.or (uD.or uX)).imp fun xs H Q ⟨ds,d,rd,e,q⟩=>?_
 unfold vLen at e
 split at e
 ·cases e
  obtain⟨v,rfl,h⟩:=bD rd
  obtain⟨p,xs,rfl,h1,h2⟩:=h.i
  exact .inl ⟨p,xs,rfl,.inr (SqT.of h1),by rw[← h2.length];exact Out.i q rfl⟩
 ·cases e
  obtain⟨v,rfl,_,p,xs,rfl,h1,h2,_⟩:=bD rd
  exact .inl ⟨p,xs,rfl,.inl (SqL.of h1),by rw[← h2.length];exact Out.i q rfl⟩
 ·cases e
  obtain⟨v,rfl,_,p,xs,o,rfl,h1,h2,_⟩:=bD rd
  exact .inl ⟨p,xs,rfl,.inl (.inl (.inr ⟨o,h1⟩)),by rw[← h2.length];exact Out.i q rfl⟩
 ·cases e
  obtain⟨v,rfl,_,p,xs,G,rfl,h1,h2,_⟩:=bD rd
  exact .inl ⟨p,xs,rfl,.inl (SqL.of h1),by rw[← h2.length];exact Out.i q rfl⟩
 ·cases e
  obtain⟨v,rfl,_,p,kws,rfl,h1,h2,_⟩:=bD rd
  exact .inr (.inr ⟨p,kws,rfl,h1,by rw[← h2.length];exact Out.i q rfl⟩)
 ·split at e
  ·rename_i hl
   cases e
   obtain⟨v,rfl,h⟩:=bD rd
   cases (show v=_ from h.i)
   exact .inr (.inl ⟨_,rfl,fe hl,Out.i q rfl⟩)
  ·cases e
 ·cases e
@[simp] noncomputable def vTuple:OpN:=fun ds=>match ds with
 | [d]=>(dY d).map fun x=>.im (.tup x)
 | _=>none
@[simp] noncomputable def vList:OpN:=fun ds=>match ds with
 | [d]=>(dY d).map .lst
 | _=>none
theorem wq:cy X (.type "tuple") vTuple:=by
 refine uF.imp fun xs H Q ⟨ds,d,rd,e,q⟩=>?_
 unfold vTuple at e
 split at e
 ·obtain⟨x,e1,e2⟩:=Option.map_eq_some_iff.mp e
  cases e2
  obtain⟨v,rfl,h⟩:=bD rd
  unfold dY at e1
  split at e1
  ·cases e1
   obtain⟨p,xs,rfl,h1,h2⟩:=h.i
   exact⟨p,xs,rfl,.inr ⟨SqT.of h1,Out.i q ⟨p,xs,rfl,h1,h2⟩⟩⟩
  ·cases e1
   obtain⟨_,p,xs,rfl,h1,h2,_⟩:=h
   exact⟨p,xs,rfl,.inl ⟨SqL.of h1,fun l hl=>Out.t q hl h2⟩⟩
  ·cases e1
   obtain⟨_,p,xs,o,rfl,h1,h2,_⟩:=h
   exact⟨p,xs,rfl,.inl ⟨.inl (.inr ⟨o,h1⟩),fun l hl=>Out.t q hl h2⟩⟩
  ·cases e1
 ·cases e
theorem kD:cy X (.type "list") vList:=by
 refine uE.imp fun xs H Q ⟨ds,d,rd,e,q⟩=>?_
 unfold vList at e
 split at e
 ·obtain⟨x,e1,e2⟩:=Option.map_eq_some_iff.mp e
  cases e2
  obtain⟨v,rfl,h⟩:=bD rd
  unfold dY at e1
  split at e1
  ·cases e1
   obtain⟨p,xs,rfl,h1,h2⟩:=h.i
   exact⟨p,xs,rfl,.inr (SqT.of h1),fun l hl=>Out.l q hl h2⟩
  ·cases e1
   obtain⟨_,p,xs,rfl,h1,h2,_⟩:=h
   exact⟨p,xs,rfl,.inl (SqL.of h1),fun l hl=>Out.l q hl h2⟩
  ·cases e1
   obtain⟨_,p,xs,o,rfl,h1,h2,_⟩:=h
   exact⟨p,xs,rfl,.inl (.inl (.inr ⟨o,h1⟩)),fun l hl=>Out.l q hl h2⟩
  ·cases e1
 ·cases e
@[simp] noncomputable def vInt:OpN:=fun ds=>match ds with
 | [.im (.int i)]=>some (.im (.int i))
 | [.im (.bl b)]=>some (.im (.int (if b then 1 else 0)))
 | _=>none
theorem oh:cy X (.type "int") vInt:=by
 refine tN.imp fun xs H Q ⟨ds,d,rd,e,q⟩=>?_
 unfold vInt at e
 split at e
 ·cases e
  obtain⟨v,rfl,h⟩:=bD rd
  cases (show v=_ from h.i)
  exact .inl ⟨_,rfl,Out.i q rfl⟩
 ·cases e
  obtain⟨v,rfl,h⟩:=bD rd
  cases (show v=_ from h.i)
  exact .inr ⟨_,rfl,Out.i q rfl⟩
 ·cases e
@[simp] noncomputable def vMax2:OpN:=fun ds=>match ds with
 | [.im (.int i),.im (.int j)]=>some (.im (.int (if j > i then j else i)))
 | _=>none
@[simp] noncomputable def vMin2:OpN:=fun ds=>match ds with
 | [.im (.int i),.im (.int j)]=>some (.im (.int (if j<i then j else i)))
 | _=>none
theorem kF (hc:X.calm=true):cy X (.builtin "max") vMax2:=by
 refine (tL hc).imp fun xs H Q ⟨ds,d,rd,e,q⟩=>?_
 unfold vMax2 at e
 split at e
 ·cases e
  obtain⟨v,u,rfl,h,k⟩:=og rd
  cases (show v=_ from h.i)
  cases (show u=_ from k.i)
  exact⟨_,_,rfl,Out.i q rfl⟩
 ·cases e
theorem kG (hc:X.calm=true):cy X (.builtin "min") vMin2:=by
 refine (tM hc).imp fun xs H Q ⟨ds,d,rd,e,q⟩=>?_
 unfold vMin2 at e
 split at e
 ·cases e
  obtain⟨v,u,rfl,h,k⟩:=og rd
  cases (show v=_ from h.i)
  cases (show u=_ from k.i)
  exact⟨_,_,rfl,Out.i q rfl⟩
 ·cases e
@[simp] noncomputable def bls:List Im→Option (List Bool)
 | []=>some []
 | .bl b::ds=>(bls ds).map fun r=>b::r
 | _::_=>none
theorem kJ {H:Hp}:∀ {ds:List Im}{xs:List V}{bs:List Bool},aj H ds xs→bls ds=some bs→xs=bs.map V.bl
 | [],xs,bs,h,e=>by cases e;exact h
 | .bl b::ds,xs,bs,h,e=>by
  obtain⟨v,r,rfl,h1,h2⟩:=h
  rw[bls] at e
  obtain⟨p,e1,e2⟩:=Option.map_eq_some_iff.mp e
  cases e2
  cases (show v=.bl b from h1)
  rw[kJ h2 e1]
  rfl
 | .non::_,_,_,_,e=>by cases e
 | .int _::_,_,_,_,e=>by cases e
 | .str _::_,_,_,_,e=>by cases e
 | .tup _::_,_,_,_,e=>by cases e
 | .fn _::_,_,_,_,e=>by cases e
 | .fl _::_,_,_,_,e=>by cases e
 | .fd::_,_,_,_,e=>by cases e
@[simp] noncomputable def vAll:OpN:=fun ds=>match ds with
 | [.lst x]=>(bls x).map fun bs=>.im (.bl (bs.all id))
 | _=>none
@[simp] noncomputable def vAny:OpN:=fun ds=>match ds with
 | [.lst x]=>(bls x).map fun bs=>.im (.bl (bs.any id))
 | _=>none
theorem oj (hc:X.calm=true):cy X (.builtin "all") vAll:=by
 refine (vF hc).imp fun xs H Q ⟨ds,d,rd,e,q⟩=>?_
 unfold vAll at e
 split at e
 ·obtain⟨x,e1,e2⟩:=Option.map_eq_some_iff.mp e
  cases e2
  obtain⟨v,rfl,_,p,xs,rfl,h1,h2,_⟩:=bD rd
  rw[kJ h2 e1] at h1
  exact⟨p,x,rfl,h1,Out.i q rfl⟩
 ·cases e
end
section
variable {X:Cx}
theorem wt (hc:X.calm=true):aX X (.builtin "any") (fun xs H Q=>∃ l bs,xs=[.ref l]∧H l=some (.lst (List.map V.bl bs))∧Q (.bl (bs.any id)) H):=by
 intro pins s σ H xs us Q I r h
 obtain⟨l,bs,rfl,hl,q⟩:=h
 obtain⟨u,rfl,ru⟩:=cg r
 cases ru
 obtain⟨z,its,n,rv,e⟩:=I.hok l _ hl
 have isl:s.heap.IsList l its.toArray:=⟨_,e,rfl,n,rfl⟩
 refine call_any_walk (wpAny_pyIter_list isl ⟨s.heap.objs.size,[s.heap.objs.size,l],[s.heap.objs.size],its.toArray.size,_,_,fun i=>(bs[i]?).getD false,rfl,Walks.list (A:=X.A.in1) (I.ok.hd hc) _ l (Nat.ne_of_lt (Heap.lt_size e)) its.toArray,
  ⟨⟨_,Heap.get?_push_size _ rfl,rfl,rfl⟩,isl.push _⟩,fun i v s' Q' E' hP hQ=>?_,fun h' tk hk=>?_⟩)
 ·obtain⟨b,eb,rfl⟩:=nH rv i v (by simpa using hP)
  simp only[eb,Option.getD_some] at hQ
  exact wpAny_truthy_bool hQ
 ·have el:its.toArray.size=bs.length:=by
   have:=rv.length
   rw[List.length_map] at this
   rw[List.size_toArray,this]
  rw[el,LSm.range_any]
  exact⟨.bl _,H,I.kept (LSm.kept_iter hk),rfl,q⟩
theorem wu (hc:X.calm=true):cy X (.builtin "any") vAny:=by
 refine (wt hc).imp fun xs H Q ⟨ds,d,rd,e,q⟩=>?_
 unfold vAny at e
 split at e
 ·obtain⟨x,e1,e2⟩:=Option.map_eq_some_iff.mp e
  cases e2
  obtain⟨v,rfl,_,p,xs,rfl,h1,h2,_⟩:=bD rd
  rw[kJ h2 e1] at h1
  exact⟨p,x,rfl,h1,Out.i q rfl⟩
 ·cases e
@[simp] noncomputable def kK (T:String) (d:Vl):Option Bool:=
 if T = "int" then match d with
  | .im (.int _)=>some true
  | .im (.bl _)=>some true
  | .im (.str _)=>some false
  | .im (.tup _)=>some false
  | .im .non=>some false
  | .lst _=>some false
  | .im (.fl _)=>some false
  | .im .fd=>some false
  | .dT _=>some false
  | .dK _=>some false
  | _=>none
 else if T = "bool" then match d with
  | .im (.int _)=>some false
  | .im (.bl _)=>some true
  | .im (.str _)=>some false
  | .im (.tup _)=>some false
  | .im .non=>some false
  | .lst _=>some false
  | .im (.fl _)=>some false
  | .im .fd=>some false
  | .dT _=>some false
  | .dK _=>some false
  | _=>none
 else if T = "str" then match d with
  | .im (.int _)=>some false
  | .im (.bl _)=>some false
  | .im (.str _)=>some true
  | .im (.tup _)=>some false
  | .im .non=>some false
  | .lst _=>some false
  | .im (.fl _)=>some false
  | .im .fd=>some false
  | .dT _=>some false
  | .dK _=>some false
  | _=>none
 else if T = "tuple" then match d with
  | .im (.int _)=>some false
  | .im (.bl _)=>some false
  | .im (.str _)=>some false
  | .im (.tup _)=>some true
  | .im .non=>some false
  | .lst _=>some false
  | .im (.fl _)=>some false
  | .im .fd=>some false
  | .dT _=>some false
  | .dK _=>some false
  | _=>none
 else none
theorem d8 {pins:List (Addr×Obj)}{σ:St}{H:Hp}{s:Shared} (I:Inv X pins σ H s) {a:Addr} (h:(∃ k,H a=some (.dT k))∨∃ k,H a=some (.dK k)):∃ o,s.heap.get? a=some o∧o.cls=.type "dict" := by
 rcases h with ⟨k,h⟩ | ⟨k,h⟩
 ·obtain⟨_,_,xs,_,o,es,ep,h1,h2,_⟩:=(show aW X.prog X.w H s.heap a (.dT k) from I.hok a _ h)
  exact⟨o,h1,h2.1⟩
 ·obtain⟨_,_,vs,_,o,es,ep,h1,h2,_⟩:=(show aW X.prog X.w H s.heap a (.dK k) from I.hok a _ h)
  exact⟨o,h1,h2.1⟩
theorem i8 {pins:List (Addr×Obj)}{σ:St}{H:Hp}{s:Shared} (I:Inv X pins σ H s) {a:Addr}{p:Obj} (h:H a=some (.frz p (.dT []))):∃ o,s.heap.get? a=some o∧o.cls=.type "dict" := by
 obtain⟨_,_,_,xs,_,o,es,ep,h1,h2,_⟩:=(show aW X.prog X.w H s.heap a (.frz p (.dT [])) from I.hok a _ h)
 exact⟨o,h1,h2.1⟩
theorem wv:aX X (.builtin "isinstance") (fun xs H Q=>∃ x T d b,xs=[x,.ty T]∧Rdb H d x∧kK T d=some b∧Q (.bl b) H):=by
 intro pins s σ H xs us Q I r h
 obtain⟨x,T,d,b,rfl,rd,hi,q⟩:=h
 have r0:=r
 cases r with
 | cons r rr=>
  cases rr with
  | cons r' rr=>
   cases rr
   cases r'
   have f1:∀ {b:Bool},Q (.bl b) H→EP X pins σ Q (.bool b) { s with toks:=s.toks+1 }:=fun {b} q=>⟨.bl b,H,I.tok _,rfl,q⟩
   have dI:∀ {a:Addr},(∃ o,s.heap.get? a=some o∧o.cls=.type "dict")→(T = "int" ∨ T = "bool" ∨ T = "str" ∨ T = "tuple")→b=false→wpAny (model X.prog X.w) X.A (call (.builtin "isinstance") [.ref a,.type T]) (EP X pins σ Q) X.xe s:=by
    rintro a ⟨o,ho,hc⟩ hT rfl
    rcases hT with rfl | rfl | rfl | rfl
    ·exact IsiPair.dict_int ho hc (f1 q)
    ·exact IsiPair.dict_bool ho hc (f1 q)
    ·exact IsiPair.dict_str ho hc (f1 q)
    ·exact IsiPair.dict_tuple ho hc (f1 q)
   have nI:(T = "int" ∨ T = "bool" ∨ T = "str" ∨ T = "tuple")→b=false→wpAny (model X.prog X.w) X.A (call (.builtin "isinstance") [.none,.type T]) (EP X pins σ Q) X.xe s:=by
    rintro hT rfl
    rcases hT with rfl | rfl | rfl | rfl
    ·exact IsiPair.NoneType_int (f1 q)
    ·exact IsiPair.NoneType_bool (f1 q)
    ·exact IsiPair.NoneType_str (f1 q)
    ·exact IsiPair.NoneType_tuple (f1 q)
   have cI:nG X.K H x T b→wpAny (model X.prog X.w) X.A (call (.builtin "isinstance") [_,.type T]) (EP X pins σ Q) X.xe s:=fun hh=>vE pins s σ H _ _ Q I r0 ⟨x,T,b,rfl,hh,q⟩
   unfold kK at hi
   split at hi
   ·rename_i hT
    subst hT
    split at hi
    ·cases hi;exact cI (.inl ⟨_,rd.i,.inl ⟨rfl,rfl⟩⟩)
    ·cases hi;exact cI (.inr (.inl ⟨_,rd.i,.inr (.inl ⟨rfl,rfl⟩)⟩))
    ·cases hi;exact cI (.inr (.inr (.inl ⟨_,rd.i,.inr (.inl ⟨rfl,rfl⟩)⟩)))
    ·cases hi;obtain⟨a,xs,e,h1,h2⟩:=rd.i;exact cI (.inr (.inr (.inr (.inl ⟨a,xs,e,SqT.of h1,.inr (.inl ⟨rfl,rfl⟩)⟩))))
    ·cases hi;cases (show x=.non from rd.i);cases r;exact nI (.inl rfl) rfl
    ·cases hi;obtain⟨_,a,xs,e,h1,h2,_⟩:=rd;exact cI (.inr (.inr (.inr (.inr ⟨a,xs,e,SqL.of h1,.inr (.inl ⟨rfl,rfl⟩)⟩))))
    ·cases hi;obtain⟨a,xs,o,e,h1,h2⟩:=rd.i;exact cI (.inr (.inr (.inr (.inr ⟨a,xs,e,.inl (.inr ⟨o,h1⟩),.inr (.inl ⟨rfl,rfl⟩)⟩))))
    ·cases hi;obtain⟨a,o,rfl,h1⟩:=rd.i;cases r;exact dI (i8 I h1) (.inl rfl) rfl
    ·cases hi;obtain⟨_,a,xs,rfl,h1,h2,_⟩:=rd;cases r;exact dI (d8 I (.inl ⟨_,h1⟩)) (.inl rfl) rfl
    ·cases hi;obtain⟨_,a,xs,rfl,h1,h2,_⟩:=rd;cases r;exact dI (d8 I (.inr ⟨_,h1⟩)) (.inl rfl) rfl
    ·cases hi
   ·split at hi
    ·rename_i hT
     subst hT
     split at hi
     ·cases hi;exact cI (.inl ⟨_,rd.i,.inr (.inr (.inr (.inl ⟨rfl,rfl⟩)))⟩)
     ·cases hi;exact cI (.inr (.inl ⟨_,rd.i,.inl ⟨rfl,rfl⟩⟩))
     ·cases hi;exact cI (.inr (.inr (.inl ⟨_,rd.i,.inr (.inr (.inr (.inl ⟨rfl,rfl⟩)))⟩)))
     ·cases hi;obtain⟨a,xs,e,h1,h2⟩:=rd.i;exact cI (.inr (.inr (.inr (.inl ⟨a,xs,e,SqT.of h1,.inr (.inr (.inr (.inl ⟨rfl,rfl⟩)))⟩))))
     ·cases hi;cases (show x=.non from rd.i);cases r;exact nI (.inr (.inl rfl)) rfl
     ·cases hi;obtain⟨_,a,xs,e,h1,h2,_⟩:=rd;exact cI (.inr (.inr (.inr (.inr ⟨a,xs,e,SqL.of h1,.inr (.inr (.inr (.inl ⟨rfl,rfl⟩)))⟩))))
     ·cases hi;obtain⟨a,xs,o,e,h1,h2⟩:=rd.i;exact cI (.inr (.inr (.inr (.inr ⟨a,xs,e,.inl (.inr ⟨o,h1⟩),.inr (.inr (.inr (.inl ⟨rfl,rfl⟩)))⟩))))
     ·cases hi;obtain⟨a,o,rfl,h1⟩:=rd.i;cases r;exact dI (i8 I h1) (.inr (.inl rfl)) rfl
     ·cases hi;obtain⟨_,a,xs,rfl,h1,h2,_⟩:=rd;cases r;exact dI (d8 I (.inl ⟨_,h1⟩)) (.inr (.inl rfl)) rfl
     ·cases hi;obtain⟨_,a,xs,rfl,h1,h2,_⟩:=rd;cases r;exact dI (d8 I (.inr ⟨_,h1⟩)) (.inr (.inl rfl)) rfl
     ·cases hi
    ·split at hi
     ·rename_i hT
      subst hT
      split at hi
      ·cases hi;exact cI (.inl ⟨_,rd.i,.inr (.inr (.inl ⟨rfl,rfl⟩))⟩)
      ·cases hi;exact cI (.inr (.inl ⟨_,rd.i,.inr (.inr (.inr (.inl ⟨rfl,rfl⟩)))⟩))
      ·cases hi;exact cI (.inr (.inr (.inl ⟨_,rd.i,.inl ⟨rfl,rfl⟩⟩)))
      ·cases hi;obtain⟨a,xs,e,h1,h2⟩:=rd.i;exact cI (.inr (.inr (.inr (.inl ⟨a,xs,e,SqT.of h1,.inr (.inr (.inl ⟨rfl,rfl⟩))⟩))))
      ·cases hi;cases (show x=.non from rd.i);cases r;exact nI (.inr (.inr (.inl rfl))) rfl
      ·cases hi;obtain⟨_,a,xs,e,h1,h2,_⟩:=rd;exact cI (.inr (.inr (.inr (.inr ⟨a,xs,e,SqL.of h1,.inr (.inr (.inl ⟨rfl,rfl⟩))⟩))))
      ·cases hi;obtain⟨a,xs,o,e,h1,h2⟩:=rd.i;exact cI (.inr (.inr (.inr (.inr ⟨a,xs,e,.inl (.inr ⟨o,h1⟩),.inr (.inr (.inl ⟨rfl,rfl⟩))⟩))))
      ·cases hi;obtain⟨a,o,rfl,h1⟩:=rd.i;cases r;exact dI (i8 I h1) (.inr (.inr (.inl rfl))) rfl
      ·cases hi;obtain⟨_,a,xs,rfl,h1,h2,_⟩:=rd;cases r;exact dI (d8 I (.inl ⟨_,h1⟩)) (.inr (.inr (.inl rfl))) rfl
      ·cases hi;obtain⟨_,a,xs,rfl,h1,h2,_⟩:=rd;cases r;exact dI (d8 I (.inr ⟨_,h1⟩)) (.inr (.inr (.inl rfl))) rfl
      ·cases hi
     ·split at hi
      ·rename_i hT
       subst hT
       split at hi
       ·cases hi;exact cI (.inl ⟨_,rd.i,.inr (.inl ⟨rfl,rfl⟩)⟩)
       ·cases hi;exact cI (.inr (.inl ⟨_,rd.i,.inr (.inr (.inl ⟨rfl,rfl⟩))⟩))
       ·cases hi;exact cI (.inr (.inr (.inl ⟨_,rd.i,.inr (.inr (.inl ⟨rfl,rfl⟩))⟩)))
       ·cases hi;obtain⟨a,xs,e,h1,h2⟩:=rd.i;exact cI (.inr (.inr (.inr (.inl ⟨a,xs,e,SqT.of h1,.inl ⟨rfl,rfl⟩⟩))))
       ·cases hi;cases (show x=.non from rd.i);cases r;exact nI (.inr (.inr (.inr rfl))) rfl
       ·cases hi;obtain⟨_,a,xs,e,h1,h2,_⟩:=rd;exact cI (.inr (.inr (.inr (.inr ⟨a,xs,e,SqL.of h1,.inr (.inr (.inr (.inr ⟨rfl,rfl⟩)))⟩))))
       ·cases hi;obtain⟨a,xs,o,e,h1,h2⟩:=rd.i;exact cI (.inr (.inr (.inr (.inr ⟨a,xs,e,.inl (.inr ⟨o,h1⟩),.inr (.inr (.inr (.inr ⟨rfl,rfl⟩)))⟩))))
       ·cases hi;obtain⟨a,o,rfl,h1⟩:=rd.i;cases r;exact dI (i8 I h1) (.inr (.inr (.inr rfl))) rfl
       ·cases hi;obtain⟨_,a,xs,rfl,h1,h2,_⟩:=rd;cases r;exact dI (d8 I (.inl ⟨_,h1⟩)) (.inr (.inr (.inr rfl))) rfl
       ·cases hi;obtain⟨_,a,xs,rfl,h1,h2,_⟩:=rd;cases r;exact dI (d8 I (.inr ⟨_,h1⟩)) (.inr (.inr (.inr rfl))) rfl
       ·cases hi
      ·cases hi
@[simp] noncomputable def cZ (T:String) (g:M Opd):M Vl:=fun D=>(g D).bind fun p=>(rsl p.2 p.1).bind fun d=>(kK T d).map fun b=>(.im (.bl b),p.2)
theorem dC {T:String}{x:Str}{e:Expr}{g:M Opd}{p p2 pos:Pos} (hg:Gl X "isinstance") (hm:X.mg "isinstance" = none) (hv:bootBuiltins "isinstance" = some (.builtin "isinstance")) (hgT:Gl X x) (hmT:X.mg x=none) (hvT:bootBuiltins x=some (.type T)) (h:VO X e g)
  (hn:x ≠ "__name__" := by decide) (hd:(x == ("__debug__" : Str))=false:=by decide) (he:starEach [e,.Name x p2] X.env=(false,eval e X.env)::starEach [.Name x p2] X.env:=by rfl) (hs2:starEach [.Name x p2] X.env=(false,eval (.Name x p2) X.env)::starEach [] X.env:=by rfl)
  (hpl:(backTo pos (starEach [.Name x p2] X.env)).any (·.1)=false:=by rfl):VE X (.Call (.Name "isinstance" p) [e,.Name x p2] [] pos) (cZ T g):=by
 refine aR (mP wv hg hm hv (jK h (jK (rK (v:=.ty T) hgT hmT hvT rfl hn hd) mI hs2) he) (by decide) (by decide) he hpl) fun σ H Q ⟨D,F,r,D',st,nd,hgg,q⟩=>?_
 obtain⟨⟨o,D1⟩,h1,h2⟩:=Option.bind_eq_some_iff.mp hgg
 obtain⟨d,h3,h4⟩:=Option.bind_eq_some_iff.mp h2
 obtain⟨b,h5,h6⟩:=Option.map_eq_some_iff.mp h4
 cases h6
 exact⟨D,F,o,D1,st,nd,h1,fun v H1 F1 R st1 o1 s1=>⟨v,T,d,b,rfl,o1.read st1 h3,h5,q _ H1 F1 [] st1 ⟨rfl,rfl⟩ (by rw[List.append_nil];exact s1.both)⟩⟩
@[simp] noncomputable def gY:Vl→Option Bool
 | .im .non=>some false
 | .im (.bl b)=>some b
 | .im (.int i)=>some (i != 0)
 | .im (.str x)=>if x.length≤100000 then some ((x.length:Int) != 0) else none
 | .im (.tup ds)=>some (!ds.isEmpty)
 | .lst ds=>some (!ds.isEmpty)
 | .fz ds=>some (!ds.isEmpty)
 | .dK kvs=>some (!kvs.isEmpty)
 | _=>none
theorem aj.emp {H:Hp}{ds:List Im}{xs:List V} (h:aj H ds xs):(!xs.isEmpty)=!ds.isEmpty:=by
 cases ds with
 | nil=>cases (show xs=[] from h);rfl
 | cons d ds=>obtain⟨v,r,rfl,_⟩:=h;rfl
theorem wx {H:Hp}{d:Vl}{v:V}{b:Bool} (h:Rdb H d v) (e:gY d=some b):jJ X.K v H b:=by
 unfold gY at e
 split at e
 ·cases e;cases (show v=_ from h.i);rfl
 ·cases e;cases (show v=_ from h.i);rfl
 ·cases e;cases (show v=_ from h.i);rfl
 ·split at e
  ·rename_i hl
   cases e;cases (show v=_ from h.i);exact⟨fe hl,rfl⟩
  ·cases e
 ·cases e
  obtain⟨p,xs,rfl,h1,h2⟩:=h.i
  exact .inr (.inl ⟨xs,SqT.of h1,h2.emp.symm⟩)
 ·cases e
  obtain⟨_,p,xs,rfl,h1,h2,_⟩:=h
  exact .inl ⟨xs,SqL.of h1,h2.emp.symm⟩
 ·cases e
  obtain⟨_,p,xs,o,rfl,h1,h2,_⟩:=h
  exact .inl ⟨xs,.inl (.inr ⟨o,h1⟩),h2.emp.symm⟩
 ·cases e
  obtain⟨_,p,kws,rfl,h1,h2,_⟩:=h
  refine .inr (.inr ⟨kws,h1,?_⟩)
  cases h2<;>rfl
 ·cases e
@[simp] noncomputable def b8 (g:M Opd):M Bool:=fun D=>(g D).bind fun p=>(rsl p.2 p.1).bind fun d=>(gY d).map fun b=>(b,p.2)
theorem d9 {e:Expr}{g:M Opd} (h:VO X e g) (he:∀ whole,isTrue e X.env whole=(do let v ← whole;standAt e.pos;holding [v] (truthy v)):=by intro _;rfl):VT X e (b8 g):=by
 refine j9 (tJ h he) fun σ H Q ⟨D,F,b,D',st,nd,hgg,q⟩=>?_
 obtain⟨⟨o,D1⟩,h1,h2⟩:=Option.bind_eq_some_iff.mp hgg
 obtain⟨d,h3,h4⟩:=Option.bind_eq_some_iff.mp h2
 obtain⟨b',h5,h6⟩:=Option.map_eq_some_iff.mp h4
 cases h6
 exact⟨D,F,o,D1,st,nd,h1,fun v H1 F1 R st1 o1 s1=>⟨_,wx (o1.read st1 h3) h5,q H1 F1 st1 s1.both⟩⟩
theorem om {x:Str}{i:Int}{t:Tok}{pos:Pos} (hg:Gl X x) (hm:X.mg x=some (.int i t)) (hd:(x == ("__debug__" : Str))=false:=by decide):VE X (.Name x pos) (eC (.int i)):=fQ (mv (v:=.int i) hg hm ⟨t,rfl⟩ hd) fun _=>rfl
theorem wy {x:Str}{f:Addr}{pos:Pos} (hg:Gl X x) (hm:X.mg x=some (.ref f)) (hd:(x == ("__debug__" : Str))=false:=by decide):VE X (.Name x pos) (eC (.fn f)):=fQ (mv (v:=.ref f) hg hm rfl hd) fun _=>rfl
end
theorem Stp.chg {H:Hp}{F F1:List Addr}{a:Addr}{o':HO} (ha:a∈F) (c:Chg H a) (nd:F1.Nodup) (sb:∀ x∈F1,x∈F):Stp H F (upd H a o') F1:=by
 obtain⟨o,e,ht,hf⟩:=c
 refine⟨fun x u ex hx=>?_,fun x hx=>.inl (sb x hx),nd,StayS.of (fun x xs ex=>?_) (fun x p u ex=>?_),fun x u ex=>?_⟩
 ·rw[aA (fun z=>hx (by rw[z];exact ha))]
  exact ex
 ·rw[aA]
  ·exact ex
  ·rintro rfl
   rw[e] at ex
   exact ht xs (Option.some.inj ex)
 ·rw[aA]
  ·exact ex
  ·rintro rfl
   rw[e] at ex
   exact hf p u (Option.some.inj ex)
 ·by_cases hx:x=a
  ·subst hx
   exact⟨o',bi⟩
  ·exact⟨u,(aA hx).trans ex⟩
theorem IsI.updC {H:Hp}{a:Addr}{o':HO} (c:Chg H a):TupS H (upd H a o'):=(Stp.chg (F:=[a]) (F1:=[]) (.head _) c List.nodup_nil (fun x hx=>nomatch hx)).tup.tup
noncomputable def MtV (X:Cx) (id:String) (mt:Vl→List Vl→Option (Vl×Vl)):Prop:=
 MtR X id fun x vs H Q=>∃ c ds r c' R S,Own H c x R∧aE H ds vs S∧(R++S).Nodup∧mt c ds=some (r,c')∧∀ v H' R1 R2,Own H' r v R1→Own H' c' x R2→Stp H (R++S) H' (R1++R2)→Q v H'
@[simp] noncomputable def kL:Vl→Bool
 | .lst _=>true
 | .lstM _=>true
 | _=>false
@[simp] noncomputable def fk (ty:Vl→Bool) (i:Nat) (mt:Vl→List Vl→Option (Vl×Vl)) (g:M (List Opd)):M Vl:=fun D=>match D[i]? with
 | some (some c0)=>if ty c0=true then (g D).bind fun p=>(aV p.1 p.2).bind fun q=>match q.2[i]? with
   | some (some c)=>(mt c q.1).map fun r=>(r.1,q.2.set i (some r.2))
   | _=>none
  else none
 | _=>none
theorem wz {K:PySem.W.Frag}{T:String}{ty:Vl→Bool}{i:Nat}{mt:Vl→List Vl→Option (Vl×Vl)}{g:M (List Opd)}{σ:St}{H:Hp}{Q:VK} (hty:∀ H c x R,Own H c x R→ty c=true→tyV K T x H)
  (h:tV (fk ty i mt g) σ H Q):∃ x,σ[i]?=some (some x)∧tyV K T x H∧tA g σ H fun vs H2=>∃ c ds r c' R S,Own H2 c x R∧aE H2 ds vs S∧(R++S).Nodup∧mt c ds=some (r,c')∧∀ v H' R1 R2,Own H' r v R1→Own H' c' x R2→Stp H2 (R++S) H' (R1++R2)→Q v H':=by
 obtain⟨D,F,r,D',st,nd,hg,q⟩:=h
 unfold fk at hg
 split at hg
 ·rename_i c0 hc0
  split at hg
  ·rename_i ht
   obtain⟨x,A0,B0,hx,w0,_,_⟩:=st.out hc0
   refine⟨x,hx,hty H c0 x _ w0 ht,?_⟩
   obtain⟨⟨os,D1⟩,h1,h2⟩:=Option.bind_eq_some_iff.mp hg
   obtain⟨⟨ds,D2⟩,h3,h4⟩:=Option.bind_eq_some_iff.mp h2
   refine⟨D,F,os,D1,st,nd,h1,fun vs H1 F1 R1 st1 o1 s1=>?_⟩
   obtain⟨F2,S,st2,ow,pm⟩:=fc st1 o1 h3
   dsimp only at h4
   split at h4
   ·rename_i c hc
    obtain⟨⟨r',c'⟩,h5,h6⟩:=Option.map_eq_some_iff.mp h4
    cases h6
    obtain⟨x',R,F3,hx',w1,st3,pm3⟩:=st2.out hc
    rw[hx] at hx'
    cases hx'
    have s2:Stp H F H1 ((R++S)++F3):=s1.permR (pm.symm.trans ((List.Perm.append_right S pm3.symm).trans (by
     rw[List.append_assoc]
     exact List.perm_append_comm)))
    have nd2:=List.nodup_append.mp s2.nd
    refine⟨c,ds,_,c',R,S,w1,ow,nd2.1,h5,fun v H' A B wa wb s3=>?_⟩
    have st4:ai H' (D2.set i (some .jk)) σ F3:=st3.mono s3.tup fun a ha o e=>s3.keep a o e fun h=>nd2.2.2 a h a ha rfl
    obtain⟨F4,G,st5,pm5⟩:=st4.back wb hx
    rw[List.set_set] at st5
    refine q v H' F4 A st5 wa ((s2.trans s3 st3.chg).less (C:=G) ?_)
    rw[List.append_assoc]
    refine (List.Perm.append_left F4 List.perm_append_comm).trans ?_
    rw[← List.append_assoc]
    refine (List.Perm.append_right A pm5).trans ?_
    rw[List.append_assoc]
    refine List.perm_append_comm.trans ?_
    rw[List.append_assoc]
    refine List.perm_append_comm.trans ?_
    rw[List.append_assoc,List.append_assoc]
    refine (List.Perm.append_left A ?_)
    exact List.perm_append_comm
   ·cases h4
  ·cases hg
 ·cases hg
section
variable {X:Cx}
theorem wA {K:PySem.W.Frag}:∀ (H:Hp) (c:Vl) (x:V) (R:List Addr),Own H c x R→kL c=true→tyV K "list" x H:=by
 intro H c x R h e
 cases c with
 | lst ds=>obtain⟨a,xs,rfl,h1,_⟩:=h;exact .inl ⟨rfl,xs,SqL.of h1⟩
 | lstM ds=>obtain⟨a,xs,G,rfl,h1,_⟩:=h;exact .inl ⟨rfl,xs,SqL.of h1⟩
 | _=>cases e
theorem wB {T:String}{name:Str}{id:String}{ty:Vl→Bool}{i:Nat}{mt:Vl→List Vl→Option (Vl×Vl)}{o e:Expr}{es:List Expr}{g:M (List Opd)}{apos cpos:Pos} (hty:∀ H c x R,Own H c x R→ty c=true→tyV X.K T x H)
  (pa:PlainAttrs T) (slot:Slot T name id) (ht:typeOf (.builtin id)=pure (.type "method_descriptor")) (hm:MtV X id mt) (ho:PE X o (eF i)) (ha:VA X (e::es) g)
  (hbase:attributeBase o name X.env (eval o X.env)=eval o X.env:=by rfl)
  (hfew:((backTo cpos (starEach (e::es) X.env)).all (fun x=>!x.1) && (backToKw cpos (keywordEach [] X.env)).all (fun x=>x.1.isSome)
   && decide ((e::es).length+([]:List Keyword).length+(if ([]:List Keyword).isEmpty then 0 else 1)<30))=true:=by rfl)
  (hline:(apos.endLine == cpos.line)=true:=by rfl) (hs:starEach (e::es) X.env=(false,eval e X.env)::starEach es X.env:=by rfl) (hplain:(backTo cpos (starEach es X.env)).any (·.1)=false:=by rfl):
  VE X (.Call (.Attribute o name apos) (e::es) [] cpos) (fk ty i mt g):=
 aR (uH pa slot ht hm ho ha hbase hfew hline hs hplain) fun σ H Q h=>by
  obtain⟨x,hx,h1,h2⟩:=wz hty h
  exact⟨x,hx,h1,h2⟩
@[simp] noncomputable def mAppend:Vl→List Vl→Option (Vl×Vl):=fun c ds=>match c,ds with
 | .lst xs,[.im d]=>if xs.length<100000 then some (.im .non,.lst (xs++[d])) else none
 | _,_=>none
theorem kN {n:Nat} (h:n<100000):n<sizeLine:=Nat.lt_of_lt_of_le h (by decide)
theorem wC:MtV X "list.append" mAppend:=by
 intro pins s σ H x vs v us Q I rx rv ⟨c,ds,r,c',R,S,wc,wd,nd,e,q⟩
 unfold mAppend at e
 split at e
 ·split at e
  ·rename_i hl
   cases e
   obtain⟨a,ys,rfl,h1,h2,rfl⟩:=wc
   obtain⟨y,t,S1,S2,rfl,⟨hy,rfl⟩,⟨rfl,rfl⟩,rfl⟩:=wd
   have c:Chg H a:=⟨_,h1,(fun _ e=>by cases e),(fun _ _ e=>by cases e)⟩
   refine uI pins s σ H _ _ v us Q I rx rv ⟨a,ys,y,rfl,rfl,h1,kN (by rw[← h2.length];exact hl),q .non _ [] [a] ⟨rfl,rfl⟩ ?_ (Stp.chg (.head _) c (List.pairwise_singleton _ _) fun x hx=>by simpa using hx)⟩
   exact⟨a,_,rfl,bi,(h2.snoc hy).mono (IsI.updC c),rfl⟩
  ·cases e
 ·cases e
@[simp] noncomputable def zP:Vl→List Vl→Option (Vl×Vl):=fun c ds=>match c,ds with
 | .lst xs,[.im (.int i)]=>if 0≤i∧i<xs.length then (xs[i.toNat]?).map fun d=>(.im d,.lst (xs.eraseIdx i.toNat)) else none
 | _,_=>none
theorem aj.erase {H:Hp}:∀ {ds:List Im}{xs:List V} (n:Nat),aj H ds xs→aj H (ds.eraseIdx n) (xs.eraseIdx n)
 | [],xs,n,h=>by cases (show xs=[] from h);exact rfl
 | d::ds,xs,0,h=>by obtain⟨v,r,rfl,h1,h2⟩:=h;exact h2
 | d::ds,xs,n+1,h=>by obtain⟨v,r,rfl,h1,h2⟩:=h;exact⟨v,_,rfl,h1,h2.erase n⟩
noncomputable def i9 (X:Cx) (pt:Vl→Vl→Vl→Option Vl):Prop:=
 jG X fun o i v H Q=>∃ c k d c' R S,Own H c o R∧Own H k i []∧Own H d v S∧(R++S).Nodup∧pt c k d=some c'∧∀ H' R',Own H' c' o R'→Stp H (R++S) H' R'→Q H'
@[simp] noncomputable def putV (c k d:Vl):Option Vl:=match c,k,d with
 | .lst xs,.im (.int i),.im d=>(ixN xs.length i).map fun j=>.lst (xs.set j d)
 | _,_,_=>none
theorem aj.set {H:Hp}{d:Im}{v:V} (w:IsI H d v):∀ {ds:List Im}{xs:List V} (n:Nat),aj H ds xs→aj H (ds.set n d) (xs.set n v)
 | [],xs,n,h=>by cases (show xs=[] from h);exact rfl
 | e::ds,xs,0,h=>by obtain⟨u,r,rfl,h1,h2⟩:=h;exact⟨v,r,rfl,w,h2⟩
 | e::ds,xs,n+1,h=>by obtain⟨u,r,rfl,h1,h2⟩:=h;exact⟨u,_,rfl,h1,aj.set w n h2⟩
theorem oo:i9 X putV:=by
 intro pins s σ H o i v ov iv u Q I ro ri rv ⟨c,k,d,c',R,S,wc,wk,wd,nd,e,q⟩
 unfold putV at e
 split at e
 ·obtain⟨j,e1,e2⟩:=Option.map_eq_some_iff.mp e
  cases e2
  obtain⟨a,ys,rfl,h1,h2,rfl⟩:=wc
  obtain⟨hd,rfl⟩:=wd
  have c:Chg H a:=⟨_,h1,(fun _ e=>by cases e),(fun _ _ e=>by cases e)⟩
  refine ux pins s σ H _ _ _ ov iv u Q I ro ri rv ⟨a,ys,_,j,rfl,wk.1,h1,by rw[← h2.length];exact e1,q _ [a] ?_ (Stp.chg (.head _) c (List.pairwise_singleton _ _) fun x hx=>by simpa using hx)⟩
  exact⟨a,_,rfl,bi,(aj.set hd j h2).mono (IsI.updC c),rfl⟩
 ·cases e
@[simp] noncomputable def gIx (i:Nat) (gk:M Vl) (pt:Vl→Vl→Vl→Option Vl):MG:=fun d D=>match D[i]? with
 | some (some _)=>(gk D).bind fun p=>if p.1.cp=true then match p.2[i]? with
   | some (some c)=>(pt c p.1 d).map fun c'=>p.2.set i (some c')
   | _=>none
  else none
 | _=>none
theorem ja {fix:List Nat}{i:Nat}{o k:Expr}{gk:M Vl}{pt:Vl→Vl→Vl→Option Vl}{pos:Pos} (ho:PE X o (eF i)) (hk:VE X k gk) (hp:i9 X pt)
  (ha:∀ v,assign (.Subscript o k pos) X.env v=(do
   let ov ← holding [v] (eval o X.env)
   let iv ← holding [v,ov] (eval k X.env)
   standAt pos
   holding [v,ov,iv] (setItem ov iv v)
   release [v,ov,iv] []):=by intro _;rfl):VG X fix (.Subscript o k pos) (gIx i gk pt):=by
 refine kh (sD ho hk hp ha) fun v σ H Q ⟨D,F,d,R,D',st,ow,nd,hg,q⟩=>?_
 unfold gIx at hg
 split at hg
 ·rename_i c0 hc0
  obtain⟨x,A0,B0,hx,w0,_,_⟩:=st.out hc0
  obtain⟨⟨kd,D1⟩,h1,h2⟩:=Option.bind_eq_some_iff.mp hg
  split at h2
  ·rename_i hcp
   refine⟨x,hx,D,F,kd,D1,st,(List.nodup_append.mp nd).1,h1,fun kv H1 F1 RK st1 wk s1=>?_⟩
   obtain rfl:=wk.cp hcp
   rw[List.append_nil] at s1
   have nd0:=List.nodup_append.mp nd
   dsimp only at h2
   split at h2
   ·rename_i c hc
    obtain⟨c',h5,h6⟩:=Option.map_eq_some_iff.mp h2
    cases h6
    obtain⟨x',RC,F3,hx',w1,st3,pm3⟩:=st1.out hc
    rw[hx] at hx'
    cases hx'
    have ow1:Own H1 d v R:=ow.mono s1.tup fun a ha o e=>s1.keep a o e fun h=>nd0.2.2 a h a ha rfl
    -- the whole: F and R
    have s2:Stp H (F++R) H1 ((RC++R)++F3):=by
     have e0:Stp H (F++R) H (F++R):=Stp.perm nd (List.Perm.refl _)
     have:=Stp.trans (F1:=F) (R:=R) e0 s1 ow.chg
     refine this.permR ((List.Perm.append_right R pm3.symm).trans ?_)
     rw[List.append_assoc]
     exact List.perm_append_comm
    have nd2:=List.nodup_append.mp s2.nd
    refine⟨c,kd,d,c',RC,R,w1,wk,ow1,nd2.1,h5,fun H' R' w' s3=>?_⟩
    have st4:ai H' (D1.set i (some .jk)) σ F3:=st3.mono s3.tup fun a ha o e=>s3.keep a o e fun h=>nd2.2.2 a h a ha rfl
    obtain⟨F4,G,st5,pm5⟩:=st4.back w' hx
    rw[List.set_set] at st5
    exact q σ H' F4 aH.refl st5 ((s2.trans s3 st3.chg).less (pm5.trans List.perm_append_comm))
   ·cases h2
  ·cases h2
 ·cases hg
end
section
variable {prog:Program}{w:World}{A:Around}{E:Value→Shared→Prop}{s:Shared}
end
section
variable {X:Cx}
end
end L2
namespace L2
open PySem PySem.Spec PyProof.Rows PySem.W
theorem wD {α:Type} (l:List α) (d:α):(List.range l.length).map (fun i=>l.getD i d)=l:=by
 apply List.ext_getElem
 ·simp
 ·intro i h1 h2
  simp[List.getD,h2]
theorem jb {α:Type}{l:List α}{d:α}{p:Array Nat} (h:Rg l.length p):(p.toList.map fun i=>l.getD i d).Perm l:=by
 have:=List.Perm.map (fun i=>l.getD i d) h
 rw[wD] at this
 exact this
theorem jc {α β:Type}{F:α→β→Prop}:∀ {l₁:List α}{l₂:List β},l₁.length=l₂.length→(∀ (i:Nat) a b,l₁[i]?=some a→l₂[i]?=some b→F a b)→Paired F l₁ l₂
 | [],[],_,_=>.nil
 | a::l,b::m,h,f=>.cons (f 0 a b rfl rfl) (jc (by simpa using h) fun i x y h1 h2=>f (i+1) x y (by simpa using h1) (by simpa using h2))
 | [],_::_,h,_=>by simp at h
 | _::_,[],h,_=>by simp at h
section
variable {prog:Program}{w:World}{A:Around}{E:Value→Shared→Prop}{s:Shared}{vs:List Value}
theorem kO {B:Addr}{n0:Nat}{P:PySem.Fin→Shared→Prop} (key:Nat→Int) (κ:SortKind) (ho:s.heap.get? B=some (seqObj "list" vs.toArray n0))
  (hkind:2≤vs.length→∀ h6:Heap,(∀ b o,b≠B→s.heap.get? b=some o→h6.get? b=some o)→∀ Q:SortKind→Shared→Prop,Q κ { s with heap:=h6 }→wpAny (model prog w) A (keyKind' vs.toArray) Q E { s with heap:=h6 })
  (hcmp:∀ h6:Heap,(∀ b o,b≠B→s.heap.get? b=some o→h6.get? b=some o)→aZ vs.length key (kas_cmp prog w A κ (vs.toArray.zip vs.toArray)) { s with heap:=h6 })
  (inj:∀ i j,i<vs.length→j<vs.length→key i=key j→i=j) (up:vs.length<1001∨∀ j,1≤j→j<vs.length→key (j - 1)≤key j) (hz:vs.length≤1000)
  (h:∀ (p:Array Nat) (h':Heap),Rg vs.length p→Up key p vs.length→(∀ b o,b≠B→s.heap.get? b=some o→h'.get? b=some o)→(∃ e,h'.get? B=some (seqObj "list" (p.toList.map fun i=>vs.getD i Value.none).toArray e))→
   P (.done (.ret .none)) { s with heap:=h' }):wpAny (model prog w) A (Builtin.«list.sort» ⟨[.ref B],[]⟩) P E s:=by
 have hzl:vs.length≤sizeLine:=Nat.le_trans hz (by decide)
 rw[list_sort_plain]
 have hB:B<s.heap.objs.size:=Heap.lt_size ho
 refine wpAny_bind (listItems_at ho rfl (wpAny_bind (listUpdate_at ho rfl ?_ (hsz:=by rw[List.size_toArray];exact hzl) (hsz2:=by show 0≤_;exact Nat.zero_le _))))
 have ho1:=get?_update_seq ho (fun _=>#[])
 generalize he1:(if (#[]:Array Value).size == vs.toArray.size then n0 else n0+1)=e1 at ho1
 refine wpAny_bind (seqEpoch_at ho1 rfl (wpAny_bind (wpAny_newTuple (wpAny_bind (wpAny_newList (wpAny_holding ?_))) (by simpa using hzl))))
 have k6:∀ b o,b≠B→s.heap.get? b=some o→(((s.heap.update B (Obj.mapSeq fun _=>#[])).push (seqObj "tuple" vs.toArray.toList.toArray 0)).push (seqObj "list" ([]:List Value).toArray 0)).get? b=some o:=fun b o hb e=>
  Heap.get?_push_of_some _ (Heap.get?_push_of_some _ ((Heap.get?_update_other _ _ (Ne.symm hb)).trans e))
 have o6:(((s.heap.update B (Obj.mapSeq fun _=>#[])).push (seqObj "tuple" vs.toArray.toList.toArray 0)).push (seqObj "list" ([]:List Value).toArray 0)).get? B=some (seqObj "list" #[] e1):=
  Heap.get?_push_of_some _ (Heap.get?_push_of_some _ ho1)
 show wpAny (model prog w) A _ P E { s with heap:=((s.heap.update B (Obj.mapSeq fun _=>#[])).push (seqObj "tuple" vs.toArray.toList.toArray 0)).push (seqObj "list" ([]:List Value).toArray 0) }
 generalize ((s.heap.update B (Obj.mapSeq fun _=>#[])).push (seqObj "tuple" vs.toArray.toList.toArray 0)).push (seqObj "list" ([]:List Value).toArray 0)=h6 at k6 o6 ⊢
 -- the end,whatever the order found
 have fin:∀ (st:SortSt) (p:Array Nat),Rg vs.length p→Up key p vs.length→arrOf st=p.map (kas_item (vs.toArray.zip vs.toArray))→failedOf st=none→
   wpAny (model prog w) A (do
    let touched:=(← seqEpoch B) != e1
    Builtin.List.listUpdate (.ref B) fun _=>(arrOf st).map (·.2)
    if let some e:=failedOf st then rule "list.sort.comparison-raised";throw e
    if touched then rule "list.sort.modified";raiseError "ValueError" "list modified during sort"
    ret .none) P E { s with heap:=h6 }:=fun st p r1 r2 r3 r4=>by
  have out:=kat_snds (ks:=vs) (vs:=vs) rfl r3
  rw[out,r4]
  refine wpAny_bind (seqEpoch_at (s:={ s with heap:=h6 }) o6 rfl (wpAny_bind (listUpdate_at (s:={ s with heap:=h6 }) o6 rfl ?_ (hsz:=Nat.zero_le _) (hsz2:=by
   show (List.toArray (p.toList.map fun i=>vs.getD i Value.none)).size≤_
   rw[List.size_toArray,List.length_map,Array.length_toList,r1.size]
   lia))))
  simp only[bne_self_eq_false,Bool.false_eq_true,if_false]
  refine wpAny_pure (h p _ r1 r2 (fun b o hb e=>(Heap.get?_update_other _ _ (Ne.symm hb)).trans (k6 b o hb e)) ⟨_,get?_update_seq o6 fun _=>_⟩)
 dsimp only
 by_cases h2:vs.toArray.size<2
 ·rw[if_pos h2,if_pos h2]
  refine wpAny_bind (wpAny_pure ?_)
  rw[StateT.run_pure]
  apply wpAny_bind
  apply wpAny_pure
  have h2':vs.length<2:=by simpa using h2
  refine fin (SortSt.mk' general' (vs.toArray.zip vs.toArray) #[] 7 none) (List.range vs.length).toArray (List.Perm.refl _) (fun i j hij hj=>?_) ?_ rfl
  ·have:i=j:=by lia
   subst this
   exact Int.le_refl _
  ·have:=kas_range (vs.toArray.zip vs.toArray)
   rw[show (vs.toArray.zip vs.toArray).size=vs.length by simp] at this
   exact this.symm
 ·rw[if_neg h2,if_neg h2]
  have h2':2≤vs.length:=by simpa using h2
  refine wpAny_bind (hkind h2' h6 k6 _ ?_)
  ·have cm:=hcmp h6 k6
   have kr:=kas_range (vs.toArray.zip vs.toArray)
   rw[show (vs.toArray.zip vs.toArray).size=vs.length by simp] at kr
   have run:=vx (E:=E) (Q:=fun _ st s'=>s'={ s with heap:=h6 }∧∃ p,Rg vs.length p∧Up key p vs.length∧arrOf st=p.map (kas_item (vs.toArray.zip vs.toArray))∧failedOf st=none) cm
    inj h2' up fun p' st' a b c d=>⟨rfl,p',a,b,c,d⟩
   unfold kas_st at run
   rw[kr] at run
   refine wpAny_bind (wpAny_mono run (fun r s' hr=>?_) fun _ _ e=>e)
   obtain⟨u,st⟩:=r
   obtain⟨rfl,p,r1,r2,r3,r4⟩:=hr
   exact fin st p r1 r2 r3 r4
end
section
variable {X:Cx}{pins:List (Addr×Obj)}{σ:L2.St}{H:Hp}{s:Shared}
theorem oq (hc:X.calm=true) {a:Addr}{ys:List V}{its:List Value}{n:Nat}{T:String}{o:Obj}{Q:VK} (key:Nat→Int) (κ:SortKind) (I:Inv X pins σ H s) (rv:am ys its) (hT:T = "list" ∨ T = "tuple") (e:s.heap.get? a=some o) (eC:o.cls=.type T) (eD:o.data=.seq its.toArray n) (hz:ys.length≤1000)
  (hkind:2≤its.length→∀ (h6:Heap) (tk:Nat),(∀ b o,s.heap.get? b=some o→h6.get? b=some o)→∀ (A:Around) (E:Value→Shared→Prop) (Q:SortKind→Shared→Prop),Q κ { s with heap:=h6,toks:=tk }→wpAny (model X.prog X.w) A (keyKind' its.toArray) Q E { s with heap:=h6,toks:=tk })
  (hcmp:∀ (h6:Heap) (tk:Nat),(∀ b o,s.heap.get? b=some o→h6.get? b=some o)→aZ its.length key (kas_cmp X.prog X.w X.A.in1.in1 κ (its.toArray.zip its.toArray)) { s with heap:=h6,toks:=tk })
  (inj:∀ i j,i<its.length→j<its.length→key i=key j→i=j) (up:its.length<1001∨∀ j,1≤j→j<its.length→key (j - 1)≤key j)
  (q:∀ (p:Array Nat) l,Rg its.length p→Up key p its.length→H l=none→Q (.ref l) (upd H l (.lst (p.toList.map fun i=>ys.getD i .non)))):
  wpAny (model X.prog X.w) X.A (call (.builtin "sorted") [.ref a]) (EP X pins σ Q) X.xe s:=by
 have hl:ys.length=its.length:=rv.length
 have hsl:its.length≤sizeLine:=Nat.le_trans (by lia) (show 1000≤sizeLine by decide)
 refine Calls.call_function_entry kind_sorted plain_sorted entry_sorted (args_sorted1 _) ?z
 case z=>
  unfold Builtin.«sorted»
  refine wpAny_bind (m:=checkCount "sorted" 1 1 _) (wpAny_pure (wpAny_bind (wpAny_collect_seq a hT e eC eD (fun h' hkp=>?_) (by rw[List.size_toArray];exact hsl))))
  show wpAny _ _ (newList its >>= _) _ _ _
  refine wpAny_bind (wpAny_newList ?_ hsl)
  have oB:(h'.push (seqObj "list" its.toArray 0)).get? h'.objs.size=some (seqObj "list" its.toArray 0):=Heap.get?_push_size _ rfl
  have kB:∀ b o,s.heap.get? b=some o→(h'.push (seqObj "list" its.toArray 0)).get? b=some o:=fun b o e=>Heap.get?_push_of_some _ (hkp b o e)
  have I1:Inv X pins σ H { s with heap:=h' }:=I.kept (t':=s.toks) hkp
  have nB:∀ b o,s.heap.get? b=some o→b≠h'.objs.size:=fun b o e=>Nat.ne_of_lt (Heap.lt_size (hkp b o e))
  refine wpAny_bind (wpAny_holding (wpAny_call_entry slot_list_sort ⟨_,oB,rfl⟩ entry_list_sort ?y (args_list_sort _)))
  case y=>
   refine kO (s:={ s with heap:=h'.push (seqObj "list" its.toArray 0) }) key κ oB (fun h2 h6 k6 Q hq=>hkind h2 h6 s.toks (fun b o eb=>k6 b o (nB b o eb) (kB b o eb)) _ _ Q hq) (fun h6 k6=>hcmp h6 s.toks fun b o eb=>k6 b o (nB b o eb) (kB b o eb)) inj up (by lia) fun p h2 r1 r2 k2 ⟨e9,oB2⟩=>⟨_,rfl,wpAny_pure ⟨_,rfl,?_⟩⟩
   have fB:H h'.objs.size=none:=I1.hok.fresh (Nat.le_refl _)
   have neB:∀ b o,h'.get? b=some o→b≠h'.objs.size:=fun b o e=>Nat.ne_of_lt (Heap.lt_size e)
   refine⟨.ref h'.objs.size,upd H h'.objs.size (.lst (p.toList.map fun i=>ys.getD i .non)),?_,rfl,q p _ r1 r2 fB⟩
   refine I1.laid (t':=s.toks) (fun b u e=>k2 b u (neB b u e) (Heap.get?_push_of_some _ e)) (Nat.le_refl _) ⟨?_,_,e9,?_,oB2⟩
   ·rw[List.length_map,Array.length_toList,r1.size]
    lia
   ·refine jc (by simp) fun i v u h1 h2=>?_
    rw[List.getElem?_map] at h1 h2
    cases hpi:p.toList[i]? with
    | none=>rw[hpi] at h1;cases h1
    | some k=>
     rw[hpi] at h1 h2
     cases h1
     cases h2
     have hk:k<its.length:=List.mem_range.mp (r1.mem_iff.mp (List.mem_of_getElem? hpi))
     obtain⟨u,h3,h4⟩:=rv.get (i:=k) (x:=ys[k]'(by lia)) (by simp[show k<ys.length by lia])
     rw[List.getElem?_eq_getElem hk] at h3
     have h3:=Option.some.inj h3
     simp only[List.getD,List.getElem?_eq_getElem hk,List.getElem?_eq_getElem (show k<ys.length by lia),Option.getD_some]
     rw[h3]
     exact h4
end
noncomputable def fZ (ns:List Int) (i:Nat):Int:=ns.getD i 0
theorem ot {ns:List Int} (nd:ns.Nodup):∀ i j,i<ns.length→j<ns.length→fZ ns i=fZ ns j→i=j:=fun i j hi hj e=>by
 unfold fZ at e
 rw[List.getD_eq_getElem?_getD,List.getD_eq_getElem?_getD,List.getElem?_eq_getElem hi,List.getElem?_eq_getElem hj] at e
 have e':ns[i]=ns[j]:=e
 rcases Nat.lt_trichotomy i j with h | h | h
 ·exact absurd e' ((List.pairwise_iff_getElem.mp nd) i j hi hj h)
 ·exact h
 ·exact absurd e'.symm ((List.pairwise_iff_getElem.mp nd) j i hj hi h)
theorem upZ {ns:List Int}{p:Array Nat} (hp:Rg ns.length p) (up:Up (fZ ns) p ns.length) (nd:ns.Nodup):(p.toList.map fun i=>ns.getD i 0).Pairwise (· < ·):=by
 rw[List.pairwise_iff_getElem]
 intro i j hi hj hij
 have hs:=hp.size
 have hi':i<ns.length:=by simpa [hs] using hi
 have hj':j<ns.length:=by simpa [hs] using hj
 have ne:=hp.ne (ot nd) hij hj'
 have le:=up i j (by lia) hj'
 have g:∀ k (hk:k<(p.toList.map fun i=>ns.getD i 0).length),(p.toList.map fun i=>ns.getD i 0)[k]=kyA (fZ ns) p k:=fun k hk=>by
  have hk':k<p.size:=by simpa using hk
  rw[List.getElem_map,Array.getElem_toList]
  show _=ns.getD (p.getD k 0) 0
  simp[Array.getD,hk']
 rw[g i hi,g j hj]
 lia
section
variable {X:Cx}
theorem jd {H:Hp}:∀ {ns:List Int}{its:List Value},am (ns.map V.int) its→∀ (i:Nat),i<ns.length→∃ t,its[i]?=some (.int (ns.getD i 0) t)
 | n::r,_,.cons a b,0,h=>by obtain⟨t,rfl⟩:=a;exact⟨t,rfl⟩
 | n::r,_,.cons a b,i+1,h=>by
  obtain⟨t,e⟩:=jd (H:=H) b i (by simpa using h)
  exact⟨t,by simpa using e⟩
theorem wE (hc:X.calm=true):aX X (.builtin "sorted") (fun xs H Q=>∃ (a:Addr) (ns:List Int),xs=[.ref a]∧H a=some (.lst (ns.map V.int))∧ns.Nodup∧ns.length≤1000∧
  ∀ l (ns':List Int),H l=none→ns'.Perm ns→ns'.Pairwise (· < ·)→Q (.ref l) (upd H l (.lst (ns'.map V.int)))):=by
 intro pins s σ H xs us Q I r h
 obtain⟨a,ns,rfl,ha,nd,hz,q⟩:=h
 obtain⟨u,rfl,ru⟩:=cg r
 cases ru
 obtain⟨z,its,n,rv,e⟩:=I.hok a _ ha
 have li:its.length=ns.length:=by rw[← rv.length,List.length_map]
 refine oq hc (fZ ns) oneType' I rv (.inl rfl) e rfl rfl (by rw[List.length_map];exact hz) (fun h2 h6 tk k A E Q hq=>?_) (fun h6 tk k=>?_) (by rw[li];exact ot nd) (.inl (by lia)) fun p l r1 r2 fl=>?_
 ·refine kas_kind (T:=Value.type "int") h2 (fun v hv=>?_) (by decide) (by decide) hq
  obtain⟨i,hi⟩:=List.getElem?_of_mem hv
  obtain⟨t,ht⟩:=jd (H:=H) rv i (by rw[← li];exact (List.getElem?_eq_some_iff.mp hi).1)
  rw[hi] at ht
  cases ht
  exact Looks.of_pure rfl
 ·intro i j C hi hj q
  obtain⟨t,h1⟩:=jd (H:=H) rv i (by lia)
  obtain⟨u,h2⟩:=jd (H:=H) rv j (by lia)
  unfold kas_cmp
  rw[kat_item rfl,kat_item rfl,List.getD_eq_getElem?_getD,List.getD_eq_getElem?_getD,h1,h2]
  show wpAny _ _ (keyLt' oneType' (.int _ t) (.int _ u)) _ _ _
  rw[keyLt'_oneType]
  exact oneLt_int q
 ·rw[li] at r1 r2
  have e2:(p.toList.map fun i=>(ns.map V.int).getD i .non)=(p.toList.map fun i=>ns.getD i 0).map V.int:=by
   rw[List.map_map]
   refine List.map_congr_left fun k hk=>?_
   have hk':k<ns.length:=List.mem_range.mp (r1.mem_iff.mp hk)
   show (ns.map V.int).getD k .non=V.int (ns.getD k 0)
   simp[List.getD,hk']
  rw[e2]
  exact q l _ fl (jb r1) (upZ r1 r2 nd)
end
end L2
namespace L2
open PySem PySem.Spec PyProof.Rows
section
variable {X:Cx}
noncomputable def cn:List Im→List Im→List Im
 | x::xs,y::ys=>.tup [x,y]::cn xs ys
 | _,_=>[]
theorem ou:∀ (xs ys:List Im),(cn xs ys).length=min xs.length ys.length
 | [],ys=>by simp[cn]
 | x::xs,[]=>by simp[cn]
 | x::xs,y::ys=>by simp[cn,ou xs ys]
theorem oz:∀ (xs ys:List Im) (i:Nat) (d:Im),(cn xs ys)[i]?=some d→∃ x y,xs[i]?=some x∧ys[i]?=some y∧d=.tup [x,y]
 | [],ys,i,d,h=>by simp[cn] at h
 | x::xs,[],i,d,h=>by simp[cn] at h
 | x::xs,y::ys,0,d,h=>by simp[cn] at h;exact⟨x,y,rfl,rfl,h.symm⟩
 | x::xs,y::ys,i+1,d,h=>by
  obtain⟨a,b,h1,h2,h3⟩:=oz xs ys i d (by simpa [cn] using h)
  exact⟨a,b,by simpa using h1,by simpa using h2,h3⟩
@[simp] noncomputable def iZ (g:M (List Opd)):MI:=fun D=>(g D).bind fun p=>(b6 p.2 p.1).bind fun ds=>match ds with
 | [.im (.tup x),.im (.tup y)]=>some ((cn x y,none),p.2)
 | _=>none
theorem wF {K:PySem.W.Frag}{H:Hp}{a b:Addr}{xs ys:List V}{ds es:List Im} (h:H a=some (.tup xs)) (hd:aj H ds xs) (h':H b=some (.tup ys)) (hd':aj H es ys):ItOk (Itz K a b) H [] (cn ds es) where
 go:=fun H' t k i d e=>by
  obtain⟨x,y,e1,e2,rfl⟩:=oz ds es i d e
  obtain⟨v,g1,g2⟩:=hd.get e1
  obtain⟨u,k1,k2⟩:=hd'.get e2
  have q1:=SqT.of (K:=K) (t.tup a _ h)
  have q2:=SqT.of (K:=K) (t.tup b _ h')
  refine⟨⟨xs,ys,v,u,q1,q2,g1,k1⟩,fun z H'' ⟨T,x',y',f,ez,eH,y1,y2⟩=>?_⟩
  subst ez eH
  have z1:=y1 xs q1
  have z2:=y2 ys q2
  rw[g1] at z1
  rw[k1] at z2
  cases z1
  cases z2
  have s:ax H' (upd H' T (.tup [v,u])):=(ax.refl H').upd f
  exact⟨s,T,[v,u],rfl,bi,⟨v,[u],rfl,(g2.mono t.tup).mono s.tupS.tup,u,[],rfl,(k2.mono t.tup).mono s.tupS.tup,rfl⟩⟩
 stop:=fun H' t k=>⟨xs,ys,SqT.of (t.tup a _ h),SqT.of (t.tup b _ h'),by rw[ou,← hd.length,← hd'.length];lia⟩
theorem wG {a b:Expr}{g:M (List Opd)}{p pos:Pos}{es:List Expr}{ek:Nat}{ps:Pos} (hg:Gl X "zip") (hm:X.mg "zip" = none) (ha:VA X [a,b] g) (hs:starEach [a,b] X.env=[(false,eval a X.env),(false,eval b X.env)]:=by rfl) (hs2:starEach [b] X.env=[(false,eval b X.env)]:=by rfl):
  VI X (.Tuple es ek ps) (.Call (.Name "zip" p) [a,b] [] pos) (iZ g):=by
 refine kj (vD hg hm ha hs hs2) fun σ H Rk ⟨D,F,r,D',st,nd,hgg,q⟩=>?_
 obtain⟨⟨os,D1⟩,h1,h2⟩:=Option.bind_eq_some_iff.mp hgg
 obtain⟨ds,h3,h4⟩:=Option.bind_eq_some_iff.mp h2
 refine⟨D,F,os,D1,st,nd,h1,fun vs H1 F1 R1 st1 o1 s1=>?_⟩
 have rd:=o1.read st1 h3
 split at h4
 ·cases h4
  obtain⟨v,u,rfl,e,e'⟩:=vX rd
  obtain⟨a,xs,rfl,k1,k2⟩:=e
  obtain⟨b,ys,rfl,k3,k4⟩:=e'
  exact⟨a,b,rfl,⟨xs,SqT.of k1⟩,⟨ys,SqT.of k3⟩,q _ H1 F1 [] st1 (wF k1 k2 k3 k4) trivial (fun a ha=>nomatch ha) (by rw[List.append_nil];exact s1.both)⟩
 ·cases h4
@[simp] noncomputable def zQ:OpN:=fun ds=>match ds with
 | [.im (.int i),.im (.int j),.im (.int k)]=>some (.im (.int (min (min i j) k)))
 | _=>none
noncomputable def ed (lt:Im→Im→Bool) (x:Im):List Im→List Im
 | []=>[x]
 | y::r=>if lt x y=true then x::y::r else y::ed lt x r
noncomputable def bm (lt:Im→Im→Bool):List Im→List Im
 | []=>[]
 | x::r=>ed lt x (bm lt r)
noncomputable def ltI:Im→Im→Bool
 | .int i,.int j=>decide (i<j)
 | _,_=>false
noncomputable def ints?:List Im→Option (List Int)
 | []=>some []
 | .int i::r=>(ints? r).map fun s=>i::s
 | _::_=>none
@[simp] noncomputable def vSorted:OpN:=fun ds=>match ds with
 | [.lst x]=>(ints? x).bind fun ns=>if ns.Nodup∧ns.length≤1000 then some (.lst (bm ltI x)) else none
 | _=>none
noncomputable def ee (x:Int):List Int→List Int
 | []=>[x]
 | y::r=>if x<y then x::y::r else y::ee x r
noncomputable def f6:List Int→List Int
 | []=>[]
 | x::r=>ee x (f6 r)
theorem oA (x:Int):∀ l:List Int,ed ltI (.int x) (l.map .int)=(ee x l).map .int
 | []=>rfl
 | y::r=>by
  rw[List.map_cons,ed,ee,ltI]
  by_cases h:x<y
  ·rw[if_pos (by simpa using h),if_pos h];rfl
  ·rw[if_neg (by simpa using h),if_neg h,oA x r];rfl
theorem oC:∀ l:List Int,bm ltI (l.map .int)=(f6 l).map .int
 | []=>rfl
 | x::r=>by rw[List.map_cons,bm,oC r,oA];rfl
theorem kP (x:Int):∀ l:List Int,(ee x l).Perm (x::l)
 | []=>List.Perm.refl _
 | y::r=>by
  rw[ee]
  split
  ·exact List.Perm.refl _
  ·exact ((kP x r).cons y).trans (List.Perm.swap x y r)
theorem kQ:∀ l:List Int,(f6 l).Perm l
 | []=>List.Perm.refl _
 | x::r=>(kP x _).trans ((kQ r).cons x)
theorem oD (x:Int):∀ l:List Int,l.Pairwise (·≤·)→(ee x l).Pairwise (·≤·)
 | [],_=>List.pairwise_singleton _ _
 | y::r,h=>by
  obtain⟨h1,h2⟩:=List.pairwise_cons.mp h
  rw[ee]
  split
  ·rename_i hxy
   refine List.pairwise_cons.mpr ⟨fun z hz=>?_,h⟩
   rcases List.mem_cons.mp hz with rfl | hz
   ·lia
   ·have:=h1 z hz;lia
  ·rename_i hxy
   refine List.pairwise_cons.mpr ⟨fun z hz=>?_,oD x r h2⟩
   rcases List.mem_cons.mp ((kP x r).mem_iff.mp hz) with rfl | hz
   ·lia
   ·exact h1 z hz
theorem oE:∀ l:List Int,(f6 l).Pairwise (·≤·)
 | []=>List.Pairwise.nil
 | x::r=>oD x _ (oE r)
theorem wH {l:List Int} (h:l.Nodup):(f6 l).Pairwise (· < ·):=by
 have h1:=oE l
 have h2:(f6 l).Nodup:=(kQ l).nodup_iff.mpr h
 exact List.Pairwise.imp₂ (fun a b x y=>by lia) h1 h2
theorem oF:∀ {l m:List Int},l.Perm m→l.Pairwise (· < ·)→m.Pairwise (· < ·)→l=m
 | [],m,h,_,_=>h.nil_eq
 | a::l,[],h,_,_=>absurd h.length_eq (by simp)
 | a::l,b::m,h,hl,hm=>by
  have hl':=List.pairwise_cons.mp hl
  have hm':=List.pairwise_cons.mp hm
  have e:a=b:=by
   rcases List.mem_cons.mp (h.mem_iff.mp (.head _)) with z | z
   ·exact z
   ·rcases List.mem_cons.mp (h.mem_iff.mpr (.head _)) with y | y
    ·exact y.symm
    ·have h1:=hl'.1 b y
     have h2:=hm'.1 a z
     lia
  subst e
  rw[oF h.cons_inv hl'.2 hm'.2]
theorem oG:∀ {x:List Im}{ns:List Int},ints? x=some ns→x=ns.map .int
 | [],ns,h=>by cases h;rfl
 | .int i::r,ns,h=>by
  rw[ints?] at h
  obtain⟨s,h1,rfl⟩:=Option.map_eq_some_iff.mp h
  rw[oG h1];rfl
 | .non::_,_,h=>by cases h
 | .bl _::_,_,h=>by cases h
 | .str _::_,_,h=>by cases h
 | .tup _::_,_,h=>by cases h
 | .fn _::_,_,h=>by cases h
 | .fl _::_,_,h=>by cases h
 | .fd::_,_,h=>by cases h
theorem oH {H:Hp}:∀ {ns:List Int}{vs:List V},aj H (ns.map .int) vs→vs=ns.map V.int
 | [],vs,h=>h
 | n::r,vs,h=>by
  obtain⟨v,t,rfl,h1,h2⟩:=h
  cases (show v=.int n from h1)
  rw[oH h2]
  rfl
theorem oI {H:Hp}:∀ ns:List Int,aj H (ns.map .int) (ns.map V.int)
 | []=>rfl
 | n::r=>⟨.int n,_,rfl,rfl,oI r⟩
theorem wI (hc:X.calm=true) (hu:X.A.units+20<cLine):cy X (.builtin "sorted") vSorted:=by
 refine (wE hc).imp fun xs H Q ⟨ds,d,rd,e,q⟩=>?_
 unfold vSorted at e
 split at e
 ·rename_i x
  obtain⟨ns,e1,e2⟩:=Option.bind_eq_some_iff.mp e
  split at e2
  ·rename_i hn
   cases e2
   obtain⟨v,rfl,_,p,xs,rfl,h1,h2,_⟩:=bD rd
   cases oG e1
   cases oH h2
   refine⟨p,ns,rfl,h1,hn.1,hn.2,fun l ns' fl pm up=>?_⟩
   rw[oC] at q
   rw[oF (pm.trans (kQ ns).symm) up (wH hn.1)]
   exact Out.l q fl (oI _)
  ·cases e2
 ·cases e
theorem oJ (hu:X.A.units+20<cLine):i9 X putV:=oo
end
end L2
namespace L2
open PySem
@[simp] theorem zR (d:Im) (D:SD):eC d D=some (.im d,D):=rfl
@[simp] theorem zS (D:SD):aNil D=some ([],D):=rfl
@[simp] theorem zU (D:SD):sNil D=some (.nx,D):=rfl
@[simp] theorem zV (D:SD):pNone D=some (none,D):=rfl
@[simp] theorem zW (D:SD):kYes D=some (true,D):=rfl
@[simp] theorem zX (d:Im):(Vl.im d).cp=true:=rfl
@[simp] theorem zY (d:List Im):(Vl.fz d).cp=true:=rfl
@[simp] theorem zZ (d:List Im):(Vl.lst d).cp=false:=rfl
@[simp] theorem z9 (d:List (List Im×Im)):(Vl.dT d).cp=false:=rfl
@[simp] theorem Aa (d:List (Key×Im)):(Vl.dK d).cp=false:=rfl
@[simp] theorem Ab (D:SD) (d:Vl):rsl D (.vl d)=some d:=rfl
@[simp] theorem Ac (D:SD) (i:Nat):rsl D (.sl i)=(D[i]?).getD none:=rfl
@[simp] theorem Ad (D:SD):b6 D []=some []:=rfl
@[simp] theorem Ae (D:SD) (o:Opd) (os:List Opd):b6 D (o::os)=(rsl D o).bind fun d=>(b6 D os).map fun ds=>d::ds:=rfl
@[simp] theorem Af (D:SD):aV [] D=some ([],D):=rfl
@[simp] theorem Ag (d:Vl) (os:List Opd) (D:SD):aV (.vl d::os) D=(aV os D).map fun p=>(d::p.1,p.2):=rfl
@[simp] theorem Ah (i:Nat) (os:List Opd) (D:SD):aV (.sl i::os) D=(cH i D).bind fun p=>(aV os p.2).map fun q=>(p.1::q.1,q.2):=rfl
@[simp] theorem Ai:ims []=some []:=rfl
@[simp] theorem Aj (d:Im) (ds:List Vl):ims (.im d::ds)=(ims ds).map fun r=>d::r:=rfl
@[simp] theorem Ak (b:Bool):asB (.im (.bl b))=some b:=rfl
theorem kR {i j:Int} (h1 : -(2 ^ 64)<j) (h2:j<2 ^ 64):bH i j=true:=by
 have:Builtin.Int.intBits j≤64:=intBits_le_64 h1 h2
 have h':¬ (Builtin.Int.intBits j > shortFactorBits):=Nat.not_lt.mpr this
 unfold bH
 rw[decide_eq_false h']
 simp
theorem f7 {i j:Int} (h1 : -(2 ^ 64)<i) (h2:i<2 ^ 64):bH i j=true:=by
 have:Builtin.Int.intBits i≤64:=intBits_le_64 h1 h2
 have h':¬ (Builtin.Int.intBits i > shortFactorBits):=Nat.not_lt.mpr this
 unfold bH
 rw[decide_eq_false h']
 simp
theorem oK {α:Type}{xs:List α}{n:Nat} (h:xs.length≤n):xs.take n=xs:=List.take_of_length_le h
theorem oM {α:Type} (xs:List α) (k:Nat):cQ xs (some (k:Int)) none=xs.drop k:=by
 unfold cQ
 rw[HT.mR,HT.mQ]
 by_cases h:k≤xs.length
 ·rw[Nat.min_eq_left h,oK (by rw[List.length_drop];lia)]
 ·rw[Nat.min_eq_right (by lia),Nat.sub_self,List.take_zero,List.drop_of_length_le (by lia)]
theorem wJ {α:Type} (xs:List α) (k:Nat):cQ xs none (some (k:Int))=xs.take k:=by
 unfold cQ
 rw[HT.mR,HT.mQ,List.drop_zero,Nat.sub_zero]
 by_cases h:k≤xs.length
 ·rw[Nat.min_eq_left h]
 ·rw[Nat.min_eq_right (by lia),List.take_length,oK (by lia)]
theorem oN {α:Type}{xs:List α}{i:Int}{d:α} (h0:0≤i) (h:xs[i.toNat]?=some d):atI xs i=some d:=by
 unfold atI ixN
 have hi:i.toNat<xs.length:=(List.getElem?_eq_some_iff.mp h).1
 rw[if_pos h0,if_pos (by lia)]
 exact h
theorem wK {tg:MG}{b:MS} (I:Nat→SD→Prop) (R:Vl→SD→Prop):∀ {xs:List Im}{D:SD},I 0 D→
  (∀ (i:Nat) (x:Im) (D:SD),xs[i]?=some x→I i D→∃ D1 fl D2,tg (.im x) D=some D1∧b D1=some (fl,D2)∧(((fl=.nx∨fl=.ct)∧I (i+1) D2)∨∃ d,fl=.rt d∧R d D2))→
  (∃ D',bz tg b xs D=some (.nx,D')∧I xs.length D')∨∃ d D',bz tg b xs D=some (.rt d,D')∧R d D':=by
 intro xs
 induction xs generalizing I with
 | nil=>intro D h0 _;exact .inl ⟨D,rfl,h0⟩
 | cons x r ih=>
  intro D h0 h
  obtain⟨D1,fl,D2,h1,h2,h3⟩:=h 0 x D rfl h0
  rcases h3 with ⟨hf,hI⟩ | ⟨d,rfl,hR⟩
  ·have:=ih (fun i=>I (i+1)) (D:=D2) hI fun i y D' hy hI'=>h (i+1) y D' (by simpa using hy) hI'
   have e:bz tg b (x::r) D=bz tg b r D2:=by
    rw[bz]
    dsimp only
    rw[h1]
    show (b D1).bind _=_
    rw[h2]
    rcases hf with rfl | rfl<;>rfl
   rw[e]
   exact this
  ·refine .inr ⟨d,D2,?_,hR⟩
   rw[bz]
   dsimp only
   rw[h1]
   show (b D1).bind _=_
   rw[h2]
   rfl
theorem gZ {tg:MG}{b:MS} (I:Nat→SD→Prop) {xs:List Im}{D:SD} (h0:I 0 D)
  (h:∀ (i:Nat) (x:Im) (D:SD),xs[i]?=some x→I i D→∃ D1 fl D2,tg (.im x) D=some D1∧b D1=some (fl,D2)∧(fl=.nx∨fl=.ct)∧I (i+1) D2):
  ∃ D',bz tg b xs D=some (.nx,D')∧I xs.length D':=by
 rcases wK I (fun _ _=>False) h0 (fun i x D hx hI=>by
  obtain⟨D1,fl,D2,h1,h2,h3,h4⟩:=h i x D hx hI
  exact⟨D1,fl,D2,h1,h2,.inl ⟨h3,h4⟩⟩) with h | ⟨_,_,_,h⟩
 ·exact h
 ·exact h.elim
theorem wL {α:Type} (xs:List α):xs.filter (fun _=>true)=xs:=List.filter_eq_self.mpr fun _ _=>rfl
theorem wM {g h:MS}{D D1:SD} (e:g D=some (.nx,D1)):aq g h D=h D1:=by unfold aq;rw[e];rfl
theorem kS {g h:MS}{D D1:SD}{d:Vl} (e:g D=some (.rt d,D1)):aq g h D=some (.rt d,D1):=by unfold aq;rw[e];rfl
theorem wN {g:MI}{tg:MG}{b:MS}{D D1 D2:SD}{xs:List Im}{o:Option (Nat×Vl)}{fl:Fl} (e:g D=some ((xs,o),D1)) (h:bz tg b xs D1=some (fl,D2)):cC g tg b D=some (fl,rst o D2):=by
 unfold cC;rw[e];show (bz tg b xs D1).map _=_;rw[h];rfl
theorem wO {n m:Nat}{fix:List Nat}{g:MS}{ds:List Vl}{D:SD}{r:Vl} (hl:ds.length=n) (e:g (ds.map some++List.replicate (m - n) none)=some (.rt r,D)):bA n m fix g ds=some (r,cP fix ds D 0):=by
 unfold bA;rw[if_pos hl,e]
theorem wP {own:Nat}{caps:List Nat}{gi:MI}{tg:MG}{c:M Bool}{e:M Vl}{D D1 C':SD}{xs ds:List Im}{o:Option (Nat×Vl)} (h1:gi D=some ((xs,o),D1)) (h2:bR own tg c e xs [] (dg caps D1)=some (ds,C')):cN own caps gi tg c e D=some (.lst ds,rst o (cD caps C' D1)):=by
 unfold cN;rw[h1];show (bR own tg c e xs [] (dg caps D1)).map _=_;rw[h2];rfl
theorem dj {g:M Vl}{D D1:SD}{d:Vl} (e:g D=some (d,D1)):a0 g D=some (.rt d,D1):=by unfold a0;rw[e];rfl
theorem wQ {i:Nat}{g:M Vl}{D D1:SD}{d:Vl} (e:g D=some (d,D1)) (h:i<D1.length):ay i g D=some (.nx,D1.set i (some d)):=by unfold ay;rw[e];show (if i<D1.length then _ else _)=_;rw[if_pos h]
theorem wR {c:M Bool}{a b:MS}{D D1:SD} (e:c D=some (true,D1)):sIf c a b D=a D1:=by unfold sIf;rw[e];rfl
theorem wS {c:M Bool}{a b:MS}{D D1:SD} (e:c D=some (false,D1)):sIf c a b D=b D1:=by unfold sIf;rw[e];rfl
theorem wT {n m:Nat}{fix:List Nat}{g:MS}{ds:List Vl} (D:SD) {r:Vl}{outs:List Vl} (hl:ds.length=n) (e:g (ds.map some++List.replicate (m - n) none)=some (.rt r,D)) (ho:cP fix ds D 0=outs):bA n m fix g ds=some (r,outs):=by
 rw[wO hl e,ho]
theorem kT {α:Type}{own:Nat}{tg:MG}{c:M Bool}{e:M Vl}{C:SD} (φ:α→Im) (p:α→Bool) (f:α→Im):∀ (xs:List α) (acc:List Im),(∀ x∈xs,∃ D1 D2,tg (.im (φ x)) (List.replicate own none++C)=some D1∧c D1=some (p x,D2)∧(p x=false→D2.drop own=C)∧(p x=true→∃ D3,e D2=some (.im (f x),D3)∧D3.drop own=C))→
  acc.length+xs.length≤100000→bR own tg c e (xs.map φ) acc C=some (acc++(xs.filter p).map f,C)
 | [],acc,_,_=>by simp[bR]
 | x::r,acc,h,hl=>by
  obtain⟨D1,D2,h1,h2,h3,h4⟩:=h x (.head _)
  rw[List.length_cons] at hl
  rw[List.map_cons,bR,h1]
  show (c D1).bind _=_
  rw[h2]
  show (if p x=true then _ else _)=_
  cases hp:p x with
  | false=>
   rw[if_neg Bool.false_ne_true]
   show bR own tg c e (r.map φ) acc (D2.drop own)=_
   rw[h3 hp,kT φ p f r acc (fun y hy=>h y (.tail _ hy)) (by lia),List.filter_cons,hp]
   rfl
  | true=>
   obtain⟨D3,h5,h6⟩:=h4 hp
   rw[if_pos rfl]
   show (e D2).bind _=_
   rw[h5]
   show (if acc.length<100000 then bR own tg c e (r.map φ) (acc++[f x]) (D3.drop own) else none)=_
   rw[if_pos (by lia),h6,kT φ p f r (acc++[f x]) (fun y hy=>h y (.tail _ hy)) (by rw[List.length_append,List.length_singleton];lia),List.filter_cons,hp]
   simp
theorem kU {α:Type}{own:Nat}{tg:MG}{c:M Bool}{e:M Vl}{C:SD} (φ:α→Im) (f:α→Im) (xs:List α) (h:∀ x∈xs,∃ D1 D2 D3,tg (.im (φ x)) (List.replicate own none++C)=some D1∧c D1=some (true,D2)∧e D2=some (.im (f x),D3)∧D3.drop own=C)
  (hl:xs.length≤100000):bR own tg c e (xs.map φ) [] C=some (xs.map f,C):=by
 have:=kT (own:=own) (tg:=tg) (c:=c) (e:=e) (C:=C) φ (fun _=>true) f xs [] (fun x hx=>by
  obtain⟨D1,D2,D3,h1,h2,h3,h4⟩:=h x hx
  exact⟨D1,D2,h1,h2,(fun z=>by cases z),(fun _=>⟨D3,h3,h4⟩)⟩) (by rw[List.length_nil];lia)
 rw[wL] at this
 exact this
end L2
namespace L2
open PySem PySem.Spec PyProof.Rows
section
variable {prog:Program}{w:World}{A:Around}{E:Value→Shared→Prop}{s:Shared}
end
section
variable {X:Cx}
end
section
variable {X:Cx}
end
section
variable {X:Cx}
noncomputable def g0:Im→Option Key
 | .int i=>some (.inl i)
 | .str x=>some (.inr x)
 | _=>none
@[simp] theorem Al (i:Int):g0 (.int i)=some (.inl i):=rfl
@[simp] theorem Am (x:Str):g0 (.str x)=some (.inr x):=rfl
noncomputable def kI:Key→Im
 | .inl i=>.int i
 | .inr x=>.str x
@[simp] theorem An (i:Int):kI (.inl i)=.int i:=rfl
@[simp] theorem Ao (x:Str):kI (.inr x)=.str x:=rfl
theorem wU {H:Hp}{d:Im}{v:V}{k:Key} (h:IsI H d v) (e:g0 d=some k):v=kV k:=by
 cases d with
 | int i=>cases e;exact h
 | str x=>cases e;exact h
 | _=>cases e
noncomputable def eg {κ:Type} [DecidableEq κ] (kvs:List (κ×Im)) (k:κ) (d:Im):List (κ×Im):=
 if (kvs.any fun kv=>decide (kv.1=k))=true then kvs.map (fun kv=>if kv.1=k then (kv.1,d) else kv) else kvs++[(k,d)]
theorem PKv.any {κ:Type} [DecidableEq κ] {H:Hp}{k:κ}{l:List (κ×Im)}{m:List (κ×V)} (h:PKv H l m):(l.any fun kv=>decide (kv.1=k))=(m.any fun kv=>decide (kv.1=k)):=by
 unfold PKv at h
 induction h with
 | nil=>rfl
 | cons r _ ih=>rw[List.any_cons,List.any_cons,ih,r.1]
theorem PKv.upd {κ:Type} [DecidableEq κ] {H:Hp}{k:κ}{d:Im}{v:V} (w:IsI H d v) {l:List (κ×Im)}{m:List (κ×V)} (h:PKv H l m):PKv H (l.map fun kv=>if kv.1=k then (kv.1,d) else kv) (m.map fun kv=>if kv.1=k then (kv.1,v) else kv):=by
 unfold PKv at h
 induction h with
 | nil=>exact .nil
 | @cons p q _ _ r _ ih=>
  rw[List.map_cons,List.map_cons]
  refine .cons ?_ ih
  by_cases e:p.1=k
  ·have e':q.1=k:=r.1.symm.trans e
   rw[if_pos e,if_pos e']
   exact⟨r.1,w⟩
  ·have e':¬ q.1=k:=fun z=>e (r.1.trans z)
   rw[if_neg e,if_neg e']
   exact r
theorem wV {α β:Type}{F:α→β→Prop}{l:List α}{m:List β}{a:α}{b:β} (h:Paired F l m) (x:F a b):Paired F (l++[a]) (m++[b]):=by
 induction h with
 | nil=>exact .cons x .nil
 | cons r _ ih=>exact .cons r ih
theorem PKv.put {κ:Type} [DecidableEq κ] {H:Hp}{k:κ}{d:Im}{v:V} (w:IsI H d v) {l:List (κ×Im)}{m:List (κ×V)} (h:PKv H l m):PKv H (eg l k d) (ci m k v):=by
 unfold eg ci
 rw[h.any]
 split
 ·exact h.upd w
 ·exact wV h ⟨rfl,w⟩
@[simp] noncomputable def eDict0T:M Vl:=fun D=>some (.dT [],D)
theorem kW {pos:Pos}:VE X (.Dict [] [] pos) eDict0T:=by
 refine aR uR fun σ H Q ⟨D,F,r,D',st,nd,hgg,q⟩ p hp=>?_
 cases hgg
 have s:ax H (L2.upd H p (.dT [])):=(ax.refl H).upd hp
 have s1:Stp H F H (F++[]):=by rw[List.append_nil];exact Stp.perm nd (List.Perm.refl _)
 exact q _ _ F [p] (st.mono s.tupS fun a _ o e=>s a o e) ⟨p,[],rfl,bi,.nil,rfl⟩ (s1.new s (List.pairwise_singleton _ _) (fun a ha=>by rw[List.mem_singleton.mp ha];exact hp) st.chg)
@[simp] noncomputable def Ap (gk gv:M Vl):M Vl:=fun D=>(gk D).bind fun p=>(gv p.2).bind fun q=>match p.1,q.1 with
 | .im k,.im d=>(g0 k).map fun k'=>(.dK [(k',d)],q.2)
 | _,_=>none
@[simp] noncomputable def putA (c k d:Vl):Option Vl:=match c,k,d with
 | .lst xs,.im (.int i),.im d=>(ixN xs.length i).map fun j=>.lst (xs.set j d)
 | .dK kvs,.im k,.im d=>(g0 k).bind fun k'=>if kvs.length<100000 then some (.dK (eg kvs k' d)) else none
 | .dT kvs,.im (.tup k),.im d=>if Im.keys 7 k=true∧kvs.length<100000 then some (.dT (eg kvs k d)) else none
 | _,_,_=>none
theorem oO (hu:X.A.units+20<cLine):i9 X putA:=by
 intro pins s σ H o i v ov iv u Q I ro ri rv ⟨c,k,d,c',R,S,wc,wk,wd,nd,e,q⟩
 unfold putA at e
 split at e
 ·exact oo pins s σ H o i v ov iv u Q I ro ri rv ⟨_,_,_,c',R,S,wc,wk,wd,nd,e,q⟩
 ·obtain⟨k',e1,e2⟩:=Option.bind_eq_some_iff.mp e
  split at e2
  ·rename_i hl
   cases e2
   obtain⟨a,ys,rfl,h1,h2,rfl⟩:=wc
   obtain⟨hd,rfl⟩:=wd
   have c:Chg H a:=⟨_,h1,(fun _ e=>by cases e),(fun _ _ e=>by cases e)⟩
   cases ro
   have hy:=wU wk.1 e1
   subst hy
   refine m9 hu I (eJ.k h1 (by rw[← h2.length];exact kN hl)) ri rv fun s' I'=>⟨_,I',q _ [a] ?_ (Stp.chg (.head _) c (List.pairwise_singleton _ _) fun x hx=>by simpa using hx)⟩
   exact⟨a,_,rfl,bi,(PKv.put hd h2).mono (IsI.updC c),rfl⟩
  ·cases e2
 ·split at e
  ·rename_i hl
   cases e
   obtain⟨a,ys,rfl,h1,h2,rfl⟩:=wc
   obtain⟨hd,rfl⟩:=wd
   have c:Chg H a:=⟨_,h1,(fun _ e=>by cases e),(fun _ _ e=>by cases e)⟩
   cases ro
   obtain⟨b,xs,rfl,k1,k2⟩:=wk.1
   refine m9 hu I (eJ.t h1 ⟨hl.1,b,xs,rfl,k1,k2⟩ (by rw[← h2.length];exact kN hl.2)) ri rv fun s' I'=>⟨_,I',q _ [a] ?_ (Stp.chg (.head _) c (List.pairwise_singleton _ _) fun x hx=>by simpa using hx)⟩
   exact⟨a,_,rfl,bi,(PKv.put hd h2).mono (IsI.updC c),rfl⟩
  ·cases e
 ·cases e
end
section
variable {X:Cx}
noncomputable def oP:Opd→Vl→Option (Nat×Vl)
 | .sl i,d=>some (i,d)
 | .vl _,_=>none
@[simp] theorem Aq (i:Nat) (d:Vl):oP (.sl i) d=some (i,d):=rfl
@[simp] theorem Ar (c d:Vl):oP (.vl c) d=none:=rfl
end
section
variable {prog:Program}{w:World}{A:Around}{E:Value→Shared→Prop}{s:Shared}
end
section
variable {X:Cx}
end
section
variable {X:Cx}
end
section
variable {prog:Program}{w:World}{A:Around}{E:Value→Shared→Prop}{s:Shared}
end
section
variable {prog:Program}{w:World}{A:Around}{E:Value→Shared→Prop}{s:Shared}
end
section
variable {X:Cx}
end
section
variable {X:Cx}
end
section
variable {X:Cx}
end
section
variable {X:Cx}
end
section
variable {X:Cx}
end
section
variable {X:Cx}
noncomputable def kX:Vl→Vl
 | .lst x=>.im (.fl x)
 | .dT []=>.im .fd
 | d=>d
@[simp] theorem As (x:List Im):kX (.lst x)=.im (.fl x):=rfl
@[simp] theorem At (d:Im):kX (.im d)=.im d:=rfl
@[simp] noncomputable def eFz (g:M Vl):M Vl:=fun D=>(g D).map fun p=>(kX p.1,p.2)
theorem wW {H:Hp}{a:Addr}{u:HO}{ob:Obj} (k1:H a=some u) (n1:∀ xs,u≠.tup xs) (n2:∀ p v,u≠.frz p v):StayS H (upd H a (.frz ob u)):=StayS.of (fun b xs e=>by
  have:b≠a:=fun z=>by subst z;rw[k1] at e;cases e;exact n1 _ rfl
  rw[aA this];exact e) fun b o u e=>by
  have:b≠a:=fun z=>by subst z;rw[k1] at e;cases e;exact n2 _ _ rfl
  rw[aA this];exact e
theorem g9 {e:Expr}{g:M Vl} (h:VE X e g):VE X e (eFz g):=by
 intro pins s σ H Q I ⟨D,F,r,D',st,nd,hg,q⟩
 obtain⟨⟨r0,D1⟩,h1,h2⟩:=Option.map_eq_some_iff.mp hg
 cases h2
 refine thn (h pins s σ H (fun v H1=>∃ F1 R,ai H1 D1 σ F1∧Own H1 r0 v R∧Stp H F H1 (F1++R)) I ⟨D,F,r0,D1,st,nd,h1,fun v H1 F1 R a b c=>⟨F1,R,a,b,c⟩⟩) fun u s1 ⟨v,H1,I1,rv,F1,R,st1,ow,s2⟩=>?_
 have fin:∀ {a:Addr}{ob:Obj}{u:HO}{d:Im},H1 a=some u→(∀ xs,u≠.tup xs)→(∀ p w,u≠.frz p w)→R=[a]→Inv X pins σ (upd H1 a (.frz ob u)) s1→(StayS H1 (upd H1 a (.frz ob u))→IsI (upd H1 a (.frz ob u)) d (.ref a))→(∀ v H' F' R',ai H' D1 σ F'→Own H' (.im d) v R'→Stp H F H' (F'++R')→Q v H')→EP X pins σ Q (.ref a) s1:=by
  intro a ob u d k1 n1 n2 eR I2 hd q
  subst eR
  have nd2:=List.nodup_append.mp s2.nd
  have hF2:a∉F1:=fun z=>nd2.2.2 a z a (.head _) rfl
  have stay:=wW (ob:=ob) k1 n1 n2
  refine⟨.ref a,_,I2,rfl,q _ _ F1 [] (st1.mono stay fun b hb o e=>by
    have ne:b≠a:=fun z=>by subst z;exact hF2 hb
    rw[aA ne];exact e) ⟨hd stay,rfl⟩ ?_⟩
  rw[List.append_nil]
  refine⟨fun b o e hb=>?_,fun b hb=>s2.sub b (List.mem_append_left _ hb),nd2.1,s2.tup.trans stay,fun b o e=>?_⟩
  ·have:b≠a:=fun z=>by
    subst z
    rcases s2.sub b (List.mem_append_right _ (.head _)) with h | h
    ·exact hb h
    ·rw[e] at h;cases h
   rw[aA this]
   exact s2.keep b o e hb
  ·by_cases z:b=a
   ·exact⟨_,by rw[z];exact bi⟩
   ·obtain⟨o',e'⟩:=s2.grow b o e
    exact⟨o',by rw[aA z];exact e'⟩
 cases r0 with
 | lst x=>
  obtain⟨a,xs,rfl,k1,k2,eR⟩:=ow
  cases rv
  obtain⟨z,its,n,rel,f1⟩:=I1.hok a _ k1
  exact fin (d:=.fl x) k1 (fun _ e=>by cases e) (fun _ _ e=>by cases e) eR (I1.write (h':=s1.heap) (t':=s1.toks) (e:=a) (by rw[k1];trivial) (.inl rfl) (fun b u _ e=>e) ⟨_,f1⟩ ⟨f1,z,its,n,rel,f1⟩) (fun stay=>⟨a,xs,_,rfl,bi,k2.mono stay.tup⟩) q
 | dT kvs=>
  cases kvs with
  | nil=>
   obtain⟨a,kws,rfl,k1,k2,eR⟩:=ow
   cases k2
   cases rv
   obtain⟨z,lo,xs,rel,o,es,ep,f1,f2,f3,f4,f5⟩:=I1.hok a _ k1
   cases rel
   exact fin (d:=.fd) k1 (fun _ e=>by cases e) (fun _ _ e=>by cases e) eR (I1.write (h':=s1.heap) (t':=s1.toks) (e:=a) (by rw[k1];trivial) (.inl rfl) (fun b u _ e=>e) ⟨_,f1⟩ ⟨f1,z,lo,[],.nil,o,es,ep,f1,f2,f3,f4,f5⟩) (fun _=>⟨a,_,rfl,bi⟩) q
  | cons k r=>exact⟨v,H1,I1,rv,q v H1 F1 R st1 ow s2⟩
 | _=>exact⟨v,H1,I1,rv,q v H1 F1 R st1 ow s2⟩
theorem wX {CX:CXT}{k:Nat}{f:Addr}{fd:FuncData}{ps:List Str}{sp:Sp}{E:XK}{x:Str}{p pos:Pos}{e:Expr}{es:List Expr}{tv:TE}{t:TA}{ds:List Value}{dvs:List V}
  (F:FnOk X.prog X.w X.K X.mg X.base CX k f fd ps sp) (hr:Room k X.A) (hv:PE X (.Name x p) tv) (hk:PySem.W.keepIn X.K (.ref f)=true) (hb:aT X.K fd ps ds) (hd:am dvs ds) (hx:iG CX X E)
  (ha:PA X (e::es) t) (he:starEach (e::es) X.env=(false,eval e X.env)::starEach es X.env:=by rfl) (hpl:(backTo pos (starEach es X.env)).any (·.1)=false:=by rfl):
  PE X (.Call (.Name x p) (e::es) [] pos) (fun σ H Q=>tv σ H fun v H1=>v=.ref f∧jL sp dvs E t σ H1 Q):=by
 intro pins s σ H Q I h
 refine wpAny_Call_Name_kw (thn (hv pins s σ H _ I h) fun v s1 ⟨y,H1,I1,r1,e1,q1⟩=>?_)
 subst e1
 cases r1
 refine PySem.W.callWith_K (h₀:=X.base) I1.ok.mod.kin hk (thn (ha pos pins s1 σ H1 _ I1 q1) fun us s2 ⟨vs,H2,I2,r,q⟩=>⟨I2.kIn,?_⟩) he hpl
 exact mJ F hr hb hd hx I2 r q
@[simp] noncomputable def kY (i:Nat) (f:Addr) (n:Nat) (G:Fn) (g:M (List Opd)):M Vl:=fun D=>match D[i]? with
 | some (some (.im (.fn a)))=>if a=f then av n G g D else none
 | _=>none
theorem wY {i n k:Nat}{G:Fn}{f:Addr}{fd:FuncData}{ps:List Str}{x:Str}{p pos:Pos}{e:Expr}{es:List Expr}{g:M (List Opd)} (F:FnOk X.prog X.w X.K X.mg X.base CX0 k f fd ps (spV n G)) (hr:Room k X.A) (hv:PE X (.Name x p) (eF i)) (hk:PySem.W.keepIn X.K (.ref f)=true) (hb:aT X.K fd ps [])
  (ha:VA X (e::es) g) (he:starEach (e::es) X.env=(false,eval e X.env)::starEach es X.env:=by rfl) (hpl:(backTo pos (starEach es X.env)).any (·.1)=false:=by rfl):
  VE X (.Call (.Name x p) (e::es) [] pos) (kY i f n G g):=by
 refine aR (wX F hr hv hk hb .nil nh ha he hpl) fun σ H Q ⟨D,F0,r,D',st,nd,hg,q⟩=>?_
 unfold kY at hg
 split at hg
 ·rename_i a hd
  split at hg
  ·rename_i ha
   subst ha
   obtain⟨v,F1,F2,h1,h2,h3,h4⟩:=st.out hd
   exact⟨v,h1,h2.1,nO ⟨D,F0,r,D',st,nd,hg,q⟩⟩
  ·cases hg
 ·cases hg
end
end L2
namespace HT
open PySem PySem.Spec PyProof.Rows
section
variable {prog:Program}{w:World}{A:Around}{E:Value→Shared→Prop}{s:Shared}
theorem wZ (n:Nat):Builtin.Slice.slicePlaces ((n:Int) - 1) (-1) (-1)=n:=by
 unfold Builtin.Slice.slicePlaces
 rw[if_neg (by decide)]
 split
 ·rw[show (- -1:Int)=1 by decide,Int.ediv_one];lia
 ·show (0:Int).toNat=n
  lia
theorem w9 {sl:Addr}{t:Tok}{n:Nat}{Q:Int×Int×Nat→Shared→Prop} (hs:s.heap.IsSliceOf sl .none .none (.int (-1) t)) (h:Q ((n:Int) - 1,-1,n) s):wpAny (model prog w) A (Builtin.Slice.sliceApplied (.ref sl) (pure (n:Int))) Q E s:=by
 obtain⟨os,hos,hcs,hds⟩:=id hs
 unfold Builtin.Slice.sliceApplied Builtin.Slice.sliceFields
 refine wpAny_bind (wpAny_bind (wpAny_field hos hds (x:=.none) rfl (wpAny_bind (wpAny_field hos hds (x:=.none) rfl (wpAny_bind (wpAny_field hos hds (x:=.int (-1) t) rfl (wpAny_pure ?_)))))))
 refine wpAny_bind (slicePart_int ?_)
 show wpAny _ _ (if ((-1:Int) == 0)=true then _ else _) _ _ s
 rw[if_neg (by decide)]
 refine wpAny_bind (slicePart_none (wpAny_bind (slicePart_none (wpAny_bind (wpAny_pure ?_)))))
 show wpAny _ _ (pure ((n:Int) - 1,(-1:Int),Builtin.Slice.slicePlaces ((n:Int) - 1) (-1) (-1))) _ _ s
 rw[wZ]
 exact wpAny_pure h
theorem oQ {α β:Type}{f g:α→Option β}:∀ (l:List α),(∀ x∈l,f x=g x)→l.filterMap f=l.filterMap g
 | [],_=>rfl
 | x::r,h=>by rw[List.filterMap_cons,List.filterMap_cons,h x (.head _),oQ r fun y hy=>h y (.tail _ hy)]
theorem xa (xs:Array Value):((List.range xs.size).filterMap fun (m:Nat)=>xs[((xs.size:Int) - 1+(m:Int) * (-1)).toNat]?).toArray=xs.toList.reverse.toArray:=by
 have e:(List.range xs.size).filterMap (fun (m:Nat)=>xs[((xs.size:Int) - 1+(m:Int) * (-1)).toNat]?)=((List.range xs.size).map fun k=>xs.size - 1 - k).filterMap (xs[·]?):=by
  rw[List.filterMap_map]
  refine oQ _ fun k hk=>?_
  have:=List.mem_range.mp hk
  show xs[_]?=xs[xs.size - 1 - k]?
  congr 1
  lia
 rw[e,PySem.W.krv_range,List.filterMap_reverse,PySem.W.krv_all]
theorem xb {t sl:Addr}{items:Array Value}{tk:Tok}{Q:Value→Shared→Prop} (ht:IsTup s.heap t items) (hs:s.heap.IsSliceOf sl .none .none (.int (-1) tk))
  (h:Q (.ref s.heap.objs.size) { s with heap:=s.heap.push { cls:=.type "tuple",data:=.seq items.toList.reverse.toArray } })
  (hsz:items.size≤sizeLine):wpAny (model prog w) A (getItem (.ref t) (.ref sl)) Q E s:=by
 obtain⟨os,hos,hcs,hds⟩:=id hs
 have hTs:s.TypeIs (.ref sl) "slice" := ⟨os,hos,hcs⟩
 unfold getItem
 try with_reducible refine wpAny_holding ?_
 first | refine wpAny_bind (wpAny_pure ?_) | skip
 refine wpAny_bind (wpAny_sequenceKey ht.typeIs (by decide) ?_)
 refine wpAny_bind (wpAny_callSpecial?_slot (name:=Str.ofString "__getitem__") ht.typeIs PyProof.Rows.slot_tuple_getitem (wpAny_call_entry PyProof.Rows.slot_tuple_getitem ht.typeIs entry_tuple_getitem ?_ (args_tuple_getitem _ _)))
 show wpAny _ _ (Builtin.Tuple.tupleItemsOf (.ref t) >>= _) _ _ s
 refine wpAny_bind (tupleItemsOf_ ht (wpAny_bind (wpAny_typeOf hTs ?_)))
 rw[if_pos (by decide)]
 refine wpAny_bind (w9 hs ?_)
 show wpAny _ _ (if (((items.size:Int) - 1) == 0 && (-1:Int) == 1 && items.size == items.size)=true then _ else _) _ _ s
 rw[if_neg (by simp),xa]
 have hz:sizeOk (.seq items.toList.reverse.toArray):=by
  show items.toList.reverse.toArray.size≤sizeLine
  simpa using hsz
 first
  | exact wpAny_bind (m:=Builtin.Tuple.tupleExact _) (wpAny_newObj_type (wpAny_pure ⟨_,rfl,wpAny_pure h⟩) hz)
  | exact wpAny_bind (m:=Builtin.Tuple.tupleExact _) (wpAny_newObj_type (wpAny_bind (wpAny_pure (wpAny_pure ⟨_,rfl,wpAny_pure h⟩))) hz)
  | exact wpAny_bind (wpAny_bind (m:=Builtin.Tuple.tupleExact _) (wpAny_newObj_type (wpAny_pure (wpAny_pure ⟨_,rfl,wpAny_pure h⟩)) hz))
  | exact wpAny_bind (wpAny_bind (m:=Builtin.Tuple.tupleExact _) (wpAny_newObj_type (wpAny_pure ⟨_,rfl,wpAny_pure h⟩) hz))
end
end HT
namespace L2
open PySem PySem.Spec PyProof.Rows
section
variable {X:Cx}
noncomputable def xc (K:PySem.W.Frag) (te ts:TE):TE:=fun σ H Q=>te σ H fun x H1=>ts σ H1 fun y H2=>y=.int (-1)∧∃ a xs,x=.ref a∧SqT K H2 a xs∧∀ p,H2 p=none→Q (.ref p) (upd H2 p (.tup xs.reverse))
theorem xf {e st:Expr}{te ts:TE}{p2 pos:Pos} (he:PE X e te) (hs:PE X st ts):PE X (.Subscript e (.Slice none none (some st) p2) pos) (xc X.K te ts):=by
 intro pins s σ H Q I h
 refine Subscript_ (thn (he pins s σ H _ I h) fun v s1 ⟨x,H1,I1,r1,q1⟩=>?_)
 refine wpAny_Slice ?_
 rw[evalPart_none,evalPart_some]
 refine wpAny_pure (wpAny_pure ?_)
 refine thn (hs pins s1 σ H1 _ I1 q1) fun vs s2 ⟨y,H2,I2,r2,e1,a,xs,ex,hx,q⟩=>?_
 subst e1 ex
 cases r1
 obtain⟨t,rfl⟩:=r2
 have I3:Inv X pins σ H2 { s2 with heap:=s2.heap.push { cls:=.type "slice",data:=.fields #[.none,.none,.int (-1) t] } }:=I2.kept (t':=s2.toks) fun b ob q=>Heap.get?_push_of_some _ q
 obtain⟨its,r,ht,hz⟩:=I3.tuple hx
 show wpAny (model X.prog X.w) X.A (subscriptTail e (.Slice none none (some st) p2) (.ref a) (.ref s2.heap.objs.size)) (EP X pins σ Q) X.xe { s2 with heap:=s2.heap.push { cls:=.type "slice",data:=.fields #[.none,.none,.int (-1) t] } }
 refine tail_any (ops:=[.ref a,.ref s2.heap.objs.size]) ht.typeIs PyProof.Rows.slot_tuple_getitem.lookup (HT.xb ht (Heap.IsSliceOf.new ..) ?_ (by rw[List.size_toArray,← r.length];exact hz)) (by with_unfolding_all rfl)
 refine⟨.ref _,_,I3.laid (t':=s2.toks) (o:=.tup xs.reverse) (fun b ob q=>Heap.get?_push_of_some _ q) (Nat.le_refl _) ?_,rfl,q _ (I3.hok.fresh (Nat.le_refl _))⟩
 exact⟨by rw[List.length_reverse];exact hz,its.reverse,r.reverse,IsTup.new _ _⟩
theorem aj.rev {H:Hp}:∀ {ds:List Im}{xs:List V},aj H ds xs→aj H ds.reverse xs.reverse
 | [],xs,h=>by cases (show xs=[] from h);rfl
 | d::ds,xs,h=>by
  obtain⟨v,r,rfl,h1,h2⟩:=h
  rw[List.reverse_cons,List.reverse_cons]
  exact h2.rev.app ⟨v,[],rfl,h1,rfl⟩
@[simp] noncomputable def oR (g:M Opd):M Vl:=fun D=>(g D).bind fun p=>(rsl p.2 p.1).bind fun d=>match d with
 | .im (.tup x)=>some (.im (.tup x.reverse),p.2)
 | _=>none
theorem xg {e st:Expr}{g:M Opd}{p2 pos:Pos} (he:VO X e g) (hs:VE X st (fX (eC (.int 1)))):VE X (.Subscript e (.Slice none none (some st) p2) pos) (oR g):=by
 refine aR (xf he hs) fun σ H Q ⟨D,F,r,D',st,nd,hg,q⟩=>?_
 obtain⟨⟨x,D1⟩,h1,h2⟩:=Option.bind_eq_some_iff.mp hg
 obtain⟨d,h3,h4⟩:=Option.bind_eq_some_iff.mp h2
 split at h4
 ·rename_i x'
  cases h4
  refine⟨D,F,x,D1,st,nd,h1,fun v H1 F1 R st1 o1 s1=>⟨D1,F1,.im (.int (-1)),D1,st1,(List.nodup_append.mp s1.nd).1,rfl,fun w H2 F2 R2 st2 ow2 s2=>?_⟩⟩
  obtain⟨e2,rfl⟩:=ow2
  rw[List.append_nil] at s2
  have o3:bW H2 σ x v R:=o1.mono s2.tup fun a ha o e=>s2.keep a o e fun h=>(List.nodup_append.mp s1.nd).2.2 a h a ha rfl
  have s5:=s1.trans s2 o1.chg
  obtain⟨p,xs,rfl,k1,k2⟩:=(o3.read st2 h3).i
  refine⟨e2,p,xs,rfl,SqT.of k1,fun l hl=>?_⟩
  have s6:ax H2 (upd H2 l (.tup xs.reverse)):=(ax.refl H2).upd hl
  exact q _ _ F2 [] (st2.mono s6.tupS fun a _ o e=>s6 a o e) ⟨⟨l,_,rfl,bi,(k2.mono s6.tupS.tup).rev⟩,rfl⟩ (s5.new s6 List.nodup_nil (fun a ha=>nomatch ha) st2.chg)
 ·cases h4
end
theorem oT {h:Heap}:∀ (n:Nat) {x y:Im}{v:Value},Im.pl n x=true→Im.pl n y=true→ImV h x v→ImV h y v→x=y
 | n,.non,y,v,_,ky,hx,hy=>by
  cases (show v=.none from hx)
  cases y with
  | non=>rfl
  | bl b=>cases hy
  | int j=>obtain⟨u,e⟩:=hy;cases e
  | str z=>obtain⟨u,e⟩:=hy;cases e
  | tup ds=>obtain⟨_,_,_,_,e,_⟩:=hy;cases e
  | fn a=>cases n<;>cases ky
  | fl a=>cases n<;>cases ky
  | fd=>cases n<;>cases ky
 | n,.bl b,y,v,_,ky,hx,hy=>by
  cases (show v=.bool b from hx)
  cases y with
  | non=>cases hy
  | bl c=>cases hy;rfl
  | int j=>obtain⟨u,e⟩:=hy;cases e
  | str z=>obtain⟨u,e⟩:=hy;cases e
  | tup ds=>obtain⟨_,_,_,_,e,_⟩:=hy;cases e
  | fn a=>cases n<;>cases ky
  | fl a=>cases n<;>cases ky
  | fd=>cases n<;>cases ky
 | n,.int i,y,v,_,ky,hx,hy=>by
  obtain⟨t,rfl⟩:=hx
  cases y with
  | non=>cases hy
  | bl c=>cases hy
  | int j=>obtain⟨u,e⟩:=hy;injection e with e;rw[e]
  | str z=>obtain⟨u,e⟩:=hy;cases e
  | tup ds=>obtain⟨_,_,_,_,e,_⟩:=hy;cases e
  | fn a=>cases n<;>cases ky
  | fl a=>cases n<;>cases ky
  | fd=>cases n<;>cases ky
 | n,.str i,y,v,_,ky,hx,hy=>by
  obtain⟨t,rfl⟩:=hx
  cases y with
  | non=>cases hy
  | bl c=>cases hy
  | int j=>obtain⟨u,e⟩:=hy;cases e
  | str z=>obtain⟨u,e⟩:=hy;injection e with e;rw[e]
  | tup ds=>obtain⟨_,_,_,_,e,_⟩:=hy;cases e
  | fn a=>cases n<;>cases ky
  | fl a=>cases n<;>cases ky
  | fd=>cases n<;>cases ky
 | n+1,.tup ds,y,v,kx,ky,hx,hy=>by
  obtain⟨a,o,items,m,rfl,h1,h2,h3,h4⟩:=hx
  cases y with
  | non=>cases hy
  | bl c=>cases hy
  | int j=>obtain⟨u,e⟩:=hy;cases e
  | str z=>obtain⟨u,e⟩:=hy;cases e
  | fn a=>cases ky
  | fl a=>cases ky
  | fd=>cases ky
  | tup es=>
   obtain⟨a',o',items',m',e,g1,g2,g3,g4⟩:=hy
   cases e
   rw[h1] at g1
   cases g1
   rw[h3] at g3
   injection g3 with g3 _
   subst g3
   have all:∀ (ds es:List Im) (vs:List Value),Im.pls n ds=true→Im.pls n es=true→aD h ds vs→aD h es vs→ds=es:=by
    intro ds
    induction ds with
    | nil=>
     intro es vs _ _ a b
     cases es with
     | nil=>rfl
     | cons e es=>obtain⟨_,_,q,_⟩:=b;rw[show vs=[] from a] at q;cases q
    | cons d ds ih=>
     intro es vs k1 k2 a b
     obtain⟨v,r,rfl,a1,a2⟩:=a
     cases es with
     | nil=>cases (show v::r=[] from b)
     | cons e es=>
      obtain⟨v',r',q,b1,b2⟩:=b
      cases q
      rw[Im.pls,Bool.and_eq_true] at k1 k2
      rw[oT n k1.1 k2.1 a1 b1,ih es r k1.2 k2.2 a2 b2]
   rw[all ds es _ kx ky h4 g4]
 | 0,.tup _,_,_,k,_,_,_=>by cases k
 | n,.fn _,_,_,k,_,_,_=>by cases n<;>cases k
 | n,.fl _,_,_,k,_,_,_=>by cases n<;>cases k
 | n,.fd,_,_,k,_,_,_=>by cases n<;>cases k
open Classical in
noncomputable def hU (h:Heap) (d:Im) (v:Value):Bool:=if z:∃ x,Im.pl 8 x=true∧ImV h x v then aw z.choose d else false
theorem kZ {h:Heap}{d x:Im}{v:Value} (k:Im.pl 8 x=true) (i:ImV h x v):hU h d v=aw x d:=by
 unfold hU
 have z:∃ x,Im.pl 8 x=true∧ImV h x v:=⟨x,k,i⟩
 rw[dif_pos z,oT 8 z.choose_spec.1 k z.choose_spec.2 i]
theorem k7 {h:Heap}{d:Im}:∀ {ds:List Im}{vs:List Value},Im.pls 8 ds=true→aD h ds vs→vs.any (hU h d)=ds.any fun x=>aw x d
 | [],vs,_,e=>by rw[show vs=[] from e];rfl
 | x::ds,vs,k,e=>by
  obtain⟨v,r,rfl,h1,h2⟩:=e
  rw[Im.pls,Bool.and_eq_true] at k
  rw[List.any_cons,List.any_cons,kZ k.1 h1,k7 k.2 h2]
theorem k8 {h:Heap}:∀ {ds:List Im}{vs:List Value}{v:Value},Im.pls 8 ds=true→aD h ds vs→v∈vs→∃ x,Im.pl 8 x=true∧ImV h x v
 | [],vs,v,_,e,m=>by rw[show vs=[] from e] at m;cases m
 | x::ds,vs,v,k,e,m=>by
  obtain⟨u,r,rfl,h1,h2⟩:=e
  rw[Im.pls,Bool.and_eq_true] at k
  rcases List.mem_cons.mp m with rfl | m
  ·exact⟨x,k.1,h1⟩
  ·exact k8 k.2 h2 m
section
variable {X:Cx}
noncomputable def inB (d:Im):Vl→Option Bool
 | .im (.tup ds)=>if (Im.pl 8 d && Im.pls 8 ds)=true then some (ds.any fun x=>aw x d) else none
 | .lst ds=>if (Im.pl 8 d && Im.pls 8 ds)=true then some (ds.any fun x=>aw x d) else none
 | .dT kvs=>match d with
  | .tup k=>if Im.keys 7 k=true then some (bC kvs k).isSome else none
  | _=>none
 | .dK kvs=>match d with
  | .int i=>some (bC kvs (.inl i)).isSome
  | .str x=>some (bC kvs (.inr x)).isSome
  | _=>none
 | _=>none
@[simp] theorem Au (d:Im) (ds:List Im):inB d (.im (.tup ds))=if (Im.pl 8 d && Im.pls 8 ds)=true then some (ds.any fun x=>aw x d) else none:=rfl
@[simp] theorem Av (d:Im) (ds:List Im):inB d (.lst ds)=if (Im.pl 8 d && Im.pls 8 ds)=true then some (ds.any fun x=>aw x d) else none:=rfl
@[simp] theorem Aw (k:List Im) (kvs:List (List Im×Im)):inB (.tup k) (.dT kvs)=if Im.keys 7 k=true then some (bC kvs k).isSome else none:=rfl
@[simp] noncomputable def vIn:Op2:=fun a b=>match a with
 | .im d=>(inB d b).map fun r=>.im (.bl r)
 | _=>none
theorem k9 {κ:Type} [DecidableEq κ] {H:Hp}{k:κ}{kvs:List (κ×Im)}{kws:List (κ×V)} (h:PKv H kvs kws):(bT kws k).isSome=(bC kvs k).isSome:=by
 cases e:bC kvs k with
 | none=>rw[(fW h).2 e];rfl
 | some d=>obtain⟨v,h1,_⟩:=(fW h).1 d e;rw[h1];rfl
theorem xh {pins:List (Addr×Obj)}{σ:St}{H:Hp}{s:Shared}{x y:V}{v u:Value}{d:Im}{d2:Vl}{b:Bool}{Q:Value→Shared→Prop} (hu:X.A.units+20<cLine) (I:Inv X pins σ H s) (rx:ao x v) (ry:ao y u) (i1:IsI H d x) (r2:Rdb H d2 y) (e:inB d d2=some b)
  (q:∀ s',Inv X pins σ H s'→Q (.bool b) s'):wpAny (model X.prog X.w) X.A (compareOp .In v u) Q X.xe s:=by
 unfold inB at e
 split at e
 ·rename_i ds
  split at e
  ·rename_i hp
   cases e
   rw[Bool.and_eq_true] at hp
   obtain⟨a,xs,rfl,h1,h2⟩:=r2.i
   cases ry
   obtain⟨its,rv,p,_⟩:=I.tuple (SqT.of h1)
   have iv:=h2.imv I.hok rv
   refine SeqAt.in_tupleAt (hU s.heap d) (show s.heap.IsTuple a its.toArray from p) (fun w hw=>?_) ?_
   ·obtain⟨z,z1,z2⟩:=k8 hp.2 iv (by simpa using hw)
    rw[kZ z1 z2]
    exact c7 8 z1 hp.1 (by show X.A.units+1+8+1<cLine;lia) z2 (i1.imv I.hok rx)
   ·rw[List.any_toArray,k7 hp.2 iv]
    exact q s I
  ·cases e
 ·rename_i ds
  split at e
  ·rename_i hp
   cases e
   rw[Bool.and_eq_true] at hp
   obtain⟨_,a,xs,rfl,h1,h2,_⟩:=r2
   cases ry
   obtain⟨its,p,iv,_⟩:=gW I h1 h2
   refine SeqAt.in_listAt (hU s.heap d) p (fun w hw=>?_) ?_
   ·obtain⟨z,z1,z2⟩:=k8 hp.2 iv (by simpa using hw)
    rw[kZ z1 z2]
    exact c7 8 z1 hp.1 (by show X.A.units+1+8+1<cLine;lia) z2 (i1.imv I.hok rx)
   ·rw[List.any_toArray,k7 hp.2 iv]
    exact q s I
  ·cases e
 ·rename_i kvs
  split at e
  ·rename_i k
   split at e
   ·rename_i hk
    cases e
    obtain⟨_,a,kws,rfl,h1,h2,_⟩:=r2
    cases ry
    obtain⟨b,ys,rfl,g1,g2⟩:=i1
    rw[← k9 h2] at q
    exact jO hu I (cj.t h1 ⟨hk,b,ys,rfl,g1,g2⟩) rx q
   ·cases e
  ·cases e
 ·rename_i kvs
  split at e
  ·rename_i i
   cases e
   obtain⟨_,a,kws,rfl,h1,h2,_⟩:=r2
   cases ry
   rw[← k9 h2] at q
   cases (show x=kV (.inl i) from i1)
   exact jO hu I (cj.k h1) rx q
  ·rename_i i
   cases e
   obtain⟨_,a,kws,rfl,h1,h2,_⟩:=r2
   cases ry
   rw[← k9 h2] at q
   cases (show x=kV (.inr i) from i1)
   exact jO hu I (cj.k h1) rx q
  ·cases e
 ·cases e
theorem oU (hu:X.A.units+20<cLine):OpV X (compareOp .In) vIn:=by
 intro pins s σ H x y v u Q I rx ry ⟨d1,d2,d,r1,r2,e,q⟩
 unfold vIn at e
 split at e
 ·obtain⟨b,e1,e2⟩:=Option.map_eq_some_iff.mp e
  cases e2
  exact xh hu I rx ry r1.i r2 e1 fun s' I'=>⟨.bl b,H,I',rfl,Out.i q rfl⟩
 ·cases e
@[simp] noncomputable def dD (f f':Op2) (ga gb gc:M Opd):M Vl:=fun D=>(ga D).bind fun p=>(gb p.2).bind fun q=>(rsl q.2 p.1).bind fun d1=>(rsl q.2 q.1).bind fun d2=>(f d1 d2).bind fun d=>(asB d).bind fun k=>
 if k=true then (gc q.2).bind fun r=>(rsl r.2 q.1).bind fun d2'=>(rsl r.2 r.1).bind fun d3=>(f' d2' d3).bind fun z=>(asB z).map fun b=>(.im (.bl b),r.2) else some (.im (.bl false),q.2)
theorem xi {f f':Op2}{ga gb gc:M Opd}{σ:St}{H:Hp}{Q:VK} (h:tV (dD f f' ga gb gc) σ H Q):
  mF (fun x y H Q=>∃ d1 d2 d,Rdb H d1 x∧Rdb H d2 y∧f d1 d2=some d∧Out H d Q) (fun x y H Q=>∃ d1 d2 d,Rdb H d1 x∧Rdb H d2 y∧f' d1 d2=some d∧Out H d Q) (tO ga) (tO gb) (tO gc) σ H Q:=by
 obtain⟨D,F,r,D',st,nd,hg,q⟩:=h
 obtain⟨⟨o1,D1⟩,h1,hg⟩:=Option.bind_eq_some_iff.mp hg
 obtain⟨⟨o2,D2⟩,h2,hg⟩:=Option.bind_eq_some_iff.mp hg
 obtain⟨d1,h3,hg⟩:=Option.bind_eq_some_iff.mp hg
 obtain⟨d2,h4,hg⟩:=Option.bind_eq_some_iff.mp hg
 obtain⟨d,h5,hg⟩:=Option.bind_eq_some_iff.mp hg
 obtain⟨k,h6,hK⟩:=Option.bind_eq_some_iff.mp hg
 have hd:=iS h6
 subst hd
 refine⟨D,F,o1,D1,st,nd,h1,fun x H1 F1 R1 st1 w1 s1=>⟨D1,F1,o2,D2,st1,(List.nodup_append.mp s1.nd).1,h2,fun y H2 F2 R2 st2 w2 s2=>?_⟩⟩
 have w1':bW H2 σ o1 x R1:=w1.mono s2.tup fun a ha o e=>s2.keep a o e fun h=>(List.nodup_append.mp s1.nd).2.2 a h a ha rfl
 refine⟨d1,d2,_,w1'.read st2 h3,w2.read st2 h4,h5,fun v H3 R3 sm ow ndR fr=>?_⟩
 obtain⟨rfl,rfl⟩:=(show v=.bl k∧R3=[] from ow)
 refine⟨k,rfl,?_⟩
 have s12:=s1.trans s2 w1.chg
 rw[List.append_assoc] at s12
 have sA:=s12.new sm List.nodup_nil (fun a ha=>nomatch ha) st2.chg
 have st3:ai H3 D2 σ F2:=st2.mono sm.tupS fun a _ o e=>sm a o e
 cases k with
 | false=>
  rw[if_neg Bool.false_ne_true] at hK ⊢
  cases hK
  exact q _ H3 F2 [] st3 ⟨rfl,rfl⟩ sA
 | true=>
  rw[if_pos rfl] at hK ⊢
  obtain⟨⟨o3,D3⟩,g1,k1⟩:=Option.bind_eq_some_iff.mp hK
  obtain⟨d2',g2,k2⟩:=Option.bind_eq_some_iff.mp k1
  obtain⟨d3,g3,k3⟩:=Option.bind_eq_some_iff.mp k2
  obtain⟨z,g4,k4⟩:=Option.bind_eq_some_iff.mp k3
  obtain⟨b,g5,k5⟩:=Option.map_eq_some_iff.mp k4
  cases k5
  have hz:=iS g5
  subst hz
  rw[List.append_nil] at sA
  refine⟨D2,F2,o3,D3,st3,sA.nd,g1,fun w H4 F3 R4 st4 w3 s4=>?_⟩
  have nd2:=List.nodup_append.mp s2.nd
  have w2':bW H4 σ o2 y R2:=(w2.mono sm.tupS fun a _ o e=>sm a o e).mono s4.tup fun a ha o e=>s4.keep a o e fun h=>nd2.2.2 a h a ha rfl
  refine⟨d2',d3,_,w2'.read st4 g2,w3.read st4 g3,g4,fun v H5 R5 sm5 ow5 nd5 fr5=>?_⟩
  obtain⟨rfl,rfl⟩:=(show v=.bl b∧R5=[] from ow5)
  exact q _ H5 F3 [] (st4.mono sm5.tupS fun a _ o e=>sm5 a o e) ⟨rfl,rfl⟩ ((sA.seq s4).new sm5 List.nodup_nil (fun a ha=>nomatch ha) st4.chg)
theorem lc {op op':CmpOp}{f f':Op2}{a b c:Expr}{ga gb gc:M Opd}{pos:Pos} (ho:OpV X (compareOp op) f) (ho':OpV X (compareOp op') f') (ha:VO X a ga) (hb:VO X b gb) (hc:VO X c gc)
  (hm:lastMarks [op,op'] [b,c]=false:=by with_unfolding_all rfl):VE X (.Compare a [op,op'] [b,c] pos) (dD f f' ga gb gc):=
 aR (tE ho ho' ha hb hc hm) fun _ _ _ h=>xi h
end
mutual
noncomputable def ltM:Im→Im→Bool
 | .int i,.int j=>decide (i<j)
 | .tup a,.tup b=>bI a b
 | _,_=>false
noncomputable def bI:List Im→List Im→Bool
 | [],[]=>false
 | [],_::_=>true
 | _::_,[]=>false
 | a::r,b::t=>if Im.beq a b=true then bI r t else ltM a b
end
mutual
noncomputable def bE:Nat→Im→Im→Bool
 | _,.int _,.int _=>true
 | n+1,.tup a,.tup b=>bu n a b
 | _,_,_=>false
noncomputable def bu:Nat→List Im→List Im→Bool
 | _,[],[]=>true
 | n,a::r,b::t=>bE n a b && bu n r t
 | _,_,_=>false
end
theorem lf:∀ {n:Nat}{a b:List Im},bu n a b=true→a.length=b.length
 | _,[],[],_=>rfl
 | n,a::r,b::t,h=>by
  rw[bu,Bool.and_eq_true] at h
  rw[List.length_cons,List.length_cons,lf h.2]
 | _,[],_::_,h=>by cases h
 | _,_::_,[],h=>by cases h
mutual
theorem je:∀ {n:Nat}{a b:Im},bE n a b=true→Im.pl n a=true∧Im.pl n b=true∧aw a b=Im.beq a b
 | n,.int i,.int j,_=>by
  refine⟨by cases n<;>rfl,by cases n<;>rfl,?_⟩
  rw[aw,Im.beq]
  by_cases h:i=j<;>simp[h]
 | n+1,.tup a,.tup b,h=>by
  rw[bE] at h
  obtain⟨h1,h2,h3⟩:=oW h
  exact⟨h1,h2,by rw[aw,Im.beq];exact h3⟩
theorem oW:∀ {n:Nat}{a b:List Im},bu n a b=true→Im.pls n a=true∧Im.pls n b=true∧bn a b=Im.beqs a b
 | n,[],[],_=>⟨by cases n<;>rfl,by cases n<;>rfl,rfl⟩
 | n,a::r,b::t,h=>by
  rw[bu,Bool.and_eq_true] at h
  obtain⟨h1,h2,h3⟩:=je h.1
  obtain⟨g1,g2,g3⟩:=oW h.2
  exact⟨by rw[Im.pls,h1,g1];rfl,by rw[Im.pls,h2,g2];rfl,by rw[bn,Im.beqs,h3,g3]⟩
end
theorem fm {a b:Im} (h:¬ a=b):Im.beq a b=false:=by
 cases e:Im.beq a b with
 | false=>rfl
 | true=>exact absurd ((Im.beq_iff a b).mp e) h
mutual
theorem lg:∀ a:Im,ltM a a=false
 | .int i=>by simp[ltM]
 | .tup a=>by rw[ltM];exact oX a
 | .non=>rfl
 | .bl _=>rfl
 | .str _=>rfl
 | .fn _=>rfl
 | .fl _=>rfl
 | .fd=>rfl
theorem oX:∀ a:List Im,bI a a=false
 | []=>rfl
 | a::r=>by rw[bI,if_pos ((Im.beq_iff a a).mpr rfl)];exact oX r
end
mutual
theorem f8:∀ {n:Nat}{a b:Im},bE n a b=true→a≠b→ltM a b=!(ltM b a)
 | n,.int i,.int j,_,h=>by
  have:i≠j:=fun e=>h (by rw[e])
  rw[ltM,ltM]
  rcases Int.lt_or_gt_of_ne this with g | g
  ·simp[g];lia
  ·simp[g];lia
 | n+1,.tup a,.tup b,h,e=>by
  rw[bE] at h
  rw[ltM,ltM]
  exact oY h fun z=>e (by rw[z])
theorem oY:∀ {n:Nat}{a b:List Im},bu n a b=true→a≠b→bI a b=!(bI b a)
 | n,[],[],_,h=>absurd rfl h
 | n,a::r,b::t,h,e=>by
  rw[bu,Bool.and_eq_true] at h
  rw[bI,bI]
  by_cases z:a=b
  ·subst z
   rw[if_pos ((Im.beq_iff a a).mpr rfl),if_pos ((Im.beq_iff a a).mpr rfl)]
   exact oY h.2 fun w=>e (by rw[w])
  ·rw[fm z,fm (fun w=>z w.symm),if_neg Bool.false_ne_true,if_neg Bool.false_ne_true]
   exact f8 h.1 z
end
mutual
theorem jf:∀ {n:Nat}{a b c:Im},bE n a b=true→bE n b c=true→ltM a b=true→ltM b c=true→ltM a c=true
 | n,.int i,.int j,.int k,_,_,h1,h2=>by
  rw[ltM] at h1 h2 ⊢
  have:=of_decide_eq_true h1
  have:=of_decide_eq_true h2
  exact decide_eq_true (by lia)
 | n+1,.tup a,.tup b,.tup c,l1,l2,h1,h2=>by
  rw[bE] at l1 l2
  rw[ltM] at h1 h2 ⊢
  exact oZ l1 l2 h1 h2
theorem oZ:∀ {n:Nat}{a b c:List Im},bu n a b=true→bu n b c=true→bI a b=true→bI b c=true→bI a c=true
 | n,[],[],[],_,_,h,_=>h
 | n,a::r,b::t,c::u,l1,l2,h1,h2=>by
  rw[bu,Bool.and_eq_true] at l1 l2
  rw[bI] at h1 h2 ⊢
  by_cases z1:a=b
  ·subst z1
   rw[if_pos ((Im.beq_iff a a).mpr rfl)] at h1
   by_cases z2:a=c
   ·subst z2
    rw[if_pos ((Im.beq_iff a a).mpr rfl)] at h2 ⊢
    exact oZ l1.2 l2.2 h1 h2
   ·rw[fm z2,if_neg Bool.false_ne_true] at h2 ⊢
    exact h2
  ·rw[fm z1,if_neg Bool.false_ne_true] at h1
   by_cases z2:b=c
   ·subst z2
    rw[fm z1,if_neg Bool.false_ne_true]
    exact h1
   ·rw[fm z2,if_neg Bool.false_ne_true] at h2
    have h3:=jf l1.1 l2.1 h1 h2
    have z3:¬ a=c:=fun w=>by
     subst w
     have:=f8 l2.1 z2
     rw[h1,h2] at this
     cases this
    rw[fm z3,if_neg Bool.false_ne_true]
    exact h3
end
noncomputable def lh (A:Around) (s:Shared) (y x:Value) (k:Bool):Prop:=∀ (prog:Program) (w:World) (E:Value→Shared→Prop) (Q:Value→Shared→Prop),Q (.bool k) s→wpAny (model prog w) A (richCompare .Lt y x) Q E s
noncomputable def ej (f:Bool):List (Bool×Bool)→Bool
 | []=>f
 | (e,k)::r=>if e=true then ej f r else k
section
open PySem.SeqAt
open PySem.AutoSeq1 (wpAny_loadPart')
open PySem.MeetsSeq PySem.MeetsSeq2 PySem.MeetsSeq3
theorem xj (l b:Addr) (items items2:Array Value) (n n2:Nat) (dd dd2:Option Addr) (sl sl2:Array (Option Value)) (ps:List (Bool×Bool)) (hps:ps.length=min items.size items2.size):
  Meets (Builtin.«tuple.__lt__» ⟨[.ref l,.ref b],[]⟩)
   (fun A R s=>s.heap.get? l=some { cls:=.type "tuple",dict:=dd,data:=.seq items n,slots:=sl }∧s.heap.get? b=some { cls:=.type "tuple",dict:=dd2,data:=.seq items2 n2,slots:=sl2 }∧
    (∀ j (h1:j<items.size) (h2:j<items2.size) (h3:j<ps.length),EqAt A.in1 s items[j] items2[j] (ps[j]).1∧((ps[j]).1=false→lh A.in1 s items[j] items2[j] (ps[j]).2))∧
    R (.ok (.ret (.bool (ej (decide (items.size<items2.size)) ps)))) s):=
 .of_wp fun prog w A R s h=>by
  obtain⟨hp,g,d,tk,os⟩:=s;obtain⟨hl,hb,he,h⟩:=h
  have f2:=AutoSeq1.sub_tuple_tuple
  have hZ:(items.toList.zip items2.toList).length=min items.size items2.size:=by simp
  wp_walk using wpAny_loadPart' hl,wpAny_loadPart' hb,wpAny_forIn_list _ (fun rest b s'=>b.1=none∧s'=⟨hp,g,d,tk,os⟩∧∃ i,rest=(items.toList.zip items2.toList).drop i∧
   R (.ok (.ret (.bool (ej (decide (items.size<items2.size)) (ps.drop i))))) ⟨hp,g,d,tk,os⟩) _
  case turn=>
   rintro⟨y,x⟩ rest b s' ⟨hb',rfl,i,hz,hR⟩
   have hlt:i<(items.toList.zip items2.toList).length:=by
    rcases Nat.lt_or_ge i (items.toList.zip items2.toList).length with h' | h'
    ·exact h'
    ·rw[List.drop_of_length_le h'] at hz;cases hz
   have hm:i<min items.size items2.size:=hZ ▸ hlt
   have h1:i<items.size:=by lia
   have h2:i<items2.size:=by lia
   have h3:i<ps.length:=by lia
   rw[List.drop_eq_getElem_cons hlt] at hz
   injection hz with hyx hrest
   have hy:y=items[i]:=by have:=congrArg Prod.fst hyx;simpa using this
   have hx:x=items2[i]:=by have:=congrArg Prod.snd hyx;simpa using this
   subst hy hx
   rw[List.drop_eq_getElem_cons h3] at hR
   obtain⟨he1,he2⟩:=he i h1 h2 h3
   generalize ps[i]=pr at hR he1 he2
   obtain⟨e,k⟩:=pr
   refine wpAny_bind (he1 prog w _ _ ?_)
   cases e with
   | true=>
    have hR':R (.ok (.ret (.bool (ej (decide (items.size<items2.size)) (ps.drop (i+1)))))) ⟨hp,g,d,tk,os⟩:=hR
    wp_walk
    exact⟨rfl,rfl,i+1,hrest,hR'⟩
   | false=>
    have hR':R (.ok (.ret (.bool k))) ⟨hp,g,d,tk,os⟩:=hR
    have hri:=he2 rfl prog w
    wp_walk using hri
    exact⟨_,rfl,by simpa using hR'⟩
  case fin=>
   rintro⟨b1,b2⟩ s' ⟨hb',rfl,i,hz,hR⟩
   simp only at hb'
   subst hb'
   have hge:min items.size items2.size≤i:=by
    rcases Nat.lt_or_ge i (items.toList.zip items2.toList).length with h' | h'
    ·rw[List.drop_eq_getElem_cons h'] at hz;cases hz
    ·exact hZ ▸ h'
   rw[List.drop_of_length_le (by lia)] at hR
   have hR':R (.ok (.ret (.bool (decide (items.size<items2.size))))) ⟨hp,g,d,tk,os⟩:=hR
   wp_walk
   exact⟨_,rfl,by simpa [Builtin.Tuple.tupleCompareSizes] using hR'⟩
  case h=>
   exact⟨rfl,rfl,0,rfl,by simpa using h⟩
end
noncomputable def zpM (ds es:List Im):List (Bool×Bool):=(ds.zip es).map fun p=>(aw p.1 p.2,ltM p.1 p.2)
theorem pc:∀ {n:Nat}{ds es:List Im},bu n ds es=true→ej false (zpM ds es)=bI ds es
 | _,[],[],_=>rfl
 | n,a::r,b::t,h=>by
  rw[bu,Bool.and_eq_true] at h
  show (if aw a b=true then ej false (zpM r t) else ltM a b)=bI (a::r) (b::t)
  rw[bI,(je h.1).2.2,pc h.2]
 | _,[],_::_,h=>by cases h
 | _,_::_,[],h=>by cases h
theorem pd {n:Nat}:∀ {ds es:List Im}{j:Nat}{a b:Im},bu n ds es=true→ds[j]?=some a→es[j]?=some b→bE n a b=true
 | [],es,j,a,b,_,h,_=>by simp at h
 | d::ds,[],j,a,b,h,_,_=>by cases h
 | d::ds,e::es,0,a,b,h,h1,h2=>by
  rw[bu,Bool.and_eq_true] at h
  cases h1
  cases h2
  exact h.1
 | d::ds,e::es,j+1,a,b,h,h1,h2=>by
  rw[bu,Bool.and_eq_true] at h
  exact pd (j:=j) h.2 (by simpa using h1) (by simpa using h2)
theorem pf {s:Shared}{A:Around}{i j:Int}{u v:Value} (hx:ImV s.heap (.int i) u) (hy:ImV s.heap (.int j) v):lh A s u v (ltM (.int i) (.int j)):=by
 obtain⟨t,rfl⟩:=hx
 obtain⟨t',rfl⟩:=hy
 intro prog w E Q q
 rw[ltM] at q
 exact HT.t6 A s i t j t' prog w E Q q
theorem lj:∀ {n:Nat}{x y:Im},bE n x y=true→(∃ i j,x=.int i∧y=.int j)∨∃ m a b,n=m+1∧x=.tup a∧y=.tup b∧bu m a b=true:=by
 intro n x y h
 unfold bE at h
 split at h
 ·exact .inl ⟨_,_,rfl,rfl⟩
 ·exact .inr ⟨_,_,_,rfl,rfl,rfl,h⟩
 ·cases h
theorem pg {s:Shared} (n:Nat):∀ {A:Around}{x y:Im}{u v:Value},bE n x y=true→A.units+n+2<cLine→ImV s.heap x u→ImV s.heap y v→lh A s u v (ltM x y):=by
 induction n with
 | zero=>
  intro A x y u v h hu hx hy
  rcases lj h with ⟨i,j,rfl,rfl⟩ | ⟨m,_,_,e,_⟩
  ·exact pf hx hy
  ·cases e
 | succ n ih=>
  intro A x y u v h hu hx hy
  rcases lj h with ⟨i,j,rfl,rfl⟩ | ⟨m,ds,es,e,rfl,rfl,h⟩
  ·exact pf hx hy
  cases e
  obtain⟨a,o,its,m,rfl,h1,h2,h3,h4⟩:=hx
  obtain⟨b,o',its',m',rfl,g1,g2,g3,g4⟩:=hy
  obtain⟨cls,dd,data,sl⟩:=o
  obtain⟨cls',dd',data',sl'⟩:=o'
  simp only at h2 h3 g2 g3
  subst h2 h3 g2 g3
  have l0:=lf h
  have l1:ds.length=its.size:=by rw[h4.length,Array.length_toList]
  have l2:es.length=its'.size:=by rw[g4.length,Array.length_toList]
  intro prog w E Q q
  rw[ltM,← pc h] at q
  have lp:(zpM ds es).length=min its.size its'.size:=by rw[zpM,List.length_map,List.length_zip,l1,l2]
  have hd:decide (its.size<its'.size)=false:=decide_eq_false (by lia)
  refine richCompare_meets_room (op:=.Lt) ⟨_,h1,rfl⟩ ⟨_,g1,rfl⟩ PySem.F.slot_tuple_lt PySem.F.entry_tuple_lt (PySem.F.args_tuple_lt_2 _ _) (xj a b its its' m m' dd dd' sl sl' (zpM ds es) lp)
   ⟨h1,g1,fun j j1 j2 j3=>?_,show Value.bool (ej (decide (its.size<its'.size)) (zpM ds es))≠Value.notImplemented∧Q (.bool (ej (decide (its.size<its'.size)) (zpM ds es))) s from ⟨(fun x=>nomatch x),by rw[hd];exact q⟩⟩ (by lia)
  obtain⟨d1,e1,r1⟩:=h4.get (j:=j) (v:=its[j]) (by rw[Array.getElem?_toList];simp[j1])
  obtain⟨d2,e2,r2⟩:=g4.get (j:=j) (v:=its'[j]) (by rw[Array.getElem?_toList];simp[j2])
  have lk:=pd h e1 e2
  have hp:=je lk
  have ez:(zpM ds es)[j]=(aw d1 d2,ltM d1 d2):=by
   have:(zpM ds es)[j]?=some (aw d1 d2,ltM d1 d2):=by
    rw[zpM,List.getElem?_map,(List.getElem?_zip_eq_some (z:=(d1,d2))).mpr ⟨e1,e2⟩]
    rfl
   rw[List.getElem?_eq_getElem j3] at this
   exact Option.some.inj this
  rw[ez]
  exact⟨c7 n hp.1 hp.2.1 (by show A.units+1+n+1<cLine;lia) r1 r2,fun _=>ih lk (by show A.units+1+n+2<cLine;lia) r1 r2⟩
end L2
namespace L2
open PySem PySem.Spec PyProof.Rows PySem.W
theorem ph {α:Type}{p q:α→Bool}:∀ {l:List α},(∀ x∈l,p x=true→q x=true)→(∃ x∈l,q x=true∧p x=false)→l.countP p<l.countP q
 | [],_,h=>by obtain⟨x,hx,_⟩:=h;cases hx
 | a::l,h,⟨x,hx,h1,h2⟩=>by
  rw[List.countP_cons,List.countP_cons]
  have le:l.countP p≤l.countP q:=List.countP_mono_left fun y hy=>h y (.tail _ hy)
  rcases List.mem_cons.mp hx with rfl | hx
  ·rw[h1,h2];simp;lia
  ·have:=ph (fun y hy=>h y (.tail _ hy)) ⟨x,hx,h1,h2⟩
   have ha:=h a (.head _)
   cases e1:p a<;>cases e2:q a<;>rw[e1,e2] at ha<;>simp at ha ⊢<;>lia
structure OrdOk (ds:List Im):Prop where
 few:ds.length≤1000
 like:∀ a∈ds,∀ b∈ds,bE 6 a b=true
 nd:ds.Nodup
noncomputable def rkM (ds:List Im) (x:Im):Nat:=ds.countP fun d=>ltM d x
theorem jg {ds:List Im} (o:OrdOk ds) {x y:Im} (hx:x∈ds) (hy:y∈ds) (h:ltM x y=true):rkM ds x<rkM ds y:=
 ph (fun z hz e=>jf (o.like z hz x hx) (o.like x hx y hy) e h) ⟨x,hx,h,lg x⟩
theorem pi {ds:List Im} (o:OrdOk ds) {x y:Im} (hx:x∈ds) (hy:y∈ds):decide ((rkM ds x:Int)<(rkM ds y:Int))=ltM x y:=by
 cases e:ltM x y with
 | true=>exact decide_eq_true (by have:=jg o hx hy e;lia)
 | false=>
  refine decide_eq_false fun z=>?_
  by_cases h:x=y
  ·subst h;lia
  ·have t:=f8 (o.like x hx y hy) h
   rw[e] at t
   have t':ltM y x=true:=by cases q:ltM y x<;>rw[q] at t<;>simp at t ⊢
   have:=jg o hy hx t'
   lia
theorem xk {ds:List Im} (o:OrdOk ds) {x y:Im} (hx:x∈ds) (hy:y∈ds) (h:rkM ds x=rkM ds y):x=y:=by
 by_cases e:x=y
 ·exact e
 ·have t:=f8 (o.like x hx y hy) e
  cases q:ltM x y with
  | true=>have:=jg o hx hy q;lia
  | false=>
   rw[q] at t
   have t':ltM y x=true:=by cases q:ltM y x<;>rw[q] at t<;>simp at t ⊢
   have:=jg o hy hx t'
   lia
noncomputable def dl (ds:List Im) (i:Nat):Int:=rkM ds (ds.getD i .non)
theorem f9 {ds:List Im}{i:Nat} (h:i<ds.length):ds.getD i .non∈ds:=by
 rw[List.getD_eq_getElem?_getD,List.getElem?_eq_getElem h]
 exact List.getElem_mem h
theorem jh {ds:List Im} (o:OrdOk ds):∀ i j,i<ds.length→j<ds.length→dl ds i=dl ds j→i=j:=fun i j hi hj e=>by
 have:=xk o (f9 hi) (f9 hj) (by unfold dl at e;lia)
 rw[List.getD_eq_getElem?_getD,List.getElem?_eq_getElem hi,List.getD_eq_getElem?_getD,List.getElem?_eq_getElem hj] at this
 exact (List.getElem_inj o.nd).mp this
theorem upM {ds:List Im} (o:OrdOk ds) {p:Array Nat} (hp:Rg ds.length p) (up:Up (dl ds) p ds.length):(p.toList.map fun i=>ds.getD i .non).Pairwise (fun a b=>ltM a b=true):=by
 rw[List.pairwise_iff_getElem]
 intro i j hi hj hij
 have hs:=hp.size
 have hi':i<ds.length:=by simpa [hs] using hi
 have hj':j<ds.length:=by simpa [hs] using hj
 have ne:=hp.ne (jh o) hij hj'
 have le:=up i j (by lia) hj'
 have g:∀ k (hk:k<(p.toList.map fun i=>ds.getD i .non).length),(p.toList.map fun i=>ds.getD i .non)[k]=ds.getD (p.getD k 0) .non:=fun k hk=>by
  have hk':k<p.size:=by simpa using hk
  rw[List.getElem_map,Array.getElem_toList]
  simp[Array.getD,hk']
 rw[g i hi,g j hj]
 rw[← pi o (f9 (hp.lt hi')) (f9 (hp.lt hj'))]
 refine decide_eq_true ?_
 have e:∀ k,(rkM ds (ds.getD (p.getD k 0) .non):Int)=kyA (dl ds) p k:=fun _=>rfl
 rw[e i,e j]
 lia
theorem pj:∀ {l m:List Im},l.Perm m→l.Pairwise (fun a b=>ltM a b=true)→m.Pairwise (fun a b=>ltM a b=true)→(∀ a∈l,∀ b∈l,ltM a b=true→ltM b a=false)→l=m
 | [],m,p,_,_,_=>(List.nil_perm.mp p).symm
 | a::l,m,p,h1,h2,as=>by
  cases m with
  | nil=>exact absurd p.length_eq (by simp)
  | cons b m=>
   have e:a=b:=by
    by_cases e:a=b
    ·exact e
    ·have ha:a∈m:=by
      rcases List.mem_cons.mp (p.mem_iff.mp (.head _)) with z | z
      ·exact absurd z e
      ·exact z
     have hb:b∈l:=by
      rcases List.mem_cons.mp (p.mem_iff.mpr (.head _)) with z | z
      ·exact absurd z.symm e
      ·exact z
     have q1:=(List.pairwise_cons.mp h1).1 b hb
     have q2:=(List.pairwise_cons.mp h2).1 a ha
     rw[as a (.head _) b (.tail _ hb) q1] at q2
     cases q2
   subst e
   rw[pj (List.Perm.cons_inv p) (List.pairwise_cons.mp h1).2 (List.pairwise_cons.mp h2).2 fun x hx y hy=>as x (.tail _ hx) y (.tail _ hy)]
theorem ll (x:Im):∀ l:List Im,(ed ltM x l).Perm (x::l)
 | []=>List.Perm.refl _
 | y::r=>by
  rw[ed]
  split
  ·exact List.Perm.refl _
  ·exact (List.Perm.cons y (ll x r)).trans (List.Perm.swap x y r)
theorem gf:∀ l:List Im,(bm ltM l).Perm l
 | []=>List.Perm.refl _
 | x::r=>(ll x _).trans (List.Perm.cons x (gf r))
theorem pk {x:Im}:∀ {l:List Im},l.Pairwise (fun a b=>ltM a b=true)→(∀ y∈l,x≠y)→(∀ a∈x::l,∀ b∈x::l,bE 6 a b=true)→(ed ltM x l).Pairwise (fun a b=>ltM a b=true)
 | [],_,_,_=>List.pairwise_singleton _ _
 | y::r,h,n,lk=>by
  have h':=List.pairwise_cons.mp h
  rw[ed]
  split
  ·rename_i e
   refine List.pairwise_cons.mpr ⟨fun z hz=>?_,h⟩
   rcases List.mem_cons.mp hz with rfl | hz
   ·exact e
   ·exact jf (lk x (.head _) y (.tail _ (.head _))) (lk y (.tail _ (.head _)) z (.tail _ (.tail _ hz))) e (h'.1 z hz)
  ·rename_i e
   refine List.pairwise_cons.mpr ⟨fun z hz=>?_,pk h'.2 (fun z hz=>n z (.tail _ hz)) fun a ha b hb=>lk a ?_ b ?_⟩
   ·rcases List.mem_cons.mp ((ll x r).mem_iff.mp hz) with rfl | hz
    ·have t:=f8 (lk z (.head _) y (.tail _ (.head _))) (n y (.head _))
     cases q:ltM y z with
     | true=>rfl
     | false=>rw[q] at t;exact absurd t e
    ·exact h'.1 z hz
   ·rcases List.mem_cons.mp ha with rfl | ha
    ·exact .head _
    ·exact .tail _ (.tail _ ha)
   ·rcases List.mem_cons.mp hb with rfl | hb
    ·exact .head _
    ·exact .tail _ (.tail _ hb)
theorem lm:∀ {l:List Im},l.Nodup→(∀ a∈l,∀ b∈l,bE 6 a b=true)→(bm ltM l).Pairwise (fun a b=>ltM a b=true)
 | [],_,_=>.nil
 | x::r,nd,lk=>by
  have nd':=List.nodup_cons.mp nd
  refine pk (lm nd'.2 fun a ha b hb=>lk a (.tail _ ha) b (.tail _ hb)) (fun y hy e=>nd'.1 (by rw[e];exact (gf r).mem_iff.mp hy)) fun a ha b hb=>lk a ?_ b ?_
  ·rcases List.mem_cons.mp ha with rfl | ha
   ·exact .head _
   ·exact .tail _ ((gf r).mem_iff.mp ha)
  ·rcases List.mem_cons.mp hb with rfl | hb
   ·exact .head _
   ·exact .tail _ ((gf r).mem_iff.mp hb)
theorem ji {ds l:List Im} (o:OrdOk ds) (p:l.Perm ds) (h:l.Pairwise (fun a b=>ltM a b=true)):l=bm ltM ds:=by
 refine pj (p.trans (gf ds).symm) h (lm o.nd o.like) fun a ha b hb e=>?_
 have t:=f8 (o.like a (p.mem_iff.mp ha) b (p.mem_iff.mp hb)) (fun z=>by subst z;rw[lg] at e;cases e)
 rw[e] at t
 cases q:ltM b a with
 | false=>rfl
 | true=>rw[q] at t;cases t
noncomputable def cq:Im→Bool
 | .tup (.int _::_)=>true
 | _=>false
noncomputable def fo:Im→Bool
 | .tup (.tup _::_)=>true
 | _=>false
section
variable {prog:Program}{w:World}{A:Around}{E:Value→Shared→Prop}{s:Shared}
theorem pp {b:Bool} (n:Nat) (hu:A.units+n+2<cLine) {Q:Bool→Shared→Prop}:∀ {ds es:List Im}{vs ws:List Value}{i:Nat},bu n ds es=true→aD s.heap ds vs→aD s.heap es ws→(b=true→i=0→∃ k r,ds=.int k::r)→Q (bI ds es) s→KatLex prog w A b false Q (vs.zip ws) i s
 | [],[],vs,ws,i,_,h1,h2,_,q=>by
  rw[show vs=[] from h1]
  exact kat_nil q
 | d::ds,e::es,vs,ws,i,h,h1,h2,hb,q=>by
  rw[bu,Bool.and_eq_true] at h
  obtain⟨v,vs,rfl,a1,a2⟩:=h1
  obtain⟨u,ws,rfl,b1,b2⟩:=h2
  rw[List.zip_cons_cons]
  obtain⟨p1,p2,p3⟩:=je h.1
  refine kat_cons (c7 n p1 p2 (by lia) a1 b1 prog w _ _ ?_)
  rw[p3]
  rw[bI] at q
  cases hq:Im.beq d e with
  | true=>
   rw[hq,if_pos rfl] at q
   exact kat_yes (pp n hu h.2 a2 b2 (fun _ z=>by lia) q)
  | false=>
   rw[hq,if_neg Bool.false_ne_true] at q
   refine kat_no ?_
   by_cases hf:(b && i == 0)=true
   ·rw[hf]
    rw[Bool.and_eq_true] at hf
    obtain⟨k,r,z⟩:=hb hf.1 (by simpa using hf.2)
    cases z
    rcases lj h.1 with ⟨i',j,z1,z2⟩ | ⟨_,_,_,_,z1,_⟩
    ·cases z1
     cases z2
     obtain⟨t,rfl⟩:=a1
     obtain⟨t',rfl⟩:=b1
     rw[ltM] at q
     exact oneLt_int q
    ·cases z1
   ·rw[show (b && i == 0)=false by simpa using hf]
    exact kat_one _ _ (pg n h.1 hu a1 b1 prog w _ _ q)
 | [],_::_,_,_,_,h,_,_,_,_=>by cases h
 | _::_,[],_,_,_,h,_,_,_,_=>by cases h
theorem lq {ds:List Im}{its:List Value}{b:Bool} (o:OrdOk ds) (iv:aD s.heap ds its) (ht:∀ d∈ds,∃ r,d=.tup r) (hb:b=true→∀ d∈ds,cq d=true) (hu:A.units+9<cLine):
  aZ its.length (dl ds) (kas_cmp prog w A (tuples' b) (its.toArray.zip its.toArray)) s:=by
 intro i j C hi hj q
 have hl:=iv.length
 have mi:=f9 (ds:=ds) (i:=i) (by lia)
 have mj:=f9 (ds:=ds) (i:=j) (by lia)
 unfold dl at q
 rw[pi o mi mj] at q
 obtain⟨d1,e1,r1⟩:=iv.get (j:=i) (v:=its[i]) (by simp)
 obtain⟨d2,e2,r2⟩:=iv.get (j:=j) (v:=its[j]) (by simp)
 rw[List.getD_eq_getElem?_getD,e1,List.getD_eq_getElem?_getD,e2] at q
 rw[List.getD_eq_getElem?_getD,e1] at mi
 rw[List.getD_eq_getElem?_getD,e2] at mj
 obtain⟨a,ea⟩:=ht d1 mi
 obtain⟨b',eb⟩:=ht d2 mj
 subst ea eb
 have lk:bu 5 a b'=true:=o.like _ mi _ mj
 unfold kas_cmp
 rw[kat_item rfl,kat_item rfl,List.getD_eq_getElem?_getD,List.getD_eq_getElem?_getD,List.getElem?_eq_getElem hi,List.getElem?_eq_getElem hj]
 show wpAny _ _ (keyLt' (tuples' b) its[i] its[j]) _ _ _
 obtain⟨x,ox,xs,n1,z1,g1,g2,g3,g4⟩:=r1
 obtain⟨y,oy,ys,n2,z2,k1,k2,k3,k4⟩:=r2
 rw[z1,z2]
 refine kat_lt (b:=b) g1 g3 k1 k3 ?_
 have l1:a.length=xs.size:=by rw[g4.length,Array.length_toList]
 have l2:b'.length=ys.size:=by rw[k4.length,Array.length_toList]
 rw[show decide (xs.size<ys.size)=false from decide_eq_false (by have:=lf lk;lia)]
 refine pp 5 (by lia) lk g4 k4 (fun hbt _=>?_) (by have q':C (ltM (.tup a) (.tup b')) s:=q;rw[ltM] at q';exact q')
 have:=hb hbt _ mi
 unfold cq at this
 split at this
 ·rename_i h
  cases h
  exact⟨_,_,rfl⟩
 ·cases this
theorem pq:∀ {ds:List Im}{its:List Value},aD s.heap ds its→(∀ d∈ds,cq d=true)∨(∀ d∈ds,fo d=true)→∃ fs,KatTups s.heap its fs∧fs.length=its.length∧
  ((∀ d∈ds,cq d=true)→∀ v∈fs,∃ i t,v=Value.int i t)∧((∀ d∈ds,fo d=true)→∀ v∈fs,∃ a ob,v=Value.ref a∧s.heap.get? a=some ob∧ob.cls=.type "tuple")
 | [],its,h,_=>by
  rw[show its=[] from h]
  exact⟨[],trivial,rfl,(fun _ _ h=>nomatch h),(fun _ _ h=>nomatch h)⟩
 | d::ds,its,h,hf=>by
  obtain⟨v,r,rfl,h1,h2⟩:=h
  obtain⟨fs,t1,t2,t3,t4⟩:=pq h2 (hf.imp (fun z x hx=>z x (.tail _ hx)) fun z x hx=>z x (.tail _ hx))
  have sh:∃ f r',d=.tup (f::r'):=by
   rcases hf with z | z
   ·have:=z d (.head _)
    unfold cq at this
    split at this
    ·exact⟨_,_,rfl⟩
    ·cases this
   ·have:=z d (.head _)
    unfold fo at this
    split at this
    ·exact⟨_,_,rfl⟩
    ·cases this
  obtain⟨f,r',rfl⟩:=sh
  obtain⟨a,o,items,n,rfl,g1,g2,g3,g4⟩:=h1
  obtain⟨fv,rv,e,g5,g6⟩:=g4
  have hf0:items[0]?=some fv:=by
   rw[← Array.getElem?_toList,e];rfl
  refine⟨fv::fs,KatTups.cons g1 g2 g3 hf0 t1,by simp[t2],fun z u hu=>?_,fun z u hu=>?_⟩
  ·rcases List.mem_cons.mp hu with rfl | hu
   ·have:=z _ (.head _)
    unfold cq at this
    split at this
    ·rename_i q
     cases q
     exact⟨_,g5⟩
    ·cases this
   ·exact t3 (fun x hx=>z x (.tail _ hx)) u hu
  ·rcases List.mem_cons.mp hu with rfl | hu
   ·have:=z _ (.head _)
    unfold fo at this
    split at this
    ·rename_i q
     cases q
     obtain⟨a',o',_,_,e',k1,k2,_⟩:=g5
     exact⟨a',o',e',k1,k2⟩
    ·cases this
   ·exact t4 (fun x hx=>z x (.tail _ hx)) u hu
end
section
variable {X:Cx}
theorem aj.pick {H:Hp}{ds:List Im}{ys:List V} (h:aj H ds ys):∀ {p:List Nat},(∀ k∈p,k<ds.length)→aj H (p.map fun i=>ds.getD i .non) (p.map fun i=>ys.getD i .non)
 | [],_=>rfl
 | k::p,hp=>by
  obtain⟨v,e1,e2⟩:=h.get (i:=k) (d:=ds.getD k .non) (by
   have:=hp k (.head _)
   rw[List.getD_eq_getElem?_getD,List.getElem?_eq_getElem this];rfl)
  refine⟨v,_,?_,e2,h.pick fun j hj=>hp j (.tail _ hj)⟩
  rw[List.map_cons,List.getD_eq_getElem?_getD,e1]
  rfl
structure SrtOk (ds:List Im):Prop where
 ord:OrdOk ds
 fst:(∀ d∈ds,cq d=true)∨(∀ d∈ds,fo d=true)
theorem SrtOk.tup {ds:List Im} (o:SrtOk ds):∀ d∈ds,∃ r,d=.tup r:=fun d hd=>by
 rcases o.fst with z | z
 ·have:=z d hd
  unfold cq at this
  split at this
  ·exact⟨_,rfl⟩
  ·cases this
 ·have:=z d hd
  unfold fo at this
  split at this
  ·exact⟨_,rfl⟩
  ·cases this
theorem aD.keepAll {h h':Heap} (k:∀ b o,h.get? b=some o→h'.get? b=some o) {ds:List Im}{vs:List Value} (x:aD h ds vs):aD h' ds vs:=x.keep fun a o _ _ e _ _=>k a o e
theorem lr {h:Heap}{ds:List Im}{its:List Value}{s:Shared} (o:SrtOk ds) (h2:2≤its.length) (iv:aD s.heap ds its) (A:Around) (E:Value→Shared→Prop) (Q:SortKind→Shared→Prop) (hq:Q (tuples' (decide (∀ d∈ds,cq d=true))) s):
  wpAny (model X.prog X.w) A (keyKind' its.toArray) Q E s:=by
 obtain⟨fs,t1,t2,t3,t4⟩:=pq iv o.fst
 have hl:=iv.length
 by_cases hf:∀ d∈ds,cq d=true
 ·rw[decide_eq_true hf] at hq
  refine kat_kind (T:=Value.type "int") t1 (by lia) (fun v hv=>?_) rfl ?_
  ·obtain⟨i,t,rfl⟩:=t3 hf v hv
   exact Looks.of_pure rfl
  ·rw[show (Value.type "int" != Value.type "tuple")=true by decide]
   exact hq
 ·rw[decide_eq_false hf] at hq
  have hf2:=o.fst.resolve_left hf
  refine kat_kind (T:=Value.type "tuple") t1 (by lia) (fun v hv=>?_) rfl ?_
  ·obtain⟨a,ob,rfl,g1,g2⟩:=t4 hf2 v hv
   have:Looks (model X.prog X.w) s.heap (typeOf (.ref a)) ob.cls:=(Looks.ld g1).andThen .now
   rw[g2] at this
   exact this
  ·rw[show (Value.type "tuple" != Value.type "tuple")=false by decide]
   exact hq
theorem pz (hc:X.calm=true) (hu:X.A.units+20<cLine):aX X (.builtin "sorted") (fun xs H Q=>∃ (a:Addr) (ds:List Im) (ys:List V),xs=[.ref a]∧(SqL X.K H a ys∨SqT X.K H a ys)∧aj H ds ys∧SrtOk ds∧
  ∀ l zs,H l=none→aj H (bm ltM ds) zs→Q (.ref l) (upd H l (.lst zs))):=by
 intro pins s σ H xs us Q I r h
 obtain⟨a,ds,ys,rfl,hs,hi,o,q⟩:=h
 obtain⟨u,rfl,ru⟩:=cg r
 cases ru
 have hz:ys.length≤1000:=by rw[← hi.length];exact o.ord.few
 have go:∀ {T:String}{its:List Value}{n:Nat}{ob:Obj},(T = "list" ∨ T = "tuple")→am ys its→s.heap.get? a=some ob→ob.cls=.type T→ob.data=.seq its.toArray n→wpAny (model X.prog X.w) X.A (call (.builtin "sorted") [.ref a]) (EP X pins σ Q) X.xe s:=by
  intro T its n ob hT rv e eC eD
  have iv:=hi.imv I.hok rv
  have li:its.length=ds.length:=iv.length.symm
  refine oq hc (dl ds) (tuples' (decide (∀ d∈ds,cq d=true))) I rv hT e eC eD hz (fun h2 h6 tk k A E Q hq=>lr (h:=h6) o h2 (iv.keepAll k) A E Q hq) (fun h6 tk k=>?_) (by rw[li];exact jh o.ord) (.inl (by have:=o.ord.few;lia)) fun p l r1 r2 fl=>?_
  ·refine lq (s:={ s with heap:=h6,toks:=tk }) o.ord (iv.keepAll k) o.tup (fun hb=>?_) (by show X.A.units+1+1+9<cLine;lia)
   exact of_decide_eq_true hb
  ·rw[li] at r1 r2
   have e1:(p.toList.map fun i=>ds.getD i .non)=bm ltM ds:=ji o.ord (jb r1) (upM o.ord r1 r2)
   refine q l _ fl ?_
   rw[← e1]
   exact hi.pick fun k hk=>List.mem_range.mp (r1.mem_iff.mp hk)
 rcases hs with hs | hs
 ·obtain⟨its,rv,p,_⟩:=I.list hs
  obtain⟨ob,e,eC,n,eD⟩:=p.isList
  exact go (.inl rfl) rv e eC eD
 ·obtain⟨its,rv,p,_⟩:=I.tuple hs
  obtain⟨ob,e,eC,n,eD⟩:=p
  exact go (.inr rfl) rv e eC eD
end
section
variable {X:Cx}
theorem pA {H:Hp}:∀ {kvs:List (List Im×V)}{es:List (List Im×Addr×Value)},Paired (fun (p:List Im×V) (q:List Im×Addr×Value)=>p.1=q.1∧KAd H p.1 q.2.1∧ao p.2 q.2.2) kvs es→
  aj H (kvs.map fun p=>.tup p.1) (es.map fun x=>V.ref x.2.1)∧am (es.map fun x=>V.ref x.2.1) (es.map fun x=>Value.ref x.2.1)
 | _,_,.nil=>⟨rfl,.nil⟩
 | _,_,.cons r t=>by
  obtain⟨h1,h2⟩:=pA t
  exact⟨⟨_,_,rfl,r.2.1.2,h1⟩,.cons rfl h2⟩
theorem xl (hc:X.calm=true) (hu:X.A.units+20<cLine):aX X (.builtin "sorted") (fun xs H Q=>∃ (d:Addr) (kvs:List (List Im×V)),xs=[.ref d]∧H d=some (.dT kvs)∧SrtOk (kvs.map fun p=>.tup p.1)∧
  ∀ l zs,H l=none→aj H (bm ltM (kvs.map fun p=>.tup p.1)) zs→Q (.ref l) (upd H l (.lst zs))):=by
 intro pins s σ H xs us Q I r h
 obtain⟨d,kvs,rfl,hd,so,q⟩:=h
 obtain⟨u,rfl,ru⟩:=cg r
 cases ru
 obtain⟨z,lo,es,rel,o,ens,ep,e1,e2,e3,e4,nd⟩:=I.hok d _ hd
 obtain⟨hi,rv⟩:=pA rel
 have kat:KAt s.heap d (es.map fun x=>Value.ref x.2.1) ep:=⟨o,ens,e1,e2,e3,by rw[e4,List.map_map];rfl⟩
 generalize (es.map fun x=>Value.ref x.2.1)=its at rv kat
 generalize (es.map fun x=>V.ref x.2.1)=ys at hi rv
 generalize hds:(kvs.map fun p=>Im.tup p.1)=ds at hi so q
 have iv:=hi.imv I.hok rv
 have li:its.length=ds.length:=iv.length.symm
 have few:=so.ord.few
 have hl:ys.length=its.length:=rv.length
 have hsl:its.length≤sizeLine:=Nat.le_trans (by lia) (show 1000≤sizeLine by decide)
 refine Calls.call_function_entry kind_sorted plain_sorted entry_sorted (args_sorted1 _) ?z
 case z=>
  unfold Builtin.«sorted»
  refine wpAny_bind (m:=checkCount "sorted" 1 1 _) (wpAny_pure (wpAny_bind (kdu_collect (A:=X.A.in1) (vc lo) (I.ok.hd hc) kat hsl fun h' tk acc hkp hacc=>?_)))
  have ea:acc.toList=its:=by
   apply List.ext_getElem
   ·rw[Array.length_toList]
    exact hacc.1
   ·intro i h1 h2
    have:=hacc.2 i acc.toList[i] (by rw[← Array.getElem?_toList];exact List.getElem?_eq_getElem h1)
    have this:its[i]?=some acc.toList[i]:=this
    rw[List.getElem?_eq_getElem h2] at this
    exact (Option.some.inj this).symm
  rw[ea]
  refine wpAny_bind (wpAny_newList ?_ hsl)
  have oB:(h'.push (seqObj "list" its.toArray 0)).get? h'.objs.size=some (seqObj "list" its.toArray 0):=Heap.get?_push_size _ rfl
  have kB:∀ b o,s.heap.get? b=some o→(h'.push (seqObj "list" its.toArray 0)).get? b=some o:=fun b o e=>Heap.get?_push_of_some _ (hkp b o e)
  have I1:Inv X pins σ H { s with heap:=h',toks:=tk }:=I.kept hkp
  have nB:∀ b o,s.heap.get? b=some o→b≠h'.objs.size:=fun b o e=>Nat.ne_of_lt (Heap.lt_size (hkp b o e))
  refine wpAny_bind (wpAny_holding (wpAny_call_entry slot_list_sort ⟨_,oB,rfl⟩ entry_list_sort ?y (args_list_sort _)))
  case y=>
   refine kO (s:={ s with heap:=h'.push (seqObj "list" its.toArray 0),toks:=tk }) (dl ds) (tuples' (decide (∀ d∈ds,cq d=true))) oB
    (fun h2 h6 k6 Q hq=>lr (X:=X) (h:=h6) so h2 (iv.keepAll fun b o eb=>k6 b o (nB b o eb) (kB b o eb)) _ _ Q hq)
    (fun h6 k6=>lq (s:={ s with heap:=h6,toks:=tk }) so.ord (iv.keepAll fun b o eb=>k6 b o (nB b o eb) (kB b o eb)) so.tup (fun hb=>of_decide_eq_true hb) (by show X.A.units+1+1+9<cLine;lia))
    (by rw[li];exact jh so.ord) (.inl (by lia)) (by lia) fun p h2 r1 r2 k2 ⟨e9,oB2⟩=>⟨_,rfl,wpAny_pure ⟨_,rfl,?_⟩⟩
   have fB:H h'.objs.size=none:=I1.hok.fresh (Nat.le_refl _)
   have neB:∀ b o,h'.get? b=some o→b≠h'.objs.size:=fun b o e=>Nat.ne_of_lt (Heap.lt_size e)
   rw[li] at r1 r2
   refine⟨.ref h'.objs.size,upd H h'.objs.size (.lst (p.toList.map fun i=>ys.getD i .non)),?_,rfl,q _ _ fB ?_⟩
   ·refine I1.laid (t':=tk) (fun b u e=>k2 b u (neB b u e) (Heap.get?_push_of_some _ e)) (Nat.le_refl _) ⟨?_,_,e9,?_,oB2⟩
    ·rw[List.length_map,Array.length_toList,r1.size]
     lia
    ·refine jc (by simp) fun i v u h1 h2=>?_
     rw[List.getElem?_map] at h1 h2
     cases hpi:p.toList[i]? with
     | none=>rw[hpi] at h1;cases h1
     | some k=>
      rw[hpi] at h1 h2
      cases h1
      cases h2
      have hk:k<its.length:=by rw[li];exact List.mem_range.mp (r1.mem_iff.mp (List.mem_of_getElem? hpi))
      obtain⟨u,h3,h4⟩:=rv.get (i:=k) (x:=ys[k]'(by lia)) (by simp[show k<ys.length by lia])
      rw[List.getElem?_eq_getElem hk] at h3
      have h3:=Option.some.inj h3
      simp only[List.getD,List.getElem?_eq_getElem hk,List.getElem?_eq_getElem (show k<ys.length by lia),Option.getD_some]
      rw[h3]
      exact h4
   ·rw[← ji so.ord (jb r1) (upM so.ord r1 r2)]
    exact hi.pick fun k hk=>List.mem_range.mp (r1.mem_iff.mp hk)
noncomputable def hV (ds:List Im):Bool:=decide (ds.length≤1000) && ds.all (fun a=>ds.all fun b=>bE 6 a b) && decide ds.Nodup && (ds.all cq || ds.all fo)
theorem jj {ds:List Im}:hV ds=true↔SrtOk ds:=by
 unfold hV
 rw[Bool.and_eq_true,Bool.and_eq_true,Bool.and_eq_true,Bool.or_eq_true,decide_eq_true_iff,decide_eq_true_iff,List.all_eq_true,List.all_eq_true,List.all_eq_true]
 constructor
 ·rintro⟨⟨⟨h1,h2⟩,h3⟩,h4⟩
  exact⟨⟨h1,fun a ha b hb=>List.all_eq_true.mp (h2 a ha) b hb,h3⟩,h4⟩
 ·rintro⟨⟨h1,h2,h3⟩,h4⟩
  exact⟨⟨⟨h1,fun a ha=>List.all_eq_true.mpr fun b hb=>h2 a ha b hb⟩,h3⟩,h4⟩
noncomputable def fq (ds:List Im):Option Vl:=if hV ds=true then some (.lst (bm ltM ds)) else none
noncomputable def vSortM:OpN:=fun ds=>match ds with
 | [.lst x]=>match ints? x with
  | some ns=>vSorted [.lst x]
  | none=>fq x
 | [.im (.tup x)]=>fq x
 | [.dT kvs]=>fq (kvs.map fun p=>.tup p.1)
 | _=>none
theorem ls {ds:List Im}{d:Vl} (h:fq ds=some d):SrtOk ds∧d=.lst (bm ltM ds):=by
 unfold fq at h
 split at h
 ·rename_i e
  cases h
  exact⟨jj.mp e,rfl⟩
 ·cases h
theorem pB {H:Hp}:∀ {kvs:List (List Im×Im)}{kws:List (List Im×V)},PKv H kvs kws→(kvs.map fun p=>Im.tup p.1)=kws.map fun p=>Im.tup p.1
 | _,_,.nil=>rfl
 | _,_,.cons r t=>by rw[List.map_cons,List.map_cons,pB t,r.1]
theorem xm (hc:X.calm=true) (hu:X.A.units+20<cLine):cy X (.builtin "sorted") vSortM:=by
 intro pins s σ H xs us Q I r ⟨ds,d,rd,e,q⟩
 unfold vSortM at e
 split at e
 ·rename_i x
  split at e
  ·exact wI hc hu pins s σ H xs us Q I r ⟨_,d,rd,e,q⟩
  ·obtain⟨so,rfl⟩:=ls e
   obtain⟨v,rfl,_,p,ys,rfl,h1,h2,_⟩:=bD rd
   exact pz hc hu pins s σ H _ us Q I r ⟨p,x,ys,rfl,.inl (SqL.of h1),h2,so,fun l zs fl hz=>Out.l q fl hz⟩
 ·rename_i x
  obtain⟨so,rfl⟩:=ls e
  obtain⟨v,rfl,hv⟩:=bD rd
  obtain⟨p,ys,rfl,h1,h2⟩:=hv.i
  exact pz hc hu pins s σ H _ us Q I r ⟨p,x,ys,rfl,.inr (SqT.of h1),h2,so,fun l zs fl hz=>Out.l q fl hz⟩
 ·rename_i kvs
  obtain⟨so,rfl⟩:=ls e
  obtain⟨v,rfl,_,p,kws,rfl,h1,h2,_⟩:=bD rd
  rw[pB h2] at so q
  exact xl hc hu pins s σ H _ us Q I r ⟨p,kws,rfl,h1,so,fun l zs fl hz=>Out.l q fl hz⟩
 ·cases e
end
end L2
namespace PySem
open Sem (wp)
end PySem
namespace PySem
namespace F
end F
end PySem
namespace L2
open PySem PySem.Spec PyProof.Rows PySem.W
section
variable {X:Cx}{pins:List (Addr×Obj)}{σ:L2.St}{H:Hp}{s0:Shared}
end
section
variable {X:Cx}
end
section
variable {prog:Program}{w:World}{A:Around}{E:Value→Shared→Prop}{s:Shared}
end
section
variable {prog:Program}{w:World}{A:Around}{E:Value→Shared→Prop}{s:Shared}
end
section
open PySem.SeqAt
open PySem.AutoSeq1 (wpAny_loadPart')
open PySem.MeetsSeq PySem.MeetsSeq2 PySem.MeetsSeq3
end
section
variable {X:Cx}
end
section
variable {prog:Program}{w:World}{A:Around}{E:Value→Shared→Prop}{s:Shared}
end
section
variable {prog:Program}{w:World}{A:Around}{E:Value→Shared→Prop}{s:Shared}
end
section
variable {X:Cx}
end
section
variable {X:Cx}
end
mutual
noncomputable def pyD:Im→PyData
 | .int i=>.int i
 | .bl b=>.bool b
 | .str x=>.str x
 | .tup ds=>.tuple (hX ds)
 | _=>.none
noncomputable def hX:List Im→List PyData
 | []=>[]
 | d::r=>pyD d::hX r
end
mutual
theorem xn {h:Heap}:∀ {n:Nat}{d:Im}{u:Value},Im.pl n d=true→ImV h d u→Reads h u (pyD d) []
 | _,.non,u,_,e=>by cases (show u=.none from e);exact .none
 | _,.bl b,u,_,e=>by cases (show u=.bool b from e);exact .bool b
 | _,.int i,u,_,e=>by obtain⟨t,rfl⟩:=e;exact .int i t
 | _,.str x,u,_,e=>by obtain⟨t,rfl⟩:=e;exact .str x t
 | n+1,.tup ds,u,k,e=>by
  obtain⟨a,o,items,m,rfl,h1,h2,h3,h4⟩:=e
  exact .tuple h1 h2 h3 (pC (n:=n) k h4)
 | 0,.tup ds,u,k,e=>by cases k
 | n,.fn a,u,k,e=>by cases n<;>cases k
 | n,.fl a,u,k,e=>by cases n<;>cases k
 | n,.fd,u,k,e=>by cases n<;>cases k
theorem pC {h:Heap}:∀ {n:Nat}{ds:List Im}{us:List Value},Im.pls n ds=true→aD h ds us→ReadsAll h us (hX ds) []
 | _,[],us,_,e=>by rw[show us=[] from e];exact .nil
 | n,d::ds,us,k,e=>by
  obtain⟨v,r,rfl,h1,h2⟩:=e
  rw[Im.pls,Bool.and_eq_true] at k
  exact .cons (xn k.1 h1) (pC k.2 h2)
end
mutual
theorem xo:∀ d:Im,PyData.hasDict (pyD d)=false
 | .non=>rfl
 | .bl _=>rfl
 | .int _=>rfl
 | .str _=>rfl
 | .fn _=>rfl
 | .fl _=>rfl
 | .fd=>rfl
 | .tup ds=>pD ds
theorem pD:∀ ds:List Im,PyData.hasDictAll (hX ds)=false
 | []=>rfl
 | d::r=>by
  show (PyData.hasDict (pyD d) || PyData.hasDictAll (hX r))=false
  rw[xo d,pD r]
  rfl
end
section
variable {X:Cx}
end
section
variable {prog:Program}{w:World}{A:Around}{E:Value→Shared→Prop}{s:Shared}
end
section
variable {X:Cx}
end
end L2
namespace G
open PySem L2
noncomputable abbrev iI (i:Int):Vl:=.im (.int i)
noncomputable def cM (p:Int×Int):Im:=.tup [.int p.1,.int p.2]
noncomputable abbrev cT (ps:List (Int×Int)):Vl:=.im (.tup (ps.map cM))
noncomputable abbrev cL (ps:List (Int×Int)):Vl:=.lst (ps.map cM)
noncomputable def kM (p:Int×Int):List Im:=[.int p.1,.int p.2]
theorem pE (p:Int×Int):cM p=.tup (kM p):=rfl
theorem lu {a b:Int×Int} (h:kM a=kM b):a=b:=by
 unfold kM at h
 simp at h
 exact Prod.ext h.1 h.2
theorem xp {a b:Int×Int} (h:cM a=cM b):a=b:=by
 rw[pE,pE] at h
 exact lu (by injection h)
theorem xq (p:Int×Int):Im.keys 7 (kM p)=true:=rfl
noncomputable def uC:Im→Int×Int
 | .tup [.int a,.int b]=>(a,b)
 | _=>(0,0)
theorem pF (p:Int×Int):uC (cM p)=p:=rfl
theorem xr (p:Int×Int):Im.pl 8 (cM p)=true:=rfl
theorem lv:∀ ps:List (Int×Int),Im.pls 8 (ps.map cM)=true
 | []=>rfl
 | p::r=>by rw[List.map_cons,Im.pls,xr,lv r];rfl
theorem pG:∀ (l:List Im) (ks:List (Int×Int)),(∀ x∈l,x∈ks.map cM)→l=(l.map uC).map cM
 | [],_,_=>rfl
 | x::l,ks,h=>by
  obtain⟨p,_,e⟩:=List.mem_map.mp (h x (.head _))
  rw[List.map_cons,List.map_cons,← pG l ks fun y hy=>h y (.tail _ hy),← e,pF]
theorem xt {l:List Im}{ks:List (Int×Int)} (h:l.Perm (ks.map cM)):∃ ms:List (Int×Int),ms.Perm ks∧l=ms.map cM:=by
 refine⟨l.map uC,?_,pG l ks fun x hx=>h.mem_iff.mp hx⟩
 have:=List.Perm.map uC h
 rw[List.map_map] at this
 have e:(uC ∘ cM:Int×Int→Int×Int)=id:=funext pF
 rw[e,List.map_id] at this
 exact this
theorem jl {ks:List (Int×Int)} (nd:ks.Nodup) (hl:ks.length≤1000):SrtOk (ks.map cM):=by
 refine⟨⟨by rw[List.length_map];exact hl,fun a ha b hb=>?_,?_⟩,.inl fun d hd=>?_⟩
 ·obtain⟨x,_,rfl⟩:=List.mem_map.mp ha
  obtain⟨y,_,rfl⟩:=List.mem_map.mp hb
  rfl
 ·exact List.Pairwise.map cM (fun a b n e=>n (xp e)) nd
 ·obtain⟨x,_,rfl⟩:=List.mem_map.mp hd
  rfl
noncomputable def mt (ks:List (Int×Int)):List (List Im×Im):=ks.map fun c=>(kM c,.bl true)
theorem pH (ks:List (Int×Int)) (c:Int×Int):((mt ks).any fun p=>decide (p.1=kM c))=decide (c∈ks):=by
 unfold mt
 rw[List.any_map,Bool.eq_iff_iff,List.any_eq_true,decide_eq_true_iff]
 constructor
 ·rintro⟨x,hx,e⟩
  have:kM x=kM c:=of_decide_eq_true e
  rw[← lu this]
  exact hx
 ·intro h
  exact⟨c,h,decide_eq_true rfl⟩
theorem xu {ks:List (Int×Int)}{c:Int×Int} (h:c∉ks):eg (mt ks) (kM c) (.bl true)=mt (ks++[c]):=by
 unfold eg
 rw[if_neg (by rw[pH];simpa using h)]
 unfold mt
 rw[List.map_append]
 rfl
theorem xv (ks:List (Int×Int)):((mt ks).map fun p=>Im.tup p.1)=ks.map cM:=by
 unfold mt
 rw[List.map_map]
 rfl
noncomputable def lx:MS:=(aq (ay 2 (eC (.int 0))) (aq (sIf (kB (af vLt (oSl 1) (oV (aF vLen (ab (oSl 0) aNil))))) (ay 2 (af vIx (oSl 0) (oSl 1))) sNil) (aq (ay 3 (af vMul (oV (af vMul (oV (af vPow (oV (eC (.int 10))) (oV (eC (.int 60))))) (oV (af vPow (oV (eC (.int 10))) (oV (eC (.int 60))))))) (oV (af vPow (oV (eC (.int 10))) (oV (eC (.int 60))))))) (aq (ay 4 (af vMul (oV (af vMod (oSl 2) (oSl 3))) (oV (aF vInt (ab (oV (af vGe (oSl 2) (oV (af vPow (oV (eC (.int 10))) (oV (eC (.int 18))))))) aNil))))) (a0 (aU (ab (oSl 4) (ab (oV (af vAdd (oV (af vAdd (oV (af vMod (oSl 2) (oV (eC (.int 2305843009213693951))))) (oV (af vMul (oV (eC (.int 7919))) (oSl 1))))) (oV (eC (.int 3))))) (ab (oV (eC (.int 0))) aNil)))))))))
noncomputable def gg:Fn:=bA 2 5 [0,1] lx
noncomputable def ly:MS:=(aq (sIf (kB (af vGt (oV (af vIx (oSl 0) (oV (eC (.int 0))))) (oV (eC (.int 0))))) (aq (ay 2 (af vMod (oV (af vIx (oSl 0) (oV (eC (.int 0))))) (oSl 1))) (aq (cK (af vDiv (oV (af vIx (oSl 0) (oV (eC (.int 0))))) (oSl 1)) (gIx 0 (eC (.int 0)) putV)) (a0 (cH 2)))) sNil) (aq (cK (af vAdd (oV (af vIx (oSl 0) (oV (eC (.int 2))))) (oV (eC (.int 1)))) (gIx 0 (eC (.int 2)) putV)) (aq (ay 3 (af vIx (oSl 0) (oV (eC (.int 2))))) (aq (ay 4 (af vMod (oV (af vMul (oV (af vIx (oSl 0) (oV (eC (.int 1))))) (oV (af vAdd (oV (af vAdd (oV (eC (.int 48271))) (oV (af vMul (oV (af vMul (oV (eC (.int 2))) (oSl 3))) (oSl 3))))) (oV (af vMul (oV (eC (.int 65537))) (oSl 3))))))) (oV (eC (.int 2305843009213693921))))) (aq (ay 5 (af vAdd (oV (af vAdd (oV (af vMod (oSl 4) (oV (eC (.int 1000003))))) (oV (af vMul (oSl 3) (oV (eC (.int 99991))))))) (oV (eC (.int 11))))) (aq (ay 4 (af vMod (oV (af vMul (oSl 4) (oSl 5))) (oV (eC (.int 2305843009213693907))))) (a0 (af vMod (oV (af vAdd (oV (af vDiv (oSl 4) (oV (eC (.int 97))))) (oV (af vDiv (oSl 4) (oV (eC (.int 1000033))))))) (oSl 1)))))))))
noncomputable def ba:Fn:=bA 2 6 [0,1] ly
noncomputable def pI:MS:=(a0 (af vIx (oSl 1) (oV (av 2 G.ba (ab (oSl 0) (ab (oV (aF vLen (ab (oSl 1) aNil))) aNil))))))
noncomputable def cF:Fn:=bA 2 2 [0,1] pI
noncomputable def ic (s u:Int):Int:=s * (48271+2 * u * u+65537 * u) % 2305843009213693921
noncomputable def pJ (s u:Int):Int:=ic s u * (ic s u % 1000003+u * 99991+11) % 2305843009213693907 / 97+ic s u * (ic s u % 1000003+u * 99991+11) % 2305843009213693907 / 1000033
noncomputable abbrev hd (d s t:Int):Vl:=.lst [.int d,.int s,.int t]
theorem xw {d s t m:Int} (hd0:0≤d) (hs0:0≤s) (hs1:s<2 ^ 63) (ht0:0≤t) (ht1:t<2 ^ 60) (hm0:0<m) (hm1:m<1073741824):
  ∃ v d' t',ba [hd d s t,.im (.int m)]=some (.im (.int v),[hd d' s t',.im (.int m)])∧0≤v∧v<m∧0≤d'∧t≤t'∧t'≤t+1:=by
 by_cases h:0<d
 ·refine⟨d % m,d / m,t,?_,Int.emod_nonneg _ (by omega),Int.emod_lt_of_pos _ hm0,Int.ediv_nonneg hd0 (by omega),by omega,by omega⟩
  simp -implicitDefEqProofs [ba,ly,atI,ixN,h,hm0,hm1]
 ·have e1:bH 2 (t+1)=true:=f7 (by decide) (by decide)
  have e2:bH (2 * (t+1)) (t+1)=true:=kR (by omega) (by omega)
  have e3:bH 65537 (t+1)=true:=f7 (by decide) (by decide)
  have e4:∀ x,bH s x=true:=fun x=>f7 (by omega) (by omega)
  have e5:bH (t+1) 99991=true:=kR (by decide) (by decide)
  have e6:∀ x y,bH (x % 2305843009213693921) y=true:=fun x y=>f7 (by have:=Int.emod_nonneg x (show (2305843009213693921:Int)≠0 by decide);omega) (by have:=Int.emod_lt_of_pos x (show (0:Int)<2305843009213693921 by decide);omega)
  refine⟨pJ s (t+1) % m,d,t+1,?_,Int.emod_nonneg _ (by omega),Int.emod_lt_of_pos _ hm0,hd0,by omega,by omega⟩
  simp -implicitDefEqProofs [ba,ly,atI,ixN,h,hm0,hm1,e1,e2,e3,e4,e5,e6,pJ,ic]
noncomputable def aN (n:Nat) (h:Vl):Prop:=∃ d s t,h=hd d s t∧0≤d∧0≤s∧s<2 ^ 63∧0≤t∧t+n<2 ^ 60
theorem aN.mono {n m:Nat}{h:Vl} (x:aN n h) (e:m≤n):aN m h:=by
 obtain⟨d,s,t,rfl,h1,h2,h3,h4,h5⟩:=x
 exact⟨d,s,t,rfl,h1,h2,h3,h4,by omega⟩
theorem em {n:Nat}{h:Vl}{m:Int} (x:aN (n+1) h) (hm0:0<m) (hm1:m<1073741824):∃ v h',ba [h,.im (.int m)]=some (.im (.int v),[h',.im (.int m)])∧0≤v∧v<m∧aN n h':=by
 obtain⟨d,s,t,rfl,h1,h2,h3,h4,h5⟩:=x
 obtain⟨v,d',t',e,e1,e2,e3,e4,e5⟩:=xw (m:=m) h1 h2 h3 h4 (by omega) hm0 hm1
 exact⟨v,hd d' s t',e,e1,e2,d',s,t',rfl,e3,h2,h3,by omega,by omega⟩
theorem aY {n:Nat}{h:Vl} (x:aN n h):∃ ds,h=.lst ds:=by
 obtain⟨d,s,t,rfl,_⟩:=x
 exact⟨_,rfl⟩
theorem xx {ns:List Int}{k:Int} (hk:0≤k) (hk2:k<1000):∃ h,gg [.fz (ns.map .int),.im (.int k)]=some (h,[.fz (ns.map .int),.im (.int k)])∧aN 1000000 h:=by
 have key:∀ c:Int,aN 1000000 (hd (c % (10 ^ 60 * 10 ^ 60 * 10 ^ 60) * (if 10 ^ 18≤c then 1 else 0)) (c % 2305843009213693951+7919 * k+3) 0):=fun c=>by
  have h1:=Int.emod_nonneg c (show (10 ^ 60 * 10 ^ 60 * 10 ^ 60:Int)≠0 by decide)
  have h2:=Int.emod_nonneg c (show (2305843009213693951:Int)≠0 by decide)
  have h3:=Int.emod_lt_of_pos c (show (0:Int)<2305843009213693951 by decide)
  refine⟨_,_,_,rfl,?_,by omega,by omega,Int.le_refl 0,by decide⟩
  split
  ·rw[Int.mul_one];exact h1
  ·rw[Int.mul_zero];exact Int.le_refl 0
 have p1:bH (10 ^ 60) (10 ^ 60)=true:=by decide +kernel
 have p2:bH (10 ^ 60 * 10 ^ 60) (10 ^ 60)=true:=by decide +kernel
 have p3:∀ x c:Int,bH x (if 10 ^ 18≤c then 1 else 0)=true:=fun x c=>kR (by split<;>decide) (by split<;>decide)
 have p4:bH 7919 k=true:=f7 (by decide) (by decide)
 have q0:(10:Nat)<2 ^ 64:=by decide
 have q1:(0:Int)<10 ^ 60 * 10 ^ 60 * 10 ^ 60:=by decide
 by_cases hl:k<(ns.length:Int)
 ·obtain⟨c,hc⟩:∃ c,ns[k.toNat]?=some c:=⟨ns[k.toNat]'(by omega),by simp⟩
  have hat:atI (ns.map Im.int) k=some (.int c):=oN hk (by rw[List.getElem?_map,hc];rfl)
  refine⟨_,?_,key c⟩
  simp -implicitDefEqProofs [gg,lx,hl,hat,p1,p2,p3,p4,q0,q1,-Int.reducePow,-Nat.reducePow]
 ·refine⟨_,?_,key 0⟩
  simp -implicitDefEqProofs [gg,lx,hl,p1,p2,p3,p4,q0,q1,-Int.reducePow,-Nat.reducePow]
theorem gj {n:Nat}{h:Vl}{xs:List Im} (x:aN (n+1) h) (h0:xs≠[]) (h1:xs.length<1073741824):∃ d h',cF [h,.lst xs]=some (.im d,[h',.lst xs])∧d∈xs∧aN n h':=by
 have hl:0<xs.length:=List.length_pos_iff.mpr h0
 obtain⟨v,h',e,e1,e2,e3⟩:=em (m:=xs.length) x (by omega) (by omega)
 obtain⟨d,hd⟩:∃ d,xs[v.toNat]?=some d:=⟨xs[v.toNat]'(by omega),by simp⟩
 have hat:atI xs v=some d:=oN e1 hd
 obtain⟨q,rfl⟩:=aY x
 obtain⟨q',rfl⟩:=aY e3
 refine⟨d,.lst q',?_,List.mem_of_getElem? hd,e3⟩
 simp -implicitDefEqProofs [cF,pI,e,hat]
end G
namespace L2
open PySem PySem.Spec PyProof.Rows
noncomputable abbrev b9 (xs:Array Nat):Prop:=xs.toList.Pairwise (· < ·)
theorem ie {xs:Array Nat} (r:b9 xs) {i k:Nat}{d:Nat} (h:i<k) (hk:k<xs.size):xs.getD i d<xs.getD k d:=by
 have hi:i<xs.size:=Nat.lt_trans h hk
 have e:∀ m (hm:m<xs.size),xs.getD m d=xs.toList[m]'(by simpa using hm):=fun m hm=>by simp[Array.getD,hm]
 rw[e i hi,e k hk]
 exact List.pairwise_iff_getElem.mp r i k _ _ h
theorem lD (xs:Array Nat) (r:b9 xs) (j:Nat):∀ (fuel lo hi:Nat),hi - lo≤fuel→lo≤hi→hi≤xs.size→(∀ i,i<lo→xs.getD i j<j)→(∀ i,hi≤i→i<xs.size→j≤xs.getD i j)→
  (SetTable.below.go xs j fuel lo hi≤xs.size∧(∀ i,i<SetTable.below.go xs j fuel lo hi→xs.getD i j<j)∧∀ i,SetTable.below.go xs j fuel lo hi≤i→i<xs.size→j≤xs.getD i j)
 | 0,lo,hi,h1,h2,h3,a,b=>by
  have e:lo=hi:=by lia
  subst e
  exact⟨h3,a,b⟩
 | fuel+1,lo,hi,h1,h2,h3,a,b=>by
  unfold SetTable.below.go
  by_cases h:lo<hi
  ·rw[if_pos h]
   dsimp only
   by_cases hm:xs.getD ((lo+hi) / 2) j<j
   ·rw[if_pos hm]
    refine lD xs r j fuel _ _ (by lia) (by lia) h3 (fun i hi'=>?_) b
    rcases Nat.lt_or_ge i ((lo+hi) / 2) with h' | h'
    ·exact Nat.lt_trans (ie r h' (by lia)) hm
    ·have:i=(lo+hi) / 2:=by lia
     rw[this];exact hm
   ·rw[if_neg hm]
    refine lD xs r j fuel _ _ (by lia) (by lia) (by lia) a (fun i hi' hi2=>?_)
    rcases Nat.lt_or_ge ((lo+hi) / 2) i with h' | h'
    ·exact Nat.le_of_lt (Nat.lt_of_le_of_lt (Nat.not_lt.mp hm) (ie r h' hi2))
    ·have:i=(lo+hi) / 2:=by lia
     rw[this];exact Nat.not_lt.mp hm
  ·rw[if_neg h]
   have e:lo=hi:=by lia
   subst e
   exact⟨h3,a,b⟩
theorem jm {xs:Array Nat} (r:b9 xs) (j:Nat):SetTable.below xs j≤xs.size∧(∀ i,i<SetTable.below xs j→xs.getD i j<j)∧∀ i,SetTable.below xs j≤i→i<xs.size→j≤xs.getD i j:=
 lD xs r j xs.size 0 xs.size (by lia) (by lia) (by lia) (fun i h=>absurd h (Nat.not_lt_zero _)) fun i h h'=>absurd h' (by lia)
theorem lE {xs:Array Nat} (r:b9 xs) {i j:Nat} (h:xs[i]?=some j):SetTable.below xs j=i:=by
 obtain⟨a,b,c⟩:=jm r j
 obtain⟨hi,e⟩:=Array.getElem?_eq_some_iff.mp h
 have ei:xs.getD i j=j:=by simp[Array.getD,hi,e]
 rcases Nat.lt_trichotomy (SetTable.below xs j) i with h1 | h1 | h1
 ·have h2:=c _ (Nat.le_refl _) (Nat.lt_trans h1 hi)
  have h3:=ie r (d:=j) h1 hi
  lia
 ·exact h1
 ·have:=b i h1
  lia
theorem xy {xs:Array Nat} (r:b9 xs) {i j:Nat} (h:xs[i]?=some j):SetTable.below xs (j+1)=i+1:=by
 obtain⟨a,b,c⟩:=jm r (j+1)
 obtain⟨hi,e⟩:=Array.getElem?_eq_some_iff.mp h
 have ei:xs.getD i (j+1)=j:=by simp[Array.getD,hi,e]
 rcases Nat.lt_trichotomy (SetTable.below xs (j+1)) (i+1) with h1 | h1 | h1
 ·have:=c i (by lia) hi
  lia
 ·exact h1
 ·have h2:=b (i+1) h1
  have h3:=ie r (d:=j+1) (Nat.lt_succ_self i) (by lia)
  lia
theorem xz {xs:Array Nat} (r:b9 xs):SetTable.below xs 0=0:=by
 obtain⟨a,b,c⟩:=jm r 0
 rcases Nat.eq_zero_or_pos (SetTable.below xs 0) with h | h
 ·exact h
 ·exact absurd (b 0 h) (Nat.not_lt_zero _)
theorem xA {xs:Array Nat} (r:b9 xs) {j:Nat} (h:¬ (xs[SetTable.below xs j]?=some j)):b9 (SetTable.insertAt xs (SetTable.below xs j) j):=by
 obtain⟨a,b,c⟩:=jm r j
 unfold b9
 rw[SetTable.toList_insertAt]
 refine List.pairwise_append.mpr ⟨List.Pairwise.sublist (List.take_sublist _ _) r,List.pairwise_cons.mpr ⟨fun y hy=>?_,List.Pairwise.sublist (List.drop_sublist _ _) r⟩,fun x hx y hy=>?_⟩
 ·obtain⟨k,hk,rfl⟩:=List.mem_iff_getElem.mp hy
  rw[List.getElem_drop]
  have hs:SetTable.below xs j+k<xs.size:=by simp at hk;lia
  have h1:=c (SetTable.below xs j+k) (Nat.le_add_right _ _) hs
  have e:xs.getD (SetTable.below xs j+k) j=xs.toList[SetTable.below xs j+k]:=by simp[Array.getD,hs]
  rw[e] at h1
  refine Nat.lt_of_le_of_ne h1 fun he=>?_
  rcases Nat.eq_zero_or_pos k with h0 | h0
  ·subst h0
   apply h
   rw[Array.getElem?_eq_some_iff]
   exact⟨by lia,by simpa using he.symm⟩
  ·have h2:=ie r (d:=j) (Nat.lt_add_of_pos_right (n:=SetTable.below xs j) h0) hs
   have h3:=c (SetTable.below xs j) (Nat.le_refl _) (by lia)
   rw[e] at h2
   exact absurd he (Nat.ne_of_lt (Nat.lt_of_le_of_lt h3 h2))
 ·obtain⟨k,hk,rfl⟩:=List.mem_iff_getElem.mp hx
  rw[List.getElem_take]
  have hk':k<SetTable.below xs j:=by simp at hk;lia
  have hs:k<xs.size:=by lia
  have h1:=b k hk'
  have e:xs.getD k j=xs.toList[k]:=by simp[Array.getD,hs]
  rw[e] at h1
  rcases List.mem_cons.mp hy with rfl | hy
  ·exact h1
  ·obtain⟨m,hm,rfl⟩:=List.mem_iff_getElem.mp hy
   rw[List.getElem_drop]
   have hs2:SetTable.below xs j+m<xs.size:=by simp at hm;lia
   have h2:=c (SetTable.below xs j+m) (Nat.le_add_right _ _) hs2
   have e2:xs.getD (SetTable.below xs j+m) j=xs.toList[SetTable.below xs j+m]:=by simp[Array.getD,hs2]
   rw[e2] at h2
   exact Nat.lt_of_lt_of_le h1 h2
structure TabOk (t:SetTable) (led:Bool):Prop where
 rise:b9 t.place
 dum:t.dummies=#[]
 led:t.led=led
theorem TabOk.plainOff {t:SetTable}{led:Bool} (h:TabOk t led) (b:Bool):TabOk { t with plain:=b } led:=⟨h.rise,h.dum,h.led⟩
theorem pK (j:Nat):SetTable.has #[] j=false:=rfl
theorem xB {t:SetTable} (hd:t.dummies=#[]) (j:Nat):(∃ i,t.slot j=.live i)∨(t.slot j=.empty∧¬ (t.place[SetTable.below t.place j]?=some j)):=by
 unfold SetTable.slot
 dsimp only
 by_cases h:(t.place[SetTable.below t.place j]? == some j)=true
 ·rw[if_pos h]
  exact .inl ⟨_,rfl⟩
 ·rw[if_neg h,hd,pK]
  exact .inr ⟨rfl,fun e=>h (by rw[e];exact beq_self_eq_true _)⟩
theorem TabOk.put {t:SetTable}{led:Bool} (h:TabOk t led) {j:Nat} (hj:¬ (t.place[SetTable.below t.place j]?=some j)):TabOk (t.put j).1 led:=by
 refine⟨xA h.rise hj,?_,h.led⟩
 show (if SetTable.has t.dummies j=true then _ else t.dummies)=#[]
 rw[h.dum,pK]
 rfl
theorem xC {mask finger moves:Nat}{led plain:Bool}{hs:Array Int}{t:SetTable}{o:Array Nat} (e:SetTable.laid mask finger moves led plain hs=some (t,o)):TabOk t led:=by
 unfold SetTable.laid at e
 cases h:SetTable.layClean mask hs with
 | none=>rw[h] at e;cases e
 | some ow=>
  rw[h] at e
  cases e
  refine⟨?_,rfl,rfl⟩
  show (List.map (fun x:Nat×Nat=>x.1) (List.filterMap (fun j=>Option.map (fun x=>(j,x)) (ow.getD j none)) (List.range (mask+1)))).Pairwise (· < ·)
  rw[List.map_filterMap]
  refine List.Pairwise.filterMap _ (R:=(· < ·)) (fun a b hab x hx y hy=>?_) List.pairwise_lt_range
  cases ha:ow.getD a none with
  | none=>rw[ha] at hx;cases hx
  | some u=>
   cases hb:ow.getD b none with
   | none=>rw[hb] at hy;cases hy
   | some v=>
    rw[ha] at hx
    rw[hb] at hy
    cases hx
    cases hy
    exact hab
noncomputable def gn (m:Nat) (p:SetTable.Probe):SetTable.Probe:=
 if p.more > 0 then { p with j:=p.j+1,more:=p.more - 1 } else
 { p with j:=(SetTable.leap m p.i p.perturb).1,more:=SetTable.runEnd m (SetTable.leap m p.i p.perturb).1 - (SetTable.leap m p.i p.perturb).1,i:=(SetTable.leap m p.i p.perturb).1,perturb:=(SetTable.leap m p.i p.perturb).2 }
noncomputable def prb (m i pt:Nat):SetTable.Probe:={ j:=i,more:=SetTable.runEnd m i - i,i:=i,perturb:=pt,dummy:=none }
noncomputable def pth (m:Nat) (h:Int):Nat→SetTable.Probe
 | 0=>prb m (SetTable.bits h % (m+1)) (SetTable.bits h)
 | k+1=>gn m (pth m h k)
noncomputable def lpq (m:Nat) (h:Int):Nat→Nat×Nat
 | 0=>(SetTable.bits h % (m+1),SetTable.bits h)
 | q+1=>SetTable.leap m (lpq m h q).1 (lpq m h q).2
theorem lF (m:Nat) (h:Int):∀ k,(pth m h k).dummy=none
 | 0=>rfl
 | k+1=>by
  rw[pth,gn]
  split
  ·exact lF m h k
  ·exact lF m h k
theorem xD (m i:Nat):SetTable.runEnd m i - i≤9:=by
 unfold SetTable.runEnd
 split<;>lia
theorem gp {m:Nat}{h:Int}{k i pt:Nat} (e:pth m h k=prb m i pt):∀ r,r≤SetTable.runEnd m i - i→pth m h (k+r)={ prb m i pt with j:=i+r,more:=SetTable.runEnd m i - i - r }
 | 0,_=>e
 | r+1,hr=>by
  show gn m (pth m h (k+r))=_
  rw[gp e r (by lia),gn,if_pos (show SetTable.runEnd m i - i - r > 0 by lia)]
  rfl
theorem xE {m:Nat}{h:Int}{k i pt:Nat} (e:pth m h k=prb m i pt):pth m h (k+(SetTable.runEnd m i - i)+1)=prb m (SetTable.leap m i pt).1 (SetTable.leap m i pt).2:=by
 show gn m (pth m h (k+(SetTable.runEnd m i - i)))=_
 rw[gp e _ (Nat.le_refl _),gn,if_neg (show ¬ (SetTable.runEnd m i - i - (SetTable.runEnd m i - i) > 0) by lia)]
 rfl
noncomputable def kq (m:Nat) (h:Int):Nat→Nat
 | 0=>0
 | q+1=>kq m h q+(SetTable.runEnd m (lpq m h q).1 - (lpq m h q).1)+1
theorem gq (m:Nat) (h:Int):∀ q,pth m h (kq m h q)=prb m (lpq m h q).1 (lpq m h q).2
 | 0=>rfl
 | q+1=>xE (gq m h q)
theorem pL (m:Nat) (h:Int):∀ q,kq m h q≤10 * q
 | 0=>Nat.le_refl _
 | q+1=>by
  have:=pL m h q
  have:=xD m (lpq m h q).1
  show kq m h q+_+1≤_
  lia
theorem pM (m:Nat) (h:Int):∀ k,∃ q r,k=kq m h q+r∧r≤SetTable.runEnd m (lpq m h q).1 - (lpq m h q).1
 | 0=>⟨0,0,rfl,Nat.zero_le _⟩
 | k+1=>by
  obtain⟨q,r,e,hr⟩:=pM m h k
  by_cases z:r+1≤SetTable.runEnd m (lpq m h q).1 - (lpq m h q).1
  ·exact⟨q,r+1,by lia,z⟩
  ·exact⟨q+1,0,by show _=kq m h q+_+1+0;lia,Nat.zero_le _⟩
noncomputable def it5 (m:Nat):Nat→Nat→Nat
 | 0,x=>x
 | k+1,x=>(it5 m k x * 5+1) % (m+1)
theorem ig (m:Nat) (a x:Nat):∀ b,it5 m (a+b) x=it5 m b (it5 m a x)
 | 0=>rfl
 | b+1=>by
  show (it5 m (a+b) x * 5+1) % (m+1)=_
  rw[ig m a x b]
  rfl
noncomputable def obm (m:Nat):Nat→Nat→Nat→Nat
 | 0,_,acc=>acc
 | k+1,x,acc=>obm m k ((x * 5+1) % (m+1)) (acc ||| 2 ^ x)
theorem xF (m k x:Nat):it5 m k ((x * 5+1) % (m+1))=it5 m (k+1) x:=by
 rw[Nat.add_comm k 1,ig]
 rfl
theorem pN {m:Nat}:∀ {n x y acc:Nat},(obm m n x acc).testBit y=true→acc.testBit y=true∨∃ k,k<n∧it5 m k x=y
 | 0,_,_,_,h=>.inl h
 | n+1,x,y,acc,h=>by
  rcases pN (n:=n) h with h | ⟨k,h1,h2⟩
  ·rw[Nat.testBit_or,Bool.or_eq_true] at h
   rcases h with h | h
   ·exact .inl h
   ·rw[Nat.testBit_two_pow,decide_eq_true_iff] at h
    exact .inr ⟨0,Nat.succ_pos _,h⟩
  ·exact .inr ⟨k+1,Nat.succ_lt_succ h1,by rw[← xF];exact h2⟩
noncomputable def lG (m:Nat):Bool:=Nat.beq (obm m (m+1) 0 0) (2 ^ (m+1) - 1) && Nat.beq (it5 m (m+1) 0) 0
theorem xG {m:Nat} (c:lG m=true) {a x:Nat} (ha:a≤m) (hx:x≤m):∃ k,k≤m∧it5 m k a=x:=by
 rw[lG,Bool.and_eq_true] at c
 have z:=Nat.eq_of_beq_eq_true c.2
 have all:∀ y,y≤m→∃ k,k<m+1∧it5 m k 0=y:=fun y hy=>by
  have q:(obm m (m+1) 0 0).testBit y=true:=by
   rw[Nat.eq_of_beq_eq_true c.1,Nat.testBit_two_pow_sub_one]
   exact decide_eq_true (Nat.lt_succ_of_le hy)
  rcases pN q with h | h
  ·rw[Nat.zero_testBit] at h;cases h
  ·exact h
 obtain⟨ka,h1,rfl⟩:=all a ha
 obtain⟨kx,h2,rfl⟩:=all x hx
 rcases Nat.lt_or_ge kx ka with h | h
 ·refine⟨kx+(m+1 - ka),by lia,?_⟩
  rw[← ig,show ka+(kx+(m+1 - ka))=(m+1)+kx by lia,ig,z]
 ·refine⟨kx - ka,by lia,?_⟩
  rw[← ig,show ka+(kx - ka)=kx by lia]
noncomputable def GM (m:Nat):Prop:=m=7∨m=31∨m=127∨m=511
theorem GM.chk {m:Nat} (g:GM m):lG m=true:=by
 rcases g with rfl | rfl | rfl | rfl<;>decide +kernel
theorem xH (h:Int):SetTable.bits h<2 ^ 64:=by
 unfold SetTable.bits
 have h1:=Int.emod_nonneg h (show (2 ^ 64:Int)≠0 by decide)
 have h2:=Int.emod_lt_of_pos h (show (0:Int)<2 ^ 64 by decide)
 lia
theorem pO (m:Nat) (h:Int):∀ q,(lpq m h q).2=SetTable.bits h / 32 ^ q
 | 0=>by rw[Nat.pow_zero,Nat.div_one];rfl
 | q+1=>by
  show (lpq m h q).2 / 32=_
  rw[pO m h q,Nat.div_div_eq_div_mul]
  rfl
theorem lH (m:Nat) (h:Int):∀ q,(lpq m h q).1≤m
 | 0=>Nat.le_of_lt_succ (Nat.mod_lt _ (Nat.succ_pos _))
 | q+1=>Nat.le_of_lt_succ (Nat.mod_lt _ (Nat.succ_pos _))
theorem pP (m:Nat) (h:Int):∀ k,lpq m h (13+k)=(it5 m k (lpq m h 13).1,0)
 | 0=>by
  have e:(lpq m h 13).2=0:=by
   rw[pO]
   exact Nat.div_eq_of_lt (Nat.lt_trans (xH h) (by decide))
  show lpq m h 13=((lpq m h 13).1,0)
  rw[← e]
 | k+1=>by
  show SetTable.leap m (lpq m h (13+k)).1 (lpq m h (13+k)).2=_
  rw[pP m h k]
  show ((it5 m k (lpq m h 13).1 * 5+1+0 / 32) % (m+1),0 / 32)=_
  rw[Nat.zero_div,Nat.add_zero]
  rfl
theorem pQ {m:Nat} (g:GM m) (h:Int) {x:Nat} (hx:x≤m):∃ q,q+1<SetTable.turns m∧(lpq m h q).1=x:=by
 obtain⟨k,h1,h2⟩:=xG g.chk (lH m h 13) hx
 exact⟨13+k,by unfold SetTable.turns;lia,by rw[pP];exact h2⟩
theorem xI {m:Nat} (g:GM m) (h:Int) {x:Nat} (hx:x≤m):∃ k,k<10 * SetTable.turns m∧(pth m h k).j=x:=by
 obtain⟨q,h1,h2⟩:=pQ g h hx
 refine⟨kq m h q,by have:=pL m h q;lia,?_⟩
 rw[gq]
 exact h2
theorem pR {m i:Nat} (h:i≤m):SetTable.runEnd m i≤m:=by unfold SetTable.runEnd;split<;>lia
theorem pS (m:Nat) (h:Int) (k:Nat):(pth m h k).j≤m:=by
 obtain⟨q,r,rfl,hr⟩:=pM m h k
 rw[gp (gq m h q) r hr]
 have:=pR (lH m h q)
 have e:SetTable.runEnd m (lpq m h q).1 ≥ (lpq m h q).1:=by unfold SetTable.runEnd;split<;>lia
 show (lpq m h q).1+r≤m
 lia
theorem ii {α:Type} [DecidableEq α]:∀ {l m:List α},l.Nodup→(∀ x∈l,x∈m)→l.length≤m.length
 | [],m,_,_=>Nat.zero_le _
 | a::l,m,nd,h=>by
  have nd':=List.nodup_cons.mp nd
  have q:=ii (l:=l) (m:=m.erase a) nd'.2 fun x hx=>(List.mem_erase_of_ne (fun e:x=a=>nd'.1 (e ▸ hx))).mpr (h x (.tail _ hx))
  have ha:=h a (.head _)
  rw[List.length_erase_of_mem ha] at q
  have:=List.length_pos_of_mem ha
  rw[List.length_cons]
  lia
noncomputable def Rch (m:Nat) (occ:Nat→Prop) (h:Int) (j:Nat):Prop:=∃ k,(pth m h k).j=j∧∀ k',k'<k→occ (pth m h k').j
theorem Rch.mono {m:Nat}{occ occ':Nat→Prop}{h:Int}{j:Nat} (r:Rch m occ h j) (i:∀ x,occ x→occ' x):Rch m occ' h j:=let ⟨k,e,a⟩:=r;⟨k,e,fun k' z=>i _ (a k' z)⟩
structure HTab (t:SetTable) (hs:List Int):Prop where
 gm:GM t.mask
 len:t.place.size=hs.length
 loose:t.place.size * 5<t.mask * 3
 le:∀ j∈t.place.toList,j≤t.mask
 rch:∀ p∈t.place.toList.zip hs,Rch t.mask (·∈t.place.toList) p.2 p.1
theorem GM.pos {m:Nat} (g:GM m):7≤m∧m≤511∧m % 2=1:=by rcases g with rfl | rfl | rfl | rfl<;>decide
theorem xJ {t:SetTable} (r:b9 t.place) {j:Nat} (h:j∈t.place.toList):∃ i,t.slot j=.live i∧t.place[i]?=some j:=by
 obtain⟨i,hi,e⟩:=List.mem_iff_getElem.mp h
 have e':t.place[i]?=some j:=by
  rw[← Array.getElem?_toList,List.getElem?_eq_getElem hi,e]
 refine⟨i,?_,e'⟩
 unfold SetTable.slot
 dsimp only
 rw[lE r e',e',if_pos (beq_self_eq_true _)]
theorem xK {t:SetTable} (hd:t.dummies=#[]) {j:Nat} (h:j∉t.place.toList):t.slot j=.empty:=by
 rcases xB hd j with ⟨i,e⟩ | ⟨e,_⟩
 ·unfold SetTable.slot at e
  dsimp only at e
  split at e
  ·next q=>
   have q':=eq_of_beq q
   refine absurd ?_ h
   rw[← Array.getElem?_toList] at q'
   exact List.mem_of_getElem? q'
  ·split at e<;>cases e
 ·exact e
theorem HTab.some {t:SetTable}{hs:List Int} (H:HTab t hs) (h:Int):∃ k,k<10 * SetTable.turns t.mask∧(pth t.mask h k).j∉t.place.toList:=by
 have:∃ x,x≤t.mask∧x∉t.place.toList:=by
  refine Classical.byContradiction fun c=>?_
  have q:=ii (l:=List.range (t.mask+1)) (m:=t.place.toList) List.nodup_range fun x hx=>Classical.byContradiction fun z=>c ⟨x,Nat.le_of_lt_succ (List.mem_range.mp hx),z⟩
  rw[List.length_range,Array.length_toList] at q
  have:=H.loose
  lia
 obtain⟨x,h1,h2⟩:=this
 obtain⟨k,k1,k2⟩:=xI H.gm h h1
 exact⟨k,k1,by rw[k2];exact h2⟩
theorem pT {t : SetTable} (r : b9 t.place) (hd : t.dummies = #[]) (hA : Nat → Int) (h : Int) : ∀ (fuel k0 : Nat), (∃ k, k0 ≤ k ∧ k < k0 + fuel ∧ (pth t.mask h k).j ∉ t.place.toList) →
    ∃ k1, k0 ≤ k1 ∧ (∀ k, k0 ≤ k → k < k1 → ∃ i, t.place[i]? = some (pth t.mask h k).j ∧ hA i ≠ h) ∧
      ((SetTable.probe.go t hA h fuel (pth t.mask h k0) = some (.empty (pth t.mask h k1).j none) ∧ (pth t.mask h k1).j ∉ t.place.toList) ∨
        ∃ i, SetTable.probe.go t hA h fuel (pth t.mask h k0) = some (.candidate (pth t.mask h k1).j i (pth t.mask h (k1 + 1))) ∧ t.slot (pth t.mask h k1).j = .live i ∧ t.place[i]? = some (pth t.mask h k1).j ∧ hA i = h)
  | 0, k0, ⟨k, a, b, _⟩ => absurd a (by lia)
  | fuel + 1, k0, ⟨k, a, b, c⟩ => by
    by_cases z : (pth t.mask h k0).j ∈ t.place.toList
    · obtain ⟨i, e1, e2⟩ := xJ r z
      by_cases q : hA i = h
      · refine ⟨k0, Nat.le_refl _, fun k h1 h2 => absurd h1 (by lia), .inr ⟨i, ?_, e1, e2, q⟩⟩
        unfold SetTable.probe.go
        rw [e1]
        dsimp only
        rw [if_pos (by rw [q]; exact beq_self_eq_true _)]
        rfl
      · have ne : k ≠ k0 := fun e => c (e ▸ z)
        obtain ⟨k1, h1, h2, h3⟩ := pT r hd hA h fuel (k0 + 1) ⟨k, by lia, by lia, c⟩
        have e : SetTable.probe.go t hA h (fuel + 1) (pth t.mask h k0) = SetTable.probe.go t hA h fuel (pth t.mask h (k0 + 1)) := by
          rw [SetTable.probe.go, e1]
          dsimp only
          rw [if_neg (by rw [beq_iff_eq]; exact q)]
          rfl
        refine ⟨k1, by lia, fun k g1 g2 => ?_, by rw [e]; exact h3⟩
        rcases Nat.lt_or_ge k0 k with g | g
        · exact h2 k g g2
        · rw [show k = k0 by lia]; exact ⟨i, e2, q⟩
    · refine ⟨k0, Nat.le_refl _, fun k h1 h2 => absurd h1 (by lia), .inl ⟨?_, z⟩⟩
      unfold SetTable.probe.go
      rw [xK hd z]
      dsimp only
      rw [lF]
theorem lI {α:Type} (xs:Array α) (p:Nat) (x:α):(SetTable.insertAt xs p x).toList=xs.toList.take p++x::xs.toList.drop p:=SetTable.toList_insertAt xs p x
theorem ij {α:Type}{l:List α}{p:Nat}{x y:α}:y∈l.take p++x::l.drop p↔y=x∨y∈l:=by
 constructor
 ·intro h
  rcases List.mem_append.mp h with h | h
  ·exact .inr (List.mem_of_mem_take h)
  ·rcases List.mem_cons.mp h with h | h
   ·exact .inl h
   ·exact .inr (List.mem_of_mem_drop h)
 ·rintro (rfl | h)
  ·exact List.mem_append_right _ (.head _)
  ·rw[← List.take_append_drop p l] at h
   rcases List.mem_append.mp h with h | h
   ·exact List.mem_append_left _ h
   ·exact List.mem_append_right _ (.tail _ h)
theorem xL {α β:Type}{a:List α}{b:List β} (hl:a.length=b.length) (p:Nat) (x:α) (y:β):(a.take p++x::a.drop p).zip (b.take p++y::b.drop p)=(a.zip b).take p++(x,y)::(a.zip b).drop p:=by
 rw[List.zip_append (by rw[List.length_take,List.length_take,hl]),List.zip_cons_cons]
 have e1:∀ (p:Nat) (a:List α) (b:List β),(a.take p).zip (b.take p)=(a.zip b).take p:=fun p=>by
  induction p with
  | zero=>intro a b;rfl
  | succ p ih=>intro a b;cases a with
   | nil=>rfl
   | cons x a=>cases b with
    | nil=>rfl
    | cons y b=>exact congrArg ((x,y)::·) (ih a b)
 have e2:∀ (p:Nat) (a:List α) (b:List β),(a.drop p).zip (b.drop p)=(a.zip b).drop p:=fun p=>by
  induction p with
  | zero=>intro a b;rfl
  | succ p ih=>intro a b;cases a with
   | nil=>rfl
   | cons x a=>cases b with
    | nil=>show (a.drop p).zip []=_;rw[List.zip_nil_right];rfl
    | cons y b=>exact ih a b
 rw[e1,e2]
theorem HTab.put {t:SetTable}{hs:List Int} (H:HTab t hs) {h:Int}{k:Nat} (hk:(pth t.mask h k).j∉t.place.toList) (ha:∀ k',k'<k→(pth t.mask h k').j∈t.place.toList):
  (∀ j∈(t.put (pth t.mask h k).j).1.place.toList,j≤t.mask)∧∀ p∈(t.put (pth t.mask h k).j).1.place.toList.zip (hs.take (t.put (pth t.mask h k).j).2++h::hs.drop (t.put (pth t.mask h k).j).2),Rch t.mask (·∈(t.put (pth t.mask h k).j).1.place.toList) p.2 p.1:=by
 have e:(t.put (pth t.mask h k).j).1.place.toList=t.place.toList.take (t.put (pth t.mask h k).j).2++(pth t.mask h k).j::t.place.toList.drop (t.put (pth t.mask h k).j).2:=lI _ _ _
 rw[e]
 refine⟨fun j hj=>?_,fun p hp=>?_⟩
 ·rcases ij.mp hj with rfl | hj
  ·exact pS _ _ _
  ·exact H.le j hj
 ·rw[xL (by rw[Array.length_toList];exact H.len)] at hp
  rcases ij.mp hp with rfl | hp
  ·exact⟨k,rfl,fun k' z=>ij.mpr (.inr (ha k' z))⟩
  ·exact (H.rch p hp).mono fun x hx=>ij.mpr (.inr hx)
noncomputable def dE (ow:Array (Option Nat)) (j:Nat):Prop:=(ow.getD j (some 0)).isSome=true
theorem pU {m:Nat} (ow:Array (Option Nat)) (h:Int):∀ (fuel q:Nat),(∀ k',k'<kq m h q→dE ow (pth m h k').j)→(∃ q',q≤q'∧q'<q+fuel∧¬ dE ow (lpq m h q').1)→
  ∃ j,SetTable.layClean.free m ow fuel (lpq m h q).1 (lpq m h q).2=some j∧j≤m∧¬ dE ow j∧Rch m (dE ow) h j
 | 0,q,_,⟨q',a,b,_⟩=>absurd a (by lia)
 | fuel+1,q,hk,⟨q',a,b,c⟩=>by
  unfold SetTable.layClean.free
  have le:SetTable.runEnd m (lpq m h q).1≤m:=pR (lH m h q)
  have ge:(lpq m h q).1≤SetTable.runEnd m (lpq m h q).1:=by unfold SetTable.runEnd;split<;>lia
  cases hf:(List.range (SetTable.runEnd m (lpq m h q).1+1 - (lpq m h q).1)).find? (fun k=>(ow.getD ((lpq m h q).1+k) (some 0)).isNone) with
  | some k=>
   dsimp only
   rw[List.find?_range_eq_some] at hf
   obtain⟨h1,h2,h3⟩:=hf
   have h2':k<SetTable.runEnd m (lpq m h q).1+1 - (lpq m h q).1:=List.mem_range.mp h2
   refine⟨_,rfl,by lia,?_,kq m h q+k,?_,fun k' hk'=>?_⟩
   ·unfold dE
    intro z
    rw[Option.isNone_iff_eq_none] at h1
    rw[h1] at z
    cases z
   ·rw[gp (gq m h q) k (by lia)]
   ·rcases Nat.lt_or_ge k' (kq m h q) with z | z
    ·exact hk k' z
    ·have e:k'=kq m h q+(k' - kq m h q):=by lia
     rw[e,gp (gq m h q) (k' - kq m h q) (by lia)]
     have:=h3 (k' - kq m h q) (by lia)
     show (ow.getD ((lpq m h q).1+(k' - kq m h q)) (some 0)).isSome=true
     cases w:ow.getD ((lpq m h q).1+(k' - kq m h q)) (some 0) with
     | none=>rw[w] at this;cases this
     | some _=>rfl
  | none=>
   dsimp only
   rw[List.find?_range_eq_none] at hf
   have occ:∀ k,k<SetTable.runEnd m (lpq m h q).1+1 - (lpq m h q).1→dE ow ((lpq m h q).1+k):=fun k hk=>by
    have:=hf k hk
    unfold dE
    cases w:ow.getD ((lpq m h q).1+k) (some 0) with
    | none=>rw[w] at this;cases this
    | some _=>rfl
   have ne:q'≠q:=fun e=>c (by rw[e];exact occ 0 (by lia))
   refine pU ow h fuel (q+1) (fun k' hk'=>?_) ⟨q',by lia,by lia,c⟩
   rcases Nat.lt_or_ge k' (kq m h q) with z | z
   ·exact hk k' z
   ·have hk2:k'<kq m h q+(SetTable.runEnd m (lpq m h q).1 - (lpq m h q).1)+1:=hk'
    have e:k'=kq m h q+(k' - kq m h q):=by lia
    rw[e,gp (gq m h q) (k' - kq m h q) (by lia)]
    exact occ _ (by lia)
structure OwnI (m:Nat) (ow:Array (Option Nat)) (ps:List Nat) (hs:List Int):Prop where
 size:ow.size=m+1
 len:ps.length=hs.length
 nd:ps.Nodup
 le:∀ j∈ps,j≤m
 own:∀ (j k:Nat),ow[j]?=some (some k)↔ps[k]?=some j
 rch:∀ p∈ps.zip hs,Rch m (·∈ps) p.2 p.1
theorem OwnI.occ {m:Nat}{ow:Array (Option Nat)}{ps:List Nat}{hs:List Int} (I:OwnI m ow ps hs) {j:Nat} (hj:j≤m):dE ow j↔j∈ps:=by
 have hl:j<ow.size:=by rw[I.size];lia
 unfold dE
 rw[show ow.getD j (some 0)=ow[j] by simp[Array.getD,hl]]
 have e:ow[j]?=some ow[j]:=Array.getElem?_eq_getElem hl
 constructor
 ·intro z
  obtain⟨k,hk⟩:=Option.isSome_iff_exists.mp z
  rw[hk] at e
  exact List.mem_of_getElem? ((I.own j k).mp e)
 ·intro z
  obtain⟨k,hk⟩:=List.getElem?_of_mem z
  have:=(I.own j k).mpr hk
  rw[e] at this
  rw[Option.some.inj this]
  rfl
theorem OwnI.step {m:Nat} (g:GM m) {ow:Array (Option Nat)}{ps:List Nat}{hs:List Int} (I:OwnI m ow ps hs) (hl:hs.length≤m) (h:Int):
  ∃ j,SetTable.layClean.free m ow (SetTable.turns m) (SetTable.bits h % (m+1)) (SetTable.bits h)=some j∧OwnI m (ow.setIfInBounds j (some hs.length)) (ps++[j]) (hs++[h]):=by
 have room:∃ x,x≤m∧x∉ps:=by
  refine Classical.byContradiction fun c=>?_
  have q:=ii (l:=List.range (m+1)) (m:=ps) List.nodup_range fun x hx=>Classical.byContradiction fun z=>c ⟨x,Nat.le_of_lt_succ (List.mem_range.mp hx),z⟩
  rw[List.length_range,I.len] at q
  lia
 obtain⟨x,hx1,hx2⟩:=room
 obtain⟨q,hq1,hq2⟩:=pQ g h hx1
 obtain⟨j,f1,f2,f3,f4⟩:=pU (m:=m) ow h (SetTable.turns m) 0 (fun k' hk'=>absurd hk' (Nat.not_lt_zero _)) ⟨q,Nat.zero_le _,by lia,by rw[hq2];exact fun z=>hx2 ((I.occ hx1).mp z)⟩
 have hj:j∉ps:=fun z=>f3 ((I.occ f2).mpr z)
 have hs':j<ow.size:=by rw[I.size];lia
 refine⟨j,f1,by rw[Array.size_setIfInBounds,I.size],by rw[List.length_append,List.length_append,I.len];rfl,?_,?_,fun j' k=>?_,?_⟩
 ·exact List.nodup_append.mpr ⟨I.nd,List.pairwise_singleton _ _,fun a ha b hb e=>hj (by rw[← List.mem_singleton.mp hb,← e];exact ha)⟩
 ·intro a ha
  rcases List.mem_append.mp ha with ha | ha
  ·exact I.le a ha
  ·rw[List.mem_singleton.mp ha];exact f2
 ·rw[Array.getElem?_setIfInBounds]
  by_cases e:j=j'
  ·subst e
   rw[if_pos rfl,if_pos hs']
   constructor
   ·intro z
    cases z
    rw[← I.len,List.getElem?_append_right (Nat.le_refl _),Nat.sub_self]
    rfl
   ·intro z
    rcases Nat.lt_or_ge k ps.length with w | w
    ·rw[List.getElem?_append_left w] at z
     exact absurd (List.mem_of_getElem? z) hj
    ·rw[List.getElem?_append_right w] at z
     have:k - ps.length=0:=by
      have:=(List.getElem?_eq_some_iff.mp z).1
      rw[List.length_singleton] at this
      lia
     rw[show k=hs.length by rw[← I.len];lia]
  ·rw[if_neg e,I.own j' k]
   rcases Nat.lt_or_ge k ps.length with w | w
   ·rw[List.getElem?_append_left w]
   ·rw[List.getElem?_append_right w,List.getElem?_eq_none w]
    constructor
    ·intro z;cases z
    ·intro z
     have:=List.mem_of_getElem? z
     exact absurd (List.mem_singleton.mp this) (fun z=>e z.symm)
 ·intro p hp
  rw[List.zip_append I.len] at hp
  rcases List.mem_append.mp hp with hp | hp
  ·exact (I.rch p hp).mono fun x hx=>List.mem_append_left _ hx
  ·rw[List.zip_cons_cons,List.zip_nil_left] at hp
   rw[List.mem_singleton.mp hp]
   obtain⟨k,e,a⟩:=f4
   exact⟨k,e,fun k' hk'=>List.mem_append_left _ ((I.occ (pS _ _ _)).mp (a k' hk'))⟩
theorem pV {m:Nat} (g:GM m):∀ (rest hs:List Int) (ow:Array (Option Nat)) (ps:List Nat),OwnI m ow ps hs→(hs++rest).length≤m→
  ∃ ow' ps',rest.foldl (fun (acc:Option (Array (Option Nat)×Nat)) h=>do
   let (owner,k) ← acc
   let j ← SetTable.layClean.free m owner (SetTable.turns m) (SetTable.bits h % (m+1)) (SetTable.bits h)
   pure (owner.setIfInBounds j (some k),k+1)) (some (ow,hs.length))=some (ow',(hs++rest).length)∧OwnI m ow' ps' (hs++rest)
 | [],hs,ow,ps,I,_=>⟨ow,ps,by rw[List.append_nil];rfl,by rw[List.append_nil];exact I⟩
 | h::rest,hs,ow,ps,I,hl=>by
  obtain⟨j,e,I'⟩:=I.step g (by rw[List.length_append] at hl;lia) h
  obtain⟨ow',ps',e2,I2⟩:=pV g rest (hs++[h]) _ _ I' (by rw[List.append_assoc];exact hl)
  rw[List.append_assoc] at e2 I2
  refine⟨ow',ps',?_,I2⟩
  rw[List.foldl_cons]
  rw[show (hs++[h]).length=hs.length+1 from List.length_append] at e2
  refine Eq.trans (congrArg (fun z=>List.foldl _ z rest) ?_) e2
  show (SetTable.layClean.free m ow (SetTable.turns m) (SetTable.bits h % (m+1)) (SetTable.bits h)).bind _=_
  rw[e]
  rfl
theorem xM {m:Nat} (g:GM m) (hs:Array Int) (hl:hs.size≤m):∃ ow ps,SetTable.layClean m hs=some ow∧OwnI m ow ps hs.toList:=by
 have I0:OwnI m (Array.replicate (m+1) none) [] []:=by
  refine⟨Array.size_replicate,rfl,List.nodup_nil,fun _ h=>(List.not_mem_nil h).elim,fun j k=>⟨fun z=>?_,fun z=>?_⟩,fun _ h=>(List.not_mem_nil h).elim⟩
  ·have:=(Array.getElem?_eq_some_iff.mp z).2
   rw[Array.getElem_replicate] at this
   cases this
  ·simp at z
 obtain⟨ow,ps,e,I⟩:=pV g hs.toList [] _ _ I0 (by rw[List.nil_append,Array.length_toList];exact hl)
 refine⟨ow,ps,?_,I⟩
 unfold SetTable.layClean
 rw[← Array.foldl_toList]
 exact congrArg (Option.map (·.1)) e
theorem xN {m:Nat}{ow:Array (Option Nat)}{p:Nat×Nat}:p∈(List.range (m+1)).filterMap (fun j=>(ow.getD j none).map (j,·))↔p.1≤m∧ow[p.1]?=some (some p.2):=by
 rw[List.mem_filterMap]
 constructor
 ·rintro⟨j,h1,h2⟩
  obtain⟨k,e1,rfl⟩:=Option.map_eq_some_iff.mp h2
  refine⟨Nat.le_of_lt_succ (List.mem_range.mp h1),?_⟩
  show ow[j]?=some (some k)
  by_cases z:j<ow.size
  ·rw[show ow.getD j none=ow[j] by simp[Array.getD,z]] at e1
   rw[Array.getElem?_eq_getElem z,e1]
  ·rw[show ow.getD j none=none by simp[Array.getD,z]] at e1
   cases e1
 ·rintro⟨h1,h2⟩
  refine⟨p.1,List.mem_range.mpr (Nat.lt_succ_of_le h1),?_⟩
  obtain⟨z,e⟩:=Array.getElem?_eq_some_iff.mp h2
  rw[show ow.getD p.1 none=ow[p.1] by simp[Array.getD,z],e]
  rfl
theorem pW {α β:Type}:∀ {l:List (α×β)},(l.map (·.1)).Nodup→(∀ a∈l,∀ b∈l,a.2=b.2→a.1=b.1)→(l.map (·.2)).Nodup
 | [],_,_=>List.nodup_nil
 | x::l,h,i=>by
  rw[List.map_cons] at h ⊢
  have h':=List.nodup_cons.mp h
  refine List.nodup_cons.mpr ⟨fun z=>?_,pW h'.2 fun a ha b hb=>i a (.tail _ ha) b (.tail _ hb)⟩
  obtain⟨y,hy,e⟩:=List.mem_map.mp z
  have:=i y (.tail _ hy) x (.head _) e
  exact h'.1 (by rw[← this];exact List.mem_map_of_mem hy)
theorem pX {α β γ:Type} (f:α→β) (g:α→γ):∀ l:List α,(l.map f).zip (l.map g)=l.map fun x=>(f x,g x)
 | []=>rfl
 | x::l=>congrArg (_::·) (pX f g l)
theorem xO {t:SetTable}{es:Array (Int×Value)}{wanted:Nat} (g:GM (SetTable.sizeAbove wanted - 1)) (hl:es.size * 5<(SetTable.sizeAbove wanted - 1) * 3) {led:Bool} (k:t.led=led):
  ∃ t' order,t.relaid (es.map (·.1)) wanted=some (t',order)∧order.toList.Perm (List.range es.size)∧TabOk t' led∧HTab t' ((order.filterMap (es[·]?)).toList.map (·.1)):=by
 obtain⟨ow,ps,e,I⟩:=xM g (es.map (·.1)) (by rw[Array.size_map];lia)
 generalize hm:SetTable.sizeAbove wanted - 1=m at *
 have hL:t.relaid (es.map (·.1)) wanted=some ({ mask:=m,place:=(((List.range (m+1)).filterMap fun j=>(ow.getD j none).map (j,·)).map (·.1)).toArray,dummies:=#[],finger:=t.finger,led:=t.led,moves:=t.movedTo m,plain:=t.plain },(((List.range (m+1)).filterMap fun j=>(ow.getD j none).map (j,·)).map (·.2)).toArray):=by
  unfold SetTable.relaid SetTable.laid
  rw[hm,e]
  rfl
 have hmem:=fun (p:Nat×Nat)=>xN (m:=m) (ow:=ow) (p:=p)
 have rise:(((List.range (m+1)).filterMap fun j=>(ow.getD j none).map (j,·)).map (·.1)).Pairwise (· < ·):=by
  have:=(xC (t:=_) (o:=_) hL)
  exact this.rise
 generalize hLL:(List.range (m+1)).filterMap (fun j=>(ow.getD j none).map (j,·))=L at hL hmem rise
 have pos:∀ p∈L,ps[p.2]?=some p.1:=fun p hp=>(I.own _ _).mp ((hmem p).mp hp).2
 have lt:∀ p∈L,p.2<es.size:=fun p hp=>by
  have:=(List.getElem?_eq_some_iff.mp (pos p hp)).1
  rw[I.len,Array.length_toList,Array.size_map] at this
  exact this
 have nd1:(L.map (·.1)).Nodup:=rise.imp fun h=>Nat.ne_of_lt h
 have nd2:(L.map (·.2)).Nodup:=pW nd1 fun a ha b hb e=>by
  have h1:=pos a ha
  have h2:=pos b hb
  rw[e] at h1
  exact Option.some.inj (h1.symm.trans h2)
 have perm:(L.map (·.2)).Perm (List.range es.size):=by
  refine (List.perm_ext_iff_of_nodup nd2 List.nodup_range).mpr fun x=>?_
  rw[List.mem_range]
  constructor
  ·intro h
   obtain⟨p,hp,rfl⟩:=List.mem_map.mp h
   exact lt p hp
  ·intro h
   have hx:x<ps.length:=by rw[I.len,Array.length_toList,Array.size_map];exact h
   have h1:ps[x]?=some ps[x]:=List.getElem?_eq_getElem hx
   exact List.mem_map.mpr ⟨(ps[x],x),(hmem _).mpr ⟨I.le _ (List.getElem_mem hx),(I.own _ _).mpr h1⟩,rfl⟩
 have hlen:L.length=es.size:=by
  have:=perm.length_eq
  rwa [List.length_map,List.length_range] at this
 have hes:((L.map (·.2)).filterMap (es[·]?)).map (·.1)=L.map fun p=>(es.getD p.2 (0,.none)).1:=by
  clear hmem rise pos nd1 nd2 perm hlen hL hLL
  induction L with
  | nil=>rfl
  | cons p L ih=>
   have hp:=lt p (.head _)
   rw[List.map_cons,List.filterMap_cons_some (Array.getElem?_eq_getElem hp),List.map_cons,List.map_cons,ih fun q hq=>lt q (.tail _ hq)]
   congr 1
   simp[Array.getD,hp]
 refine⟨_,_,hL,?_,⟨?_,rfl,k⟩,⟨g,?_,?_,?_,?_⟩⟩
 ·exact perm
 ·exact rise
 ·rw[Array.toList_filterMap]
  show (L.map (·.1)).toArray.size=(((L.map (·.2)).filterMap (es[·]?)).map (·.1)).length
  rw[hes,List.size_toArray,List.length_map,List.length_map]
 ·show (L.map (·.1)).toArray.size * 5<m * 3
  rw[List.size_toArray,List.length_map,hlen]
  exact hl
 ·intro j hj
  obtain⟨p,hp,rfl⟩:=List.mem_map.mp hj
  exact ((hmem p).mp hp).1
 ·rw[Array.toList_filterMap]
  show ∀ p∈(L.map (·.1)).zip (((L.map (·.2)).filterMap (es[·]?)).map (·.1)),Rch m (·∈L.map (·.1)) p.2 p.1
  rw[hes,pX]
  intro p hp
  obtain⟨q,hq,rfl⟩:=List.mem_map.mp hp
  have h1:=pos q hq
  have h2:((es.map (·.1)).toList)[q.2]?=some (es.getD q.2 (0,.none)).1:=by
   have:=lt q hq
   rw[Array.getElem?_toList,Array.getElem?_map,Array.getElem?_eq_getElem this]
   simp[Array.getD,this]
  have hz:(q.1,(es.getD q.2 (0,.none)).1)∈ps.zip (es.map (·.1)).toList:=by
   refine List.mem_of_getElem? (i:=q.2) ?_
   rw[List.getElem?_zip_eq_some]
   exact⟨h1,h2⟩
  refine (I.rch _ hz).mono fun x hx=>?_
  obtain⟨k,hk⟩:=List.getElem?_of_mem hx
  exact List.mem_map.mpr ⟨(x,k),(hmem _).mpr ⟨I.le x hx,(I.own _ _).mpr hk⟩,rfl⟩
theorem xP {m n:Nat} (g:GM m) (h1:n * 5<m * 3) (h2:(n+1) * 5 ≥ m * 3) (h3:n+1≤300):GM (SetTable.sizeAbove (SetTable.grown (n+1)) - 1)∧(n+1) * 5<(SetTable.sizeAbove (SetTable.grown (n+1)) - 1) * 3∧SetTable.sizeAbove (SetTable.grown (n+1))≤512:=by
 rcases g with rfl | rfl | rfl | rfl
 ·rw[show n=4 by lia];exact⟨.inr (.inl (by decide)),by decide,by decide⟩
 ·rw[show n=18 by lia];exact⟨.inr (.inr (.inl (by decide))),by decide,by decide⟩
 ·rw[show n=76 by lia];exact⟨.inr (.inr (.inr (by decide))),by decide,by decide⟩
 ·lia
section
variable {prog:Program}{w:World}{A:Around}{E:Value→Shared→Prop}{s:Shared}
end
section
variable {prog:Program}{w:World}
theorem pY:∀ (n:Nat) {A:Around}{E:Value→Shared→Prop}{s:Shared}{d:Im}{v:Value}{Q:Bool→Shared→Prop},Im.key n d=true→ImV s.heap d v→(∀ b,Q b s)→wpAny (model prog w) A (hashByValue n v) Q E s
 | n,A,E,s,.int i,v,Q,_,hv,h=>by
  obtain⟨t,rfl⟩:=hv
  rw[show hashByValue n (.int i t)=pure true from by cases n<;>rfl]
  exact wpAny_pure (h _)
 | n,A,E,s,.str i,v,Q,_,hv,h=>by
  obtain⟨t,rfl⟩:=hv
  rw[show hashByValue n (.str i t)=pure false from by cases n<;>rfl]
  exact wpAny_pure (h _)
 | n+1,A,E,s,.tup ds,v,Q,k,hv,h=>by
  obtain⟨a,o,items,m,rfl,ho,hc,hd,hi⟩:=hv
  have hT:s.TypeIs (.ref a) "tuple" := ⟨o,ho,hc⟩
  unfold hashByValue
  refine wpAny_bind (wpAny_specialOf hT F.slot_tuple_hash.lookup ?_)
  show wpAny _ _ (seqItems? (.ref a) >>= _) _ _ s
  refine wpAny_bind (wpAny_seqItems ho hd ?_)
  refine wpAny_bind ?_
  show wpAny _ _ (forIn items _ _) _ _ s
  rw[← Array.forIn_toList]
  rw[Im.key] at k
  refine wpAny_forIn_list _ (fun rest r s'=>s'=s∧∃ left,Im.keys n left=true∧aD s.heap left rest) _ ?_ ?_ _ _ ⟨rfl,ds,k,hi⟩
  ·rintro v rest r s' ⟨rfl,left,hk,hl⟩
   cases left with
   | nil=>cases (show v::rest=[] from hl)
   | cons d left=>
    obtain⟨v',r',e,h1,hl'⟩:=hl
    cases e
    rw[Im.keys,Bool.and_eq_true] at hk
    refine wpAny_bind (pY n hk.1 h1 fun b=>?_)
    cases b
    ·show wpAny _ _ (pure (ForInStep.done _)) _ _ _
     exact wpAny_pure (wpAny_pure (h _))
    ·show wpAny _ _ (pure (ForInStep.yield _)) _ _ _
     exact wpAny_pure ⟨rfl,left,hk.2,hl'⟩
  ·rintro⟨r1,r2⟩ s' ⟨rfl,_⟩
   cases r1 with
   | none=>exact wpAny_pure (h _)
   | some b=>exact wpAny_pure (h _)
 | _,_,_,_,.non,_,_,k,_,_=>by cases ‹Nat›<;>cases k
 | _,_,_,_,.bl _,_,_,k,_,_=>by cases ‹Nat›<;>cases k
 | _,_,_,_,.fn _,_,_,k,_,_=>by cases ‹Nat›<;>cases k
 | _,_,_,_,.fl _,_,_,k,_,_=>by cases ‹Nat›<;>cases k
 | _,_,_,_,.fd,_,_,k,_,_=>by cases ‹Nat›<;>cases k
 | 0,_,_,_,.tup _,_,_,k,_,_=>by cases k
theorem lJ:∀ (n:Nat) {A:Around}{E:Value→Shared→Prop}{s:Shared}{d:Im}{v:Value}{Q:Bool→Shared→Prop},Im.key n d=true→ImV s.heap d v→Q false s→wpAny (model prog w) A (ofAClassStatement n v) Q E s
 | n,A,E,s,.int i,v,Q,_,hv,h=>by
  obtain⟨t,rfl⟩:=hv
  rw[show ofAClassStatement n (.int i t)=pure false from by cases n<;>rfl]
  exact wpAny_pure h
 | n,A,E,s,.str i,v,Q,_,hv,h=>by
  obtain⟨t,rfl⟩:=hv
  rw[show ofAClassStatement n (.str i t)=pure false from by cases n<;>rfl]
  exact wpAny_pure h
 | n+1,A,E,s,.tup ds,v,Q,k,hv,h=>by
  obtain⟨a,o,items,m,rfl,ho,hc,hd,hi⟩:=hv
  have hT:s.TypeIs (.ref a) "tuple" := ⟨o,ho,hc⟩
  unfold ofAClassStatement
  refine wpAny_bind (wpAny_typeOf hT ?_)
  dsimp only
  rw[if_pos (show ("tuple" == "tuple")=true by decide)]
  refine wpAny_bind (wpAny_pure ?_)
  simp only[Bool.not_true,Bool.false_eq_true,if_false]
  refine wpAny_bind (wpAny_seqItems ho hd ?_)
  dsimp only
  refine wpAny_bind ?_
  show wpAny _ _ (forIn items _ _) _ _ s
  rw[← Array.forIn_toList]
  rw[Im.key] at k
  refine wpAny_forIn_list _ (fun rest r s'=>r.1=none∧s'=s∧∃ left,Im.keys n left=true∧aD s.heap left rest) _ ?_ ?_ _ _ ⟨rfl,rfl,ds,k,hi⟩
  ·rintro v rest r s' ⟨hr,rfl,left,hk,hl⟩
   cases left with
   | nil=>cases (show v::rest=[] from hl)
   | cons d left=>
    obtain⟨v',r',e,h1,hl'⟩:=hl
    cases e
    rw[Im.keys,Bool.and_eq_true] at hk
    refine wpAny_bind (lJ n hk.1 h1 ?_)
    simp only[Bool.false_eq_true,if_false]
    exact wpAny_pure ⟨rfl,rfl,left,hk.2,hl'⟩
  ·rintro⟨r1,r2⟩ s' ⟨hr,rfl,_⟩
   simp only at hr
   subst hr
   exact wpAny_pure h
 | _,_,_,_,.non,_,_,k,_,_=>by cases ‹Nat›<;>cases k
 | _,_,_,_,.bl _,_,_,k,_,_=>by cases ‹Nat›<;>cases k
 | _,_,_,_,.fn _,_,_,k,_,_=>by cases ‹Nat›<;>cases k
 | _,_,_,_,.fl _,_,_,k,_,_=>by cases ‹Nat›<;>cases k
 | _,_,_,_,.fd,_,_,k,_,_=>by cases ‹Nat›<;>cases k
 | 0,_,_,_,.tup _,_,_,k,_,_=>by cases k
theorem xQ {A:Around}{E:Value→Shared→Prop}{s:Shared}{x:Addr}{k:List Im}{Q:Bool→Shared→Prop} (hx:(bh prog w).is s.heap k x) {vs:List Value} (hv:∀ v∈vs,∃ b k',v=.ref b∧(bh prog w).is s.heap k' b) (h:Q false s):
  wpAny (model prog w) A (searchCouldBeSeen (.ref x) vs) Q E s:=by
 unfold searchCouldBeSeen
 refine wpAny_bind ?_
 refine wpAny_forIn_list _ (fun rest r s'=>r.1=none∧s'=s∧∀ v∈rest,∃ b k',v=.ref b∧(bh prog w).is s.heap k' b) _ ?_ ?_ _ _ ⟨rfl,rfl,hv⟩
 ·rintro v rest r s' ⟨hr,rfl,hl⟩
  obtain⟨b,k',rfl,hb⟩:=hl v (.head _)
  have hl':∀ v∈rest,∃ b k',v=.ref b∧(bh prog w).is s'.heap k' b:=fun v hv=>hl v (.tail _ hv)
  dsimp only
  cases hxb:(x == b) with
  | true=>
   simp only[Bool.true_or,if_true]
   exact wpAny_pure ⟨rfl,rfl,hl'⟩
  | false=>
   simp only[Bool.false_or]
   rw[if_neg (show ¬ ((carriedByValue (Value.ref x) && carriedByValue (Value.ref b))=true) from fun z=>Bool.false_ne_true z)]
   refine wpAny_bind (iC 8 (d:=.tup _) hx.1 hx.2 ?_)
   simp only[Bool.not_true,Bool.false_eq_true,if_false]
   refine wpAny_bind (iC 8 (d:=.tup _) hb.1 hb.2 ?_)
   simp only[Bool.not_true,Bool.false_eq_true,if_false]
   refine wpAny_bind (lJ 8 (d:=.tup _) hx.1 hx.2 ?_)
   simp only[Bool.false_eq_true,if_false]
   refine wpAny_bind (lJ 8 (d:=.tup _) hb.1 hb.2 ?_)
   simp only[Bool.false_eq_true,if_false]
   exact wpAny_pure ⟨rfl,rfl,hl'⟩
 ·rintro⟨r1,r2⟩ s' ⟨hr,rfl,_⟩
  simp only at hr
  subst hr
  exact wpAny_pure h
end
section
variable (w:World) (P:List Im→Addr→Prop)
noncomputable def jn (z:List Im×Int×Value):Prop:=∃ b,z.2.2=.ref b∧z.2.1=imH w (.tup z.1)∧P z.1 b
structure SetDT (es:Array (Int×Value)) (t:SetTable) (led:Bool) (ks:List (List Im)):Prop where
 els:∃ zs:List (List Im×Int×Value),zs.map (·.2)=es.toList∧(zs.map (·.1)).Perm ks∧∀ z∈zs,jn w P z
 tab:TabOk t led
 ht:HTab t (es.toList.map (·.1))
 nd:ks.Nodup
noncomputable def bf (h:Heap) (a:Addr) (led:Bool) (ks:List (List Im)):Prop:=∃ o es ep t,h.get? a=some o∧o.ExactSet∧o.data=.set es ep t∧SetDT w P es t led ks
end
section
variable {prog:Program}{w:World}{P:List Im→Addr→Prop}{A:Around}{E:Value→Shared→Prop}
theorem SetDT.size {es:Array (Int×Value)}{t:SetTable}{led:Bool}{ks:List (List Im)} (D:SetDT w P es t led ks):t.place.size=es.size:=by
 rw[D.ht.len,List.length_map,Array.length_toList]
theorem SetDT.fit {es:Array (Int×Value)}{t:SetTable}{led:Bool}{ks:List (List Im)} (D:SetDT w P es t led ks):t.fits es.size=true:=by
 have:=D.ht.loose
 unfold SetTable.fits SetTable.fill
 rw[D.tab.dum,D.size,Bool.and_eq_true,beq_iff_eq,decide_eq_true_iff]
 rw[D.size] at this
 exact⟨rfl,by show es.size+0≤_;lia⟩
theorem SetDT.num {es:Array (Int×Value)}{t:SetTable}{led:Bool}{ks:List (List Im)} (D:SetDT w P es t led ks):es.size=ks.length:=by
 obtain⟨zs,h1,h2,_⟩:=D.els
 rw[← h2.length_eq,List.length_map,← Array.length_toList,← h1,List.length_map]
theorem pZ {xs:Array Nat} (r:b9 xs) {i i' j:Nat} (a:xs[i]?=some j) (b:xs[i']?=some j):i=i':=by
 rw[← lE r a,← lE r b]
theorem xR {α:Type}{M:Model}{s:Shared}{c:Bool}{m:Sem Bool}{u r:Sem α}{Q:α→Shared→Prop} (h1:∀ Q':Bool→Shared→Prop,Q' false s→wpAny M A m Q' E s) (h2:wpAny M A r Q E s):
  wpAny M A (if c=true then (do let b ← m;if b=true then u else r) else r) Q E s:=by
 cases c
 ·rw[if_neg Bool.false_ne_true];exact h2
 ·rw[if_pos rfl]
  refine wpAny_bind (h1 _ ?_)
  rw[if_neg Bool.false_ne_true]
  exact h2
theorem p0 {a x:Addr}{k:List Im}{led:Bool}{ks:List (List Im)}{o:Obj}{es:Array (Int×Value)}{ep:Nat}{t:SetTable}{s:Shared}{Q:SetFound→Shared→Prop}{zs:List (List Im×Int×Value)}
  (hu:A.units+20<cLine) (ho:s.heap.get? a=some o) (hd:o.data=.set es ep t) (D:SetDT w P es t led ks) (hx:(bh prog w).is s.heap k x) (hPi:∀ q b,P q b→(bh prog w).is s.heap q b)
  (z1:zs.map (·.2)=es.toList) (z2:(zs.map (·.1)).Perm ks) (z3:∀ z∈zs,jn w P z)
  (hthere:k∈ks→Q (.there none) s) (hfree:k∉ks→∀ kk,(pth t.mask (imH w (.tup k)) kk).j∉t.place.toList→(∀ k',k'<kk→(pth t.mask (imH w (.tup k)) k').j∈t.place.toList)→Q (.free (pth t.mask (imH w (.tup k)) kk).j false) s) {kE:Nat} (hE:(pth t.mask (imH w (.tup k)) kE).j∉t.place.toList) (hE2:kE<10 * SetTable.turns t.mask):
  ∀ (fuel k0:Nat) (st:Option SetTable.Probe),st.getD (t.probeStart (imH w (.tup k)))=pth t.mask (imH w (.tup k)) k0→kE<k0+fuel→(∀ k',k'<k0→(pth t.mask (imH w (.tup k)) k').j∈t.place.toList)→
   (∀ (i k':Nat),k'<k0→t.place[i]?=some (pth t.mask (imH w (.tup k)) k').j→(zs.map (·.1))[i]?≠some k)→
   wpAny (model prog w) A (setSearchFrom a (.ref x) (imH w (.tup k)) true fuel st) Q E s
 | 0,k0,st,_,hf,hk,_=>by
  refine absurd (hk kE (by lia)) hE
 | fuel+1,k0,st,hst,hf,hk,hs=>by
  have h0E:k0≤kE:=by
   rcases Nat.lt_or_ge kE k0 with z | z
   ·exact absurd (hk kE z) hE
   ·exact z
  have hz:zs.length=es.size:=by rw[← Array.length_toList,← z1,List.length_map]
  have hash:∀ (i:Nat) (q:List Im),(zs.map (·.1))[i]?=some q→∃ e b,es[i]?=some e∧e.2=.ref b∧e.1=imH w (.tup q)∧(bh prog w).is s.heap q b:=fun i q hq=>by
   obtain⟨z,e1,e2⟩:=Option.map_eq_some_iff.mp (by rw[List.getElem?_map] at hq;exact hq)
   obtain⟨b,c1,c3,c2⟩:=z3 z (List.mem_of_getElem? e1)
   subst e2
   refine⟨z.2,b,?_,c1,c3,hPi _ _ c2⟩
   rw[← Array.getElem?_toList,← z1,List.getElem?_map,e1]
   rfl
  unfold setSearchFrom
  refine wpAny_bind (wpAny_setState_of ho hd D.fit ?_)
  dsimp only
  rw[if_neg (by unfold SetTable.gaveWay;rw[beq_iff_eq];have:=D.ht.gm.pos;lia)]
  rw[hst]
  unfold SetTable.probe
  obtain⟨k1,g1,g2,g3⟩:=pT D.tab.rise D.tab.dum (fun i=>(es[i]?.map (·.1)).getD 0) (imH w (.tup k)) (10 * SetTable.turns t.mask) k0 ⟨kE,h0E,by lia,hE⟩
  have occ:∀ k',k'<k1→(pth t.mask (imH w (.tup k)) k').j∈t.place.toList:=fun k' hk'=>by
   rcases Nat.lt_or_ge k' k0 with z | z
   ·exact hk k' z
   ·obtain⟨i,h1,_⟩:=g2 k' z hk'
    rw[← Array.getElem?_toList] at h1
    exact List.mem_of_getElem? h1
  have nosee:∀ (i k':Nat),k'<k1→t.place[i]?=some (pth t.mask (imH w (.tup k)) k').j→(zs.map (·.1))[i]?≠some k:=fun i k' hk' hp hq=>by
   rcases Nat.lt_or_ge k' k0 with z | z
   ·exact hs i k' z hp hq
   ·obtain⟨i',h1,h2⟩:=g2 k' z hk'
    have:=pZ D.tab.rise hp h1
    subst this
    obtain⟨e,b,c1,c2,c3,c4⟩:=hash i k hq
    rw[c1] at h2
    exact h2 c3
  generalize hg:SetTable.probe.go t _ (imH w (.tup k)) _ (pth t.mask (imH w (.tup k)) k0)=g
  rcases g3 with ⟨e,hn⟩ | ⟨i,e,e2,e3,e4⟩
  ·cases hg.symm.trans e
   refine wpAny_pure (hfree (fun hks=>?_) k1 hn occ)
   have hks':=z2.mem_iff.mpr hks
   obtain⟨i,hi⟩:=List.getElem?_of_mem hks'
   obtain⟨e,b,c1,c2,c3,c4⟩:=hash i k hi
   have hi':i<es.size:=(Array.getElem?_eq_some_iff.mp c1).1
   have hp:t.place[i]?=some (t.place[i]'(by rw[D.size];exact hi')):=Array.getElem?_eq_getElem (by rw[D.size];exact hi')
   have hm:(t.place[i]'(by rw[D.size];exact hi'),imH w (.tup k))∈t.place.toList.zip (es.toList.map (·.1)):=by
    refine List.mem_of_getElem? (i:=i) ?_
    rw[List.getElem?_zip_eq_some]
    refine⟨by rw[Array.getElem?_toList];exact hp,?_⟩
    rw[List.getElem?_map,Array.getElem?_toList,c1,← c3]
    rfl
   obtain⟨ki,r1,r2⟩:=D.ht.rch _ hm
   have hlt:ki<k1:=by
    rcases Nat.lt_trichotomy ki k1 with z | z | z
    ·exact z
    ·refine absurd ?_ hn
     rw[← z,r1]
     exact Array.getElem_mem_toList ..
    ·exact absurd (r2 k1 z) hn
   exact nosee i ki hlt (by rw[hp,r1]) hi
  ·cases hg.symm.trans e
   have hi':i<zs.length:=by rw[hz,← D.size];exact (Array.getElem?_eq_some_iff.mp e3).1
   have hzi:(zs.map (·.1))[i]?=some zs[i].1:=by rw[List.getElem?_map,List.getElem?_eq_getElem hi'];rfl
   obtain⟨en,b,c1,c2,c3,c4⟩:=hash i _ hzi
   dsimp only
   refine xR (fun Q' q=>xQ hx (fun v hv=>?_) q) ?_
   ·obtain⟨e',he',rfl⟩:=List.mem_map.mp hv
    have he2:e'∈es.toList:=Array.mem_toList_iff.mpr (Array.mem_filter.mp (Array.mem_toList_iff.mp he')).1
    rw[← z1] at he2
    obtain⟨z,hz1,rfl⟩:=List.mem_map.mp he2
    obtain⟨b',d1,_,d2⟩:=z3 z hz1
    exact⟨b',z.1,d1,hPi _ _ d2⟩
   ·obtain⟨eh,ev⟩:=en
    cases c2
    rw[c1]
    dsimp only
    refine wpAny_bind (wpAny_holding ((bh prog w).eqBool (show A.units+10<cLine by lia) c4 hx ?_))
    refine wpAny_bind (wpAny_setState_of ho hd D.fit ?_)
    by_cases hq:zs[i].1=k
    ·rw[decide_eq_true hq,if_pos (show (true && true)=true from rfl)]
     exact wpAny_pure (hthere (z2.mem_iff.mp (by rw[← hq];exact List.mem_map_of_mem (List.getElem_mem hi'))))
    ·rw[decide_eq_false hq,if_neg (by decide)]
     dsimp only
     rw[show t.sameMemory t.moves t.mask=some true by unfold SetTable.sameMemory;rw[if_pos (beq_self_eq_true _)]]
     dsimp only
     rw[if_pos rfl,e2]
     dsimp only
     rw[c1]
     dsimp only
     refine wpAny_bind (wpAny_isSame_ref_self (wpAny_bind (wpAny_pure ?_)))
     rw[if_pos rfl]
     dsimp only
     rw[if_neg Bool.false_ne_true]
     refine p0 hu ho hd D hx hPi z1 z2 z3 hthere hfree hE hE2 fuel (k1+1) _ rfl (by lia) (fun k' hk'=>?_) fun i' k' hk' hp=>?_
     ·rcases Nat.lt_or_ge k' k1 with z | z
      ·exact occ k' z
      ·rw[show k'=k1 by lia]
       rw[← Array.getElem?_toList] at e3
       exact List.mem_of_getElem? e3
     ·rcases Nat.lt_or_ge k' k1 with z | z
      ·exact nosee i' k' z hp
      ·rw[show k'=k1 by lia] at hp
       have:=pZ D.tab.rise hp e3
       subst this
       rw[hzi]
       exact fun e=>hq (Option.some.inj e)
end
noncomputable def bS (ks:List (List Im)) (k:List Im):List (List Im):=if k∈ks then ks else ks++[k]
section
variable {prog:Program}{w:World}{P:List Im→Addr→Prop}{A:Around}{E:Value→Shared→Prop}{s:Shared}
structure PreD (w:World) (P:List Im→Addr→Prop) (es:Array (Int×Value)) (t:SetTable) (led:Bool) (ks:List (List Im)) (n:Nat):Prop where
 els:∃ zs:List (List Im×Int×Value),zs.map (·.2)=es.toList∧(zs.map (·.1)).Perm ks∧∀ z∈zs,jn w P z
 tab:TabOk t led
 gm:GM t.mask
 len:t.place.size=es.size
 le:∀ j∈t.place.toList,j≤t.mask
 rch:∀ p∈t.place.toList.zip (es.toList.map (·.1)),Rch t.mask (·∈t.place.toList) p.2 p.1
 nd:ks.Nodup
 sz:es.size=n+1
 was:n * 5<t.mask * 3
theorem PreD.few {es:Array (Int×Value)}{t:SetTable}{led:Bool}{ks:List (List Im)}{n:Nat} (D:PreD w P es t led ks n):t.fits es.size=true:=by
 have:=D.was
 have:=D.gm.pos
 unfold SetTable.fits SetTable.fill
 rw[D.tab.dum,D.len,D.sz,Bool.and_eq_true,beq_iff_eq,decide_eq_true_iff]
 exact⟨rfl,by show n+1+0≤_;lia⟩
theorem PreD.done {es:Array (Int×Value)}{t:SetTable}{led:Bool}{ks:List (List Im)}{n:Nat} (D:PreD w P es t led ks n) (hf:¬ ((n+1) * 5 ≥ t.mask * 3)):SetDT w P es t led ks:=
 ⟨D.els,D.tab,⟨D.gm,by rw[D.len,List.length_map,Array.length_toList],by rw[D.len,D.sz];lia,D.le,D.rch⟩,D.nd⟩
theorem p5 {h:Heap}{a:Addr}{o:Obj}{es es':Array (Int×Value)}{ep:Nat}{t t':SetTable} (ho:h.get? a=some o) (hd:o.data=.set es ep t):
  (h.update a (Obj.putSet es' t')).get? a=some { o with data:=.set es' (ep+1) t' }:=by
 have:=Heap.get?_update_self (Obj.putSet es' t') ho (by rw[putSet_of es' t' hd];rfl)
 rw[putSet_of es' t' hd] at this;exact this
theorem lK {α β:Type} (f:α→β) (l:List α) (m:List β) (hm:l.map f=m):∀ is:List Nat,(is.filterMap (l[·]?)).map f=is.filterMap (m[·]?)
 | []=>rfl
 | i::is=>by
  subst hm
  rw[List.filterMap_cons,List.filterMap_cons,List.getElem?_map]
  cases l[i]? with
  | none=>exact lK f l _ rfl is
  | some x=>exact congrArg (f x::·) (lK f l _ rfl is)
theorem p6 {α:Type} (l:List α):(List.range l.length).filterMap (l[·]?)=l:=by
 have:=filterMap_getElem?_range l.toArray
 simpa using this
theorem lL {a : Addr} {o : Obj} {es es1 : Array (Int × Value)} {ep n : Nat} {t t1 : SetTable} {led : Bool} {ks : List (List Im)} {R : Bool → Shared → Prop}
    (ho : s.heap.get? a = some o) (hex : o.ExactSet) (hd : o.data = .set es ep t) (hn : es.size = n) (hl : n + 1 ≤ 300) (D : PreD w P es1 t1 led ks n)
    (h : ∀ h', Heap.SameBut a s.heap h' → bf w P h' a led ks → R true { s with heap := h' }) :
    wpAny (model prog w) A (do
        storeSet a es1 t1
        if (!false && t1.tooFull) = true then do
            setRelay a (SetTable.grown (es.size + 1))
            pure true
          else pure true) R E s := by
  refine wpAny_bind (wpAny_storeSet_of ho hd ?_ (by rw [D.sz]; exact Nat.le_trans hl (by decide)))
  have ho1 := p5 (es' := es1) (t' := t1) ho hd
  have hs1 := Heap.SameBut.update s.heap a (Obj.putSet es1 t1)
  have ef : t1.tooFull = decide ((n + 1) * 5 ≥ t1.mask * 3) := by
    unfold SetTable.tooFull SetTable.fill
    rw [D.tab.dum, D.len, D.sz]
    rfl
  by_cases hf : (n + 1) * 5 ≥ t1.mask * 3
  · rw [ef, decide_eq_true hf, if_pos (show (!false && true) = true from rfl)]
    obtain ⟨g1, g2, g3⟩ := xP D.gm D.was hf hl
    unfold setRelay
    refine wpAny_bind (wpAny_bind (wpAny_setState_of ho1 rfl D.few ?_))
    dsimp only
    rw [hn, if_neg (fun z => absurd (Nat.lt_of_lt_of_le z g3) (by decide))]
    obtain ⟨t', order, r1, r2, r3, r4⟩ := xO (t := t1) (es := es1) (wanted := SetTable.grown (n + 1)) g1 (by rw [D.sz]; exact g2) D.tab.led
    rw [r1]
    have eo : (order.filterMap (es1[·]?)).toList = order.toList.filterMap (es1.toList[·]?) := by
      rw [Array.toList_filterMap]
      simp
    have hp : (order.filterMap (es1[·]?)).toList.Perm es1.toList := by
      rw [eo]
      refine (r2.filterMap _).trans ?_
      rw [← Array.length_toList, p6]
    have hsz : (order.filterMap (es1[·]?)).size = es1.size := by rw [← Array.length_toList, hp.length_eq, Array.length_toList]
    refine wpAny_bind (m := if ((order.filterMap (es1[·]?)).size != es1.size) = true then _ else _) ?_
    rw [hsz, if_neg (by simp)]
    refine wpAny_pure ?_
    dsimp only
    refine wpAny_storeSet_of ho1 rfl ?_ (by rw [hsz, D.sz]; exact Nat.le_trans hl (by decide))
    refine wpAny_pure (h _ (hs1.trans (Heap.SameBut.update _ a _)) ⟨_, _, _, _, p5 ho1 rfl, hex, rfl, ?_, r3, r4, D.nd⟩)
    obtain ⟨zs, z1, z2, z3⟩ := D.els
    refine ⟨order.toList.filterMap (zs[·]?), ?_, ?_, fun z hz => ?_⟩
    · rw [eo]
      exact lK (·.2) zs _ z1 _
    · refine (List.Perm.map _ ?_).trans z2
      refine (r2.filterMap _).trans ?_
      rw [show es1.size = zs.length by rw [← Array.length_toList, ← z1, List.length_map], p6]
    · obtain ⟨i, _, e⟩ := List.mem_filterMap.mp hz
      exact z3 z (List.mem_of_getElem? e)
  · rw [ef, decide_eq_false hf, if_neg (show ¬ ((!false && false) = true) from by decide)]
    refine wpAny_pure (h _ hs1 ⟨_, _, _, _, ho1, hex, rfl, D.done hf⟩)
theorem xS {a x:Addr}{led:Bool}{ks:List (List Im)}{k:List Im}{Q:Bool→Shared→Prop} (hu:A.units+20<cLine) (S:bf w P s.heap a led ks) (hx:(bh prog w).is s.heap k x) (hP:P k x) (hPi:∀ q b,P q b→(bh prog w).is s.heap q b) (hl:ks.length+1≤300)
  (h:∀ b h',Heap.SameBut a s.heap h'→bf w P h' a led (bS ks k)→Q b { s with heap:=h' }):
  wpAny (model prog w) A (setAddHashed a (.ref x) (imH w (.tup k))) Q E s:=by
 obtain⟨o,es,ep,t,ho,hex,hd,D⟩:=S
 have D0:=D
 obtain⟨zs,z1,z2,z3⟩:=D.els
 obtain⟨kE,hE2,hE⟩:=D.ht.some (imH w (.tup k))
 have hmask:=D.ht.gm.pos
 unfold setAddHashed setAddHashedIn
 refine wpAny_holding (wpAny_bind (wpAny_setState_of ho hd D.fit ?_))
 dsimp only
 rw[if_neg (show ¬ (byScan (Value.ref x) es=true) from fun z=>Bool.false_ne_true z)]
 unfold setSearch
 refine wpAny_bind (p0 hu ho hd D hx hPi z1 z2 z3 (fun hk=>?_) (fun hk kk hn ha=>?_) hE hE2 100000 0 none rfl (by unfold SetTable.turns at hE2;lia) (fun k' z=>absurd z (Nat.not_lt_zero _)) fun i k' z=>absurd z (Nat.not_lt_zero _))
 ·refine wpAny_pure ?_
  have e:s={ s with heap:=s.heap }:=by cases s;rfl
  rw[e]
  refine h _ _ (Heap.SameBut.refl a s.heap) ?_
  rw[bS,if_pos hk]
  exact⟨o,es,ep,t,ho,hex,hd,D⟩
 ·dsimp only
  refine wpAny_bind (wpAny_setState_of ho hd D.fit ?_)
  dsimp only
  obtain⟨p1,p2⟩:=D.ht.put (h:=imH w (.tup k)) hn ha
  have hnp:¬ (t.place[SetTable.below t.place (pth t.mask (imH w (.tup k)) kk).j]?=some (pth t.mask (imH w (.tup k)) kk).j):=fun z=>hn (by rw[← Array.getElem?_toList] at z;exact List.mem_of_getElem? z)
  have htab:=D.tab.put hnp
  have hD:∀ b:Bool,PreD w P (SetTable.insertAt es (t.put (pth t.mask (imH w (.tup k)) kk).j).2 (imH w (.tup k),.ref x)) { (t.put (pth t.mask (imH w (.tup k)) kk).j).1 with plain:=b } led (ks++[k]) es.size:=fun b=>by
   have e1:(SetTable.insertAt es (t.put (pth t.mask (imH w (.tup k)) kk).j).2 (imH w (.tup k),Value.ref x)).toList=_:=lI _ _ _
   have e2:(t.put (pth t.mask (imH w (.tup k)) kk).j).1.place.toList=_:=lI _ _ _
   have hsz:(SetTable.insertAt es (t.put (pth t.mask (imH w (.tup k)) kk).j).2 (imH w (.tup k),Value.ref x)).size=es.size+1:=by
    rw[← Array.length_toList,e1,List.length_append,List.length_cons,List.length_take,List.length_drop,Array.length_toList]
    lia
   refine⟨⟨zs.take (t.put (pth t.mask (imH w (.tup k)) kk).j).2++(k,imH w (.tup k),.ref x)::zs.drop (t.put (pth t.mask (imH w (.tup k)) kk).j).2,?_,?_,fun z hz=>?_⟩,htab.plainOff b,D.ht.gm,?_,p1,?_,?_,hsz,?_⟩
   ·rw[e1,← z1,List.map_append,List.map_cons,List.map_take,List.map_drop]
   ·rw[List.map_append,List.map_cons,List.map_take,List.map_drop]
    refine List.perm_middle.trans ?_
    rw[List.take_append_drop]
    exact (z2.cons k).trans (List.perm_append_comm (l₁:=[k]))
   ·rcases ij.mp hz with rfl | hz
    ·exact⟨x,rfl,rfl,hP⟩
    ·exact z3 z hz
   ·show (t.put (pth t.mask (imH w (.tup k)) kk).j).1.place.size=_
    rw[hsz,← Array.length_toList,e2,List.length_append,List.length_cons,List.length_take,List.length_drop,Array.length_toList,D.size]
    lia
   ·rw[e1,List.map_append,List.map_cons,List.map_take,List.map_drop]
    exact p2
   ·exact List.nodup_append.mpr ⟨D.nd,List.pairwise_singleton _ k,fun y hy z hz=>by cases List.mem_singleton.mp hz;exact fun e=>hk (e ▸ hy)⟩
   ·have:=D.ht.loose
    rw[D.size] at this
    exact this
  have hend:∀ h',Heap.SameBut a s.heap h'→bf w P h' a led (ks++[k])→Q true { s with heap:=h' }:=fun h' hsb hS=>h true h' hsb (by rw[bS,if_neg hk];exact hS)
  have hn':es.size+1≤300:=by rw[D.num];exact hl
  split
  ·refine wpAny_bind (pY 8 (d:=.tup k) hx.1 hx.2 fun b=>?_)
   cases b
   ·exact lL ho hex hd rfl hn' (hD false) hend
   ·exact lL ho hex hd rfl hn' (hD _) hend
  ·refine wpAny_bind (wpAny_pure ?_)
   exact lL ho hex hd rfl hn' (hD _) hend
end
noncomputable def ca (w:World):Bool:=!w.params.followText "set-order"
noncomputable def dF (led:Bool):Obj:={ cls:=.type "set",dict:=none,data:=.set #[] 0 (.fresh 0 0 led) }
theorem xT:isSubtype (.type "tuple") (.type "set")=pure false:=by rw[isSubtype_type];kernel_rfl
theorem xU:isSubtype (.type "tuple") (.type "frozenset")=pure false:=by rw[isSubtype_type];kernel_rfl
section
variable {prog:Program}{w:World}{A:Around}{E:Value→Shared→Prop}{s:Shared}
theorem xV (a:Value) {Q₁:Value→Shared→Prop} (h:Q₁ (.ref s.heap.objs.size) { s with heap:=s.heap.push (dF (ca w)) }):
  codeAny (model prog w) A (.call (.builtin "set.__new__") ⟨[.type "set",a],[]⟩) (wants Q₁ E) s:=by
 refine codeAny_of_tree ?_
 show wpAny _ A.in1 (do checkBuiltinCall "set.__new__" ⟨[.type "set",a],[]⟩;again (.builtin "set.__new__" ⟨[.type "set",a],[]⟩)) _ _ s
 refine wpAny_bind (wpAny_of_eq (PySem.F.newCall_set_1 a) (wpAny_pure ⟨plainId_quiet PySem.F.plain_set_new _,codeAny_builtin PySem.F.entry_set_new ?_⟩))
 rw[Around.under_plainId PySem.F.plain_set_new _]
 unfold Builtin.«set.__new__» Builtin.Frozenset.newClass
 have hsub:=sub_set_self
 obtain⟨hp,g,d,tk,os⟩:=s
 dsimp only
 wp_walk
 refine wpAny_askSetting (wpAny_pure ?_)
 dsimp only
 simp only[newObj]
 refine wpAny_bind (wpAny_alloc (wpAny_pure ?_))
 exact wpAny_pure h
end
section
variable {prog:Program}{w:World}{A:Around}{E:Value→Shared→Prop}{s:Shared}
end
theorem ik:Slot "set_iterator" "__next__" "set_iterator.__next__" :=
 .of (owner := "set_iterator") (n := "__next__") (by rw[typeLookup_type,builtinLookup_eq_fast];kernel_rfl) (by decide +kernel) (by decide +kernel) (by decide +kernel)
  (by first | exact .inl (by decide +kernel) | exact .inr (by decide +kernel)) (by rw[isSubtype_type];kernel_rfl)
theorem xW:entryFor table "set_iterator.__next__" = some Builtin.«set_iterator.__next__»:=entryFor_of_tree (by kernel_rfl)
theorem p7:Manifest.owners.lookup (String.ofList ['r','o','t','a','r','e','t','i','_','t','e','s'].reverse)=some Manifest.sig_set_iterator:=by kernel_rfl
theorem xX (a:Value):argsOk "set_iterator.__next__" ⟨[a],[]⟩:=by
 unfold argsOk;rw[signature?_of (id := "set_iterator.__next__") (n:=['_','_','t','x','e','n','_','_']) (o:=['r','o','t','a','r','e','t','i','_','t','e','s']) (by kernel_rfl) p7];kernel_rfl
theorem xY:entryFor table "set.__iter__" = some Builtin.«frozenset.__iter__»:=
 entryFor_alias (id' := "frozenset.__iter__") (by kernel_rfl) rfl (by decide +kernel) (by kernel_rfl)
theorem p8:Slot "set_iterator" "__iter__" "set_iterator.__iter__" :=
 .of (owner := "set_iterator") (n := "__iter__") (by rw[typeLookup_type,builtinLookup_eq_fast];kernel_rfl) (by decide +kernel) (by decide +kernel) (by decide +kernel)
  (by first | exact .inl (by decide +kernel) | exact .inr (by decide +kernel)) (by rw[isSubtype_type];kernel_rfl)
theorem xZ (a:Value):argsOk "set_iterator.__iter__" ⟨[a],[]⟩:=by
 unfold argsOk;rw[signature?_of (id := "set_iterator.__iter__") (n:=['_','_','r','e','t','i','_','_']) (o:=['r','o','t','a','r','e','t','i','_','t','e','s']) (by kernel_rfl) p7];kernel_rfl
theorem x0:entryFor table "set_iterator.__iter__" = some Builtin.«dict_keyiterator.__iter__»:=
 entryFor_alias (id' := "dict_keyiterator.__iter__") (by kernel_rfl) (by first | rfl | decide +kernel | (unfold String.splitOn;simp +decide [String.splitOnAux])) (by decide +kernel) (by kernel_rfl)
noncomputable def SIt (h:Heap) (I:Addr) (f0:Value) (i:Nat) (S:Addr) (n ep:Nat):Prop:=∃ o,h.get? I=some o∧o.cls=.type "set_iterator" ∧ o.data=.fields #[f0,.int i 0,.ref S,.int n 0,.int ep 0]
noncomputable def SAt (h:Heap) (S:Addr) (es:Array (Int×Value)) (ep:Nat) (t:SetTable):Prop:=∃ o,h.get? S=some o∧o.ExactSet∧o.data=.set es ep t
theorem SIt.go {h h':Heap}{I:Addr}{f0:Value}{i:Nat}{S:Addr}{n ep:Nat} (x:SIt h I f0 i S n ep) (k:∀ o,h.get? I=some o→h'.get? I=some o):SIt h' I f0 i S n ep:=let ⟨o,e,r⟩:=x;⟨o,k o e,r⟩
theorem SAt.go {h h':Heap}{S:Addr}{es:Array (Int×Value)}{ep:Nat}{t:SetTable} (x:SAt h S es ep t) (k:∀ o,h.get? S=some o→h'.get? S=some o):SAt h' S es ep t:=let ⟨o,e,r⟩:=x;⟨o,k o e,r⟩
section
variable {prog:Program}{w:World}{A:Around}{E:Value→Shared→Prop}{s:Shared}
theorem SIt.ty {I:Addr}{f0:Value}{i:Nat}{S:Addr}{n ep:Nat} (x:SIt s.heap I f0 i S n ep):s.TypeIs (.ref I) "set_iterator" := let ⟨o,e,c,_⟩:=x;⟨o,e,c⟩
theorem x5 {M:Model}{src:Source}{n:Nat}{Q:Nat→Shared→Prop} (hn:0<n) (h:∀ i,i<n→Q i { s with drawn:=s.drawn.bump src }):wpAny M A (choose src n) Q E s:=
 fun _ _ _=>⟨Nat.ne_of_gt hn,h _ (Nat.mod_lt _ hn)⟩
theorem lM {α:Type}:∀ (l:List α) (i:Nat) (h:i<l.length),(l[i]::l.eraseIdx i).Perm l
 | x::xs,0,_=>.refl _
 | x::xs,i+1,h=>(List.Perm.swap x _ _).trans (List.Perm.cons x (lM xs i (Nat.lt_of_succ_lt_succ h)))
theorem p9 {α:Type}{M:Model}:∀ (n:Nat) (xs:List α) (s:Shared) (Q:List α→Shared→Prop),xs.length=n→(∀ d ys,List.Perm ys xs→Q ys { s with drawn:=d })→wpAny M A (drawOrder n xs) Q E s
 | 0,xs,s,Q,hl,h=>by
  have e:xs=[]:=List.eq_nil_of_length_eq_zero hl
  subst e
  unfold drawOrder
  exact wpAny_pure (h s.drawn [] .nil)
 | n+1,[],s,Q,hl,h=>by cases hl
 | n+1,x::xs,s,Q,hl,h=>by
  unfold drawOrder
  refine wpAny_bind (x5 (by rw[hl];exact Nat.succ_pos _) fun i hi=>?_)
  have e:(x::xs)[i]?=some (x::xs)[i]:=List.getElem?_eq_getElem hi
  rw[e]
  dsimp only
  refine wpAny_bind (p9 n _ _ _ (by rw[List.length_eraseIdx_of_lt hi,hl];rfl) fun d ys hp=>?_)
  refine wpAny_pure (h d _ ?_)
  refine (List.Perm.cons _ hp).trans ?_
  exact lM _ i hi
theorem jo {I S:Addr}{f0:Value}{i n ep:Nat}{Q:Option Value→Shared→Prop} (hit:SIt s.heap I f0 i S n ep)
  (h:wpAny (model prog w) A.in1 (Builtin.«set_iterator.__next__» ⟨[.ref I],[]⟩) (fun fin s'=>∃ v,fin=.done (.ret v)∧Q (some v) s') (fun e s'=>wpAny (model prog w) A (do let b ← isInstance e (.type "StopIteration");if b=true then pure none else throw e) Q E s') s):
  wpAny (model prog w) A (pyNext (.ref I)) Q E s:=by
 unfold pyNext
 refine wpAny_bind (wpAny_attempt (wpAny_callSpecial?_slot (name:=Str.ofString "__next__") hit.ty ik (wpAny_call_entry ik hit.ty xW ?z (xX _))))
 case z=>
  refine wpAny_mono h (fun fin s' ⟨v,e,q⟩=>⟨v,e,wpAny_pure q⟩) fun e s' q=>q
theorem jp {I S:Addr}{f0 f0':Value}{i i' n ep:Nat}{Q:Unit→Shared→Prop}{k:Nat}{x:Value} (hit:SIt s.heap I f0 i S n ep) (hk:k<5) (he:(#[f0,.int i 0,.ref S,.int n 0,.int ep 0]:Array Value).setIfInBounds k x=#[f0',.int i' 0,.ref S,.int n 0,.int ep 0])
  (q:∀ h',SIt h' I f0' i' S n ep→Heap.SameBut I s.heap h'→Q () { s with heap:=h' }):wpAny (model prog w) A (setField (.ref I) k x) Q E s:=by
 obtain⟨o,f1,f2,f3⟩:=hit
 refine wpAny_setField f1 f3 hk (q _ ⟨_,Heap.get?_update_self _ f1 (Obj.isFreed_of_fields (Obj.data_mapFields f3 _)),(Obj.cls_mapFields ..).trans f2,?_⟩ (Heap.SameBut.update ..))
 rw[Obj.data_mapFields f3,he]
theorem qc {I:Addr}{Q:Option Value→Shared→Prop} (hh:A.handled=none) (q:∀ h',Heap.ExtBut I s.heap h'→Q none { s with heap:=h' }):
  wpAny (model prog w) A.in1 (newExc (.type "StopIteration") [] >>= fun x=>(raiseNew x:Sem PySem.Fin)) (fun fin s'=>∃ v,fin=.done (.ret v)∧Q (some v) s') (fun e s'=>wpAny (model prog w) A (do let b ← isInstance e (.type "StopIteration");if b=true then pure none else throw e) Q E s') s:=by
 apply wpAny_bind
 simp only[newExc,newTuple]
 refine wpAny_bind (wpAny_newObj_type (wpAny_bind (m:=firstArgMember _ _) (wpAny_of_eq (a:=Value.none) (by first | rfl | (simp only[firstArgMember];rfl)) (wpAny_newObj_type ?_ (by size_fits)))) (by size_fits))
 simp only[raiseNew]
 apply wpAny_bind
 apply wpAny_handled
 rw[show A.in1.handled=none from hh]
 refine wpAny_bind (m:=pure _) (wpAny_pure (wpAny_throw ?_))
 apply wpAny_bind
 refine wpAny_isInstance (T := "StopIteration") (b:=true) ⟨_,Heap.get?_push_size _ rfl,rfl⟩ isSubtype_stop ?_
 exact wpAny_pure (q _ (fun b o _ e=>Heap.get?_push_of_some _ (Heap.get?_push_of_some _ e)))
theorem qd {I S:Addr}{slot next i n ep:Nat}{es:Array (Int×Value)}{t:SetTable}{x:Value}{Q:Option Value→Shared→Prop} (hit:SIt s.heap I (.int slot 0) i S n ep) (hS:SAt s.heap S es ep t) (hf:t.fits es.size=true) (hn:es.size=n)
  (hx:∀ (Q':Option (Value×Nat)→Shared→Prop) (E':Value→Shared→Prop),Q' (some (x,next)) s→wpAny (model prog w) A.in1 (setNext S slot i ep) Q' E' s)
  (q:∀ h',SIt h' I (.int next 0) (i+1) S n ep→Heap.SameBut I s.heap h'→Q (some x) { s with heap:=h' }):wpAny (model prog w) A (pyNext (.ref I)) Q E s:=by
 refine jo hit ?_
 obtain⟨o,f1,f2,f3⟩:=id hit
 obtain⟨oS,e1,e2,e3⟩:=hS
 unfold Builtin.«set_iterator.__next__»
 refine wpAny_bind (wpAny_pure (wpAny_bind (wpAny_fieldsOf f1 f3 ?_)))
 show wpAny _ _ (setEntries S >>= _) _ _ _
 refine wpAny_bind (wpAny_setEntries_of e1 e3 hf ?_)
 dsimp only
 rw[if_neg (by rw[hn];simp)]
 refine wpAny_bind (m:=setNext S _ _ _) (hx _ _ ?_)
 dsimp only
 refine wpAny_bind (jp (f0':=.int next 0) (i':=i) hit (by decide) rfl fun h1 hit1 hb1=>?_)
 refine wpAny_bind (jp (s:={ s with heap:=h1 }) (f0':=.int next 0) (i':=i+1) hit1 (by decide) rfl fun h2 hit2 hb2=>?_)
 exact wpAny_pure ⟨_,rfl,q h2 hit2 (hb1.trans hb2)⟩
theorem qe {I S:Addr}{slot i n ep:Nat}{es:Array (Int×Value)}{t:SetTable}{Q:Option Value→Shared→Prop} (hh:A.handled=none) (hit:SIt s.heap I (.int slot 0) i S n ep) (hS:SAt s.heap S es ep t) (hf:t.fits es.size=true) (hn:es.size=n)
  (hx:∀ (Q':Option (Value×Nat)→Shared→Prop) (E':Value→Shared→Prop),Q' none s→wpAny (model prog w) A.in1 (setNext S slot i ep) Q' E' s)
  (q:∀ h',Heap.ExtBut I s.heap h'→Q none { s with heap:=h' }):wpAny (model prog w) A (pyNext (.ref I)) Q E s:=by
 refine jo hit ?_
 obtain⟨o,f1,f2,f3⟩:=id hit
 obtain⟨oS,e1,e2,e3⟩:=hS
 unfold Builtin.«set_iterator.__next__»
 refine wpAny_bind (wpAny_pure (wpAny_bind (wpAny_fieldsOf f1 f3 ?_)))
 show wpAny _ _ (setEntries S >>= _) _ _ _
 refine wpAny_bind (wpAny_setEntries_of e1 e3 hf ?_)
 dsimp only
 rw[if_neg (by rw[hn];simp)]
 refine wpAny_bind (m:=setNext S _ _ _) (hx _ _ ?_)
 dsimp only
 refine wpAny_bind (wpAny_setField f1 f3 (show 2<5 by decide) ?_)
 exact qc (I:=I) hh fun h' hb=>q h' fun b o hb' e=>hb b o hb' ((Heap.SameBut.update ..).extBut b o hb' e)
theorem x6 {I S a2:Addr}{place i n ep:Nat}{tk:Tok}{es:Array (Int×Value)}{t:SetTable}{x:Int×Value}{o2:Obj}{pl:Array Value}{n2:Nat}{Q:Option Value→Shared→Prop} (hit:SIt s.heap I (.ref a2) i S n ep) (hS:SAt s.heap S es ep t) (hf:t.fits es.size=true) (hn:es.size=n)
  (h2:s.heap.get? a2=some o2) (d2:o2.data=.seq pl n2) (hp:pl[i]?=some (.int place tk)) (hx:es[place]?=some x)
  (q:∀ h',SIt h' I (.ref a2) (i+1) S n ep→Heap.SameBut I s.heap h'→Q (some x.2) { s with heap:=h' }):wpAny (model prog w) A (pyNext (.ref I)) Q E s:=by
 refine jo hit ?_
 obtain⟨o,f1,f2,f3⟩:=id hit
 obtain⟨oS,e1,e2,e3⟩:=hS
 unfold Builtin.«set_iterator.__next__»
 refine wpAny_bind (wpAny_pure (wpAny_bind (wpAny_fieldsOf f1 f3 ?_)))
 show wpAny _ _ (setEntries S >>= _) _ _ _
 refine wpAny_bind (wpAny_setEntries_of e1 e3 hf ?_)
 dsimp only
 rw[if_neg (by rw[hn];simp)]
 show wpAny _ _ (seqItems? (.ref a2) >>= _) _ _ _
 refine wpAny_bind (wpAny_seqItems h2 d2 ?_)
 dsimp only
 rw[Int.toNat_natCast,hp]
 dsimp only
 show wpAny _ _ (setNextDrawn S _ _ >>= _) _ _ _
 unfold setNextDrawn
 refine wpAny_bind (wpAny_bind (wpAny_setState_of e1 e3 hf ?_))
 dsimp only
 rw[if_neg (by simp),Int.toNat_natCast,hx]
 dsimp only
 refine wpAny_pure ?_
 refine wpAny_bind (jp (f0':=.ref a2) (i':=i+1) hit (by decide) rfl fun h1 hit1 hb1=>?_)
 exact wpAny_pure ⟨_,rfl,q h1 hit1 hb1⟩
theorem x8 {I S a2:Addr}{i n ep:Nat}{es:Array (Int×Value)}{t:SetTable}{o2:Obj}{pl:Array Value}{n2:Nat}{Q:Option Value→Shared→Prop} (hh:A.handled=none) (hit:SIt s.heap I (.ref a2) i S n ep) (hS:SAt s.heap S es ep t) (hf:t.fits es.size=true) (hn:es.size=n)
  (h2:s.heap.get? a2=some o2) (d2:o2.data=.seq pl n2) (hp:pl[i]?=none)
  (q:∀ h',Heap.ExtBut I s.heap h'→Q none { s with heap:=h' }):wpAny (model prog w) A (pyNext (.ref I)) Q E s:=by
 refine jo hit ?_
 obtain⟨o,f1,f2,f3⟩:=id hit
 obtain⟨oS,e1,e2,e3⟩:=hS
 unfold Builtin.«set_iterator.__next__»
 refine wpAny_bind (wpAny_pure (wpAny_bind (wpAny_fieldsOf f1 f3 ?_)))
 show wpAny _ _ (setEntries S >>= _) _ _ _
 refine wpAny_bind (wpAny_setEntries_of e1 e3 hf ?_)
 dsimp only
 rw[if_neg (by rw[hn];simp)]
 show wpAny _ _ (seqItems? (.ref a2) >>= _) _ _ _
 refine wpAny_bind (wpAny_seqItems h2 d2 ?_)
 dsimp only
 rw[Int.toNat_natCast,hp]
 dsimp only
 refine wpAny_bind (jp (f0':=.int 0 0) (i':=i) hit (by decide) rfl fun h1 hit1 hb1=>?_)
 obtain⟨o',g1,g2,g3⟩:=hit1
 refine wpAny_bind (wpAny_setField (s:={ s with heap:=h1 }) g1 g3 (show 2<5 by decide) ?_)
 exact qc (I:=I) hh fun h' hb=>q h' fun b o hb' e=>hb b o hb' ((Heap.SameBut.update ..).extBut b o hb' (hb1.extBut b o hb' e))
end
noncomputable def cG (val:Nat→List Im):Nat→List (List Im)
 | 0=>[]
 | i+1=>bS (cG val i) (val i)
theorem bf.fresh {w:World}{P:List Im→Addr→Prop}{h:Heap} (led:Bool):bf w P (h.push (dF led)) h.objs.size led []:=
 ⟨_,#[],0,_,Heap.get?_push_size _ rfl,⟨rfl,rfl,rfl⟩,rfl,⟨[],rfl,.nil,fun z hz=>(List.not_mem_nil hz).elim⟩,⟨List.Pairwise.nil,rfl,rfl⟩,⟨.inl rfl,rfl,show 0 * 5<7 * 3 by decide,fun j hj=>(List.not_mem_nil hj).elim,fun p hp=>(List.not_mem_nil hp).elim⟩,List.nodup_nil⟩
theorem bf.at {w:World}{P:List Im→Addr→Prop}{h h':Heap}{a:Addr}{led:Bool}{ks:List (List Im)} (S:bf w P h a led ks) (k:∀ o,h.get? a=some o→h'.get? a=some o):bf w P h' a led ks:=by
 obtain⟨o,es,ep,t,ho,r⟩:=S
 exact⟨o,es,ep,t,k o ho,r⟩
section
variable {prog:Program}{w:World}{P:List Im→Addr→Prop}{A:Around}{E:Value→Shared→Prop}{s:Shared}
theorem x9 {R:Result→Shared→Prop}{I S:Addr}{fp wr:List Addr}{n:Nat}{Pi:Nat→Value→Prop}{St:Nat→Heap→Prop}{led:Bool}{h0:Heap} (hu:A.units+25<cLine) (W:Walks prog w A.in1 I fp wr n Pi St) (hSf:S∉fp)
  (val:Nat→List Im) (hval:∀ i v,Pi i v→∃ b,v=.ref b∧P (val i) b) (hPi:∀ q b,P q b→(bh prog w).is h0 q b) (hw:∀ b o,h0.get? b=some o→b∉wr) (hS0:∀ u items m,h0.get? S=some u→u.data=.seq items m→False) (hN:∀ i,i<n→(cG val i).length+1≤300):
  ∀ (k i:Nat) (s:Shared),n - i=k→i≤n→iB h0 s.heap→St i s.heap→bf w P s.heap S led (cG val i)→
   (∀ h' tk,(∀ b o,b≠S→b∉wr→s.heap.get? b=some o→h'.get? b=some o)→bf w P h' S led (cG val n)→R (.ok (.ret .none)) { s with heap:=h',toks:=tk })→
   codeAny (model prog w) A (.builtin "set.update.loop" ⟨[.ref S,.ref I],[]⟩) R s:=by
 have hSw:S∉wr:=fun h=>hSf (W.sub _ h)
 intro k
 induction k with
 | zero=>
  intro i s hk hi T hst hS hR
  have hin:i=n:=by lia
  subst hin
  refine codeAny_builtin PyProof.Rows.F.entry_set_update_loop ?_
  rw[Around.under_plainId PyProof.Rows.F.plain_set_update_loop _]
  show wpAny _ A.in1 (pyNext (.ref I) >>= _) _ _ s
  refine wpAny_bind (W.done s _ _ hst fun h' tk hm=>?_)
  show wpAny _ A.in1 (ret Value.none) _ _ _
  exact wpAny_pure (hR h' tk (fun b o _ hw e=>hm b o hw e) (hS.at fun o e=>hm S o hSw e))
 | succ k ih=>
  intro i s hk hi T hst hS hR
  have hlt:i<n:=by lia
  refine codeAny_builtin PyProof.Rows.F.entry_set_update_loop ?_
  rw[Around.under_plainId PyProof.Rows.F.plain_set_update_loop _]
  show wpAny _ A.in1 (pyNext (.ref I) >>= _) _ _ s
  refine wpAny_bind (W.item i s _ _ hlt hst fun v h1 tk1 hP hst' hm=>?_)
  obtain⟨x,rfl,hPx⟩:=hval i v hP
  have T1:iB h0 h1:=fun b o items m e1 e2 e3=>hm b o (hw b o e1) (T b o items m e1 e2 e3)
  have hPi1:∀ q b,P q b→(bh prog w).is h1 q b:=fun q b z=>⟨(hPi q b z).1,(hPi q b z).2.keep T1⟩
  show wpAny _ A.in1 (holding [Value.ref x] (setAdd S (.ref x)) >>= _) _ _ _
  refine wpAny_bind (wpAny_holding ?_)
  unfold setAdd
  refine wpAny_holding ?_
  refine wpAny_bind ((bh prog w).pyHash (k:=val i) (show A.units+1+10<cLine by lia) (hPi1 _ _ hPx) ?_)
  refine xS (s:={ s with heap:=h1,toks:=_ }) (show A.units+1+20<cLine by lia) (hS.at fun o e=>hm S o hSw e) (hPi1 _ _ hPx) hPx hPi1 (hN i hlt) fun b h2 hsb hS2=>?_
  refine wpAny_pure ⟨plainId_quiet PyProof.Rows.F.plain_set_update_loop _,ih (i+1) _ (by lia) hlt (fun b o items m e1 e2 e3=>?_) (W.frame _ h1 h2 hst' fun b hb o e=>?_) hS2 fun h3 tk3 hk3 hS3=>?_⟩
  ·show h2.get? b=some o
   rw[hsb.2 b (fun h:b=S=>hS0 o items m (h ▸ e1) e3)]
   exact T1 b o items m e1 e2 e3
  ·rw[hsb.2 b (fun h:b=S=>hSf (by rw[← h];exact hb))];exact e
  ·refine hR h3 tk3 (fun b o hb hw e=>hk3 b o hb hw ?_) hS3
   show h2.get? b=some o
   rw[hsb.2 b hb];exact hm b o hw e
end
section
variable {prog:Program}{w:World}{P:List Im→Addr→Prop}{A:Around}{E:Value→Shared→Prop}{s:Shared}
set_option maxHeartbeats 3200000 in
theorem ya {l S:Addr}{items:Array Value}{ks:List (List Im)}{Q:Value→Shared→Prop}{o:Obj}{nl:Nat}{led:Bool} (hh:A.handled=none) (hol:s.heap.get? l=some o) (hcl:o.cls=.type "tuple") (hdl:o.data=.seq items nl)
  (hu:A.units+28<cLine) (hi:∀ i v,items[i]?=some v→∃ b,v=.ref b∧P (ks.getD i []) b) (hPi:∀ q b,P q b→(bh prog w).is s.heap q b) (hb:∀ i,i<items.size→(cG (fun i=>ks.getD i []) i).length+1≤300) (hne:l≠S) (hS:s.heap.get? S=some (dF led)) (hS0:bf w P s.heap S led [])
  (h:∀ h' tk,bf w P h' S led (cG (fun i=>ks.getD i []) items.size)→(∀ b o,b≠S→s.heap.get? b=some o→h'.get? b=some o)→Q .none { s with heap:=h',toks:=tk }):
  wpAny (model prog w) A (Builtin.«set.__init__» ⟨[.ref S,.ref l],[]⟩) (fun fin s'=>∃ r,fin=.done (.ret r)∧Q r s') E s:=by
 obtain⟨ocls,odict,odata,oslots⟩:=o
 simp only at hcl hdl
 subst hcl;subst hdl
 have hsls:=xT
 have hslf:=xU
 have hne1:(Value.type "tuple" == Value.type "dict")=false:=by decide
 unfold dF at hS
 have hl1:s.heap.IsTuple l items:=⟨_,hol,rfl,nl,rfl⟩
 unfold Builtin.«set.__init__» noKeywords Builtin.Frozenset.updateFrom
 generalize hPI:pyIter=PI
 wp_walk
 subst hPI
 refine wpAny_pyIter_tuple hl1 ?_
 refine wpAny_bind (wpAny_runValue ?_)
 have hlS:l<s.heap.objs.size:=Heap.lt_size hol
 have hSS:S<s.heap.objs.size:=Heap.lt_size hS
 have hh1:A.in1.handled=none:=by simp[hh]
 refine x9 (led:=led) (P:=P) (h0:=s.heap) (show A.units+25<cLine by lia) (Walks.tuple hh1 _ l (Nat.ne_of_lt hlS) items) ?_ (fun i=>ks.getD i []) hi hPi ?_ ?_ hb (items.size - 0) 0 _ (by lia) (Nat.zero_le _) ?_ ⟨⟨_,Heap.get?_push_size _ rfl,rfl,rfl⟩,?_⟩ ?_ fun h' tk hk hS'=>?_
 ·simp only[List.mem_cons,List.not_mem_nil,or_false,not_or]
  exact⟨Nat.ne_of_lt hSS,fun e=>hne e.symm⟩
 ·intro b o e
  rw[List.mem_singleton]
  exact Nat.ne_of_lt (Heap.lt_size e)
 ·intro u items m e1 e2
  rw[hS] at e1
  cases e1
  cases e2
 ·intro b o items m e1 e2 e3
  exact Heap.get?_push_of_some _ e1
 ·obtain⟨o,ho,r⟩:=hl1
  exact⟨o,Heap.get?_push_of_some _ ho,r⟩
 ·exact hS0.at fun o e=>Heap.get?_push_of_some _ e
 ·show wpAny _ _ _ _ _ _
  refine wpAny_pure ?_
  show wpAny _ _ (ret Value.none) _ _ _
  refine wpAny_pure ⟨_,rfl,h h' tk hS' fun b o hb e=>hk b o hb ?_ (Heap.get?_push_of_some _ e)⟩
  rw[List.mem_singleton]
  exact Nat.ne_of_lt (Heap.lt_size e)
set_option maxHeartbeats 3200000 in
theorem yb {l:Addr}{items:Array Value}{ks:List (List Im)}{Q:Value→Shared→Prop}{o:Obj}{nl:Nat} (hh:A.handled=none) (hol:s.heap.get? l=some o) (hcl:o.cls=.type "tuple") (hdl:o.data=.seq items nl)
  (hu:A.units+30<cLine) (hi:∀ i v,items[i]?=some v→∃ b,v=.ref b∧P (ks.getD i []) b) (hPi:∀ q b,P q b→(bh prog w).is s.heap q b) (hb:∀ i,i<items.size→(cG (fun i=>ks.getD i []) i).length+1≤300)
  (h:∀ h' tk,bf w P h' s.heap.objs.size (ca w) (cG (fun i=>ks.getD i []) items.size)→(∀ b o,s.heap.get? b=some o→h'.get? b=some o)→Q (.ref s.heap.objs.size) { s with heap:=h',toks:=tk }):
  wpAny (model prog w) A (call (.type "set") [.ref l]) Q E s:=by
 obtain⟨c,tl,hmro⟩:=PySem.F.called_set.mro
 have hmade:=PySem.F.called_set.made
 have hsub:=PySem.F.called_set.sub
 refine wpAny_call (codeAny_of_tree ?_)
 show wpAny _ _ (callAny (.type "set") _) _ _ _
 refine wpAny_pure ⟨Code.quiet_builtin _ (by decide +kernel),codeAny_builtin F.entry_type_call ?_⟩
 rw[Around.under_plain (weight_type_call_type "set" [.ref l] []) rfl]
 have h1:=PySem.F.called_set.notType
 have h2:=PySem.F.called_set.canCreate
 have hct:=PySem.F.typeCall_set_1 (.ref l)
 repeat (any_goals (first | assumption | wp_step))
 refine codeAny_mono (xV (.ref l) (E:=E) (Q₁:=fun obj s₁=>obj=.ref s.heap.objs.size∧s₁={ s with heap:=s.heap.push (dF (ca w)) }) ⟨rfl,rfl⟩) fun r s₁ hr=>?_
 cases r with
 | error e=>exact hr
 | ok fl=>
  cases fl with
  | ret obj=>
   obtain⟨rfl,rfl⟩:=hr
   have hS:(s.heap.push (dF (ca w))).get? s.heap.objs.size=some (dF (ca w)):=Heap.get?_push_size _ rfl
   have hT:Shared.TypeIs { s with heap:=s.heap.push (dF (ca w)) } (.ref s.heap.objs.size) "set" := ⟨_,hS,rfl⟩
   have hli:=PySem.F.called_set.init.lookup
   have hbi:=PySem.F.called_set.init.bind (.ref s.heap.objs.size)
   repeat (any_goals (first | assumption | wp_step))
   refine codeAny_mono (codeAny_call_builtin (R:=wants (fun r s₂=>r=.none∧∃ h' tk,s₂={ s with heap:=h',toks:=tk }∧
     bf w P h' s.heap.objs.size (ca w) (cG (fun i=>ks.getD i []) items.size)∧(∀ b o,s.heap.get? b=some o→h'.get? b=some o)) E) PySem.F.called_set.init.plain PySem.F.entry_set_init (check_set_init_1 hT ?_)) fun r₂ s₂ hr₂=>?_
   ·refine wpAny_mono (ya (s:={ s with heap:=s.heap.push (dF (ca w)) }) (by simp[hh]) (Heap.get?_push_of_some _ hol) hcl hdl (by show A.in1.in1.units+28<cLine;show A.units+1+1+28<cLine;lia) hi (fun q b z=>⟨(hPi q b z).1,(hPi q b z).2.keep fun b o _ _ e _ _=>Heap.get?_push_of_some _ e⟩) hb (Nat.ne_of_lt (Heap.lt_size hol)) hS (bf.fresh _) (Q:=fun r s₂=>r=.none∧∃ h' tk,s₂={ s with heap:=h',toks:=tk }∧
     bf w P h' s.heap.objs.size (ca w) (cG (fun i=>ks.getD i []) items.size)∧(∀ b o,s.heap.get? b=some o→h'.get? b=some o)) fun h' tk hS' hk=>⟨rfl,h',tk,rfl,hS',fun b o e=>hk b o (Nat.ne_of_lt (Heap.lt_size e)) (Heap.get?_push_of_some _ e)⟩) (fun fin s' hq=>?_) fun _ _ e=>e
    obtain⟨r,rfl,hq⟩:=hq
    exact hq
   ·cases r₂ with
    | error e=>exact hr₂
    | ok fl₂=>
     cases fl₂ with
     | ret r=>
      obtain⟨rfl,h',tk,rfl,hS',hk'⟩:=hr₂
      repeat (any_goals (first | assumption | wp_step))
      exact h _ _ hS' hk'
     | _=>exact hr₂.elim
  | _=>exact hr.elim
end
section
variable {prog:Program}{w:World}{A:Around}{E:Value→Shared→Prop}{s:Shared}
theorem qf {α:Type} (next:Nat→Nat):∀ (fuel k:Nat) (left:List α) (out:Array α),left.length=fuel→(pickOrder.go next fuel k left out).toList.Perm (out.toList++left)
 | 0,k,left,out,h=>by
  have e:left=[]:=List.eq_nil_of_length_eq_zero h
  subst e
  unfold pickOrder.go
  rw[List.append_nil]
 | fuel+1,k,left,out,h=>by
  unfold pickOrder.go
  have hi:next k % left.length<left.length:=Nat.mod_lt _ (by rw[h];exact Nat.succ_pos _)
  rw[List.getElem?_eq_getElem hi]
  dsimp only
  refine (qf next fuel (k+1) _ _ (by rw[List.length_eraseIdx_of_lt hi,h];rfl)).trans ?_
  rw[Array.toList_push,List.append_assoc]
  exact List.Perm.append_left _ (lM _ _ hi)
theorem yc {α:Type} (next:Nat→Nat) (xs:Array α):(pickOrder next xs).toList.Perm xs.toList:=qf next xs.size 0 xs.toList #[] (by rw[Array.length_toList])
theorem jq {Q:Bool→Shared→Prop} (h:Q (w.params.followText "set-order") s):wpAny (model prog w) A setsByText Q E s:=by
 unfold setsByText
 exact wpAny_bind (wpAny_askSetting (wpAny_pure h))
theorem qg {S:Addr}{slot i g ep:Nat}{es:Array (Int×Value)}{t:SetTable}{Q:Option (Value×Nat)→Shared→Prop} (hS:SAt s.heap S es ep t) (hf:t.fits es.size=true) (hbt:w.params.followText "set-order" = false) (hdr:(!t.plain && decide (es.size > 1))=false) (hl:t.led=true) (hb:SetTable.below t.place slot=i)
  (q:Q (match es[i]?,t.place[i]? with | some (_,x),some j=>some (x,j+1) | _,_=>none) s):wpAny (model prog w) A (setNext S slot g ep) Q E s:=by
 obtain⟨o,e1,e2,e3⟩:=hS
 unfold setNext
 refine wpAny_bind (wpAny_setState_of e1 e3 hf ?_)
 dsimp only
 refine wpAny_bind (jq ?_)
 rw[hbt,if_neg Bool.false_ne_true]
 show wpAny _ _ (if (!t.plain && decide (es.size > 1))=true then _ else _) _ _ _
 rw[hdr,if_neg Bool.false_ne_true]
 show wpAny _ _ ((if (!t.led && !es.isEmpty)=true then (unsupported "set:maker-not-led" : Sem Unit) else pure ()) >>= _) _ _ _
 rw[hl]
 refine wpAny_bind (m:=pure ()) (wpAny_pure ?_)
 rw[hb]
 exact wpAny_pure q
theorem qh {S:Addr}{slot g ep:Nat}{es:Array (Int×Value)}{t:SetTable}{Q:Option (Value×Nat)→Shared→Prop} (hS:SAt s.heap S es ep t) (hf:t.fits es.size=true) (hbt:w.params.followText "set-order" = true)
  (q:Q (((pickOrder (w.params.setOrder S ep) es)[g]?).map fun e=>(e.2,slot)) s):wpAny (model prog w) A (setNext S slot g ep) Q E s:=by
 obtain⟨o,e1,e2,e3⟩:=hS
 unfold setNext
 refine wpAny_bind (wpAny_setState_of e1 e3 hf ?_)
 dsimp only
 refine wpAny_bind (jq ?_)
 rw[hbt,if_pos rfl,if_neg (by simp)]
 unfold setWalk
 refine wpAny_bind (wpAny_bind (wpAny_setState_of e1 e3 hf ?_))
 dsimp only
 refine wpAny_bind (jq ?_)
 rw[hbt,if_pos rfl]
 exact wpAny_bind (wpAny_askSetting (wpAny_pure (wpAny_pure q)))
theorem lN {I S:Addr}{f0:Value}{i n ep:Nat}{Q:Value→Shared→Prop} (hit:SIt s.heap I f0 i S n ep) (q:Q (.ref I) s):wpAny (model prog w) A (pyIter (.ref I)) Q E s:=by
 refine wpAny_pyIter_slot hit.ty p8 (wpAny_call_entry p8 hit.ty x0 ?_ (xZ _))
 show wpAny _ _ (ret (.ref I)) _ _ s
 exact wpAny_pure ⟨_,rfl,"set_iterator",_,hit.ty,ik.lookup,q⟩
noncomputable def lO (place:Array Nat):Nat→Nat
 | 0=>0
 | i+1=>place.getD i 0+1
theorem qi {place:Array Nat} (r:b9 place):∀ {i:Nat},i≤place.size→SetTable.below place (lO place i)=i
 | 0,_=>xz r
 | i+1,h=>by
  have e:place[i]?=some (place.getD i 0):=by simp[Array.getD,show i<place.size from h]
  exact xy r e
noncomputable def dm (es:Array (Int×Value)):List Value:=es.toList.map (·.2)
theorem jr (es:Array (Int×Value)):(dm es).length=es.size:=by rw[dm,List.length_map,Array.length_toList]
theorem yd {I S:Addr}{ep:Nat}{es:Array (Int×Value)}{t:SetTable} (hh:A.handled=none) (ne:S≠I) (hf:t.fits es.size=true) (hbt:w.params.followText "set-order" = false) (hdr:(!t.plain && decide (es.size > 1))=false) (hl:t.led=true) (r:b9 t.place):
  Walks prog w A I [I,S] [I] (dm es).length (fun i v=>(dm es)[i]?=some v) (fun i h=>SIt h I (.int (lO t.place i) 0) i S es.size ep∧SAt h S es ep t) where
 sub:=fun b hb=>by
  have:b=I:=by simpa using hb
  simp[this]
 frame:=fun i h h' st k=>⟨st.1.go (k I (by simp)),st.2.go (k S (by simp))⟩
 item:=fun i s Q E hi st hQ=>by
  rw[jr] at hi
  have hp:t.place.size=es.size:=by
   simp only[SetTable.fits,Bool.and_eq_true,beq_iff_eq] at hf
   exact hf.1
  have e1:es[i]?=some es[i]:=Array.getElem?_eq_getElem hi
  have e2:t.place[i]?=some (t.place.getD i 0):=by simp[Array.getD,show i<t.place.size by lia]
  have hv:(dm es)[i]?=some es[i].2:=by rw[dm,List.getElem?_map,Array.getElem?_toList,e1];rfl
  refine qd (next:=lO t.place (i+1)) (x:=es[i].2) st.1 st.2 hf rfl (fun Q' E' q=>qg st.2 hf hbt hdr hl (qi r (by lia)) ?_) fun h' a b=>hQ _ h' s.toks hv ⟨a,st.2.go fun o e=>b.extBut S o ne e⟩ fun c o hc e=>b.extBut c o (by simpa using hc) e
  rw[e1,e2]
  exact q
 done:=fun s Q E st hQ=>by
  rw[jr] at st
  have hp:t.place.size=es.size:=by
   simp only[SetTable.fits,Bool.and_eq_true,beq_iff_eq] at hf
   exact hf.1
  refine qe hh st.1 st.2 hf rfl (fun Q' E' q=>qg st.2 hf hbt hdr hl (qi r (by lia)) ?_) fun h' b=>hQ h' s.toks fun c o hc e=>b c o (by simpa using hc) e
  rw[Array.getElem?_eq_none (Nat.le_refl _)]
  exact q
 self:=fun i s Q E st hQ=>lN st.1 hQ
theorem ye {I S:Addr}{ep:Nat}{es:Array (Int×Value)}{t:SetTable} (hh:A.handled=none) (ne:S≠I) (hf:t.fits es.size=true) (hbt:w.params.followText "set-order" = true):
  Walks prog w A I [I,S] [I] (dm (pickOrder (w.params.setOrder S ep) es)).length (fun i v=>(dm (pickOrder (w.params.setOrder S ep) es))[i]?=some v) (fun i h=>SIt h I (.int (0:Nat) 0) i S es.size ep∧SAt h S es ep t) where
 sub:=fun b hb=>by
  have:b=I:=by simpa using hb
  simp[this]
 frame:=fun i h h' st k=>⟨st.1.go (k I (by simp)),st.2.go (k S (by simp))⟩
 item:=fun i s Q E hi st hQ=>by
  rw[jr] at hi
  have e1:(pickOrder (w.params.setOrder S ep) es)[i]?=some (pickOrder (w.params.setOrder S ep) es)[i]:=Array.getElem?_eq_getElem hi
  have hv:(dm (pickOrder (w.params.setOrder S ep) es))[i]?=some (pickOrder (w.params.setOrder S ep) es)[i].2:=by rw[dm,List.getElem?_map,Array.getElem?_toList,e1];rfl
  refine qd (next:=0) (x:=(pickOrder (w.params.setOrder S ep) es)[i].2) st.1 st.2 hf rfl (fun Q' E' q=>qh st.2 hf hbt ?_) fun h' a b=>hQ _ h' s.toks hv ⟨a,st.2.go fun o e=>b.extBut S o ne e⟩ fun c o hc e=>b.extBut c o (by simpa using hc) e
  rw[e1]
  exact q
 done:=fun s Q E st hQ=>by
  rw[jr] at st
  refine qe hh st.1 st.2 hf rfl (fun Q' E' q=>qh st.2 hf hbt ?_) fun h' b=>hQ h' s.toks fun c o hc e=>b c o (by simpa using hc) e
  rw[Array.getElem?_eq_none (Nat.le_refl _)]
  exact q
 self:=fun i s Q E st hQ=>lN st.1 hQ
noncomputable def ft (ps:List Nat):List Value:=ps.map fun (i:Nat)=>rawInt i
noncomputable def dq (es:Array (Int×Value)) (ps:List Nat):List Value:=ps.filterMap fun i=>es[i]?.map (·.2)
theorem qj {es:Array (Int×Value)}:∀ {ps:List Nat},(∀ p∈ps,p<es.size)→∀ (i:Nat) (h:i<ps.length),∃ x,es[ps[i]]?=some x∧(dq es ps)[i]?=some x.2
 | [],_,i,h=>by cases h
 | p::ps,hp,i,h=>by
  have hp1:p<es.size:=hp p (.head _)
  have e:es[p]?=some es[p]:=Array.getElem?_eq_getElem hp1
  have e2:dq es (p::ps)=es[p].2::dq es ps:=by rw[dq,List.filterMap_cons_some (b:=es[p].2) (by rw[e];rfl)];rfl
  rw[e2]
  cases i with
  | zero=>exact⟨es[p],e,rfl⟩
  | succ i=>
   obtain⟨x,h1,h2⟩:=qj (fun p h=>hp p (.tail _ h)) i (Nat.lt_of_succ_lt_succ h)
   exact⟨x,h1,h2⟩
theorem lP {es:Array (Int×Value)}:∀ {ps:List Nat},(∀ p∈ps,p<es.size)→(dq es ps).length=ps.length
 | [],_=>rfl
 | p::ps,hp=>by
  have hp1:p<es.size:=hp p (.head _)
  have e:es[p]?=some es[p]:=Array.getElem?_eq_getElem hp1
  rw[dq,List.filterMap_cons_some (b:=es[p].2) (by rw[e];rfl),List.length_cons,List.length_cons]
  exact congrArg (·+1) (lP fun p h=>hp p (.tail _ h))
theorem yf {I S a2:Addr}{ep:Nat}{es:Array (Int×Value)}{t:SetTable}{ps:List Nat}{n2:Nat} (hh:A.handled=none) (ne:S≠I) (ne2:a2≠I) (hf:t.fits es.size=true) (hp:∀ p∈ps,p<es.size):
  Walks prog w A I [I,S,a2] [I] (dq es ps).length (fun i v=>(dq es ps)[i]?=some v) (fun i h=>SIt h I (.ref a2) i S es.size ep∧SAt h S es ep t∧∃ o,h.get? a2=some o∧o.data=.seq (ft ps).toArray n2) where
 sub:=fun b hb=>by
  have:b=I:=by simpa using hb
  simp[this]
 frame:=fun i h h' st k=>⟨st.1.go (k I (by simp)),st.2.1.go (k S (by simp)),let ⟨o,e,r⟩:=st.2.2;⟨o,k a2 (by simp) o e,r⟩⟩
 item:=fun i s Q E hi st hQ=>by
  obtain⟨st1,st2,o,e,r⟩:=st
  rw[lP hp] at hi
  obtain⟨x,h1,h2⟩:=qj hp i hi
  refine x6 (x:=x) (place:=ps[i]) (tk:=0) st1 st2 hf rfl e r ?_ h1 fun h' a b=>hQ _ h' s.toks h2 ⟨a,st2.go fun o e=>b.extBut S o ne e,o,b.extBut a2 o ne2 e,r⟩ fun c o hc e=>b.extBut c o (by simpa using hc) e
  rw[List.getElem?_toArray,ft,List.getElem?_map,List.getElem?_eq_getElem hi]
  rfl
 done:=fun s Q E st hQ=>by
  obtain⟨st1,st2,o,e,r⟩:=st
  refine x8 hh st1 st2 hf rfl e r ?_ fun h' b=>hQ h' s.toks fun c o hc e=>b c o (by simpa using hc) e
  rw[List.getElem?_toArray,ft,List.getElem?_map,List.getElem?_eq_none (by rw[lP hp];exact Nat.le_refl _)]
  rfl
 self:=fun i s Q E st hQ=>lN st.1 hQ
end
section
variable {prog:Program}{w:World}{A:Around}{E:Value→Shared→Prop}{s:Shared}
theorem yg {r:Addr}{Q:Bool→Shared→Prop} (hT:s.TypeIs (.ref r) "set") (h:Q false s):wpAny (model prog w) A (Builtin.List.listLengthHint (.ref r)) Q E s:=by
 unfold Builtin.List.listLengthHint
 refine wpAny_bind (wpAny_specialOf hT PySem.F.slot_set_len.lookup ?_)
 generalize hid:("set.__len__" : String)=id0
 wp_delta
 rw[show splitId id0=some ("set","__len__") from by subst hid;decide +kernel]
 subst hid
 refine wpAny_bind (wpAny_isInstance (T := "set") (b:=true) hT (by rw[isSubtype_type];kernel_rfl) ?_)
 refine wpAny_ite_split (fun hab=>absurd hab (by decide)) (fun _=>?_)
 refine wpAny_ite_split (fun _=>?_) (fun hab=>absurd (by decide +kernel) hab)
 refine wpAny_bind (wpAny_typeOf hT ?_)
 exact wpAny_pure h
theorem yh {es:Array (Int×Value)}{ps:List Nat} (hp:ps.Perm (List.range es.size)):dq es ps=(ps.filterMap fun i=>es[i]?).map (·.2)∧(ps.filterMap fun i=>es[i]?).Perm es.toList:=by
 refine⟨?_,(hp.filterMap _).trans (by rw[filterMap_getElem?_range])⟩
 rw[List.map_filterMap]
 rfl
end
section
variable {prog:Program}{w:World}{A:Around}{E:Value→Shared→Prop}{s:Shared}
end
theorem yi {α β:Type}{f:α→β}:∀ {l' l:List β},l'.Perm l→∀ zs:List α,zs.map f=l→∃ zs':List α,zs'.Perm zs∧zs'.map f=l':=by
 intro l' l p
 induction p with
 | nil=>intro zs e;cases List.map_eq_nil_iff.mp e;exact⟨[],.nil,rfl⟩
 | cons x p ih=>
  intro zs e
  obtain⟨a,r,rfl,rfl,e2⟩:=List.map_eq_cons_iff.mp e
  obtain⟨zs',p1,p2⟩:=ih r e2
  exact⟨a::zs',p1.cons a,by rw[List.map_cons,p2]⟩
 | swap x y l=>
  intro zs e
  obtain⟨a,r,rfl,rfl,e2⟩:=List.map_eq_cons_iff.mp e
  obtain⟨b,r2,rfl,rfl,e3⟩:=List.map_eq_cons_iff.mp e2
  exact⟨b::a::r2,.swap a b r2,by rw[List.map_cons,List.map_cons,e3]⟩
 | trans p1 p2 ih1 ih2=>
  intro zs e
  obtain⟨z2,q1,q2⟩:=ih2 zs e
  obtain⟨z1,q3,q4⟩:=ih1 z2 q2
  exact⟨z1,q3.trans q1,q4⟩
theorem qk {w:World}{P:List Im→Addr→Prop}:∀ zs:List (List Im×Int×Value),(∀ z∈zs,jn w P z)→∃ ws:List (List Im×Addr),zs.map (fun z=>z.2.2)=ws.map (fun z=>Value.ref z.2)∧ws.map (·.1)=zs.map (·.1)∧∀ z∈ws,P z.1 z.2
 | [],_=>⟨[],rfl,rfl,fun _ h=>(List.not_mem_nil h).elim⟩
 | z::zs,h=>by
  obtain⟨b,e1,e2,e3⟩:=h z (.head _)
  obtain⟨ws,w1,w2,w3⟩:=qk zs fun z hz=>h z (.tail _ hz)
  refine⟨(z.1,b)::ws,by rw[List.map_cons,List.map_cons,w1,e1],by rw[List.map_cons,List.map_cons,w2],fun y hy=>?_⟩
  rcases List.mem_cons.mp hy with rfl | hy
  ·exact e3
  ·exact w3 y hy
section
variable {prog:Program}{w:World}{P:List Im→Addr→Prop}{A:Around}{E:Value→Shared→Prop}{s:Shared}
theorem yj {S:Addr}{ks:List (List Im)}{Q:Value→Shared→Prop} (hh:A.handled=none) (hS:bf w P s.heap S (ca w) ks) (hz:ks.length≤300)
  (h:∀ (h1:Heap) (d:_) (I:Addr) (fp:List Addr) (vs:List Value) (ws:List (List Im×Addr)) (St:Nat→Heap→Prop),(∀ b o,s.heap.get? b=some o→h1.get? b=some o)→s.heap.objs.size≤I→(∀ b∈fp,b=S∨s.heap.objs.size≤b)→
   Walks prog w A I fp [I] vs.length (fun i v=>vs[i]?=some v) St→St 0 h1→vs=ws.map (fun z=>Value.ref z.2)→(ws.map (·.1)).Perm ks→(∀ z∈ws,P z.1 z.2)→Q (.ref I) { s with heap:=h1,drawn:=d }):
  wpAny (model prog w) A (pyIter (.ref S)) Q E s:=by
 obtain⟨o,es,ep,t,e1,e2,e3,D⟩:=hS
 have ty:s.TypeIs (.ref S) "set" := ⟨o,e1,e2.1⟩
 have hSl:S<s.heap.objs.size:=Heap.lt_size e1
 have hsz:es.size≤sizeLine:=by rw[D.num];exact Nat.le_trans hz (by decide)
 have give:∀ l:List (Int×Value),l.Perm es.toList→∃ ws:List (List Im×Addr),l.map (·.2)=ws.map (fun z=>Value.ref z.2)∧(ws.map (·.1)).Perm ks∧∀ z∈ws,P z.1 z.2:=fun l pl=>by
  obtain⟨zs,z1,z2,z3⟩:=D.els
  obtain⟨zs',p1,p2⟩:=yi pl zs z1
  obtain⟨ws,w1,w2,w3⟩:=qk (w:=w) (P:=P) zs' fun z hz=>z3 z (p1.mem_iff.mp hz)
  refine⟨ws,?_,?_,w3⟩
  ·rw[← p2,List.map_map];exact w1
  ·rw[w2];exact (p1.map _).trans z2
 refine wpAny_pyIter_slot ty PySem.F.slot_set_iter (wpAny_call_entry PySem.F.slot_set_iter ty xY ?z (PySem.F.args_set_iter_1 _))
 case z=>
  unfold Builtin.«frozenset.__iter__» Builtin.Frozenset.slot0 Builtin.Frozenset.addrOf Builtin.Frozenset.sizeOf
  refine wpAny_bind (wpAny_bind (wpAny_pure (wpAny_pure ?_)))
  refine wpAny_bind (wpAny_bind (wpAny_setEntries_of e1 e3 D.fit (wpAny_pure ?_)))
  refine wpAny_bind ?_
  unfold setDrawn
  refine wpAny_bind (wpAny_setState_of e1 e3 D.fit ?_)
  dsimp only
  refine wpAny_bind (jq (wpAny_pure ?_))
  have fin0:w.params.followText "set-order" = true∨(!t.plain && decide (es.size > 1))=false→
    wpAny (model prog w) A.in1 (do let ep ← setEpoch S;let r ← newFields "set_iterator" [rawInt 0,rawInt 0,.ref S,rawInt es.size,rawInt ep];ret r) (fun fin s'=>∃ r,fin=PySem.Fin.done (.ret r)∧∃ T' q,s'.TypeIs r T'∧typeLookup (.type T') "__next__" = pure (some q)∧Q r s') E s:=by
   intro hc
   refine wpAny_bind (wpAny_setEpoch_of e1 e3 D.fit (wpAny_bind (wpAny_newObj_type (wpAny_pure ⟨_,rfl,"set_iterator",_,⟨_,Heap.get?_push_size _ rfl,rfl⟩,ik.lookup,?_⟩))))
   have kp:∀ b o,s.heap.get? b=some o→(s.heap.push { cls:=.type "set_iterator",dict:=none,data:=.fields [rawInt 0,rawInt 0,.ref S,rawInt es.size,rawInt ep].toArray }).get? b=some o:=fun b o e=>Heap.get?_push_of_some _ e
   have sit:SIt (s.heap.push { cls:=.type "set_iterator",dict:=none,data:=.fields [rawInt 0,rawInt 0,.ref S,rawInt es.size,rawInt ep].toArray }) s.heap.objs.size (.int (0:Nat) 0) 0 S es.size ep:=⟨_,Heap.get?_push_size _ rfl,rfl,rfl⟩
   have sat:SAt (s.heap.push { cls:=.type "set_iterator",dict:=none,data:=.fields [rawInt 0,rawInt 0,.ref S,rawInt es.size,rawInt ep].toArray }) S es ep t:=⟨o,kp _ _ e1,e2,e3⟩
   have fp:∀ b∈[s.heap.objs.size,S],b=S∨s.heap.objs.size≤b:=fun b hb=>by
    rcases List.mem_cons.mp hb with rfl | hb
    ·exact .inr (Nat.le_refl _)
    ·exact .inl (List.mem_singleton.mp hb)
   cases hbt:w.params.followText "set-order" with
   | true=>
    have hp:=yc (w.params.setOrder S ep) es
    obtain⟨ws,w1,w2,w3⟩:=give _ hp
    exact h _ s.drawn _ _ _ _ _ kp (Nat.le_refl _) fp (ye hh (Nat.ne_of_lt hSl) D.fit hbt) ⟨sit,sat⟩ w1 w2 w3
   | false=>
    have hdr:=hc.resolve_left (by rw[hbt];exact Bool.false_ne_true)
    obtain⟨ws,w1,w2,w3⟩:=give _ (.refl _)
    exact h _ s.drawn _ _ _ _ _ kp (Nat.le_refl _) fp (yd hh (Nat.ne_of_lt hSl) D.fit hbt hdr (by rw[D.tab.led,ca,hbt];rfl) D.tab.rise) ⟨sit,sat⟩ w1 w2 w3
  show wpAny _ _ (if (!w.params.followText "set-order" && (!t.plain && decide (es.size > 1)))=true then _ else _) _ _ _
  cases hd:(!w.params.followText "set-order" && (!t.plain && decide (es.size > 1))) with
  | false=>
   rw[if_neg Bool.false_ne_true]
   refine wpAny_bind (m:=pure (rawInt 0)) (wpAny_pure (fin0 ?_))
   cases hbt:w.params.followText "set-order" with
   | true=>exact .inl rfl
   | false=>rw[hbt] at hd;exact .inr hd
  | true=>
   rw[if_pos rfl]
   refine wpAny_bind (p9 es.size (List.range es.size) s _ List.length_range fun d ps hp=>?_)
   have hps:∀ p∈ps,p<es.size:=fun p h=>List.mem_range.mp (hp.mem_iff.mp h)
   have hlp:ps.length=es.size:=by rw[hp.length_eq,List.length_range]
   refine wpAny_bind (m:=newObj (.type "tuple") (.seq (ft ps).toArray)) (wpAny_newObj_type ?_ (show (ft ps).toArray.size≤sizeLine by rw[List.size_toArray,ft,List.length_map,hlp];exact hsz))
   refine wpAny_bind (wpAny_setEpoch_of (Heap.get?_push_of_some _ e1) e3 D.fit (wpAny_bind (wpAny_newObj_type (wpAny_pure ⟨_,rfl,"set_iterator",_,⟨_,Heap.get?_push_size _ rfl,rfl⟩,ik.lookup,?_⟩))))
   obtain⟨q1,q2⟩:=yh hp
   obtain⟨ws,w1,w2,w3⟩:=give _ q2
   have hI:({ s with heap:=s.heap.push { cls:=.type "tuple",dict:=none,data:=.seq (ft ps).toArray },drawn:=d }:Shared).heap.objs.size=s.heap.objs.size+1:=Heap.size_push ..
   refine h _ d _ [_,S,s.heap.objs.size] (dq es ps) ws _ (fun b o e=>Heap.get?_push_of_some _ (Heap.get?_push_of_some _ e)) ?_ ?_ (yf (ep:=ep) (t:=t) (n2:=0) hh ?_ ?_ D.fit hps) ⟨⟨_,Heap.get?_push_size _ rfl,rfl,rfl⟩,⟨o,Heap.get?_push_of_some _ (Heap.get?_push_of_some _ e1),e2,e3⟩,⟨_,Heap.get?_push_of_some _ (Heap.get?_push_size _ rfl),rfl⟩⟩ (q1.trans w1) w2 w3
   ·exact Nat.le_of_lt (by rw[Heap.size_push];exact Nat.lt_succ_self _)
   ·intro b hb
    rcases List.mem_cons.mp hb with rfl | hb
    ·exact .inr (by rw[Heap.size_push];exact Nat.le_succ _)
    ·rcases List.mem_cons.mp hb with rfl | hb
     ·exact .inl rfl
     ·exact .inr (by rw[List.mem_singleton.mp hb];exact Nat.le_refl _)
   ·rw[Heap.size_push];exact Nat.ne_of_lt (Nat.lt_succ_of_lt hSl)
   ·rw[Heap.size_push];exact Nat.ne_of_lt (Nat.lt_succ_self _)
theorem yk {S:Addr}{ks:List (List Im)}{Q:List Value→Shared→Prop} (hh:A.handled=none) (hS:bf w P s.heap S (ca w) ks) (hl:ks.length≤300)
  (h:∀ (h':Heap) (tk:Nat) (d:_) (ws:List (List Im×Addr)),(∀ b o,s.heap.get? b=some o→h'.get? b=some o)→(ws.map (·.1)).Perm ks→(∀ z∈ws,P z.1 z.2)→Q (ws.map fun z=>Value.ref z.2) { s with heap:=h',toks:=tk,drawn:=d }):
  wpAny (model prog w) A (collect (.ref S)) Q E s:=by
 have hSl:S<s.heap.objs.size:=let ⟨_,_,_,_,e,_⟩:=hS;Heap.lt_size e
 unfold collect
 refine wpAny_bind (wpAny_runValue (codeAny_builtin entry_proto_collect' ?_))
 rw[Around.under_plainId PySem.F.plain_proto_collect _]
 show wpAny _ A.in1 (newList [] >>= fun l=>again (.builtin "list.__iadd__" ⟨[l,.ref S],[]⟩)) _ _ s
 refine wpAny_bind (wpAny_newObj_type ?_)
 refine wpAny_pure ⟨plainId_quiet PySem.F.plain_list_iadd _,codeAny_builtin entry_list_iadd' ?_⟩
 rw[Around.under_plainId PySem.F.plain_list_iadd _]
 generalize hH:s.heap.push { cls:=.type "list",dict:=none,data:=.seq ([]:List Value).toArray }=H1
 have kH:∀ b o,s.heap.get? b=some o→H1.get? b=some o:=fun b o e=>by rw[← hH];exact Heap.get?_push_of_some _ e
 have hB:H1.get? s.heap.objs.size=some { cls:=.type "list",dict:=none,data:=.seq #[] }:=by rw[← hH];exact Heap.get?_push_size _ rfl
 have hBl:s.heap.objs.size<H1.objs.size:=Heap.lt_size hB
 have hS1:bf w P H1 S (ca w) ks:=hS.at fun o e=>kH S o e
 have ty:Shared.TypeIs { s with heap:=H1 } (.ref S) "set" := let ⟨o,_,_,_,e,x,_⟩:=hS1;⟨o,e,x.1⟩
 show wpAny _ A.in1 (Builtin.List.listExtendWith (.ref s.heap.objs.size) (.ref S) (.ref s.heap.objs.size)) _ _ _
 unfold Builtin.List.listExtendWith
 refine wpAny_bind (wpAny_typeOf (T := "set") ty ?_)
 have h1:Builtin.List.listSameRef (.ref s.heap.objs.size) (.ref S)=false:=by simp[Builtin.List.listSameRef,Nat.ne_of_gt hSl]
 have h2:(Value.type "set" == Value.type "list")=false:=by decide
 have h3:(Value.type "set" == Value.type "tuple")=false:=by decide
 simp only[h1,h2,h3,Bool.or_false,Bool.false_eq_true,if_false]
 refine wpAny_bind (yj (s:={ s with heap:=H1 }) hh hS1 hl fun h2 d I fp vs ws St k2 hI hfp W st ev pm iv=>?_)
 have hn:vs.length≤sizeLine:=by rw[ev,List.length_map,← List.length_map (f:=(·.1)),pm.length_eq];exact Nat.le_trans hl (by decide)
 have hBf:s.heap.objs.size∉fp:=fun hm=>by
  rcases hfp _ hm with e | e
  ·exact absurd e (Nat.ne_of_gt hSl)
  ·exact absurd hBl (Nat.not_lt.mpr e)
 have hS2:h2.get? s.heap.objs.size=some { cls:=.type "list",dict:=none,data:=.seq #[] }:=k2 _ _ hB
 have ty2:Shared.TypeIs { s with heap:=h2,drawn:=d } (.ref S) "set" := let ⟨o,e,c⟩:=ty;⟨o,k2 _ _ e,c⟩
 have key:∀ (hp:Heap) (c:Nat) (R:Result→Shared→Prop),St 0 hp→(∀ b o,b≠s.heap.objs.size→h2.get? b=some o→hp.get? b=some o)→hp.get? s.heap.objs.size=some { cls:=.type "list",dict:=none,data:=.seq #[] c }→
   (∀ (h':Heap) (tk:Nat) (c':Nat),(∀ b o,s.heap.get? b=some o→h'.get? b=some o)→h'.get? s.heap.objs.size=some { cls:=.type "list",dict:=none,data:=.seq vs.toArray c' }→R (.ok (.ret (.ref s.heap.objs.size))) { s with heap:=h',toks:=tk,drawn:=d })→
   codeAny (model prog w) A (.builtin "list.extend.loop" ⟨[.ref s.heap.objs.size,.ref I,.ref s.heap.objs.size],[]⟩) R { s with heap:=hp,drawn:=d }:=fun hp c R st kp hB' hR=>
  codeAny_extend_loopS W.toS hn s.heap.objs.size hBf (.ref s.heap.objs.size) vs.length 0 _ #[] c rfl (Nat.zero_le _) st hB' (ItemsOf.nil _) fun s' acc c' hm hB2 hacc=>by
   rw[show s'={ s with heap:=s'.heap,toks:=s'.toks,drawn:=d } from by obtain⟨_,hg,hd2,ho,_⟩:=hm;cases s';cases hg;cases hd2;cases ho;rfl]
   have ea:acc=vs.toArray:=by
    apply Array.toList_inj.mp
    apply List.ext_getElem
    ·rw[Array.length_toList];exact hacc.1
    ·intro i g1 g2
     have:=hacc.2 i acc.toList[i] (by rw[← Array.getElem?_toList];exact List.getElem?_eq_getElem g1)
     have this:vs[i]?=some acc.toList[i]:=this
     rw[List.getElem?_eq_getElem g2] at this
     exact (Option.some.inj this).symm
   rw[ea] at hB2
   refine hR s'.heap s'.toks c' (fun b o e=>hm.heap b o (fun hmem=>?_) (kp b o (Nat.ne_of_lt (Heap.lt_size e)) (k2 b o (kH b o e)))) hB2
   rcases List.mem_cons.mp hmem with e' | hmem
   ·exact absurd (Heap.lt_size e) (by rw[e'];exact Nat.lt_irrefl _)
   ·have e3:=Heap.lt_size e
    rw[List.mem_singleton.mp hmem] at e3
    have:s.heap.objs.size≤I:=Nat.le_trans (Nat.le_of_lt hBl) hI
    exact absurd e3 (Nat.not_lt.mpr this)
 refine wpAny_bind (wpAny_holding (yg (s:={ s with heap:=h2,drawn:=d }) ty2 ?_))
 refine wpAny_ite_split (fun _=>?_) (fun _=>wpAny_pure ⟨plainId_quiet PySem.F.plain_extend_loop _,key _ 0 _ st (fun b o _ e=>e) hS2 fun h' tk c' k3 hB3=>wpAny_bind (wpAny_load hB3 (wpAny_pure (by rw[ev];exact h h' tk d ws k3 pm iv)))⟩)
 refine wpAny_bind (wpAny_rule ?_)
 refine wpAny_bind ?_
 show wpAny _ _ (updateSeq s.heap.objs.size (·.push .none) >>= fun _=>updateSeq s.heap.objs.size (·.pop)) _ _ _
 refine wpAny_bind (wpAny_updateSeq (s:={ s with heap:=h2,drawn:=d }) hS2 rfl ?_)
 have hS3:=Heap.get?_update_self (Obj.mapSeq (·.push Value.none)) hS2 rfl
 refine wpAny_updateSeq (hz:=by seq_fits) hS3 rfl ?_
 have hS4:=Heap.get?_update_self (Obj.mapSeq (·.pop)) hS3 rfl
 refine wpAny_pure ⟨plainId_quiet PySem.F.plain_extend_loop _,key _ _ _ ?_ (fun b o hb e=>?_) hS4 fun h' tk c' k3 hB3=>wpAny_bind (wpAny_load hB3 (wpAny_pure (by rw[ev];exact h h' tk d ws k3 pm iv)))⟩
 ·refine W.frame 0 _ _ st fun b hb o e=>?_
  have hbS:b≠s.heap.objs.size:=fun h=>hBf (h ▸ hb)
  exact (Heap.get?_update_other _ _ (Ne.symm hbS)).trans ((Heap.get?_update_other _ _ (Ne.symm hbS)).trans e)
 ·exact (Heap.get?_update_other _ _ (Ne.symm hb)).trans ((Heap.get?_update_other _ _ (Ne.symm hb)).trans e)
end
end L2
namespace L2
open PySem PySem.Spec PyProof.Rows PySem.W
section
variable {X:Cx}{pins:List (Addr×Obj)}{σ:St}{H:Hp}{s:Shared}
theorem Inv.drawnAny (I:Inv X pins σ H s) (d:Drawn):Inv X pins σ H { s with drawn:=d }:=⟨I.ok,I.os,I.bare,I.base,I.loc,I.cell,I.free,I.freeC,I.pin,I.hok,I.len⟩
end
section
variable {X:Cx}
end
theorem SrtOk.perm {ds es:List Im} (o:SrtOk ds) (p:es.Perm ds):SrtOk es:=
 ⟨⟨by rw[p.length_eq];exact o.ord.few,fun a ha b hb=>o.ord.like a (p.mem_iff.mp ha) b (p.mem_iff.mp hb),p.nodup_iff.mpr o.ord.nd⟩,o.fst.imp (fun h d hd=>h d (p.mem_iff.mp hd)) fun h d hd=>h d (p.mem_iff.mp hd)⟩
theorem ql {H:Hp}:∀ {ws:List (List Im×Addr)},(∀ z∈ws,IsI H (.tup z.1) (.ref z.2))→aj H ((ws.map (·.1)).map .tup) (ws.map fun z=>V.ref z.2)
 | [],_=>rfl
 | z::ws,h=>⟨_,_,rfl,h z (.head _),ql fun y hy=>h y (.tail _ hy)⟩
theorem lQ:∀ ws:List (List Im×Addr),am (ws.map fun z=>V.ref z.2) (ws.map fun z=>Value.ref z.2)
 | []=>.nil
 | z::ws=>.cons rfl (lQ ws)
section
variable {X:Cx}{pins:List (Addr×Obj)}{σ:St}{H:Hp}{s:Shared}{P:List Im→Addr→Prop}
theorem yl (hc:X.calm=true) (hu:X.A.units+20<cLine) {S:Addr}{ks:List (List Im)}{Q:VK} (I:Inv X pins σ H s) (hS:bf X.w P s.heap S (ca X.w) ks) (hP:∀ k b,P k b→IsI H (.tup k) (.ref b)) (o:SrtOk (ks.map .tup)) (hz:ks.length≤300)
  (q:∀ l zs,H l=none→aj H (bm ltM (ks.map .tup)) zs→Q (.ref l) (upd H l (.lst zs))):
  wpAny (model X.prog X.w) X.A (call (.builtin "sorted") [.ref S]) (EP X pins σ Q) X.xe s:=by
 refine Calls.call_function_entry kind_sorted plain_sorted entry_sorted (args_sorted1 _) ?z
 case z=>
  unfold Builtin.«sorted»
  refine wpAny_bind (m:=checkCount "sorted" 1 1 _) (wpAny_pure (wpAny_bind (yk (A:=X.A.in1) (I.ok.hd hc) hS hz fun h' tk d ws hkp pm hw=>?_)))
  have I1:Inv X pins σ H { s with heap:=h',toks:=tk,drawn:=d }:=(I.drawnAny d).kept (t':=tk) hkp
  have hi:aj H ((ws.map (·.1)).map .tup) (ws.map fun z=>V.ref z.2):=ql fun z hz=>hP _ _ (hw z hz)
  have iv:aD h' ((ws.map (·.1)).map .tup) (ws.map fun z=>Value.ref z.2):=hi.imv I1.hok (lQ ws)
  have pm2:((ws.map (·.1)).map Im.tup).Perm (ks.map .tup):=pm.map _
  have o2:=o.perm pm2
  have lw:ws.length≤300:=by rw[← List.length_map (f:=(·.1)),pm.length_eq];exact hz
  generalize hds:(ws.map (·.1)).map Im.tup=ds at hi iv pm2 o2
  generalize hys:ws.map (fun z=>V.ref z.2)=ys at hi
  have rv:am ys (ws.map fun z=>Value.ref z.2):=hys ▸ lQ ws
  generalize hits:ws.map (fun z=>Value.ref z.2)=its at iv rv ⊢
  have li:its.length=ds.length:=iv.length.symm
  have lz:its.length≤300:=by rw[← hits,List.length_map];exact lw
  show wpAny _ _ (newList its >>= _) _ _ _
  refine wpAny_bind (wpAny_newList ?_ (Nat.le_trans lz (by decide)))
  have oB:(h'.push (seqObj "list" its.toArray 0)).get? h'.objs.size=some (seqObj "list" its.toArray 0):=Heap.get?_push_size _ rfl
  refine wpAny_bind (wpAny_holding (wpAny_call_entry slot_list_sort ⟨_,oB,rfl⟩ entry_list_sort ?y (args_list_sort _)))
  case y=>
   have kall:∀ h6:Heap,(∀ b ob,b≠h'.objs.size→(h'.push (seqObj "list" its.toArray 0)).get? b=some ob→h6.get? b=some ob)→∀ b ob,h'.get? b=some ob→h6.get? b=some ob:=fun h6 k6 b ob e=>k6 b ob (Nat.ne_of_lt (Heap.lt_size e)) (Heap.get?_push_of_some _ e)
   refine kO (s:={ s with heap:=h'.push (seqObj "list" its.toArray 0),toks:=tk,drawn:=d }) (dl ds) (tuples' (decide (∀ d∈ds,cq d=true))) oB (fun h2 h6 k6 Q hq=>lr (h:=h6) (s:={ s with heap:=h6,toks:=tk,drawn:=d }) o2 h2 (iv.keepAll (kall h6 k6)) _ _ Q hq) (fun h6 k6=>?_) (by rw[li];exact jh o2.ord) (.inl (by lia)) (by lia) fun p h2 r1 r2 k2 ⟨e9,oB2⟩=>⟨_,rfl,wpAny_pure ⟨_,rfl,?_⟩⟩
   ·refine lq (s:={ s with heap:=h6,toks:=tk,drawn:=d }) o2.ord (iv.keepAll (kall h6 k6)) o2.tup (fun hb=>of_decide_eq_true hb) (by show X.A.units+1+1+9<cLine;lia)
   ·have fB:H h'.objs.size=none:=I1.hok.fresh (Nat.le_refl _)
    rw[li] at r1 r2
    have e1:(p.toList.map fun i=>ds.getD i .non)=bm ltM (ks.map .tup):=ji o.ord ((jb r1).trans pm2) (upM o2.ord r1 r2)
    have hp:=hi.pick (p:=p.toList) fun k hk=>List.mem_range.mp (r1.mem_iff.mp hk)
    rw[e1] at hp
    refine⟨.ref h'.objs.size,upd H h'.objs.size (.lst (p.toList.map fun i=>ys.getD i .non)),?_,rfl,q _ _ fB hp⟩
    refine I1.laid (t':=tk) (fun b u e=>kall h2 k2 b u e) (Nat.le_refl _) ⟨?_,_,e9,?_,oB2⟩
    ·rw[List.length_map,Array.length_toList,r1.size]
     exact Nat.le_trans (by lia:ds.length≤300) (by decide)
    ·refine jc (by simp) fun i v u h1 h2=>?_
     rw[List.getElem?_map] at h1 h2
     cases hpi:p.toList[i]? with
     | none=>rw[hpi] at h1;cases h1
     | some k=>
      rw[hpi] at h1 h2
      cases h1
      cases h2
      have hk:k<ds.length:=List.mem_range.mp (r1.mem_iff.mp (List.mem_of_getElem? hpi))
      have hk2:k<ys.length:=by rw[rv.length,li];exact hk
      obtain⟨u,h3,h4⟩:=rv.get (i:=k) (x:=ys[k]) (List.getElem?_eq_getElem hk2)
      show ao (ys.getD k .non) (its.getD k .none)
      rw[List.getD_eq_getElem?_getD,List.getElem?_eq_getElem hk2,List.getD_eq_getElem?_getD,h3]
      exact h4
noncomputable def bb (ks:List (List Im)):List (List Im):=ks.foldl bS []
theorem lR (ks:List (List Im)):∀ i,i≤ks.length→cG (fun i=>ks.getD i []) i=(ks.take i).foldl bS []
 | 0,_=>by rw[List.take_zero];rfl
 | i+1,h=>by
  rw[List.take_succ_eq_append_getElem (show i<ks.length from h),List.foldl_append,← lR ks i (Nat.le_of_succ_le h)]
  show bS _ (ks.getD i [])=bS _ ks[i]
  rw[List.getD_eq_getElem?_getD,List.getElem?_eq_getElem (show i<ks.length from h)]
  rfl
theorem ym (l:List (List Im)):∀ (acc:List (List Im)) (x:List Im),x∈l.foldl bS acc↔x∈acc∨x∈l:=by
 induction l with
 | nil=>intro acc x;simp
 | cons k r ih=>
  intro acc x
  rw[List.foldl_cons,ih]
  unfold bS
  by_cases hk:k∈acc
  ·rw[if_pos hk,List.mem_cons]
   constructor
   ·rintro (h | h)
    ·exact .inl h
    ·exact .inr (.inr h)
   ·rintro (h | h | h)
    ·exact .inl h
    ·exact .inl (h ▸ hk)
    ·exact .inr h
  ·rw[if_neg hk,List.mem_append,List.mem_singleton,List.mem_cons,or_assoc]
theorem yn {ks:List (List Im)}{x:List Im}:x∈bb ks↔x∈ks:=by
 rw[bb,ym]
 simp
theorem yo (l:List (List Im)):∀ acc:List (List Im),acc.Nodup→(l.foldl bS acc).Nodup:=by
 induction l with
 | nil=>intro acc h;exact h
 | cons k r ih=>
  intro acc h
  refine ih _ ?_
  unfold bS
  split
  ·exact h
  ·next hn=>exact List.nodup_append.mpr ⟨h,List.pairwise_singleton _ k,fun x hx y hy=>by cases List.mem_singleton.mp hy;exact fun e=>hn (e ▸ hx)⟩
theorem yp (ks:List (List Im)):(bb ks).Nodup:=yo ks [] List.nodup_nil
theorem yq (l:List (List Im)):∀ acc:List (List Im),acc.length≤(l.foldl bS acc).length:=by
 induction l with
 | nil=>intro acc;exact Nat.le_refl _
 | cons k r ih=>
  intro acc
  refine Nat.le_trans ?_ (ih _)
  unfold bS
  split
  ·exact Nat.le_refl _
  ·rw[List.length_append];exact Nat.le_add_right _ _
theorem yr {ks:List (List Im)}{i:Nat} (h:i≤ks.length):(cG (fun i=>ks.getD i []) i).length≤(bb ks).length:=by
 rw[lR ks i h]
 have e:bb ks=(ks.drop i).foldl bS ((ks.take i).foldl bS []):=by
  rw[bb,← List.foldl_append,List.take_append_drop]
 rw[e]
 exact yq _ _
theorem yt (ks:List (List Im)):cG (fun i=>ks.getD i []) ks.length=bb ks:=by
 rw[lR ks _ (Nat.le_refl _),List.take_length]
 rfl
noncomputable def yu (ta:TA):TE:=fun σ H Q=>ta σ H fun vs H1=>∃ (a:Addr) (ks:List (List Im)) (ys:List V),vs=[.ref a]∧H1 a=some (.tup ys)∧aj H1 (ks.map .tup) ys∧(∀ k∈ks,Im.keys 7 k=true)∧SrtOk ((bb ks).map .tup)∧(bb ks).length<300∧
 ∀ l zs,H1 l=none→aj H1 (bm ltM ((bb ks).map .tup)) zs→Q (.ref l) (upd H1 l (.lst zs))
theorem aj.at {H:Hp}:∀ {ds:List Im}{vs:List V}{i:Nat}{v:V},aj H ds vs→vs[i]?=some v→∃ d,ds[i]?=some d∧IsI H d v
 | [],vs,i,v,h,e=>by rw[show vs=[] from h] at e;simp at e
 | d::ds,vs,0,v,h,e=>by
  obtain⟨u,r,rfl,h1,h2⟩:=h
  cases e
  exact⟨d,rfl,h1⟩
 | d::ds,vs,i+1,v,h,e=>by
  obtain⟨u,r,rfl,h1,h2⟩:=h
  obtain⟨d',e1,e2⟩:=aj.at (i:=i) h2 (by simpa using e)
  exact⟨d',by simpa using e1,e2⟩
theorem yv (hc:X.calm=true) (hu:X.A.units+30<cLine) {l:Addr}{ks:List (List Im)}{ys:List V}{Q:Value→Shared→Prop} (I:Inv X pins σ H s) (hl:H l=some (.tup ys)) (hi:aj H (ks.map .tup) ys) (hk:∀ k∈ks,Im.keys 7 k=true) (hz:(bb ks).length<300)
  (h:∀ h' tk S,Inv X pins σ H { s with heap:=h',toks:=tk }→bf X.w (fun k b=>Im.keys 7 k=true∧IsI H (.tup k) (.ref b)) h' S (ca X.w) (bb ks)→Q (.ref S) { s with heap:=h',toks:=tk }):
  wpAny (model X.prog X.w) X.A (call (.type "set") [.ref l]) Q X.xe s:=by
 obtain⟨z,its,rv,o,e1,e2,n,e3⟩:=I.hok l _ hl
 have li:its.length=ks.length:=by rw[← rv.length,← hi.length,List.length_map]
 have hb:its.toArray.size=ks.length:=by rw[List.size_toArray,li]
 refine yb (P:=fun k b=>Im.keys 7 k=true∧IsI H (.tup k) (.ref b)) (items:=its.toArray) (ks:=ks) (I.ok.hd hc) e1 e2 e3 hu (fun i v hv=>?_) (fun q b z=>⟨z.1,z.2.imv I.hok rfl⟩) (fun i hi=>?_) fun h' tk hS kp=>?_
 ·rw[List.getElem?_toArray] at hv
  have hi':i<ys.length:=by rw[rv.length];exact (List.getElem?_eq_some_iff.mp hv).1
  obtain⟨u,g1,g2⟩:=rv.get (i:=i) (x:=ys[i]) (List.getElem?_eq_getElem hi')
  rw[hv] at g1
  cases g1
  obtain⟨d,g3,g4⟩:=hi.at (i:=i) (v:=ys[i]) (List.getElem?_eq_getElem hi')
  rw[List.getElem?_map] at g3
  obtain⟨k,g5,rfl⟩:=Option.map_eq_some_iff.mp g3
  obtain⟨b,xs,g6,g7,g8⟩:=id g4
  rw[g6] at g2 g4
  refine⟨b,g2,?_⟩
  rw[List.getD_eq_getElem?_getD,g5]
  exact⟨hk k (List.mem_of_getElem? g5),g4⟩
 ·rw[hb] at hi
  have:=yr (ks:=ks) (Nat.le_of_lt hi)
  lia
 ·rw[hb,yt] at hS
  exact h h' tk _ (I.kept (t':=tk) kp) hS
theorem yw {a:Expr}{ta:TA}{p p2 pos pos2:Pos} (hc:X.calm=true) (hu:X.A.units+30<cLine) (hl:Gl X "sorted") (hlm:X.mg "sorted" = none) (hg:Gl X "set") (hm:X.mg "set" = none) (ha:PA X [a] ta) (hs:starEach [a] X.env=[(false,eval a X.env)]:=by rfl):
  PE X (.Call (.Name "sorted" p2) [.Call (.Name "set" p) [a] [] pos] [] pos2) (yu ta):=by
 intro pins s σ H Q I h
 refine wpAny_Call_Name_kw (eG I hl hlm (show bootBuiltins "sorted" = some (.builtin "sorted") by decide +kernel) (PyProof.Rows.callWith_builtin1 ?_ rfl rfl) (by decide) (by decide))
 refine Calls.spliced_cons ?_
 refine Call_ (eG I hg hm (show bootBuiltins "set" = some (.type "set") by decide +kernel) (PyProof.Rows.callWith_type1 (thn (ha pos pins s σ H _ I h) fun us s1 ⟨vs,H1,I1,r1,q1⟩=>?_) hs rfl))
 obtain⟨l,ks,ys,rfl,hl2,hi,hk,ho,hz,q⟩:=q1
 obtain⟨u,rfl,ru⟩:=cg r1
 cases ru
 exact yv hc hu I1 hl2 hi hk hz fun h' tk S I2 hS=>Calls.spliced_nil (yl hc (by lia) I2 hS (fun k b z=>z.2) ho (by lia) q)
end
noncomputable def tups?:List Im→Option (List (List Im))
 | []=>some []
 | .tup a::r=>(tups? r).map (a::·)
 | _=>none
theorem qm:∀ {x:List Im}{ks:List (List Im)},tups? x=some ks→x=ks.map .tup
 | [],ks,h=>by cases h;rfl
 | .tup a::r,ks,h=>by
  obtain⟨k,h1,rfl⟩:=Option.map_eq_some_iff.mp h
  rw[qm h1]
  rfl
 | .non::_,_,h=>by cases h
 | .bl _::_,_,h=>by cases h
 | .int _::_,_,h=>by cases h
 | .str _::_,_,h=>by cases h
 | .fn _::_,_,h=>by cases h
 | .fl _::_,_,h=>by cases h
 | .fd::_,_,h=>by cases h
theorem qo:∀ ks:List (List Im),tups? (ks.map .tup)=some ks
 | []=>rfl
 | k::ks=>by
  show (tups? (ks.map .tup)).map (k::·)=_
  rw[qo ks]
  rfl
noncomputable def js (ks:List (List Im)):Bool:=ks.all (Im.keys 7) && decide ((bb ks).length<300)
noncomputable def lS (g:M (List Opd)):M Vl:=fun D=>(g D).bind fun p=>(b6 p.2 p.1).bind fun ds=>match ds with
 | [.im (.tup x)]=>(tups? x).bind fun ks=>if js ks=true∧hV ((bb ks).map .tup)=true then some (.lst (bm ltM ((bb ks).map .tup)),p.2) else none
 | _=>none
theorem qp {ks:List (List Im)}:js ks=true↔(∀ k∈ks,Im.keys 7 k=true)∧(bb ks).length<300:=by
 unfold js
 rw[Bool.and_eq_true,List.all_eq_true,decide_eq_true_iff]
section
variable {X:Cx}
theorem yx {a:Expr}{g:M (List Opd)}{p p2 pos pos2:Pos} (hu:X.A.units+30<cLine) (hl:Gl X "sorted") (hlm:X.mg "sorted" = none) (hg:Gl X "set") (hm:X.mg "set" = none) (ha:VA X [a] g) (hs:starEach [a] X.env=[(false,eval a X.env)]:=by rfl) (hc:X.calm=true:=by rfl):
  VE X (.Call (.Name "sorted" p2) [.Call (.Name "set" p) [a] [] pos] [] pos2) (lS g):=by
 refine aR (yw hc hu hl hlm hg hm ha hs) fun σ H Q ⟨D,F,r,D',st,nd,hgg,q⟩=>?_
 obtain⟨⟨os,D1⟩,h1,h2⟩:=Option.bind_eq_some_iff.mp hgg
 obtain⟨ds,h3,h4⟩:=Option.bind_eq_some_iff.mp h2
 refine⟨D,F,os,D1,st,nd,h1,fun vs H1 F1 R1 st1 o1 s1=>?_⟩
 have rd:=o1.read st1 h3
 split at h4
 ·rename_i x
  obtain⟨ks,e1,e2⟩:=Option.bind_eq_some_iff.mp h4
  split at e2
  ·rename_i hn
   cases e2
   obtain⟨v,rfl,e⟩:=kn rd
   obtain⟨b,xs,rfl,hb,hi⟩:=(show ∃ a xs,v=V.ref a∧H1 a=some (.tup xs)∧aj H1 x xs from e)
   cases qm e1
   obtain⟨k1,k2⟩:=qp.mp hn.1
   refine⟨b,ks,xs,rfl,hb,hi,k1,jj.mp hn.2,k2,fun l zs fl hz=>?_⟩
   have s2:ax H1 (upd H1 l (.lst zs)):=(ax.refl H1).upd fl
   exact q _ _ F1 [l] (st1.mono s2.tupS fun a _ o e=>s2 a o e) ⟨l,_,rfl,bi,hz.mono s2.tupS.tup,rfl⟩ (s1.new s2 (List.pairwise_singleton _ _) (fun a ha=>by rw[List.mem_singleton.mp ha];exact fl) st1.chg)
  ·cases e2
 ·cases h4
end
end L2
namespace L2
open PySem PySem.Spec PyProof.Rows
noncomputable def vLtM:Op2:=fun a b=>match a,b with
 | .im x,.im y=>if bE 6 x y=true then some (.im (.bl (ltM x y))) else none
 | _,_=>none
noncomputable def vStr:OpN:=fun ds=>match ds with
 | [.im (.int i)]=>if i.natAbs<1000 then some (.im (.str (Str.ofString (toString i)))) else none
 | _=>none
section
variable {X:Cx}
theorem yy:cy X (.type "str") vStr:=by
 intro pins s σ H xs us Q I r ⟨ds,d,rd,e,q⟩
 unfold vStr at e
 split at e
 ·rename_i i
  split at e
  ·rename_i hi
   cases e
   obtain⟨v,rfl,h⟩:=bD rd
   cases (show v=_ from h.i)
   obtain⟨u,rfl,t,rfl⟩:=cg r
   refine PySem.P.str_of_int ?_ ⟨.str _,H,I.tok _,⟨_,rfl⟩,Out.i q rfl⟩
   exact Nat.lt_of_le_of_lt (Nat.log2_le_self _) (by lia)
  ·cases e
 ·cases e
theorem yz (hu:X.A.units+20<cLine):OpV X (compareOp .Lt) vLtM:=by
 intro pins s σ H x y v u Q I rx ry ⟨d1,d2,d,r1,r2,e,q⟩
 unfold vLtM at e
 split at e
 ·split at e
  ·rename_i hp
   cases e
   exact pg 6 hp (by lia) (r1.i.imv I.hok rx) (r2.i.imv I.hok ry) X.prog X.w _ _ ⟨.bl _,H,I,rfl,Out.i q rfl⟩
  ·cases e
 ·cases e
end
end L2
namespace G
open PySem L2
noncomputable def yA:MS:=(a0 (eB (bZ (kB (cZ "int" (oSl 0))) (kB (eB (bx (kB (cZ "bool" (oSl 0)))))))))
noncomputable def fu:Fn:=bA 1 1 [0] yA
noncomputable def qq:MS:=(a0 (eB (bZ (kB (cZ "tuple" (oSl 0))) (bZ (kB (af vEq (oV (aF vLen (ab (oSl 0) aNil))) (oV (eC (.int 2))))) (bZ (kB (av 1 G.fu (ab (oV (af vIx (oSl 0) (oV (eC (.int 0))))) aNil))) (kB (av 1 G.fu (ab (oV (af vIx (oSl 0) (oV (eC (.int 1))))) aNil))))))))
noncomputable def gr:Fn:=bA 1 1 [0] qq
noncomputable def qr:MS:=(a0 (eB (bZ (kB (av 1 G.gr (ab (oSl 0) aNil))) (bZ (kB (dD vLe vLe (oV (eC (.int 0))) (oV (af vIx (oSl 0) (oV (eC (.int 0))))) (oV (eC (.int 30))))) (kB (dD vLe vLe (oV (eC (.int 0))) (oV (af vIx (oSl 0) (oV (eC (.int 1))))) (oV (eC (.int 30)))))))))
noncomputable def fw:Fn:=bA 1 1 [0] qr
noncomputable def jt (f_is_cell:Addr):M Vl:=(kY 1 f_is_cell 1 G.fw (ab (oSl 0) aNil))
noncomputable def qt (f_is_cell:Addr):M Vl:=(af vLtM (oSl 0) (oSl 1))
noncomputable def qu (f_is_cell:Addr):MS:=(aq (sIf (kOr (bx (b8 (oV (cZ "tuple" (oSl 0))))) (bx (b8 (oV (aF vAll (ab (oV (cN 1 [1] (dZ (oSl 0)) (gN 0) kYes (G.jt f_is_cell))) aNil)))))) (a0 (eC (.bl false))) sNil) (a0 (aF vAll (ab (oV (cN 2 [] (iZ (ab (oSl 0) (ab (oV (eSl (oSl 0) (di (eC (.int 1))) pNone)) aNil))) (gT 2 (cz (gN 0) (cz (gN 1) gNil'))) kYes (G.qt f_is_cell))) aNil))))
noncomputable def il (f_is_cell:Addr):Fn:=bA 2 2 [0,1] (qu f_is_cell)
noncomputable def qv (f_is_cell:Addr):MS:=(a0 (av 2 (G.il f_is_cell) (ab (oSl 0) (ab (oV (eC (.fn f_is_cell))) aNil))))
noncomputable def er (f_is_cell:Addr):Fn:=bA 1 1 [0] (qv f_is_cell)
noncomputable def ju:MS:=(aq (ay 10 (aU (ab (oV (af vEq (oV (av 2 G.ba (ab (oSl 0) (ab (oV (eC (.int 2))) aNil)))) (oV (eC (.int 0))))) (ab (oV (af vGt (oV (av 2 G.ba (ab (oSl 0) (ab (oV (eC (.int 6))) aNil)))) (oV (eC (.int 0))))) (ab (oV (eC (.bl true))) aNil))))) (aq (gO (fk kL 10 mAppend (ab (oV (eB (kOr (kB (af vEq (oV (af vMod (oSl 8) (oV (eC (.int 2))))) (oV (eC (.int 0))))) (kB (af vEq (oSl 9) (oV (af vMod (oV (af vDiv (oSl 8) (oV (eC (.int 2))))) (oSl 3)))))))) aNil))) (aq (ay 10 (af vAdd (oSl 10) (oV (aU (ab (oV (eB (kOr (kB (af vIn (oSl 8) (oV (ar (ab (oV (eC (.int 0))) (ab (oV (af vSub (oSl 2) (oV (eC (.int 1))))) aNil)))))) (kB (af vIn (oSl 9) (oV (ar (ab (oV (eC (.int 0))) (ab (oV (af vSub (oSl 3) (oV (eC (.int 1))))) aNil))))))))) (ab (oV (eC (.bl false))) aNil)))))) (sIf (b8 (oV (af vIx (oSl 10) (oSl 6)))) (cK (eC (.bl true)) (gIx 7 (ar (ab (oV (af vAdd (oSl 8) (oSl 4))) (ab (oV (af vAdd (oSl 9) (oSl 5))) aNil))) putA)) sNil))))
noncomputable def jv:MS:=(cC (iR1 (ab (oSl 3) aNil)) (gN 9) G.ju)
noncomputable def io:MS:=(aq (cK (eC (.bl true)) (gIx 7 (ar (ab (oV (af vAdd (oSl 8) (oSl 4))) (ab (oV (af vAdd (oSl 9) (oSl 5))) aNil))) putA)) (aq (cK (av 2 G.cF (ab (oSl 0) (ab (oV (aU (ab (oV (ar (ab (oV (eC (.int 1))) (ab (oV (eC (.int 0))) aNil)))) (ab (oV (ar (ab (oV (eC (.int 0))) (ab (oV (eC (.int 1))) aNil)))) (ab (oV (ar (ab (oV (eC (.int 0))) (ab (oV (eC (.int 1))) aNil)))) (ab (oV (ar (ab (oV (fX (eC (.int 1)))) (ab (oV (eC (.int 0))) aNil)))) (ab (oV (ar (ab (oV (eC (.int 0))) (ab (oV (fX (eC (.int 1)))) aNil)))) (ab (oV (ar (ab (oV (eC (.int 1))) (ab (oV (eC (.int 0))) aNil)))) aNil)))))))) aNil))) (gT 2 (cz (gN 12) (cz (gN 13) gNil')))) (aq (ay 8 (aF vMin2 (ab (oV (af vSub (oSl 2) (oV (eC (.int 1))))) (ab (oV (aF vMax2 (ab (oV (eC (.int 0))) (ab (oV (af vAdd (oSl 8) (oSl 12))) aNil)))) aNil)))) (ay 9 (aF vMin2 (ab (oV (af vSub (oSl 3) (oV (eC (.int 1))))) (ab (oV (aF vMax2 (ab (oV (eC (.int 0))) (ab (oV (af vAdd (oSl 9) (oSl 13))) aNil)))) aNil)))))))
noncomputable def qw:MS:=(aq (ay 1 (eC (.int 8))) (aq (sIf (kB (af vEq (oV (av 2 G.ba (ab (oSl 0) (ab (oV (eC (.int 8))) aNil)))) (oV (eC (.int 0))))) (ay 1 (eC (.int 12))) sNil) (aq (fi 2 3 (ab (oV (af vAdd (oV (eC (.int 1))) (oV (av 2 G.ba (ab (oSl 0) (ab (oSl 1) aNil)))))) (ab (oV (af vAdd (oV (eC (.int 1))) (oV (av 2 G.ba (ab (oSl 0) (ab (oSl 1) aNil)))))) aNil))) (aq (fi 4 5 (ab (oV (av 2 G.cF (ab (oSl 0) (ab (oV (aU (ab (oV (eC (.int 0))) (ab (oV (eC (.int 0))) (ab (oV (eC (.int 1))) (ab (oV (af vSub (oV (eC (.int 31))) (oSl 2))) aNil)))))) aNil)))) (ab (oV (av 2 G.cF (ab (oSl 0) (ab (oV (aU (ab (oV (eC (.int 0))) (ab (oV (eC (.int 0))) (ab (oV (eC (.int 2))) (ab (oV (af vSub (oV (eC (.int 31))) (oSl 3))) aNil)))))) aNil)))) aNil))) (aq (ay 6 (av 2 G.ba (ab (oSl 0) (ab (oV (eC (.int 6))) aNil)))) (aq (ay 7 eDict0T) (aq (cC (iR1 (ab (oSl 2) aNil)) (gN 8) G.jv) (aq (cK (ar (ab (oV (eC (.int 0))) (ab (oV (eC (.int 0))) aNil))) (gT 2 (cz (gN 8) (cz (gN 9) gNil')))) (aq (cC (iR1 (ab (oV (af vMul (oV (eC (.int 40))) (oV (aF vInt (ab (oV (af vEq (oSl 6) (oV (eC (.int 5))))) aNil))))) aNil)) (gN 11) G.io) (a0 (aF vTuple (ab (oV (aF vSortM (ab (oSl 7) aNil))) aNil))))))))))))
noncomputable def ip:Fn:=bA 1 14 [0] qw
noncomputable def qx:MS:=(a0 (eB (bZ (kB (cZ "int" (oSl 0))) (bZ (kB (eB (bx (kB (cZ "bool" (oSl 0)))))) (kB (dD vLe vLt (oV (eC (.int 0))) (oSl 0) (oV (eC (.int 31)))))))))
noncomputable def et:Fn:=bA 1 1 [0] qx
noncomputable def fy:MS:=(aq (sIf (kOr (bx (b8 (oV (cZ "tuple" (oSl 1))))) (kB (af vNe (oV (aF vLen (ab (oSl 1) aNil))) (oV (eC (.int 2)))))) (a0 (eC (.bl false))) sNil) (sIf (kOr (bx (b8 (oV (av 1 G.et (ab (oV (af vIx (oSl 1) (oV (eC (.int 0))))) aNil))))) (bx (b8 (oV (av 1 G.et (ab (oV (af vIx (oSl 1) (oV (eC (.int 1))))) aNil)))))) (a0 (eC (.bl false))) sNil))
noncomputable def qy:MS:=(aq (sIf (bx (b8 (oV (cZ "tuple" (oSl 0))))) (a0 (eC (.bl false))) sNil) (aq (cC (dZ (oSl 0)) (gN 1) G.fy) (a0 (af vEq (oV (aF vList (ab (oSl 0) aNil))) (oV (lS (ab (oSl 0) aNil)))))))
noncomputable def iq:Fn:=bA 1 2 [0] qy
noncomputable def qz:MS:=(aq (ay 2 (av 2 G.ba (ab (oSl 0) (ab (oV (af vAdd (oV (aF vLen (ab (oSl 1) aNil))) (oV (eC (.int 1))))) aNil)))) (aq (cK (av 2 G.cF (ab (oSl 0) (ab (oV (af vAdd (oV (aF vList (ab (oSl 1) aNil))) (oV (aU (ab (oV (ar (ab (oV (eC (.int 3))) (ab (oV (eC (.int 4))) aNil)))) aNil))))) aNil))) (gT 2 (cz (gN 3) (cz (gN 4) gNil')))) (aq (ay 5 (aU (ab (oV (eFz (aU (ab (oSl 3) (ab (oSl 4) aNil))))) (ab (oV (ar (ab (oSl 3) aNil))) (ab (oV (ar (ab (oSl 3) (ab (oSl 4) (ab (oV (eC (.int 0))) aNil))))) (ab (oV (ar (ab (oSl 3) (ab (oV (eC (.int 31))) aNil)))) (ab (oV (ar (ab (oV (eC (.int 31))) (ab (oSl 4) aNil)))) aNil))))))) (aq (ay 5 (af vAdd (oSl 5) (oV (aU (ab (oV (ar (ab (oV (fX (eC (.int 1)))) (ab (oSl 4) aNil)))) (ab (oV (ar (ab (oSl 3) (ab (oV (fX (eC (.int 1)))) aNil)))) (ab (oV (eC .non)) (ab (oSl 3) (ab (oV (eC (.str "ab"))) aNil))))))))) (aq (ay 5 (af vAdd (oSl 5) (oV (aU (ab (oV (ar (ab (oV (eC (.bl true))) (ab (oSl 4) aNil)))) (ab (oV (ar (ab (oSl 3) (ab (oV (eC (.bl false))) aNil)))) (ab (oV (ar (ab (oV (aF vStr (ab (oSl 3) aNil))) (ab (oSl 4) aNil)))) (ab (oV (ar (ab (oSl 3) (ab (oV (eC .non)) aNil)))) aNil)))))))) (aq (ay 5 (af vAdd (oSl 5) (oV (aU (ab (oV (ar (ab (oV (ar (ab (oSl 3) (ab (oSl 4) aNil)))) aNil))) (ab (oV (ar (ab (oSl 3) (ab (oV (af vAdd (oSl 4) (oV (eC (.int 1))))) aNil)))) aNil)))))) (aq (ay 5 (af vAdd (oSl 5) (oV (aU (ab (oV (ar (ab (oSl 3) (ab (oSl 4) aNil)))) (ab (oV (ar (ab (oV (eC (.int 0))) (ab (oV (eC (.int 0))) aNil)))) (ab (oV (ar (ab (oV (eC (.int 30))) (ab (oV (eC (.int 30))) aNil)))) (ab (oV (ar (ab (oV (af vAdd (oSl 3) (oV (eC (.int 1))))) (ab (oSl 4) aNil)))) (ab (oV (eFz eDict0T)) aNil))))))))) (aq (ay 6 (av 2 G.cF (ab (oSl 0) (ab (oSl 5) aNil)))) (aq (ay 7 (aU (ab (oV (eFz (aF vList (ab (oSl 1) aNil)))) (ab (oV (oR (oSl 1))) (ab (oV (af vAdd (oSl 1) (oSl 1))) aNil))))) (aq (ay 7 (af vAdd (oSl 7) (oV (aU (ab (oV (af vAdd (oV (af vAdd (oV (eSl (oSl 1) pNone (di (cH 2)))) (oV (ar (ab (oSl 6) aNil))))) (oV (eSl (oSl 1) (di (cH 2)) pNone)))) aNil))))) (aq (ay 7 (af vAdd (oSl 7) (oV (aU (ab (oV (af vAdd (oV (af vAdd (oV (eSl (oSl 1) pNone (di (cH 2)))) (oV (ar (ab (oSl 6) aNil))))) (oV (eSl (oSl 1) (di (af vAdd (oSl 2) (oV (eC (.int 1))))) pNone)))) aNil))))) (aq (ay 7 (af vAdd (oSl 7) (oV (aU (ab (oV (ar (ab (oSl 1) aNil))) (ab (oV (eSl (oSl 1) (di (eC (.int 1))) pNone)) (ab (oV (af vAdd (oV (eSl (oSl 1) pNone (di (cH 2)))) (oV (eSl (oSl 1) (di (af vAdd (oSl 2) (oV (eC (.int 1))))) pNone)))) aNil))))))) (aq (ay 7 (af vAdd (oSl 7) (oV (aU (ab (oV (af vAdd (oSl 1) (oV (ar (ab (oSl 6) aNil))))) (ab (oV (ar (ab (oSl 6) aNil))) aNil)))))) (a0 (av 2 G.cF (ab (oSl 0) (ab (oSl 7) aNil)))))))))))))))))
noncomputable def gs:Fn:=bA 2 8 [0,1] qz
noncomputable def jw (f_is_cell:Addr):MS:=(aq (ay 5 (av 2 G.gs (ab (oSl 2) (ab (oSl 3) aNil)))) (aq (ay 6 (av 1 (G.er f_is_cell) (ab (oSl 5) aNil))) (sIf (kOr (bx (b8 (oV (cZ "bool" (oSl 6))))) (kB (af vNe (oSl 6) (oV (av 1 G.iq (ab (oSl 5) aNil)))))) (a0 (eC (.bl false))) sNil)))
noncomputable def jx (f_is_cell:Addr):MS:=(aq (ay 2 (av 2 G.gg (ab (oSl 0) (ab (oSl 1) aNil)))) (aq (ay 3 (av 1 G.ip (ab (oSl 2) aNil))) (aq (sIf (kB (af (oIs true) (oV (av 1 (G.er f_is_cell) (ab (oSl 3) aNil))) (oV (eC (.bl true))))) (a0 (eC (.bl false))) sNil) (cC (iR1 (ab (oV (eC (.int 6))) aNil)) (gN 4) (G.jw f_is_cell)))))
noncomputable def qA (f_is_cell:Addr):M Vl:=(av 1 (G.er f_is_cell) (ab (oSl 0) aNil))
noncomputable def lT (f_is_cell:Addr):MS:=(aq (cC (iR1 (ab (oV (aF vMax2 (ab (oV (eC (.int 1))) (ab (oV (aF vMin2 (ab (oV (eC (.int 12))) (ab (oV (aF vLen (ab (oSl 0) aNil))) aNil)))) aNil)))) aNil)) (gN 1) (G.jx f_is_cell)) (aq (ay 7 (aU (ab (oV (eC .non)) (ab (oV (eC (.bl true))) (ab (oV (eC (.int 0))) (ab (oV (eC (.str ""))) (ab (oV (eC (.str ".."))) (ab (oV (eFz (aU aNil))) (ab (oV (eFz eDict0T)) (ab (oV (ar (ab (oV (eC (.int 1))) (ab (oV (eC (.int 2))) aNil)))) (ab (oV (ar (ab (oV (ar aNil)) aNil))) (ab (oV (ar (ab (oV (eC (.str "ab"))) aNil))) (ab (oV (ar (ab (oV (ar (ab (oV (eC (.int 0))) (ab (oV (eC (.int 0))) aNil)))) (ab (oV (eC (.int 1))) aNil)))) aNil))))))))))))) (a0 (eB (bZ (kB (eB (bx (kB (aF vAny (ab (oV (cN 1 [] (dZ (oSl 7)) (gN 0) kYes (G.qA f_is_cell))) aNil)))))) (kB (af (oIs false) (oV (av 1 (G.er f_is_cell) (ab (oV (ar aNil)) aNil))) (oV (eC (.bl true))))))))))
noncomputable def ir (f_is_cell:Addr):Fn:=bA 1 8 [0] (lT f_is_cell)
end G
namespace L2
open PySem PySem.Spec PyProof.Rows PySem.W
section
variable {X:Cx}
end
section
variable {X:Cx}{kt:List (Addr×List Im)}{kd:List (Addr×List (List Im×Addr))}
end
variable {K:PySem.W.Frag}{P:Program}{w:World}
end L2
namespace L2
open PySem PySem.Spec PyProof.Rows PySem.W
noncomputable def isL (D:SD) (i:Nat) (ds:List Im):Bool:=match D[i]? with
 | some (some (.lst y))=>decide (y=ds)
 | _=>false
section
variable {X:Cx}
end
noncomputable def uzV:Vl→Vl
 | .im (.fl x)=>.fz x
 | d=>d
@[simp] theorem Ax (x:List Im):uzV (.im (.fl x))=.fz x:=rfl
@[simp] theorem Ay (x:List Im):uzV (.im (.tup x))=.im (.tup x):=rfl
section
variable {X:Cx}
end
end L2
namespace L2
open PySem
section
variable {D D1 D2:SD}
theorem v_ {g:M Vl}{d:Vl} (h:g D=some (d,D1)):oV g D=some (.vl d,D1):=by unfold oV;rw[h];rfl
theorem a_ {g:M Opd}{h:M (List Opd)}{x:Opd}{xs:List Opd} (e1:g D=some (x,D1)) (e2:h D1=some (xs,D2)):ab g h D=some (x::xs,D2):=by unfold ab;rw[e1];show (h D1).map _=_;rw[e2];rfl
theorem b_ {op:Vl→Vl→Option Vl}{ga gb:M Opd}{x y:Opd}{d1 d2 d:Vl} (e1:ga D=some (x,D1)) (e2:gb D1=some (y,D2)) (e3:rsl D2 x=some d1) (e4:rsl D2 y=some d2) (e5:op d1 d2=some d):af op ga gb D=some (d,D2):=by
 unfold af;rw[e1];show (gb D1).bind _=_;rw[e2];show (rsl D2 x).bind _=_;rw[e3];show (rsl D2 y).bind _=_;rw[e4];show (op d1 d2).map _=_;rw[e5];rfl
theorem c_ {n:Nat}{G:Fn}{g:M (List Opd)}{os:List Opd}{ds outs:List Vl}{r:Vl} (e1:g D=some (os,D1)) (e0:os.length=n) (e2:aV os D1=some (ds,D2)) (e3:G ds=some (r,outs)):av n G g D=some (r,wb os outs D2):=by
 unfold av;rw[e1];show (if os.length=n then _ else _)=_;rw[if_pos e0];show (aV os D1).bind _=_;rw[e2];show (G ds).map _=_;rw[e3];rfl
theorem cb_ {op:List Vl→Option Vl}{g:M (List Opd)}{os:List Opd}{ds:List Vl}{d:Vl} (e1:g D=some (os,D1)) (e2:b6 D1 os=some ds) (e3:op ds=some d):aF op g D=some (d,D1):=by
 unfold aF;rw[e1];show (b6 D1 os).bind _=_;rw[e2];show (op ds).map _=_;rw[e3];rfl
theorem kb_ {g:M Vl}{b:Bool} (e:g D=some (.im (.bl b),D1)):kB g D=some (b,D1):=by unfold kB;rw[e];rfl
theorem kn_ {g:M Bool}{b:Bool} (e:g D=some (b,D1)):bx g D=some (!b,D1):=by unfold bx;rw[e];rfl
theorem kt_ {g:M Opd}{x:Opd}{d:Vl}{b:Bool} (e:g D=some (x,D1)) (e2:rsl D1 x=some d) (e3:gY d=some b):b8 g D=some (b,D1):=by
 unfold b8;rw[e];show (rsl D1 x).bind _=_;rw[e2];show (gY d).map _=_;rw[e3];rfl
theorem as_ {g:M Vl}{h:MG}{d:Vl} (e:g D=some (d,D1)) (e2:h d D1=some D2):cK g h D=some (.nx,D2):=by unfold cK;rw[e];show (h d D1).map _=_;rw[e2];rfl
theorem ex_ {g:M Vl}{d:Vl} (e:g D=some (d,D1)):gO g D=some (.nx,D1):=by unfold gO;rw[e];rfl
theorem mu_ {D3:SD}{ty:Vl→Bool}{i:Nat}{mt:Vl→List Vl→Option (Vl×Vl)}{g:M (List Opd)}{c0 c r c':Vl}{os:List Opd}{ds:List Vl} (e0:D[i]?=some (some c0)) (e1:ty c0=true) (e2:g D=some (os,D1)) (e3:aV os D1=some (ds,D2)) (e4:D2[i]?=some (some c)) (e5:mt c ds=some (r,c')) (k:D2.set i (some c')=D3):fk ty i mt g D=some (r,D3):=by
 subst k
 unfold fk
 rw[e0]
 show (if ty c0=true then _ else _)=_
 rw[if_pos e1,e2]
 show (aV os D1).bind _=_
 rw[e3]
 show (match D2[i]? with | some (some c)=>_ | _=>none)=_
 rw[e4]
 show (mt c ds).map _=_
 rw[e5]
 rfl
theorem tu_ {g:M (List Opd)}{os:List Opd}{ds:List Vl}{d:Vl} (e1:g D=some (os,D1)) (e2:aV os D1=some (ds,D2)) (e3:ds.length≤100000) (k:mkT ds=d):ar g D=some (d,D2):=by
 unfold ar;rw[e1];show (aV os D1).bind _=_;rw[e2];show (if _ then _ else _)=_;rw[if_pos e3,k]
theorem li_ {g:M (List Opd)}{os:List Opd}{ds:List Vl}{d:Vl} (e1:g D=some (os,D1)) (e2:aV os D1=some (ds,D2)) (e3:ds.length≤100000) (k:mkL ds=d):aU g D=some (d,D2):=by
 unfold aU;rw[e1];show (aV os D1).bind _=_;rw[e2];show (if _ then _ else _)=_;rw[if_pos e3,k]
theorem ap_ {x:List Im}{d:Im} (h:x.length<100000):mAppend (.lst x) [.im d]=some (.im .non,.lst (x++[d])):=if_pos h
theorem gu (i j:Int):vEq (.im (.int i)) (.im (.int j))=some (.im (.bl (decide (i=j)))):=by
 show some (Vl.im (.bl (i == j)))=_
 by_cases h:i=j<;>simp[h]
theorem yB (i j:Int):vNe (.im (.int i)) (.im (.int j))=some (.im (.bl (!decide (i=j)))):=by
 show some (Vl.im (.bl (!(i == j))))=_
 by_cases h:i=j<;>simp[h]
theorem yC {i j:Int} (h:bH i j=true):vMul (.im (.int i)) (.im (.int j))=some (.im (.int (i * j))):=if_pos h
theorem qB {i j:Int} (h:0<j):vMod (.im (.int i)) (.im (.int j))=some (.im (.int (i % j))):=if_pos (decide_eq_true h)
theorem yD {i j:Int} (h:0<j) (h2:j<1073741824):vDiv (.im (.int i)) (.im (.int j))=some (.im (.int (i / j))):=if_pos (decide_eq_true (⟨h,h2⟩:0<j∧j<1073741824))
theorem gw {c:M Bool}{a b:MS}{r:Option (Fl×SD)} (e:c D=some (true,D1)) (h:a D1=r):sIf c a b D=r:=(wR e).trans h
theorem gx {c:M Bool}{a b:MS}{r:Option (Fl×SD)} (e:c D=some (false,D1)) (h:b D1=r):sIf c a b D=r:=(wS e).trans h
theorem sq_ {g h:MS}{r:Option (Fl×SD)} (e:g D=some (.nx,D1)) (k:h D1=r):aq g h D=r:=(wM e).trans k
theorem bJ {i:Nat}{g:M Vl}{d:Vl} (e:g D=some (d,D1)) (h:i<D1.length) (k:D1.set i (some d)=D2):ay i g D=some (.nx,D2):=(wQ e h).trans (by rw[k])
theorem fA {g:MI}{tg:MG}{b:MS}{D3:SD}{xs:List Im}{o:Option (Nat×Vl)}{fl:Fl} (e:g D=some ((xs,o),D1)) (h:bz tg b xs D1=some (fl,D2)) (k:rst o D2=D3):cC g tg b D=some (fl,D3):=(wN e h).trans (by rw[k])
theorem cp_ {own:Nat}{caps:List Nat}{gi:MI}{tg:MG}{c:M Bool}{e:M Vl}{C' D3:SD}{xs ds:List Im}{o:Option (Nat×Vl)} (h1:gi D=some ((xs,o),D1)) (h2:bR own tg c e xs [] (dg caps D1)=some (ds,C')) (k:rst o (cD caps C' D1)=D3):cN own caps gi tg c e D=some (.lst ds,D3):=(wP h1 h2).trans (by rw[k])
theorem lU {a b:M Bool} (e:a D=some (true,D1)):kOr a b D=some (true,D1):=by unfold kOr;rw[e];rfl
theorem eu {a b:M Bool}{r:Option (Bool×SD)} (e:a D=some (false,D1)) (h:b D1=r):kOr a b D=r:=by unfold kOr;rw[e];exact h
theorem dG {a b:M Bool}{r:Option (Bool×SD)} (e:a D=some (true,D1)) (h:b D1=r):bZ a b D=r:=by unfold bZ;rw[e];exact h
theorem jy {a b:M Bool} (e:a D=some (false,D1)):bZ a b D=some (false,D1):=by unfold bZ;rw[e];rfl
theorem qC {i j:Nat}{g:M (List Opd)}{os:List Opd}{d1 d2:Vl}{D3:SD} (e1:g D=some (os,D1)) (e2:aV os D1=some ([d1,d2],D2)) (hi:i<D2.length) (hj:j<D2.length) (k:(D2.set i (some d1)).set j (some d2)=D3):fi i j g D=some (.nx,D3):=by
 unfold fi;rw[e1];show (aV os D1).bind _=_;rw[e2];show (if i<D2.length∧j<D2.length then _ else _)=_;rw[if_pos ⟨hi,hj⟩,k]
theorem eb_ {g:M Bool}{b:Bool} (e:g D=some (b,D1)):eB g D=some (.im (.bl b),D1):=by unfold eB;rw[e];rfl
theorem d_ {D3:SD}{n:Nat}{G:Fn}{g:M (List Opd)}{os:List Opd}{ds outs:List Vl}{r:Vl} (e1:g D=some (os,D1)) (e0:os.length=n) (e2:aV os D1=some (ds,D2)) (e3:G ds=some (r,outs)) (k:wb os outs D2=D3):av n G g D=some (r,D3):=by rw[← k];exact c_ e1 e0 e2 e3
theorem knt {g:M Bool} (e:g D=some (true,D1)):bx g D=some (false,D1):=kn_ e
theorem knf {g:M Bool} (e:g D=some (false,D1)):bx g D=some (true,D1):=kn_ e
theorem iz_ {g:M (List Opd)}{os:List Opd}{x y:List Im} (e1:g D=some (os,D1)) (e2:b6 D1 os=some [.im (.tup x),.im (.tup y)]):iZ g D=some ((cn x y,none),D1):=by
 unfold iZ;rw[e1];show (b6 D1 os).bind _=_;rw[e2];rfl
theorem sl_ {D3:SD}{g:M Opd}{l h:M (Option Int)}{x:Opd}{lo hi:Option Int}{d d':Vl} (e1:g D=some (x,D1)) (e2:l D1=some (lo,D2)) (e3:h D2=some (hi,D3)) (e4:rsl D3 x=some d) (e5:vSl d lo hi=some d'):eSl g l h D=some (d',D3):=by
 unfold eSl;rw[e1];show (l D1).bind _=_;rw[e2];show (h D2).bind _=_;rw[e3];show (rsl D3 x).bind _=_;rw[e4];show (vSl d lo hi).map _=_;rw[e5];rfl
theorem rg_ {g:M (List Opd)}{os:List Opd}{j:Int} (e1:g D=some (os,D1)) (e2:b6 D1 os=some [.im (.int j)]) (h:iY j):iR1 g D=some ((bQ 0 j.toNat,none),D1):=by
 unfold iR1;rw[e1];show (b6 D1 os).bind _=_;rw[e2];show (if iY j then _ else _)=_;rw[if_pos h]
theorem dr {n m:Nat}{fix:List Nat}{g:MS}{ds outs:List Vl}{r:Vl} (hl:ds.length=n) (e:g (ds.map some++List.replicate (m - n) none)=some (.rt r,D)) (ho:cP fix ds D 0=outs):bA n m fix g ds=some (r,outs):=wT D hl e ho
end
end L2
namespace G
open PySem L2
theorem ltd {n m:Nat} (h:Nat.ble (n+1) m=true):n<m:=Nat.le_of_ble_eq_true h
noncomputable abbrev bV (b:Bool):Vl:=.im (.bl b)
noncomputable def c5 (ks:List (Int×Int)) (c:Int×Int):List (Int×Int):=if c∈ks then ks else ks++[c]
theorem yE (ks:List (Int×Int)) (c:Int×Int):eg (mt ks) (kM c) (.bl true)=mt (c5 ks c):=by
 unfold c5
 by_cases h:c∈ks
 ·rw[if_pos h]
  unfold eg
  rw[if_pos (by rw[pH];simpa using h)]
  unfold mt
  rw[List.map_map]
  refine List.map_congr_left fun x _=>?_
  show (if kM x=kM c then (kM x,Im.bl true) else (kM x,Im.bl true))=_
  split<;>rfl
 ·rw[if_neg h]
  exact xu h
structure Reg (hg wd tp sd:Int) (ks:List (Int×Int)):Prop where
 nd:ks.Nodup
 inn:∀ c∈ks,tp≤c.1∧c.1<tp+hg∧sd≤c.2∧c.2<sd+wd
theorem Reg.add {hg wd tp sd:Int}{ks:List (Int×Int)} (R:Reg hg wd tp sd ks) {r c:Int} (r0:0≤r) (r1:r<hg) (c0:0≤c) (c1:c<wd):Reg hg wd tp sd (c5 ks (r+tp,c+sd)):=by
 unfold c5
 split
 ·exact R
 ·next h=>
  refine⟨List.nodup_append.mpr ⟨R.nd,List.pairwise_singleton _ _,fun a ha b hb e=>h (by rw[← List.mem_singleton.mp hb,← e];exact ha)⟩,fun x hx=>?_⟩
  rcases List.mem_append.mp hx with hx | hx
  ·exact R.inn x hx
  ·rw[List.mem_singleton.mp hx]
   dsimp only
   lia
theorem Reg.len {hg wd tp sd:Int}{ks:List (Int×Int)} (R:Reg hg wd tp sd ks) (h1:hg≤12) (h2:wd≤12):ks.length≤144:=by
 have n1:(ks.map fun c=>((c.1 - tp) * 12+(c.2 - sd)).toNat).Nodup:=by
  refine List.pairwise_map.mpr (List.Pairwise.imp_of_mem (fun {a b} ha hb ne e=>ne ?_) R.nd)
  have i1:=R.inn a ha
  have i2:=R.inn b hb
  have:a.1=b.1∧a.2=b.2:=by lia
  exact Prod.ext this.1 this.2
 have q:=ii (m:=List.range 144) n1 fun x hx=>by
  obtain⟨c,hc,rfl⟩:=List.mem_map.mp hx
  have i1:=R.inn c hc
  rw[List.mem_range]
  lia
 rwa [List.length_map,List.length_range] at q
theorem qD {D:SD}{ks:List (Int×Int)}{r c tp sd:Int} (h4:D[4]?=some (some (iI tp))) (h5:D[5]?=some (some (iI sd))) (h7:D[7]?=some (some (.dT (mt ks)))) (h8:D[8]?=some (some (iI r))) (h9:D[9]?=some (some (iI c))) (hl:ks.length<100000):
  cK (eC (.bl true)) (gIx 7 (ar (ab (oV (af vAdd (oSl 8) (oSl 4))) (ab (oV (af vAdd (oSl 9) (oSl 5))) aNil))) putA) D=some (.nx,D.set 7 (some (.dT (mt (c5 ks (r+tp,c+sd)))))):=by
 have hp:putA (.dT (mt ks)) (.im (.tup (kM (r+tp,c+sd)))) (bV true)=some (.dT (mt (c5 ks (r+tp,c+sd)))):=by
  rw[← yE]
  exact if_pos ⟨rfl,by unfold mt;rw[List.length_map];exact hl⟩
 have s4:oSl 4 D=some (.sl 4,D):=by unfold oSl;rw[h4]
 have s5:oSl 5 D=some (.sl 5,D):=by unfold oSl;rw[h5]
 have s8:oSl 8 D=some (.sl 8,D):=by unfold oSl;rw[h8]
 have s9:oSl 9 D=some (.sl 9,D):=by unfold oSl;rw[h9]
 have r4:rsl D (.sl 4)=some (iI tp):=by show (D[4]?).getD none=_;rw[h4];rfl
 have r5:rsl D (.sl 5)=some (iI sd):=by show (D[5]?).getD none=_;rw[h5];rfl
 have r8:rsl D (.sl 8)=some (iI r):=by show (D[8]?).getD none=_;rw[h8];rfl
 have r9:rsl D (.sl 9)=some (iI c):=by show (D[9]?).getD none=_;rw[h9];rfl
 have t:ar (ab (oV (af vAdd (oSl 8) (oSl 4))) (ab (oV (af vAdd (oSl 9) (oSl 5))) aNil)) D=some (.im (.tup (kM (r+tp,c+sd))),D):=
  tu_ (a_ (v_ (b_ s8 s4 r8 r4 rfl)) (a_ (v_ (b_ s9 s5 r9 r5 rfl)) rfl)) rfl (Nat.le_of_ble_eq_true rfl) rfl
 refine as_ rfl ?_
 unfold gIx
 rw[h7]
 show (ar _ D).bind _=_
 rw[t]
 show (match D[7]? with | some (some c)=>_ | _=>none)=_
 rw[h7]
 show (putA _ _ _).map _=_
 rw[hp]
 rfl
theorem yF {n:Nat}{h:Vl}{hg wd tp sd way r c:Int}{ks:List (Int×Int)}{o1 o10 o11 o12 o13:Option Vl} (H:aN (n+2) h) (w0:0≤way) (w1:way<6) (hw:0<wd) (hl:ks.length<100000):
  ∃ h' o10' ks',ju [some h,o1,some (iI hg),some (iI wd),some (iI tp),some (iI sd),some (iI way),some (.dT (mt ks)),some (iI r),some (iI c),o10,o11,o12,o13]=some (.nx,[some h',o1,some (iI hg),some (iI wd),some (iI tp),some (iI sd),some (iI way),some (.dT (mt ks')),some (iI r),some (iI c),o10',o11,o12,o13])∧aN n h'∧(ks'=ks∨ks'=c5 ks (r+tp,c+sd)):=by
 obtain⟨v1,h1,e1,_,_,H1⟩:=em (n:=n+1) (m:=2) H (by decide) (by decide)
 obtain⟨v2,h2,e2,_,_,H2⟩:=em (n:=n) (m:=6) H1 (by decide) (by decide)
 obtain⟨q,rfl⟩:=aY H
 obtain⟨q1,rfl⟩:=aY H1
 obtain⟨q2,rfl⟩:=aY H2
 obtain⟨b3,hb3⟩:∃ b3:Bool,eB (kOr (kB (af vEq (oV (af vMod (oSl 8) (oV (eC (.int 2))))) (oV (eC (.int 0))))) (kB (af vEq (oSl 9) (oV (af vMod (oV (af vDiv (oSl 8) (oV (eC (.int 2))))) (oSl 3)))))) [some (.lst q2),o1,some (iI hg),some (iI wd),some (iI tp),some (iI sd),some (iI way),some (.dT (mt ks)),some (iI r),some (iI c),some (.lst [.bl (decide (v1=0)),.bl (decide (0<v2)),.bl true]),o11,o12,o13]=some (bV b3,[some (.lst q2),o1,some (iI hg),some (iI wd),some (iI tp),some (iI sd),some (iI way),some (.dT (mt ks)),some (iI r),some (iI c),some (.lst [.bl (decide (v1=0)),.bl (decide (0<v2)),.bl true]),o11,o12,o13]):=by
  have z1:kB (af vEq (oV (af vMod (oSl 8) (oV (eC (.int 2))))) (oV (eC (.int 0)))) [some (.lst q2),o1,some (iI hg),some (iI wd),some (iI tp),some (iI sd),some (iI way),some (.dT (mt ks)),some (iI r),some (iI c),some (.lst [.bl (decide (v1=0)),.bl (decide (0<v2)),.bl true]),o11,o12,o13]=some (decide (r % 2=0),_):=kb_ (b_ (v_ (b_ rfl rfl rfl rfl (qB (by decide)))) rfl rfl rfl (gu _ _))
  cases hb:decide (r % 2=0) with
  | true=>rw[hb] at z1;exact⟨true,eb_ (lU z1)⟩
  | false=>rw[hb] at z1;exact⟨_,eb_ (eu z1 (kb_ (b_ rfl (v_ (b_ (v_ (b_ rfl rfl rfl rfl (yD (by decide) (by decide)))) rfl rfl rfl (qB hw))) rfl rfl (gu _ _))))⟩
 obtain⟨b4,hb4⟩:∃ b4:Bool,eB (kOr (kB (af vIn (oSl 8) (oV (ar (ab (oV (eC (.int 0))) (ab (oV (af vSub (oSl 2) (oV (eC (.int 1))))) aNil)))))) (kB (af vIn (oSl 9) (oV (ar (ab (oV (eC (.int 0))) (ab (oV (af vSub (oSl 3) (oV (eC (.int 1))))) aNil))))))) [some (.lst q2),o1,some (iI hg),some (iI wd),some (iI tp),some (iI sd),some (iI way),some (.dT (mt ks)),some (iI r),some (iI c),some (.lst [.bl (decide (v1=0)),.bl (decide (0<v2)),.bl true,.bl b3]),o11,o12,o13]=some (bV b4,[some (.lst q2),o1,some (iI hg),some (iI wd),some (iI tp),some (iI sd),some (iI way),some (.dT (mt ks)),some (iI r),some (iI c),some (.lst [.bl (decide (v1=0)),.bl (decide (0<v2)),.bl true,.bl b3]),o11,o12,o13]):=by
  obtain⟨x,hx⟩:∃ x:Bool,vIn (iI r) (.im (.tup [.int 0,.int (hg - 1)]))=some (bV x):=⟨_,rfl⟩
  obtain⟨y,hy⟩:∃ y:Bool,vIn (iI c) (.im (.tup [.int 0,.int (wd - 1)]))=some (bV y):=⟨_,rfl⟩
  cases x with
  | true=>exact⟨true,eb_ (lU (kb_ (b_ rfl (v_ (tu_ (a_ rfl (a_ (v_ (b_ rfl rfl rfl rfl rfl)) rfl)) rfl (Nat.le_of_ble_eq_true rfl) rfl)) rfl rfl hx)))⟩
  | false=>exact⟨y,eb_ (eu (kb_ (b_ rfl (v_ (tu_ (a_ rfl (a_ (v_ (b_ rfl rfl rfl rfl rfl)) rfl)) rfl (Nat.le_of_ble_eq_true rfl) rfl)) rfl rfl hx)) (kb_ (b_ rfl (v_ (tu_ (a_ rfl (a_ (v_ (b_ rfl rfl rfl rfl rfl)) rfl)) rfl (Nat.le_of_ble_eq_true rfl) rfl)) rfl rfl hy)))⟩
 obtain⟨b,hb⟩:∃ b:Bool,atI [Im.bl (decide (v1=0)),.bl (decide (0<v2)),.bl true,.bl b3,.bl b4,.bl false] way=some (.bl b):=by
  have:way=0∨way=1∨way=2∨way=3∨way=4∨way=5:=by lia
  rcases this with rfl | rfl | rfl | rfl | rfl | rfl<;>exact⟨_,rfl⟩
 have g2:vGt (iI v2) (iI 0)=some (bV (decide (0<v2))):=rfl
 have vi:vIx (.lst [.bl (decide (v1=0)),.bl (decide (0<v2)),.bl true,.bl b3,.bl b4,.bl false]) (iI way)=some (bV b):=congrArg (Option.map Vl.im) hb
 unfold ju
 have s1:ay 10 (aU (ab (oV (af vEq (oV (av 2 G.ba (ab (oSl 0) (ab (oV (eC (.int 2))) aNil)))) (oV (eC (.int 0))))) (ab (oV (af vGt (oV (av 2 G.ba (ab (oSl 0) (ab (oV (eC (.int 6))) aNil)))) (oV (eC (.int 0))))) (ab (oV (eC (.bl true))) aNil)))) [some (.lst q),o1,some (iI hg),some (iI wd),some (iI tp),some (iI sd),some (iI way),some (.dT (mt ks)),some (iI r),some (iI c),o10,o11,o12,o13]=some (.nx,[some (.lst q2),o1,some (iI hg),some (iI wd),some (iI tp),some (iI sd),some (iI way),some (.dT (mt ks)),some (iI r),some (iI c),some (.lst [.bl (decide (v1=0)),.bl (decide (0<v2)),.bl true]),o11,o12,o13]):=
  bJ (li_ (a_ (v_ (b_ (v_ (d_ (a_ rfl (a_ rfl rfl)) rfl rfl e1 rfl)) rfl rfl rfl (gu _ _))) (a_ (v_ (b_ (v_ (d_ (a_ rfl (a_ rfl rfl)) rfl rfl e2 rfl)) rfl rfl rfl g2)) rfl)) rfl (Nat.le_of_ble_eq_true rfl) rfl) (ltd rfl) rfl
 have s2:gO (fk kL 10 mAppend (ab (oV (eB (kOr (kB (af vEq (oV (af vMod (oSl 8) (oV (eC (.int 2))))) (oV (eC (.int 0))))) (kB (af vEq (oSl 9) (oV (af vMod (oV (af vDiv (oSl 8) (oV (eC (.int 2))))) (oSl 3)))))))) aNil)) [some (.lst q2),o1,some (iI hg),some (iI wd),some (iI tp),some (iI sd),some (iI way),some (.dT (mt ks)),some (iI r),some (iI c),some (.lst [.bl (decide (v1=0)),.bl (decide (0<v2)),.bl true]),o11,o12,o13]=some (.nx,[some (.lst q2),o1,some (iI hg),some (iI wd),some (iI tp),some (iI sd),some (iI way),some (.dT (mt ks)),some (iI r),some (iI c),some (.lst [.bl (decide (v1=0)),.bl (decide (0<v2)),.bl true,.bl b3]),o11,o12,o13]):=
  ex_ (mu_ rfl rfl (a_ (v_ hb3) rfl) rfl rfl (ap_ (by show 3<100000;decide)) rfl)
 have s3:ay 10 (af vAdd (oSl 10) (oV (aU (ab (oV (eB (kOr (kB (af vIn (oSl 8) (oV (ar (ab (oV (eC (.int 0))) (ab (oV (af vSub (oSl 2) (oV (eC (.int 1))))) aNil)))))) (kB (af vIn (oSl 9) (oV (ar (ab (oV (eC (.int 0))) (ab (oV (af vSub (oSl 3) (oV (eC (.int 1))))) aNil))))))))) (ab (oV (eC (.bl false))) aNil))))) [some (.lst q2),o1,some (iI hg),some (iI wd),some (iI tp),some (iI sd),some (iI way),some (.dT (mt ks)),some (iI r),some (iI c),some (.lst [.bl (decide (v1=0)),.bl (decide (0<v2)),.bl true,.bl b3]),o11,o12,o13]=some (.nx,[some (.lst q2),o1,some (iI hg),some (iI wd),some (iI tp),some (iI sd),some (iI way),some (.dT (mt ks)),some (iI r),some (iI c),some (.lst [.bl (decide (v1=0)),.bl (decide (0<v2)),.bl true,.bl b3,.bl b4,.bl false]),o11,o12,o13]):=
  bJ (b_ rfl (v_ (li_ (a_ (v_ hb4) rfl) rfl (Nat.le_of_ble_eq_true rfl) rfl)) rfl rfl rfl) (ltd rfl) rfl
 cases b with
 | true=>exact⟨.lst q2,_,c5 ks (r+tp,c+sd),sq_ s1 (sq_ s2 (sq_ s3 (gw (kt_ (v_ (b_ rfl rfl rfl rfl vi)) rfl rfl) ((qD rfl rfl rfl rfl rfl hl).trans rfl)))),H2,.inr rfl⟩
 | false=>exact⟨.lst q2,_,ks,sq_ s1 (sq_ s2 (sq_ s3 (gx (kt_ (v_ (b_ rfl rfl rfl rfl vi)) rfl rfl) rfl))),H2,.inl rfl⟩
theorem iw {n i:Nat}{x:Im} (h:(bQ 0 n)[i]?=some x):i<n∧x=.int (0+(i:Int)):=by
 have hi:i<n:=by
  have:=(List.getElem?_eq_some_iff.mp h).1
  rwa [bQ,List.length_map,List.length_range] at this
 rw[bQ,List.getElem?_map,List.getElem?_range hi] at h
 exact⟨hi,(Option.some.inj h).symm⟩
theorem lV (lo:Int) (n:Nat):(bQ lo n).length=n:=by rw[bQ,List.length_map,List.length_range]
noncomputable abbrev fD (h:Vl) (o1:Option Vl) (hg wd tp sd way:Int) (ks:List (Int×Int)) (o8 o9 o10 o11 o12 o13:Option Vl):SD:=[some h,o1,some (iI hg),some (iI wd),some (iI tp),some (iI sd),some (iI way),some (.dT (mt ks)),o8,o9,o10,o11,o12,o13]
structure Dim (hg wd way:Int):Prop where
 h0:0<hg
 h1:hg≤12
 w0:0<wd
 w1:wd≤12
 y0:0≤way
 y1:way<6
theorem yG {M:Nat}{h:Vl}{hg wd tp sd way r:Int}{ks:List (Int×Int)}{o1 o9 o10 o11 o12 o13:Option Vl} (H:aN (M+24) h) (d:Dim hg wd way) (R:Reg hg wd tp sd ks) (r0:0≤r) (r1:r<hg):
  ∃ h' ks' o9' o10',jv (fD h o1 hg wd tp sd way ks (some (iI r)) o9 o10 o11 o12 o13)=some (.nx,fD h' o1 hg wd tp sd way ks' (some (iI r)) o9' o10' o11 o12 o13)∧aN M h'∧Reg hg wd tp sd ks':=by
 have:=d.w0
 have:=d.w1
 obtain⟨D',l1,h',ks',o9',o10',rfl,l2,l3⟩:=gZ (tg:=gN 9) (b:=ju) (xs:=bQ 0 wd.toNat) (fun i D=>∃ h ks o9 o10,D=fD h o1 hg wd tp sd way ks (some (iI r)) o9 o10 o11 o12 o13∧aN (M+24 - 2 * i) h∧Reg hg wd tp sd ks) (D:=fD h o1 hg wd tp sd way ks (some (iI r)) o9 o10 o11 o12 o13)
  ⟨h,ks,o9,o10,rfl,H,R⟩ (fun i x D hx hI=>by
   obtain⟨h,ks,o9,o10,rfl,H,R⟩:=hI
   obtain⟨hi,rfl⟩:=iw hx
   have hl:=R.len d.h1 d.w1
   obtain⟨h',o10',ks',e,H',k⟩:=yF (n:=M+24 - 2 * (i+1)) (hg:=hg) (tp:=tp) (sd:=sd) (r:=r) (c:=0+(i:Int)) (ks:=ks) (o1:=o1) (o10:=o10) (o11:=o11) (o12:=o12) (o13:=o13) (H.mono (by lia)) d.y0 d.y1 d.w0 (by lia)
   refine⟨_,_,_,rfl,e,.inl rfl,h',ks',_,o10',rfl,H',?_⟩
   rcases k with rfl | rfl
   ·exact R
   ·exact R.add r0 r1 (by lia) (by lia))
 rw[lV] at l2
 refine⟨h',ks',o9',o10',fA (o:=none) (rg_ (a_ rfl rfl) rfl ⟨by lia,by lia⟩) l1 rfl,l2.mono (by lia),l3⟩
theorem yH {M:Nat}{h:Vl}{hg wd tp sd way:Int}{o1 o8 o9 o10 o11 o12 o13:Option Vl} (H:aN (M+300) h) (d:Dim hg wd way):
  ∃ h' ks' o8' o9' o10',cC (iR1 (ab (oSl 2) aNil)) (gN 8) G.jv (fD h o1 hg wd tp sd way [] o8 o9 o10 o11 o12 o13)=some (.nx,fD h' o1 hg wd tp sd way ks' o8' o9' o10' o11 o12 o13)∧aN M h'∧Reg hg wd tp sd ks':=by
 have:=d.h0
 have:=d.h1
 obtain⟨D',l1,h',ks',o8',o9',o10',rfl,l2,l3⟩:=gZ (tg:=gN 8) (b:=jv) (xs:=bQ 0 hg.toNat) (fun i D=>∃ h ks o8 o9 o10,D=fD h o1 hg wd tp sd way ks o8 o9 o10 o11 o12 o13∧aN (M+300 - 24 * i) h∧Reg hg wd tp sd ks) (D:=fD h o1 hg wd tp sd way [] o8 o9 o10 o11 o12 o13)
  ⟨h,[],o8,o9,o10,rfl,H,List.nodup_nil,fun _ h=>(List.not_mem_nil h).elim⟩ (fun i x D hx hI=>by
   obtain⟨h,ks,o8,o9,o10,rfl,H,R⟩:=hI
   obtain⟨hi,rfl⟩:=iw hx
   obtain⟨h',ks',o9',o10',e,H',R'⟩:=yG (M:=M+300 - 24 * (i+1)) (r:=0+(i:Int)) (o1:=o1) (o9:=o9) (o10:=o10) (o11:=o11) (o12:=o12) (o13:=o13) (H.mono (by lia)) d R (by lia) (by lia)
   exact⟨_,_,_,rfl,e,.inl rfl,h',ks',_,o9',o10',rfl,H',R'⟩)
 rw[lV] at l2
 exact⟨h',ks',o8',o9',o10',fA (o:=none) (rg_ (a_ rfl rfl) rfl ⟨by lia,by lia⟩) l1 rfl,l2.mono (by lia),l3⟩
theorem cl0 {x m:Int} (h:0<m):0≤(if (if x > 0 then x else 0)<m - 1 then (if x > 0 then x else 0) else m - 1)∧(if (if x > 0 then x else 0)<m - 1 then (if x > 0 then x else 0) else m - 1)<m:=by
 split<;>split<;>lia
theorem yI {M:Nat}{h:Vl}{hg wd tp sd way r c:Int}{ks:List (Int×Int)}{o1 o10 o11 o12 o13:Option Vl} (H:aN (M+1) h) (d:Dim hg wd way) (R:Reg hg wd tp sd ks) (r0:0≤r) (r1:r<hg) (c0:0≤c) (c1:c<wd):
  ∃ h' ks' r' c' o12' o13',io (fD h o1 hg wd tp sd way ks (some (iI r)) (some (iI c)) o10 o11 o12 o13)=some (.nx,fD h' o1 hg wd tp sd way ks' (some (iI r')) (some (iI c')) o10 o11 o12' o13')∧aN M h'∧Reg hg wd tp sd ks'∧0≤r'∧r'<hg∧0≤c'∧c'<wd:=by
 obtain⟨x,h',e,hx,H'⟩:=gj (n:=M) (xs:=[cM (1,0),cM (0,1),cM (0,1),cM (-1,0),cM (0,-1),cM (1,0)]) H (by simp) (by decide)
 obtain⟨dn,rt,rfl⟩:∃ dn rt:Int,x=cM (dn,rt):=by
  simp at hx
  rcases hx with rfl | rfl | rfl | rfl | rfl<;>exact⟨_,_,rfl⟩
 obtain⟨q,rfl⟩:=aY H
 obtain⟨q1,rfl⟩:=aY H'
 have hl:=R.len d.h1 d.w1
 obtain⟨a1,a2⟩:=cl0 (x:=r+dn) d.h0
 obtain⟨b1,b2⟩:=cl0 (x:=c+rt) d.w0
 refine⟨.lst q1,c5 ks (r+tp,c+sd),_,_,some (iI dn),some (iI rt),?_,H',R.add r0 r1 c0 c1,a1,a2,b1,b2⟩
 unfold io
 refine sq_ ((qD rfl rfl rfl rfl rfl (by lia)).trans rfl) (sq_ (D1:=fD (.lst q1) o1 hg wd tp sd way (c5 ks (r+tp,c+sd)) (some (iI r)) (some (iI c)) o10 o11 (some (iI dn)) (some (iI rt))) (as_ (d:=.im (cM (dn,rt))) (d_ (os:=[.sl 0,.vl (.lst [cM (1,0),cM (0,1),cM (0,1),cM (-1,0),cM (0,-1),cM (1,0)])]) (D1:=fD (.lst q) o1 hg wd tp sd way (c5 ks (r+tp,c+sd)) (some (iI r)) (some (iI c)) o10 o11 o12 o13) rfl rfl rfl e rfl) rfl) (sq_ (bJ (cb_ (a_ (v_ (b_ rfl rfl rfl rfl rfl)) (a_ (v_ (cb_ (a_ rfl (a_ (v_ (b_ rfl rfl rfl rfl rfl)) rfl)) rfl rfl)) rfl)) rfl rfl) (ltd rfl) rfl) (bJ (cb_ (a_ (v_ (b_ rfl rfl rfl rfl rfl)) (a_ (v_ (cb_ (a_ rfl (a_ (v_ (b_ rfl rfl rfl rfl rfl)) rfl)) rfl rfl)) rfl)) rfl rfl) (ltd rfl) rfl)))
theorem yJ {M:Nat}{h:Vl}{hg wd tp sd way:Int}{ks:List (Int×Int)}{o1 o10 o11 o12 o13:Option Vl} (H:aN (M+40) h) (d:Dim hg wd way) (R:Reg hg wd tp sd ks):
  ∃ h' ks' o8' o9' o11' o12' o13',cC (iR1 (ab (oV (af vMul (oV (eC (.int 40))) (oV (aF vInt (ab (oV (af vEq (oSl 6) (oV (eC (.int 5))))) aNil))))) aNil)) (gN 11) G.io (fD h o1 hg wd tp sd way ks (some (iI 0)) (some (iI 0)) o10 o11 o12 o13)=some (.nx,fD h' o1 hg wd tp sd way ks' o8' o9' o10 o11' o12' o13')∧aN M h'∧Reg hg wd tp sd ks':=by
 obtain⟨k,hk,hk2⟩:∃ k:Int,af vMul (oV (eC (.int 40))) (oV (aF vInt (ab (oV (af vEq (oSl 6) (oV (eC (.int 5))))) aNil))) (fD h o1 hg wd tp sd way ks (some (iI 0)) (some (iI 0)) o10 o11 o12 o13)=some (iI k,fD h o1 hg wd tp sd way ks (some (iI 0)) (some (iI 0)) o10 o11 o12 o13)∧0≤k∧k≤40:=by
  have z:aF vInt (ab (oV (af vEq (oSl 6) (oV (eC (.int 5))))) aNil) (fD h o1 hg wd tp sd way ks (some (iI 0)) (some (iI 0)) o10 o11 o12 o13)=some (iI (if decide (way=5) then 1 else 0),fD h o1 hg wd tp sd way ks (some (iI 0)) (some (iI 0)) o10 o11 o12 o13):=cb_ (a_ (v_ (b_ rfl rfl rfl rfl (gu _ _))) rfl) rfl rfl
  refine⟨_,b_ rfl (v_ z) rfl rfl (yC (f7 (by decide) (by decide))),?_⟩
  cases decide (way=5)<;>decide
 obtain⟨D',l1,h',ks',r',c',o11',o12',o13',rfl,l2,l3,_⟩:=gZ (tg:=gN 11) (b:=io) (xs:=bQ 0 k.toNat) (fun i D=>∃ h ks r c o11 o12 o13,D=fD h o1 hg wd tp sd way ks (some (iI r)) (some (iI c)) o10 o11 o12 o13∧aN (M+40 - i) h∧Reg hg wd tp sd ks∧0≤r∧r<hg∧0≤c∧c<wd) (D:=fD h o1 hg wd tp sd way ks (some (iI 0)) (some (iI 0)) o10 o11 o12 o13)
  ⟨h,ks,0,0,o11,o12,o13,rfl,H,R,Int.le_refl _,d.h0,Int.le_refl _,d.w0⟩ (fun i x D hx hI=>by
   obtain⟨h,ks,r,c,o11,o12,o13,rfl,H,R,q1,q2,q3,q4⟩:=hI
   obtain⟨hi,rfl⟩:=iw hx
   obtain⟨h',ks',r',c',o12',o13',e,H',R',z⟩:=yI (M:=M+40 - (i+1)) (o1:=o1) (o10:=o10) (o11:=some (iI (0+(i:Int)))) (o12:=o12) (o13:=o13) (H.mono (by lia)) d R q1 q2 q3 q4
   exact⟨_,_,_,rfl,e,.inl rfl,h',ks',r',c',_,o12',o13',rfl,H',R',z⟩)
 rw[lV] at l2
 exact⟨h',ks',_,_,o11',o12',o13',fA (o:=none) (rg_ (a_ (v_ hk) rfl) rfl ⟨by lia,by lia⟩) l1 rfl,l2.mono (by lia),l3⟩
noncomputable def Up (cs:List (Int×Int)):Prop:=cs.Pairwise fun a b=>ltM (cM a) (cM b)=true
theorem qE {ks:List (Int×Int)} (nd:ks.Nodup) (hl:ks.length≤1000):∃ cs:List (Int×Int),bm ltM (ks.map cM)=cs.map cM∧cs.Perm ks∧Up cs:=by
 have o:=jl nd hl
 obtain⟨cs,h1,h2⟩:=xt (gf (ks.map cM))
 refine⟨cs,h2,h1,?_⟩
 have:=lm o.ord.nd o.ord.like
 rw[h2] at this
 exact List.pairwise_map.mp this
structure FlOk (cs:List (Int×Int)):Prop where
 up:Up cs
 inn:∀ c∈cs,0≤c.1∧c.1≤30∧0≤c.2∧c.2≤30
 len:cs.length≤144
theorem yK {M:Nat}{h:Vl} (H:aN (M+400) h):∃ cs h',ip [h]=some (cT cs,[h'])∧FlOk cs∧aN M h':=by
 obtain⟨v0,h0,e0,_,_,H0⟩:=em (n:=M+399) (m:=8) H (by decide) (by decide)
 obtain⟨ms,hms,ms0,ms1⟩:∃ ms:Int,(if decide (v0=0) then 12 else 8)=ms∧0<ms∧ms≤12:=by
  cases decide (v0=0)
  ·exact⟨8,rfl,by decide,by decide⟩
  ·exact⟨12,rfl,by decide,by decide⟩
 obtain⟨v1,h1,e1,a1,b1,H1⟩:=em (n:=M+398) (m:=ms) H0 ms0 (by lia)
 obtain⟨v2,h2,e2,a2,b2,H2⟩:=em (n:=M+397) (m:=ms) H1 ms0 (by lia)
 obtain⟨x3,h3,e3,i3,H3⟩:=gj (n:=M+396) (xs:=[.int 0,.int 0,.int 1,.int (31 - (1+v1))]) H2 (by simp) (by simp)
 obtain⟨x4,h4,e4,i4,H4⟩:=gj (n:=M+395) (xs:=[.int 0,.int 0,.int 2,.int (31 - (1+v2))]) H3 (by simp) (by simp)
 obtain⟨v5,h5,e5,a5,b5,H5⟩:=em (n:=M+340) (m:=6) (H4.mono (by lia)) (by decide) (by decide)
 obtain⟨tp,rfl,t0,t1⟩:∃ tp:Int,x3=.int tp∧0≤tp∧tp+(1+v1)≤31:=by
  simp at i3
  rcases i3 with rfl | rfl | rfl<;>exact⟨_,rfl,by lia,by lia⟩
 obtain⟨sd,rfl,s0,s1⟩:∃ sd:Int,x4=.int sd∧0≤sd∧sd+(1+v2)≤31:=by
  simp at i4
  rcases i4 with rfl | rfl | rfl<;>exact⟨_,rfl,by lia,by lia⟩
 obtain⟨q,rfl⟩:=aY H
 obtain⟨q0,rfl⟩:=aY H0
 obtain⟨q1,rfl⟩:=aY H1
 obtain⟨q2,rfl⟩:=aY H2
 obtain⟨q3,rfl⟩:=aY H3
 obtain⟨q4,rfl⟩:=aY H4
 obtain⟨q5,rfl⟩:=aY H5
 have d:Dim (1+v1) (1+v2) v5:=⟨by lia,by lia,by lia,by lia,a5,b5⟩
 obtain⟨h6,ks6,o8,o9,o10,e6,H6,R6⟩:=yH (M:=M+40) (tp:=tp) (sd:=sd) (o1:=some (iI ms)) (o8:=none) (o9:=none) (o10:=none) (o11:=none) (o12:=none) (o13:=none) (H5.mono (by lia)) d
 obtain⟨h7,ks7,o8',o9',o11',o12',o13',e7,H7,R7⟩:=yJ (M:=M) (o1:=some (iI ms)) (o10:=o10) (o11:=none) (o12:=none) (o13:=none) H6 d R6
 have hl:=R7.len d.h1 d.w1
 obtain⟨cs,c1,c2,c3⟩:=qE R7.nd (by lia)
 obtain⟨q6,rfl⟩:=aY H6
 obtain⟨q7,rfl⟩:=aY H7
 refine⟨cs,.lst q7,?_,⟨c3,fun c hc=>?_,by rw[c2.length_eq];exact hl⟩,H7⟩
 ·have hs:vSortM [.dT (mt ks7)]=some (cL cs):=by
   show fq ((mt ks7).map fun p=>Im.tup p.1)=_
   rw[xv]
   unfold fq
   rw[if_pos (jj.mpr (jl R7.nd (by lia))),c1]
  unfold ip qw
  have z0:kB (af vEq (oV (av 2 G.ba (ab (oSl 0) (ab (oV (eC (.int 8))) aNil)))) (oV (eC (.int 0)))) [some (.lst q),some (iI 8),none,none,none,none,none,none,none,none,none,none,none,none]=some (decide (v0=0),[some (.lst q0),some (iI 8),none,none,none,none,none,none,none,none,none,none,none,none]):=kb_ (b_ (v_ (d_ (a_ rfl (a_ rfl rfl)) rfl rfl e0 rfl)) rfl rfl rfl (gu _ _))
  have z1:sIf (kB (af vEq (oV (av 2 G.ba (ab (oSl 0) (ab (oV (eC (.int 8))) aNil)))) (oV (eC (.int 0))))) (ay 1 (eC (.int 12))) sNil [some (.lst q),some (iI 8),none,none,none,none,none,none,none,none,none,none,none,none]=some (.nx,[some (.lst q0),some (iI ms),none,none,none,none,none,none,none,none,none,none,none,none]):=by
   rw[← hms]
   cases hb:decide (v0=0) with
   | true=>rw[hb] at z0;exact gw z0 rfl
   | false=>rw[hb] at z0;exact gx z0 rfl
  have z2:fi 2 3 (ab (oV (af vAdd (oV (eC (.int 1))) (oV (av 2 G.ba (ab (oSl 0) (ab (oSl 1) aNil)))))) (ab (oV (af vAdd (oV (eC (.int 1))) (oV (av 2 G.ba (ab (oSl 0) (ab (oSl 1) aNil)))))) aNil)) [some (.lst q0),some (iI ms),none,none,none,none,none,none,none,none,none,none,none,none]=some (.nx,[some (.lst q2),some (iI ms),some (iI (1+v1)),some (iI (1+v2)),none,none,none,none,none,none,none,none,none,none]):=
   qC (a_ (v_ (b_ rfl (v_ (d_ (os:=[.sl 0,.sl 1]) rfl rfl rfl e1 rfl)) rfl rfl rfl)) (a_ (v_ (b_ rfl (v_ (d_ (os:=[.sl 0,.sl 1]) rfl rfl rfl e2 rfl)) rfl rfl rfl)) rfl)) rfl (ltd rfl) (ltd rfl) rfl
  have z3:fi 4 5 (ab (oV (av 2 G.cF (ab (oSl 0) (ab (oV (aU (ab (oV (eC (.int 0))) (ab (oV (eC (.int 0))) (ab (oV (eC (.int 1))) (ab (oV (af vSub (oV (eC (.int 31))) (oSl 2))) aNil)))))) aNil)))) (ab (oV (av 2 G.cF (ab (oSl 0) (ab (oV (aU (ab (oV (eC (.int 0))) (ab (oV (eC (.int 0))) (ab (oV (eC (.int 2))) (ab (oV (af vSub (oV (eC (.int 31))) (oSl 3))) aNil)))))) aNil)))) aNil)) [some (.lst q2),some (iI ms),some (iI (1+v1)),some (iI (1+v2)),none,none,none,none,none,none,none,none,none,none]=some (.nx,[some (.lst q4),some (iI ms),some (iI (1+v1)),some (iI (1+v2)),some (iI tp),some (iI sd),none,none,none,none,none,none,none,none]):=
   qC (a_ (v_ (d_ (os:=[.sl 0,.vl (.lst [.int 0,.int 0,.int 1,.int (31 - (1+v1))])]) (D1:=[some (.lst q2),some (iI ms),some (iI (1+v1)),some (iI (1+v2)),none,none,none,none,none,none,none,none,none,none]) rfl rfl rfl e3 rfl)) (a_ (v_ (d_ (os:=[.sl 0,.vl (.lst [.int 0,.int 0,.int 2,.int (31 - (1+v2))])]) (D1:=[some (.lst q3),some (iI ms),some (iI (1+v1)),some (iI (1+v2)),none,none,none,none,none,none,none,none,none,none]) rfl rfl rfl e4 rfl)) rfl)) rfl (ltd rfl) (ltd rfl) rfl
  have z4:ay 6 (av 2 G.ba (ab (oSl 0) (ab (oV (eC (.int 6))) aNil))) [some (.lst q4),some (iI ms),some (iI (1+v1)),some (iI (1+v2)),some (iI tp),some (iI sd),none,none,none,none,none,none,none,none]=some (.nx,[some (.lst q5),some (iI ms),some (iI (1+v1)),some (iI (1+v2)),some (iI tp),some (iI sd),some (iI v5),none,none,none,none,none,none,none]):=
   bJ (d_ (os:=[.sl 0,.vl (iI 6)]) rfl rfl rfl e5 rfl) (ltd rfl) rfl
  have z5:ay 7 eDict0T [some (.lst q5),some (iI ms),some (iI (1+v1)),some (iI (1+v2)),some (iI tp),some (iI sd),some (iI v5),none,none,none,none,none,none,none]=some (.nx,fD (.lst q5) (some (iI ms)) (1+v1) (1+v2) tp sd v5 [] none none none none none none):=rfl
  have z6:cK (ar (ab (oV (eC (.int 0))) (ab (oV (eC (.int 0))) aNil))) (gT 2 (cz (gN 8) (cz (gN 9) gNil'))) (fD (.lst q6) (some (iI ms)) (1+v1) (1+v2) tp sd v5 ks6 o8 o9 o10 none none none)=some (.nx,fD (.lst q6) (some (iI ms)) (1+v1) (1+v2) tp sd v5 ks6 (some (iI 0)) (some (iI 0)) o10 none none none):=rfl
  have z7:a0 (aF vTuple (ab (oV (aF vSortM (ab (oSl 7) aNil))) aNil)) (fD (.lst q7) (some (iI ms)) (1+v1) (1+v2) tp sd v5 ks7 o8' o9' o10 o11' o12' o13')=some (.rt (cT cs),fD (.lst q7) (some (iI ms)) (1+v1) (1+v2) tp sd v5 ks7 o8' o9' o10 o11' o12' o13'):=dj (cb_ (a_ (v_ (cb_ (a_ rfl rfl) rfl hs)) rfl) rfl rfl)
  refine dr (D:=fD (.lst q7) (some (iI ms)) (1+v1) (1+v2) tp sd v5 ks7 o8' o9' o10 o11' o12' o13') rfl ?_ rfl
  refine sq_ (D1:=[some (.lst q),some (iI 8),none,none,none,none,none,none,none,none,none,none,none,none]) rfl ?_
  exact sq_ z1 (sq_ z2 (sq_ z3 (sq_ z4 (sq_ z5 (sq_ e6 (sq_ z6 (sq_ e7 z7)))))))
 ·have:=R7.inn c (c2.mem_iff.mp hc)
  lia
noncomputable def Th0 (d:Im):Prop:=∀ a,d≠.fn a
noncomputable def Th1 (d:Im):Prop:=Th0 d∧∀ es,d=.tup es→∀ y∈es,Th0 y
noncomputable def Th2 (d:Im):Prop:=Th0 d∧∀ ds,d=.tup ds→ds.length≤290∧∀ x∈ds,Th1 x
noncomputable def isI:Im→Bool
 | .int _=>true
 | _=>false
theorem qF {d:Im} (h:Th0 d):fu [.im d]=some (bV (isI d),[.im d]):=by
 cases d with
 | fn a=>exact absurd rfl (h a)
 | _=>rfl
noncomputable def isP:Im→Bool
 | .tup [a,b]=>isI a && isI b
 | _=>false
theorem qG {d:Im} (h:isI d=true):∃ i,d=.int i:=by
 cases d with
 | int i=>exact⟨i,rfl⟩
 | _=>cases h
theorem yL {d:Im} (h:Th1 d):gr [.im d]=some (bV (isP d),[.im d]):=by
 cases d with
 | fn a=>exact absurd rfl (h.1 a)
 | tup ds=>
  unfold gr qq
  match ds,h with
  | [],_=>rfl
  | [a],_=>rfl
  | [a,b],h=>
   have ha:=qF (h.2 _ rfl a (.head _))
   have hb:=qF (h.2 _ rfl b (.tail _ (.head _)))
   refine dr (D:=[some (.im (.tup [a,b]))]) rfl (dj (eb_ (dG (kb_ rfl) (dG (kb_ rfl) ?_)))) rfl
   show _=some (isI a && isI b,_)
   have ka:kB (av 1 G.fu (ab (oV (af vIx (oSl 0) (oV (eC (.int 0))))) aNil)) [some (.im (.tup [a,b]))]=some (isI a,[some (.im (.tup [a,b]))]):=kb_ (d_ (a_ (v_ (b_ (d:=.im a) rfl rfl rfl rfl rfl)) rfl) rfl rfl ha rfl)
   have kb:kB (av 1 G.fu (ab (oV (af vIx (oSl 0) (oV (eC (.int 1))))) aNil)) [some (.im (.tup [a,b]))]=some (isI b,[some (.im (.tup [a,b]))]):=kb_ (d_ (a_ (v_ (b_ (d:=.im b) rfl rfl rfl rfl rfl)) rfl) rfl rfl hb rfl)
   cases hz:isI a with
   | false=>rw[hz] at ka;exact jy ka
   | true=>rw[hz] at ka;exact dG ka kb
  | a::b::c::r,_=>
   have e:vEq (iI ((a::b::c::r).length:Int)) (iI 2)=some (bV false):=(gu _ _).trans (congrArg (fun b=>some (bV b)) (decide_eq_false (by rw[List.length_cons,List.length_cons,List.length_cons];lia)))
   exact dr (D:=[some (.im (.tup (a::b::c::r)))]) rfl (dj (eb_ (dG (kb_ rfl) (jy (kb_ (b_ (v_ (cb_ (a_ rfl rfl) rfl rfl)) rfl rfl rfl e)))))) rfl
 | _=>rfl
theorem ch_ {D D1 D2 D3:SD}{f f':Op2}{ga gb gc:M Opd}{x y z:Opd}{d1 d2 d2' d3:Vl}{b b':Bool} (e1:ga D=some (x,D1)) (e2:gb D1=some (y,D2)) (e3:rsl D2 x=some d1) (e4:rsl D2 y=some d2) (e5:f d1 d2=some (bV b)) (e6:gc D2=some (z,D3)) (e7:rsl D3 y=some d2') (e8:rsl D3 z=some d3) (e9:f' d2' d3=some (bV b')) (hD:D3=D2):dD f f' ga gb gc D=some (bV (b && b'),D2):=by
 subst hD
 unfold dD
 rw[e1];show (gb D1).bind _=_
 rw[e2];show (rsl D3 x).bind _=_
 rw[e3];show (rsl D3 y).bind _=_
 rw[e4];show (f d1 d2).bind _=_
 rw[e5]
 cases b
 ·rfl
 ·show (gc D3).bind _=_
  rw[e6];show (rsl D3 y).bind _=_
  rw[e7];show (rsl D3 z).bind _=_
  rw[e8];show (f' d2' d3).bind _=_
  rw[e9];rfl
noncomputable def isC:Im→Bool
 | .tup [.int i,.int j]=>(decide (0≤i) && decide (i≤30)) && (decide (0≤j) && decide (j≤30))
 | _=>false
theorem jz {d:Im} (h:isC d=true):∃ c:Int×Int,d=cM c∧0≤c.1∧c.1≤30∧0≤c.2∧c.2≤30:=by
 unfold isC at h
 split at h
 ·next i j=>
  rw[Bool.and_eq_true,Bool.and_eq_true,Bool.and_eq_true] at h
  exact⟨(i,j),rfl,of_decide_eq_true h.1.1,of_decide_eq_true h.1.2,of_decide_eq_true h.2.1,of_decide_eq_true h.2.2⟩
 ·cases h
theorem yM {c:Int×Int} (h:0≤c.1∧c.1≤30∧0≤c.2∧c.2≤30):isC (cM c)=true:=by
 show ((decide (0≤c.1) && decide (c.1≤30)) && (decide (0≤c.2) && decide (c.2≤30)))=true
 rw[decide_eq_true h.1,decide_eq_true h.2.1,decide_eq_true h.2.2.1,decide_eq_true h.2.2.2]
 rfl
theorem lW {d:Im} (h:isP d=false):isC d=false:=by
 cases hc:isC d with
 | false=>rfl
 | true=>
  obtain⟨c,rfl,_⟩:=jz hc
  cases h
theorem yN {d:Im} (h:Th1 d):fw [.im d]=some (bV (isC d),[.im d]):=by
 have hp:=yL h
 unfold fw qr
 refine dr (D:=[some (.im d)]) rfl (dj (eb_ ?_)) rfl
 have kp:kB (av 1 G.gr (ab (oSl 0) aNil)) [some (.im d)]=some (isP d,[some (.im d)]):=kb_ (d_ (a_ rfl rfl) rfl rfl hp rfl)
 cases hz:isP d with
 | false=>rw[hz] at kp;rw[lW hz];exact jy kp
 | true=>
  rw[hz] at kp
  obtain⟨i,j,rfl⟩:∃ i j,d=.tup [.int i,.int j]:=by
   unfold isP at hz
   split at hz
   ·next a b=>
    rw[Bool.and_eq_true] at hz
    obtain⟨i,rfl⟩:=qG hz.1
    obtain⟨j,rfl⟩:=qG hz.2
    exact⟨i,j,rfl⟩
   ·cases hz
  refine dG kp ?_
  have k1:kB (dD vLe vLe (oV (eC (.int 0))) (oV (af vIx (oSl 0) (oV (eC (.int 0))))) (oV (eC (.int 30)))) [some (.im (.tup [.int i,.int j]))]=some (decide (0≤i) && decide (i≤30),[some (.im (.tup [.int i,.int j]))]):=kb_ (ch_ rfl (v_ (b_ (d:=iI i) rfl rfl rfl rfl rfl)) rfl rfl rfl rfl rfl rfl rfl rfl)
  have k2:kB (dD vLe vLe (oV (eC (.int 0))) (oV (af vIx (oSl 0) (oV (eC (.int 1))))) (oV (eC (.int 30)))) [some (.im (.tup [.int i,.int j]))]=some (decide (0≤j) && decide (j≤30),[some (.im (.tup [.int i,.int j]))]):=kb_ (ch_ rfl (v_ (b_ (d:=iI j) rfl rfl rfl rfl rfl)) rfl rfl rfl rfl rfl rfl rfl rfl)
  show _=some ((decide (0≤i) && decide (i≤30)) && (decide (0≤j) && decide (j≤30)),_)
  cases hy:(decide (0≤i) && decide (i≤30)) with
  | false=>rw[hy] at k1;exact jy k1
  | true=>rw[hy] at k1;exact dG k1 k2
noncomputable def c6 (ds:List Im):Bool:=(ds.zip (ds.drop 1)).all fun p=>ltM p.1 p.2
noncomputable def isF:Im→Bool
 | .tup ds=>ds.all isC && c6 ds
 | _=>false
theorem blm {α:Type} (f:α→Bool):∀ xs:List α,bls (xs.map fun r=>.bl (f r))=some (xs.map f)
 | []=>rfl
 | x::r=>by rw[List.map_cons,bls,blm f r];rfl
theorem qH {α:Type} (f:α→Bool) (xs:List α):vAll [.lst (xs.map fun r=>.bl (f r))]=some (bV (xs.all f)):=by
 show (bls _).map _=_
 rw[blm,Option.map_some,List.all_map]
 rfl
theorem yO {α:Type} (f:α→Bool) (xs:List α):vAny [.lst (xs.map fun r=>.bl (f r))]=some (bV (xs.any f)):=by
 show (bls _).map _=_
 rw[blm,Option.map_some,List.any_map]
 rfl
theorem qI:∀ ds es:List Im,cn ds es=(ds.zip es).map fun p=>.tup [p.1,p.2]
 | [],_=>rfl
 | _::_,[]=>rfl
 | d::ds,e::es=>congrArg (_::·) (qI ds es)
theorem qJ (a b:Int×Int):bE 6 (cM a) (cM b)=true:=rfl
theorem yP {f:Addr}{d:Im} (h:Th2 d):il f [.im d,.im (.fn f)]=some (bV (isF d),[.im d,.im (.fn f)]):=by
 cases d with
 | fn a=>exact absurd rfl (h.1 a)
 | tup ds=>
  obtain⟨hl,hd⟩:=h.2 ds rfl
  unfold il qu
  refine dr (D:=[some (.im (.tup ds)),some (.im (.fn f))]) rfl ?_ rfl
  show aq _ _ [some (.im (.tup ds)),some (.im (.fn f))]=_
  have c1:cN 1 [1] (dZ (oSl 0)) (gN 0) kYes (jt f) [some (.im (.tup ds)),some (.im (.fn f))]=some (.lst (ds.map fun d=>.bl (isC d)),[some (.im (.tup ds)),some (.im (.fn f))]):=by
   refine cp_ (xs:=ds.map id) (o:=none) (D1:=[some (.im (.tup ds)),some (.im (.fn f))]) (by rw[List.map_id];rfl) (kU id (fun d=>.bl (isC d)) _ (fun x hx=>?_) (by lia)) rfl
   refine⟨[some (.im x),some (.im (.fn f))],_,[some (.im x),some (.im (.fn f))],rfl,rfl,?_,rfl⟩
   unfold jt
   show (if f=f then _ else _)=_
   rw[if_pos rfl]
   exact d_ (a_ rfl rfl) rfl rfl (yN (hd x hx)) rfl
  have c2:bx (b8 (oV (aF vAll (ab (oV (cN 1 [1] (dZ (oSl 0)) (gN 0) kYes (jt f))) aNil)))) [some (.im (.tup ds)),some (.im (.fn f))]=some (!(ds.all isC),[some (.im (.tup ds)),some (.im (.fn f))]):=kn_ (kt_ (v_ (cb_ (a_ (v_ c1) rfl) rfl (qH isC ds))) rfl rfl)
  show _=some (Fl.rt (bV (ds.all isC && c6 ds)),_)
  cases ha:ds.all isC with
  | false=>
   rw[ha] at c2
   exact kS (gw (eu (knt (kt_ rfl rfl rfl)) c2) rfl)
  | true=>
   rw[ha] at c2
   refine sq_ (gx (eu (knt (kt_ rfl rfl rfl)) c2) rfl) ?_
   have hall:=List.all_eq_true.mp ha
   have c3:cN 2 [] (iZ (ab (oSl 0) (ab (oV (eSl (oSl 0) (di (eC (.int 1))) pNone)) aNil))) (gT 2 (cz (gN 0) (cz (gN 1) gNil'))) kYes (qt f) [some (.im (.tup ds)),some (.im (.fn f))]=some (.lst ((ds.zip (ds.drop 1)).map fun p=>.bl (ltM p.1 p.2)),[some (.im (.tup ds)),some (.im (.fn f))]):=by
    refine cp_ (xs:=(ds.zip (ds.drop 1)).map fun p=>.tup [p.1,p.2]) (o:=none) (D1:=[some (.im (.tup ds)),some (.im (.fn f))]) ?_ (kU (fun p:Im×Im=>.tup [p.1,p.2]) (fun p=>.bl (ltM p.1 p.2)) _ (fun p hp=>?_) ?_) rfl
    ·rw[← qI]
     exact iz_ (a_ rfl (a_ (v_ (sl_ (d':=.im (.tup (ds.drop 1))) rfl rfl rfl rfl (by show some (Vl.im (.tup (cQ ds (some ((1:Nat):Int)) none)))=_;rw[oM]))) rfl)) rfl
    ·obtain⟨a,ea,_⟩:=jz (hall p.1 (List.of_mem_zip hp).1)
     obtain⟨b,eb,_⟩:=jz (hall p.2 (List.mem_of_mem_drop (List.of_mem_zip hp).2))
     obtain⟨x,y⟩:=p
     dsimp only at ea eb ⊢
     subst ea eb
     exact⟨[some (.im (cM a)),some (.im (cM b))],_,[some (.im (cM a)),some (.im (cM b))],rfl,rfl,b_ rfl rfl rfl rfl rfl,rfl⟩
    ·rw[List.length_zip,List.length_drop];lia
   exact dj (cb_ (a_ (v_ c3) rfl) rfl (qH (fun p:Im×Im=>ltM p.1 p.2) _))
 | _=>rfl
theorem jA {f:Addr}{d:Im} (h:Th2 d):er f [.im d]=some (bV (isF d),[.im d]):=by
 unfold er qv
 exact dr (D:=[some (.im d)]) rfl (dj (d_ (a_ rfl (a_ rfl rfl)) rfl rfl (yP h) rfl)) rfl
noncomputable def isL:Im→Bool
 | .int i=>decide (0≤i) && decide (i<31)
 | _=>false
theorem qK {d:Im} (h:Th0 d):et [.im d]=some (bV (isL d),[.im d]):=by
 cases d with
 | fn a=>exact absurd rfl (h a)
 | int i=>
  unfold et qx
  exact dr (D:=[some (iI i)]) rfl (dj (eb_ (dG (kb_ rfl) (dG (kb_ rfl) (kb_ (ch_ rfl rfl rfl rfl rfl rfl rfl rfl rfl rfl)))))) rfl
 | _=>rfl
theorem yQ (a b:Im):isC (.tup [a,b])=(isL a && isL b):=by
 cases a with
 | int i=>
  cases b with
  | int j=>
   show ((decide (0≤i) && decide (i≤30)) && (decide (0≤j) && decide (j≤30)))=((decide (0≤i) && decide (i<31)) && (decide (0≤j) && decide (j<31)))
   rw[show decide (i≤30)=decide (i<31) from by simp;lia,show decide (j≤30)=decide (j<31) from by simp;lia]
  | _=>show false=((decide (0≤i) && decide (i<31)) && false);rw[Bool.and_false]
 | _=>rfl
theorem yR {x:Im} (h:Th1 x) (D0:Option Vl):fy [D0,some (.im x)]=some (if isC x then (Fl.nx,[D0,some (.im x)]) else (.rt (bV false),[D0,some (.im x)])):=by
 cases x with
 | fn a=>exact absurd rfl (h.1 a)
 | tup es=>
  unfold fy
  match es,h with
  | [],_=>rfl
  | [a],_=>rw[lW (d:=.tup [a]) rfl];rfl
  | [a,b],h=>
   have ha:=qK (h.2 _ rfl a (.head _))
   have hb:=qK (h.2 _ rfl b (.tail _ (.head _)))
   have ka:bx (b8 (oV (av 1 G.et (ab (oV (af vIx (oSl 1) (oV (eC (.int 0))))) aNil)))) [D0,some (.im (.tup [a,b]))]=some (!isL a,[D0,some (.im (.tup [a,b]))]):=kn_ (kt_ (v_ (d_ (os:=[.vl (.im a)]) (D1:=[D0,some (.im (.tup [a,b]))]) (a_ (v_ (b_ (d:=.im a) rfl rfl rfl rfl rfl)) rfl) rfl rfl ha rfl)) rfl rfl)
   have kb:bx (b8 (oV (av 1 G.et (ab (oV (af vIx (oSl 1) (oV (eC (.int 1))))) aNil)))) [D0,some (.im (.tup [a,b]))]=some (!isL b,[D0,some (.im (.tup [a,b]))]):=kn_ (kt_ (v_ (d_ (os:=[.vl (.im b)]) (D1:=[D0,some (.im (.tup [a,b]))]) (a_ (v_ (b_ (d:=.im b) rfl rfl rfl rfl rfl)) rfl) rfl rfl hb rfl)) rfl rfl)
   refine sq_ (D1:=[D0,some (.im (.tup [a,b]))]) rfl ?_
   rw[yQ]
   cases h1:isL a with
   | false=>rw[h1] at ka;exact gw (lU ka) rfl
   | true=>
    rw[h1] at ka
    cases h2:isL b with
    | false=>rw[h2] at kb;exact gw (eu ka kb) rfl
    | true=>rw[h2] at kb;exact gx (eu ka kb) rfl
  | a::b::c::r,_=>
   have e:vNe (iI ((a::b::c::r).length:Int)) (iI 2)=some (bV true):=(yB _ _).trans (congrArg (fun b=>some (bV (!b))) (decide_eq_false (by rw[List.length_cons,List.length_cons,List.length_cons];lia)))
   rw[lW (d:=.tup (a::b::c::r)) rfl]
   exact kS (gw (D1:=[D0,some (.im (.tup (a::b::c::r)))]) (eu (knt (kt_ rfl rfl rfl)) (kb_ (b_ (v_ (cb_ (a_ rfl rfl) rfl rfl)) rfl rfl rfl e))) rfl)
 | _=>rfl
theorem qL (D0:Option Vl):∀ (ds:List Im) (o:Option Vl),(∀ x∈ds,Th1 x)→∃ o',bz (gN 1) fy ds [D0,o]=some (if ds.all isC then (Fl.nx,[D0,o']) else (.rt (bV false),[D0,o']))
 | [],o,_=>⟨o,rfl⟩
 | x::ds,o,h=>by
  have e:=yR (h x (.head _)) D0
  obtain⟨o',ih⟩:=qL D0 ds (some (.im x)) fun y hy=>h y (.tail _ hy)
  rw[bz]
  cases hc:isC x with
  | true=>
   rw[hc] at e
   refine⟨o',?_⟩
   show (fy [D0,some (.im x)]).bind _=_
   rw[e]
   show bz (gN 1) fy ds [D0,some (.im x)]=_
   rw[ih,List.all_cons,hc,Bool.true_and]
  | false=>
   rw[hc] at e
   refine⟨some (.im x),?_⟩
   show (fy [D0,some (.im x)]).bind _=_
   rw[e,List.all_cons,hc,Bool.false_and]
   rfl
theorem qM:∀ {ds:List Im},ds.all isC=true→∃ cs:List (Int×Int),ds=cs.map cM
 | [],_=>⟨[],rfl⟩
 | d::ds,h=>by
  rw[List.all_cons,Bool.and_eq_true] at h
  obtain⟨c,rfl,_⟩:=jz h.1
  obtain⟨cs,rfl⟩:=qM h.2
  exact⟨c::cs,rfl⟩
theorem yS {a b c:Int×Int} (h1:ltM (cM a) (cM b)=true) (h2:ltM (cM b) (cM c)=true):ltM (cM a) (cM c)=true:=jf (qJ a b) (qJ b c) h1 h2
theorem qN:∀ {cs:List (Int×Int)},c6 (cs.map cM)=true→Up cs
 | [],_=>List.Pairwise.nil
 | [a],_=>List.pairwise_singleton _ _
 | a::b::r,h=>by
  have h':(ltM (cM a) (cM b) && c6 ((b::r).map cM))=true:=h
  rw[Bool.and_eq_true] at h'
  have ih:=qN h'.2
  refine List.pairwise_cons.mpr ⟨fun c hc=>?_,ih⟩
  rcases List.mem_cons.mp hc with rfl | hc
  ·exact h'.1
  ·exact yS h'.1 ((List.pairwise_cons.mp ih).1 c hc)
theorem lX:∀ {cs:List (Int×Int)},Up cs→c6 (cs.map cM)=true
 | [],_=>rfl
 | [a],_=>rfl
 | a::b::r,h=>by
  have h':=List.pairwise_cons.mp h
  show (ltM (cM a) (cM b) && c6 ((b::r).map cM))=true
  rw[h'.1 b (.head _),lX h'.2]
  rfl
theorem yT {cs:List (Int×Int)} (h:Up cs):cs.Nodup:=h.imp fun {a b} e z=>by rw[z,lg] at e;cases e
theorem yU (cs:List (Int×Int)):∃ dc:List (Int×Int),bb (cs.map kM)=dc.map kM∧dc.Nodup∧∀ c,c∈dc↔c∈cs:=by
 have hm:=fun x=>yn (ks:=cs.map kM) (x:=x)
 have nd:=yp (cs.map kM)
 have key:∀ l:List (List Im),(∀ x∈l,x∈cs.map kM)→l=(l.map fun x=>uC (.tup x)).map kM:=fun l=>by
  induction l with
  | nil=>intro _;rfl
  | cons x l ih=>
   intro h
   obtain⟨c,_,rfl⟩:=List.mem_map.mp (h x (.head _))
   rw[List.map_cons,List.map_cons,← ih fun y hy=>h y (.tail _ hy)]
   rfl
 have e:=key _ fun x hx=>(hm x).mp hx
 refine⟨_,e,?_,fun c=>?_⟩
 ·rw[e] at nd
  exact (List.pairwise_map.mp nd).imp fun {a b} h z=>h (by rw[z])
 ·have h1:kM c∈bb (cs.map kM)↔kM c∈cs.map kM:=hm (kM c)
  rw[e] at h1
  have h2:∀ l:List (Int×Int),kM c∈l.map kM↔c∈l:=fun l=>by
   constructor
   ·intro h
    obtain⟨d,hd,hh⟩:=List.mem_map.mp h
    rw[← lu hh]
    exact hd
   ·exact fun h=>List.mem_map_of_mem h
  rw[h2,h2] at h1
  exact h1
theorem lY:∀ cs:List (Int×Int),Im.keys 8 (cs.map cM)=true
 | []=>rfl
 | c::r=>by rw[List.map_cons,Im.keys,lY r];rfl
theorem yV {cs:List (Int×Int)} (hl:cs.length≤290):js (cs.map kM)=true∧hV ((bb (cs.map kM)).map .tup)=true∧bn (cs.map cM) (bm ltM ((bb (cs.map kM)).map .tup))=c6 (cs.map cM)∧Im.pls 8 (bm ltM ((bb (cs.map kM)).map .tup))=true:=by
 obtain⟨dc,e,nd,hm⟩:=yU cs
 have hlen:dc.length≤cs.length:=ii nd fun x hx=>(hm x).mp hx
 have e2:(dc.map kM).map Im.tup=dc.map cM:=by rw[List.map_map];rfl
 obtain⟨es,s1,s2,s3⟩:=qE nd (by lia)
 rw[e,e2,s1]
 refine⟨qp.mpr ⟨fun k hk=>?_,by rw[e,List.length_map];lia⟩,jj.mpr (jl nd (by lia)),?_,lv es⟩
 ·obtain⟨c,_,rfl⟩:=List.mem_map.mp hk
  exact xq c
 ·rw[jF (lY cs) (lY es)]
  cases ha:c6 (cs.map cM) with
  | true=>
   have up:=qN ha
   have pm:cs.Perm dc:=(List.perm_ext_iff_of_nodup (yT up) nd).mpr fun c=>(hm c).symm
   have o:=jl nd (by lia)
   have:=ji o.ord (pm.map cM) (List.pairwise_map.mpr up)
   rw[s1] at this
   exact decide_eq_true this
  | false=>
   refine decide_eq_false fun z=>?_
   have:=lX s3
   rw[← z,ha] at this
   cases this
theorem yW {d:Im} (h:Th2 d):iq [.im d]=some (bV (isF d),[.im d]):=by
 cases d with
 | fn a=>exact absurd rfl (h.1 a)
 | tup ds=>
  obtain⟨hl,hd⟩:=h.2 ds rfl
  obtain⟨o',lp⟩:=qL (some (.im (.tup ds))) ds none hd
  unfold iq qy
  refine dr (D:=[some (.im (.tup ds)),o']) rfl ?_ rfl
  refine sq_ (D1:=[some (.im (.tup ds)),none]) rfl ?_
  show _=some (Fl.rt (bV (ds.all isC && c6 ds)),_)
  cases ha:ds.all isC with
  | false=>
   rw[ha] at lp
   exact kS (fA (o:=none) rfl lp rfl)
  | true=>
   rw[ha] at lp
   refine sq_ (fA (o:=none) rfl lp rfl) ?_
   obtain⟨cs,rfl⟩:=qM ha
   rw[List.length_map] at hl
   obtain⟨k1,k2,k3,k4⟩:=yV hl
   have es:lS (ab (oSl 0) aNil) [some (.im (.tup (cs.map cM))),o']=some (.lst (bm ltM ((bb (cs.map kM)).map .tup)),[some (.im (.tup (cs.map cM))),o']):=by
    show (tups? (cs.map cM)).bind _=_
    rw[show cs.map cM=(cs.map kM).map .tup by rw[List.map_map];rfl,qo]
    exact if_pos ⟨k1,k2⟩
   have ev:vEq (.lst (cs.map cM)) (.lst (bm ltM ((bb (cs.map kM)).map .tup)))=some (bV (c6 (cs.map cM))):=by
    show (if (Im.pls 8 (cs.map cM) && Im.pls 8 _)=true then _ else _)=_
    rw[lv,k4,if_pos (show (true && true)=true from rfl),k3]
   exact dj (b_ (v_ (cb_ (a_ rfl rfl) rfl rfl)) (v_ es) rfl rfl ev)
 | _=>rfl
theorem ix {x y:List Im} (h:x.length+y.length≤100000):vAdd (.im (.tup x)) (.im (.tup y))=some (.im (.tup (x++y))):=if_pos h
theorem yX {x y:List Im} (h:x.length+y.length≤100000):vAdd (.lst x) (.lst y)=some (.lst (x++y)):=if_pos h
theorem aJ (i:Int):Th0 (.int i):=fun a e=>by cases e
theorem qO (c:Int×Int):Th1 (cM c):=⟨(fun a e=>by cases e),fun es e y hy=>by
 cases e
 rcases List.mem_cons.mp hy with rfl | hy
 ·exact aJ _
 ·rw[List.mem_singleton.mp hy];exact aJ _⟩
theorem qP {cs:List (Int×Int)}{x:Im} (h:x∈cs.map cM):Th1 x:=by
 obtain⟨c,_,rfl⟩:=List.mem_map.mp h
 exact qO c
theorem gy {ds:List Im} (h:∀ x∈ds,Th0 x):Th1 (.tup ds):=⟨(fun a e=>by cases e),fun es e=>by cases e;exact h⟩
theorem dH {d:Im} (h:∀ ds,d≠.tup ds) (h0:Th0 d):Th1 d:=⟨h0,fun es e=>absurd e (h es)⟩
theorem cb {ds:List Im} (h:∀ x∈ds,Th1 x) (hl:ds.length≤290):Th2 (.tup ds):=⟨(fun a e=>by cases e),fun es e=>by cases e;exact⟨hl,h⟩⟩
noncomputable def bg (r c:Int) (t:Str):List Im:=[.fl [.int r,.int c],.tup [.int r],.tup [.int r,.int c,.int 0],.tup [.int r,.int 31],.tup [.int 31,.int c],.tup [.int (-1),.int c],.tup [.int r,.int (-1)],.non,.int r,.str "ab",.tup [.bl true,.int c],.tup [.int r,.bl false],.tup [.str t,.int c],.tup [.int r,.non],.tup [.tup [.int r,.int c]],.tup [.int r,.int (c+1)],.tup [.int r,.int c],.tup [.int 0,.int 0],.tup [.int 30,.int 30],.tup [.int (r+1),.int c],.fd]
theorem cc {P:Im→Prop}:∀ x∈([]:List Im),P x:=fun _ h=>(List.not_mem_nil h).elim
theorem all_cons {P:Im→Prop}{d:Im}{l:List Im} (h:P d) (k:∀ x∈l,P x):∀ x∈d::l,P x:=fun x hx=>by
 rcases List.mem_cons.mp hx with rfl | hx
 ·exact h
 ·exact k x hx
theorem lZ (b:Bool):Th0 (.bl b):=fun a e=>by cases e
theorem iy (x:Str):Th0 (.str x):=fun a e=>by cases e
theorem l5:Th0 .non:=fun a e=>by cases e
theorem yY (ds:List Im):Th0 (.tup ds):=fun a e=>by cases e
theorem yZ (r c:Int) (t:Str):∀ x∈bg r c t,Th1 x:=by
 have t2:∀ {a b:Im},Th0 a→Th0 b→Th1 (.tup [a,b]):=fun ha hb=>gy (all_cons ha (all_cons hb cc))
 exact all_cons (dH (fun _ e=>by cases e) fun a e=>by cases e) (all_cons (gy (all_cons (aJ _) cc)) (all_cons (gy (all_cons (aJ _) (all_cons (aJ _) (all_cons (aJ _) cc)))) (all_cons (t2 (aJ _) (aJ _)) (all_cons (t2 (aJ _) (aJ _)) (all_cons (t2 (aJ _) (aJ _)) (all_cons (t2 (aJ _) (aJ _)) (all_cons (dH (fun _ e=>by cases e) l5) (all_cons (dH (fun _ e=>by cases e) (aJ _)) (all_cons (dH (fun _ e=>by cases e) (iy _)) (all_cons (t2 (lZ _) (aJ _)) (all_cons (t2 (aJ _) (lZ _)) (all_cons (t2 (iy _) (aJ _)) (all_cons (t2 (aJ _) l5) (all_cons (gy (all_cons (yY _) cc)) (all_cons (t2 (aJ _) (aJ _)) (all_cons (t2 (aJ _) (aJ _)) (all_cons (t2 (aJ _) (aJ _)) (all_cons (t2 (aJ _) (aJ _)) (all_cons (t2 (aJ _) (aJ _)) (all_cons (dH (fun _ e=>by cases e) fun a e=>by cases e) cc))))))))))))))))))))
noncomputable def bF (W:List Im) (k:Nat) (one:Im):List Im:=[.fl W,.tup W.reverse,.tup (W++W),.tup (W.take k++[one]++W.drop k),.tup (W.take k++[one]++W.drop (k+1)),.tup [.tup W],.tup (W.drop 1),.tup (W.take k++W.drop (k+1)),.tup (W++[one]),.tup [one]]
theorem y3 {W:List Im}{k:Nat}{one:Im} (hW:∀ x∈W,Th1 x) (hl:W.length≤144) (h1:Th1 one):∀ x∈bF W k one,Th2 x:=by
 have tk:∀ x∈W.take k,Th1 x:=fun x hx=>hW x (List.mem_of_mem_take hx)
 have dk:∀ m,∀ x∈W.drop m,Th1 x:=fun m x hx=>hW x (List.mem_of_mem_drop hx)
 have ap:∀ {a b:List Im},(∀ x∈a,Th1 x)→(∀ x∈b,Th1 x)→∀ x∈a++b,Th1 x:=fun ha hb x hx=>(List.mem_append.mp hx).elim (ha x) (hb x)
 have lt:(W.take k).length≤144:=by rw[List.length_take];lia
 have ld:∀ m,(W.drop m).length≤144:=fun m=>by rw[List.length_drop];lia
 have one1:∀ x∈[one],Th1 x:=all_cons h1 cc
 refine all_cons ⟨(fun a e=>by cases e),fun ds e=>by cases e⟩ (all_cons (cb (fun x hx=>hW x (List.mem_reverse.mp hx)) (by rw[List.length_reverse];lia)) (all_cons (cb (ap hW hW) (by rw[List.length_append];lia)) (all_cons (cb (ap (ap tk one1) (dk k)) ?_) (all_cons (cb (ap (ap tk one1) (dk (k+1))) ?_) (all_cons (cb (all_cons (gy fun x hx=>(hW x hx).1) cc) (show 1≤290 by decide)) (all_cons (cb (dk 1) (by have:=ld 1;lia)) (all_cons (cb (ap tk (dk (k+1))) ?_) (all_cons (cb (ap hW one1) (by rw[List.length_append];show W.length+1≤290;lia)) (all_cons (cb one1 (show 1≤290 by decide)) cc)))))))))
 ·have:=ld k
  rw[List.length_append,List.length_append]
  show _+1+_≤290
  lia
 ·have:=ld (k+1)
  rw[List.length_append,List.length_append]
  show _+1+_≤290
  lia
 ·have:=ld (k+1)
  rw[List.length_append]
  lia
theorem y4 {M:Nat}{h:Vl}{cs:List (Int×Int)} (H:aN (M+4) h) (F:FlOk cs):∃ d h',gs [h,cT cs]=some (.im d,[h',cT cs])∧Th2 d∧aN M h':=by
 have hW:∀ x∈cs.map cM,Th1 x:=fun x hx=>qP hx
 have hl:(cs.map cM).length≤144:=by rw[List.length_map];exact F.len
 have hcell:∀ x∈cs.map cM++[cM (3,4)],∃ r c:Int,x=cM (r,c)∧0≤r∧r≤30:=fun x hx=>by
  rcases List.mem_append.mp hx with hx | hx
  ·obtain⟨c,hc,rfl⟩:=List.mem_map.mp hx
   have:=F.inn c hc
   exact⟨c.1,c.2,rfl,this.1,this.2.1⟩
  ·rw[List.mem_singleton.mp hx]
   exact⟨3,4,rfl,by decide,by decide⟩
 show ∃ d h',gs [h,.im (.tup (cs.map cM))]=some (.im d,[h',.im (.tup (cs.map cM))])∧Th2 d∧aN M h'
 generalize cs.map cM=W at hW hl hcell
 obtain⟨at',h1,e1,a1,b1,H1⟩:=em (n:=M+3) (m:=(W.length:Int)+1) H (by lia) (by lia)
 obtain⟨k,rfl⟩:∃ k:Nat,at'=(k:Int):=⟨at'.toNat,by lia⟩
 obtain⟨x,h2,e2,i2,H2⟩:=gj (n:=M+2) (xs:=W++[cM (3,4)]) H1 (by simp) (by rw[List.length_append];show _+1 < _;lia)
 obtain⟨r,c,rfl,r0,r1⟩:=hcell x i2
 have hs:vStr [iI r]=some (.im (.str (Str.ofString (toString r)))):=if_pos (by lia)
 generalize Str.ofString (toString r)=t at hs
 obtain⟨one,h3,e3,i3,H3⟩:=gj (n:=M+1) (xs:=bg r c t) H2 (by simp[bg]) (show 21<1073741824 by decide)
 have t1:=yZ r c t one i3
 obtain⟨d,h4,e4,i4,H4⟩:=gj (n:=M) (xs:=bF W k one) H3 (by simp[bF]) (show 10<1073741824 by decide)
 obtain⟨q,rfl⟩:=aY H
 obtain⟨q1,rfl⟩:=aY H1
 obtain⟨q2,rfl⟩:=aY H2
 obtain⟨q3,rfl⟩:=aY H3
 obtain⟨q4,rfl⟩:=aY H4
 refine⟨d,.lst q4,?_,y3 hW hl t1 d i4,H4⟩
 unfold gs qz
 refine dr (D:=[some (.lst q4),some (.im (.tup W)),some (iI k),some (iI r),some (iI c),some (.lst (bg r c t)),some (.im one),some (.lst (bF W k one))]) rfl ?_ rfl
 refine sq_ (D1:=[some (.lst q1),some (.im (.tup W)),some (iI k),none,none,none,none,none]) (bJ (d_ (os:=[.sl 0,.vl (iI ((W.length:Int)+1))]) (D1:=[some (.lst q),some (.im (.tup W)),none,none,none,none,none,none]) rfl rfl rfl e1 rfl) (ltd rfl) rfl) ?_
 refine sq_ (D1:=[some (.lst q2),some (.im (.tup W)),some (iI k),some (iI r),some (iI c),none,none,none]) (as_ (d_ (os:=[.sl 0,.vl (.lst (W++[cM (3,4)]))]) (D1:=[some (.lst q1),some (.im (.tup W)),some (iI k),none,none,none,none,none]) (a_ rfl (a_ (v_ (b_ (v_ (cb_ (a_ rfl rfl) rfl rfl)) rfl rfl rfl (yX (y:=[cM (3,4)]) (by show W.length+1≤_;lia)))) rfl)) rfl rfl e2 rfl) rfl) ?_
 refine sq_ (D1:=[some (.lst q2),some (.im (.tup W)),some (iI k),some (iI r),some (iI c),some (.lst ((bg r c t).take 5)),none,none]) rfl ?_
 refine sq_ (D1:=[some (.lst q2),some (.im (.tup W)),some (iI k),some (iI r),some (iI c),some (.lst ((bg r c t).take 10)),none,none]) rfl ?_
 refine sq_ (D1:=[some (.lst q2),some (.im (.tup W)),some (iI k),some (iI r),some (iI c),some (.lst ((bg r c t).take 14)),none,none]) (bJ (b_ rfl (v_ (li_ (a_ rfl (a_ rfl (a_ (v_ (tu_ (a_ (v_ (cb_ (a_ rfl rfl) rfl hs)) rfl) rfl (Nat.le_of_ble_eq_true rfl) rfl)) rfl))) rfl (Nat.le_of_ble_eq_true rfl) rfl)) rfl rfl rfl) (ltd rfl) rfl) ?_
 refine sq_ (D1:=[some (.lst q2),some (.im (.tup W)),some (iI k),some (iI r),some (iI c),some (.lst ((bg r c t).take 16)),none,none]) rfl ?_
 refine sq_ (D1:=[some (.lst q2),some (.im (.tup W)),some (iI k),some (iI r),some (iI c),some (.lst (bg r c t)),none,none]) rfl ?_
 refine sq_ (D1:=[some (.lst q3),some (.im (.tup W)),some (iI k),some (iI r),some (iI c),some (.lst (bg r c t)),some (.im one),none]) (bJ (d_ (os:=[.sl 0,.sl 5]) rfl rfl rfl e3 rfl) (ltd rfl) rfl) ?_
 have ww:vAdd (.im (.tup W)) (.im (.tup W))=some (.im (.tup (W++W))):=ix (by lia)
 have lt:(W.take k).length≤144:=by rw[List.length_take];lia
 have ld:∀ m,(W.drop m).length≤144:=fun m=>by rw[List.length_drop];lia
 have ct:∀ D:SD,∀ D':SD,vSl (.im (.tup W)) none (some (k:Int))=some (.im (.tup (W.take k))):=fun _ _=>congrArg (fun z=>some (Vl.im (.tup z))) (wJ W k)
 have cf:∀ m:Nat,vSl (.im (.tup W)) (some (m:Int)) none=some (.im (.tup (W.drop m))):=fun m=>congrArg (fun z=>some (Vl.im (.tup z))) (oM W m)
 have ad1:vAdd (.im (.tup (W.take k))) (.im (.tup [one]))=some (.im (.tup (W.take k++[one]))):=ix (by show _+1≤_;lia)
 have ad2:∀ m,vAdd (.im (.tup (W.take k++[one]))) (.im (.tup (W.drop m)))=some (.im (.tup (W.take k++[one]++W.drop m))):=fun m=>ix (by rw[List.length_append];have:=ld m;show _+1+_≤_;lia)
 have ad3:vAdd (.im (.tup (W.take k))) (.im (.tup (W.drop (k+1))))=some (.im (.tup (W.take k++W.drop (k+1)))):=ix (by have:=ld (k+1);lia)
 have ad4:vAdd (.im (.tup W)) (.im (.tup [one]))=some (.im (.tup (W++[one]))):=ix (by show _+1≤_;lia)
 refine sq_ (D1:=[some (.lst q3),some (.im (.tup W)),some (iI k),some (iI r),some (iI c),some (.lst (bg r c t)),some (.im one),some (.lst ((bF W k one).take 3))]) (bJ (D1:=[some (.lst q3),some (.im (.tup W)),some (iI k),some (iI r),some (iI c),some (.lst (bg r c t)),some (.im one),none]) (d:=.lst ((bF W k one).take 3)) (li_ (os:=[.vl (.im (.fl W)),.vl (.im (.tup W.reverse)),.vl (.im (.tup (W++W)))]) (ds:=[.im (.fl W),.im (.tup W.reverse),.im (.tup (W++W))]) (a_ rfl (a_ rfl (a_ (v_ (b_ (D1:=[some (.lst q3),some (.im (.tup W)),some (iI k),some (iI r),some (iI c),some (.lst (bg r c t)),some (.im one),none]) (D:=[some (.lst q3),some (.im (.tup W)),some (iI k),some (iI r),some (iI c),some (.lst (bg r c t)),some (.im one),none]) (x:=.sl 1) (y:=.sl 1) rfl rfl rfl rfl ww)) rfl))) rfl (Nat.le_of_ble_eq_true rfl) rfl) (ltd rfl) rfl) ?_
 refine sq_ (D1:=[some (.lst q3),some (.im (.tup W)),some (iI k),some (iI r),some (iI c),some (.lst (bg r c t)),some (.im one),some (.lst ((bF W k one).take 4))]) (bJ (D1:=[some (.lst q3),some (.im (.tup W)),some (iI k),some (iI r),some (iI c),some (.lst (bg r c t)),some (.im one),some (.lst ((bF W k one).take 3))]) (d:=.lst ((bF W k one).take 4)) (b_ rfl (v_ (li_ (a_ (v_ (b_ (v_ (b_ (v_ (sl_ rfl rfl rfl rfl (ct [] []))) (v_ (tu_ (a_ rfl rfl) rfl (Nat.le_of_ble_eq_true rfl) rfl)) rfl rfl ad1)) (v_ (sl_ rfl rfl rfl rfl (cf k))) rfl rfl (ad2 k))) rfl) rfl (Nat.le_of_ble_eq_true rfl) rfl)) rfl rfl rfl) (ltd rfl) rfl) ?_
 refine sq_ (D1:=[some (.lst q3),some (.im (.tup W)),some (iI k),some (iI r),some (iI c),some (.lst (bg r c t)),some (.im one),some (.lst ((bF W k one).take 5))]) (bJ (D1:=[some (.lst q3),some (.im (.tup W)),some (iI k),some (iI r),some (iI c),some (.lst (bg r c t)),some (.im one),some (.lst ((bF W k one).take 4))]) (d:=.lst ((bF W k one).take 5)) (b_ rfl (v_ (li_ (a_ (v_ (b_ (v_ (b_ (v_ (sl_ rfl rfl rfl rfl (ct [] []))) (v_ (tu_ (a_ rfl rfl) rfl (Nat.le_of_ble_eq_true rfl) rfl)) rfl rfl ad1)) (v_ (sl_ rfl rfl rfl rfl (cf (k+1)))) rfl rfl (ad2 (k+1)))) rfl) rfl (Nat.le_of_ble_eq_true rfl) rfl)) rfl rfl rfl) (ltd rfl) rfl) ?_
 refine sq_ (D1:=[some (.lst q3),some (.im (.tup W)),some (iI k),some (iI r),some (iI c),some (.lst (bg r c t)),some (.im one),some (.lst ((bF W k one).take 8))]) (bJ (D1:=[some (.lst q3),some (.im (.tup W)),some (iI k),some (iI r),some (iI c),some (.lst (bg r c t)),some (.im one),some (.lst ((bF W k one).take 5))]) (d:=.lst ((bF W k one).take 8)) (b_ rfl (v_ (li_ (a_ rfl (a_ (v_ (sl_ rfl rfl rfl rfl (cf 1))) (a_ (v_ (b_ (v_ (sl_ rfl rfl rfl rfl (ct [] []))) (v_ (sl_ rfl rfl rfl rfl (cf (k+1)))) rfl rfl ad3)) rfl))) rfl (Nat.le_of_ble_eq_true rfl) rfl)) rfl rfl rfl) (ltd rfl) rfl) ?_
 refine sq_ (D1:=[some (.lst q3),some (.im (.tup W)),some (iI k),some (iI r),some (iI c),some (.lst (bg r c t)),some (.im one),some (.lst (bF W k one))]) (bJ (D1:=[some (.lst q3),some (.im (.tup W)),some (iI k),some (iI r),some (iI c),some (.lst (bg r c t)),some (.im one),some (.lst ((bF W k one).take 8))]) (d:=.lst (bF W k one)) (b_ rfl (v_ (li_ (a_ (v_ (b_ rfl (v_ (tu_ (a_ rfl rfl) rfl (Nat.le_of_ble_eq_true rfl) rfl)) rfl rfl ad4)) rfl) rfl (Nat.le_of_ble_eq_true rfl) rfl)) rfl rfl rfl) (ltd rfl) rfl) ?_
 exact dj (d_ (os:=[.sl 0,.sl 7]) rfl rfl rfl e4 rfl)
theorem y6 (b:Bool):vNe (bV b) (bV b)=some (bV false):=by cases b<;>rfl
theorem y7 {M:Nat}{h:Vl}{cs:List (Int×Int)}{f:Addr}{o0 o1 o4 o5 o6 o7:Option Vl} (H:aN (M+4) h) (F:FlOk cs):
  ∃ h' o5' o6',jw f [o0,o1,some h,some (cT cs),o4,o5,o6,o7]=some (.nx,[o0,o1,some h',some (cT cs),o4,o5',o6',o7])∧aN M h':=by
 obtain⟨d,h',e,th,H'⟩:=y4 H F
 obtain⟨q,rfl⟩:=aY H
 obtain⟨q',rfl⟩:=aY H'
 refine⟨.lst q',some (.im d),some (bV (isF d)),?_,H'⟩
 unfold jw
 refine sq_ (D1:=[o0,o1,some (.lst q'),some (cT cs),o4,some (.im d),o6,o7]) (bJ (d_ (os:=[.sl 2,.sl 3]) rfl rfl rfl e rfl) (ltd rfl) rfl) ?_
 refine sq_ (D1:=[o0,o1,some (.lst q'),some (cT cs),o4,some (.im d),some (bV (isF d)),o7]) (bJ (d_ (os:=[.sl 5]) rfl rfl rfl (jA th) rfl) (ltd rfl) rfl) ?_
 have k1:b8 (oV (cZ "bool" (oSl 6))) [o0,o1,some (.lst q'),some (cT cs),o4,some (.im d),some (bV (isF d)),o7]=some (true,[o0,o1,some (.lst q'),some (cT cs),o4,some (.im d),some (bV (isF d)),o7]):=rfl
 exact gx (eu (knt k1) (kb_ (b_ rfl (v_ (d_ (os:=[.sl 5]) rfl rfl rfl (yW th) rfl)) rfl rfl (y6 _)))) rfl
theorem y8 {cs:List (Int×Int)} (F:FlOk cs):Th2 (.tup (cs.map cM)):=cb (fun x hx=>qP hx) (by rw[List.length_map];have:=F.len;lia)
theorem y9 {cs:List (Int×Int)} (F:FlOk cs):isF (.tup (cs.map cM))=true:=by
 show ((cs.map cM).all isC && c6 (cs.map cM))=true
 rw[lX F.up,Bool.and_true,List.all_eq_true]
 intro x hx
 obtain⟨c,hc,rfl⟩:=List.mem_map.mp hx
 exact yM (F.inn c hc)
theorem zc {ns:List Int}{k:Int}{f:Addr}{o2 o3 o4 o5 o6 o7:Option Vl} (hk:0≤k) (hk2:k<1000):
  ∃ o2' o3' o4' o5' o6',jx f [some (.fz (ns.map .int)),some (iI k),o2,o3,o4,o5,o6,o7]=some (.nx,[some (.fz (ns.map .int)),some (iI k),o2',o3',o4',o5',o6',o7]):=by
 obtain⟨h,e1,H⟩:=xx (ns:=ns) hk hk2
 obtain⟨cs,h',e2,F,H'⟩:=yK (M:=999600) H
 obtain⟨q,rfl⟩:=aY H
 obtain⟨q',rfl⟩:=aY H'
 have ef:=jA (f:=f) (y8 F)
 rw[y9 F] at ef
 obtain⟨D',l1,h2,o4',o5',o6',rfl,_⟩:=gZ (tg:=gN 4) (b:=jw f) (xs:=bQ 0 6) (fun i D=>∃ h o4 o5 o6,D=[some (.fz (ns.map .int)),some (iI k),some h,some (cT cs),o4,o5,o6,o7]∧aN (999600 - 4 * i) h) (D:=[some (.fz (ns.map .int)),some (iI k),some (.lst q'),some (cT cs),o4,o5,o6,o7])
  ⟨_,o4,o5,o6,rfl,H'⟩ (fun i x D hx hI=>by
   obtain⟨h,o4,o5,o6,rfl,H⟩:=hI
   obtain⟨hi,rfl⟩:=iw hx
   obtain⟨h',o5',o6',e,H'⟩:=y7 (M:=999600 - 4 * (i+1)) (f:=f) (o0:=some (.fz (ns.map .int))) (o1:=some (iI k)) (o4:=some (iI (0+(i:Int)))) (o5:=o5) (o6:=o6) (o7:=o7) (H.mono (by lia)) F
   exact⟨_,_,_,rfl,e,.inl rfl,h',_,o5',o6',rfl,H'⟩)
 refine⟨some h2,some (cT cs),o4',o5',o6',?_⟩
 unfold jx
 refine sq_ (D1:=[some (.fz (ns.map .int)),some (iI k),some (.lst q),o3,o4,o5,o6,o7]) (bJ (d_ (os:=[.sl 0,.sl 1]) rfl rfl rfl e1 rfl) (ltd rfl) rfl) ?_
 refine sq_ (D1:=[some (.fz (ns.map .int)),some (iI k),some (.lst q'),some (cT cs),o4,o5,o6,o7]) (bJ (d_ (os:=[.sl 2]) rfl rfl rfl e2 rfl) (ltd rfl) rfl) ?_
 refine sq_ (D1:=[some (.fz (ns.map .int)),some (iI k),some (.lst q'),some (cT cs),o4,o5,o6,o7]) (gx (kb_ (b_ (v_ (d_ (os:=[.sl 3]) rfl rfl rfl ef rfl)) rfl rfl rfl rfl)) rfl) ?_
 exact fA (o:=none) (rg_ (a_ rfl rfl) rfl ⟨by decide,by decide⟩) l1 rfl
noncomputable def dt:List Im:=[.non,.bl true,.int 0,.str "",.str "..",.fl [],.fd,.tup [.int 1,.int 2],.tup [.tup []],.tup [.str "ab"],.tup [.tup [.int 0,.int 0],.int 1]]
theorem zd:∀ x∈dt,Th2 x:=by
 have s:∀ {d:Im},(∀ ds,d≠.tup ds)→Th0 d→Th2 d:=fun h h0=>⟨h0,fun ds e=>absurd e (h ds)⟩
 exact all_cons (s (fun _ e=>by cases e) l5) (all_cons (s (fun _ e=>by cases e) (lZ _)) (all_cons (s (fun _ e=>by cases e) (aJ _)) (all_cons (s (fun _ e=>by cases e) (iy _)) (all_cons (s (fun _ e=>by cases e) (iy _)) (all_cons (s (fun _ e=>by cases e) fun a e=>by cases e) (all_cons (s (fun _ e=>by cases e) fun a e=>by cases e) (all_cons (cb (all_cons (dH (fun _ e=>by cases e) (aJ _)) (all_cons (dH (fun _ e=>by cases e) (aJ _)) cc)) (by decide)) (all_cons (cb (all_cons (gy cc) cc) (by decide)) (all_cons (cb (all_cons (dH (fun _ e=>by cases e) (iy _)) cc) (by decide)) (all_cons (cb (all_cons (qO (0,0)) (all_cons (dH (fun _ e=>by cases e) (aJ _)) cc)) (by decide)) cc))))))))))
theorem ze:Th2 (.tup []):=cb cc (by decide)
theorem zf (f:Addr) (ns:List Int) (hns:ns.length<100000):∃ outs,ir f [.fz (ns.map .int)]=some (.im (.bl true),outs):=by
 obtain⟨n,hn,n0,n1⟩:∃ n:Int,aF vMax2 (ab (oV (eC (.int 1))) (ab (oV (aF vMin2 (ab (oV (eC (.int 12))) (ab (oV (aF vLen (ab (oSl 0) aNil))) aNil)))) aNil)) [some (.fz (ns.map .int)),none,none,none,none,none,none,none]=some (iI n,[some (.fz (ns.map .int)),none,none,none,none,none,none,none])∧0≤n∧n≤12:=by
  refine⟨_,cb_ (a_ rfl (a_ (v_ (cb_ (a_ rfl (a_ (v_ (cb_ (a_ rfl rfl) rfl rfl)) rfl)) rfl rfl)) rfl)) rfl rfl,?_,?_⟩
  ·split<;>split<;>lia
  ·split<;>split<;>lia
 obtain⟨D',l1,k',o2',o3',o4',o5',o6',rfl⟩:=gZ (tg:=gN 1) (b:=jx f) (xs:=bQ 0 n.toNat) (fun i D=>∃ o1 o2 o3 o4 o5 o6,D=[some (.fz (ns.map .int)),o1,o2,o3,o4,o5,o6,none]) (D:=[some (.fz (ns.map .int)),none,none,none,none,none,none,none])
  ⟨_,_,_,_,_,_,rfl⟩ (fun i x D hx hI=>by
   obtain⟨o1,o2,o3,o4,o5,o6,rfl⟩:=hI
   obtain⟨hi,rfl⟩:=iw hx
   obtain⟨o2',o3',o4',o5',o6',e⟩:=zc (ns:=ns) (k:=0+(i:Int)) (f:=f) (o2:=o2) (o3:=o3) (o4:=o4) (o5:=o5) (o6:=o6) (o7:=none) (by lia) (by lia)
   exact⟨_,_,_,rfl,e,.inl rfl,_,o2',o3',o4',o5',o6',rfl⟩)
 have c1:cN 1 [] (dZ (oSl 7)) (gN 0) kYes (qA f) [some (.fz (ns.map .int)),k',o2',o3',o4',o5',o6',some (.lst dt)]=some (.lst (dt.map fun d=>.bl (isF d)),[some (.fz (ns.map .int)),k',o2',o3',o4',o5',o6',some (.lst dt)]):=by
  refine cp_ (xs:=dt.map id) (o:=some (7,.lst dt)) (D1:=[some (.fz (ns.map .int)),k',o2',o3',o4',o5',o6',some .jk]) (by rw[List.map_id];rfl) (kU id (fun d=>.bl (isF d)) _ (fun x hx=>?_) (show 11≤100000 by decide)) rfl
  exact⟨[some (.im x)],_,[some (.im x)],rfl,rfl,d_ (a_ rfl rfl) rfl rfl (jA (zd x hx)) rfl,rfl⟩
 have c2:vAny [.lst (dt.map fun d=>.bl (isF d))]=some (bV false):=(yO isF dt).trans rfl
 have en:=jA (f:=f) ze
 refine⟨_,dr (D:=[some (.fz (ns.map .int)),k',o2',o3',o4',o5',o6',some (.lst dt)]) rfl ?_ rfl⟩
 show lT f [some (.fz (ns.map .int)),none,none,none,none,none,none,none]=_
 unfold lT
 refine sq_ (fA (o:=none) (rg_ (a_ (v_ hn) rfl) rfl ⟨by lia,by lia⟩) l1 rfl) ?_
 refine sq_ (D1:=[some (.fz (ns.map .int)),k',o2',o3',o4',o5',o6',some (.lst dt)]) rfl ?_
 exact dj (eb_ (dG (kb_ (eb_ (knf (kb_ (cb_ (a_ (v_ c1) rfl) rfl c2))))) (kb_ (b_ (v_ (d_ (os:=[.vl (.im (.tup []))]) rfl rfl rfl en rfl)) rfl rfl rfl rfl))))
end G
namespace L2
open PySem
end L2
namespace K01
open PySem L2 PyProof.Rows
noncomputable def top (i:Nat):Stmt:=PySem.Challenge.pw_mowfloor_k01_floors_of_anything.main.body.getD i (.Pass ⟨0,0,0,0⟩)
structure Txt (mg:Str→Option Value):Prop where
 b_all:mg "all" = none
 b_any:mg "any" = none
 b_bool:mg "bool" = none
 b_int:mg "int" = none
 b_isinstance:mg "isinstance" = none
 b_len:mg "len" = none
 b_list:mg "list" = none
 b_max:mg "max" = none
 b_min:mg "min" = none
 b_range:mg "range" = none
 b_set:mg "set" = none
 b_sorted:mg "sorted" = none
 b_str:mg "str" = none
 b_tuple:mg "tuple" = none
 b_zip:mg "zip" = none
 c_GREATEST:∃ t,mg "GREATEST" = some (.int 30 t)
theorem qQ:bootBuiltins "all" = some (.builtin "all"):=by decide +kernel
theorem zg:bootBuiltins "any" = some (.builtin "any"):=by decide +kernel
theorem l6:bootBuiltins "bool" = some (.type "bool"):=by decide +kernel
theorem jB:bootBuiltins "int" = some (.type "int"):=by decide +kernel
theorem dJ:bootBuiltins "isinstance" = some (.builtin "isinstance"):=by decide +kernel
theorem gz:bootBuiltins "len" = some (.builtin "len"):=by decide +kernel
theorem l7:bootBuiltins "list" = some (.type "list"):=by decide +kernel
theorem l8:bootBuiltins "max" = some (.builtin "max"):=by decide +kernel
theorem l9:bootBuiltins "min" = some (.builtin "min"):=by decide +kernel
theorem zh:bootBuiltins "sorted" = some (.builtin "sorted"):=by decide +kernel
theorem zi:bootBuiltins "str" = some (.type "str"):=by decide +kernel
theorem iz:bootBuiltins "tuple" = some (.type "tuple"):=by decide +kernel
theorem aM {A:Around}{k:Nat} (hr:Room k A):A.units+20<cLine:=by have:=hr.un;omega
theorem zj {A:Around}{k:Nat} (hr:Room k A):A.units+30<cLine:=by have:=hr.un;omega
noncomputable abbrev fC:Stmt:=top 2
noncomputable abbrev zk:List Str:=["thing"]
noncomputable abbrev fE:Stmt:=top 3
noncomputable abbrev zl:List Str:=["thing"]
noncomputable abbrev dL:Stmt:=top 4
noncomputable abbrev zm:List Str:=["thing"]
noncomputable abbrev dM:Stmt:=top 5
noncomputable abbrev zn:List Str:=["thing","is_kind"]
noncomputable abbrev fF:Stmt:=top 7
noncomputable abbrev zo:List Str:=["thing"]
noncomputable abbrev fG:Stmt:=top 9
noncomputable abbrev zp:List Str:=["_law_script","_law_k","_law_cell","_law_bound","_law_digits"]
noncomputable abbrev dN:Stmt:=top 10
noncomputable abbrev zq:List Str:=["_law_hand_here","_law_many","_law_digit","_law_turn","_law_mixed","_law_odd"]
noncomputable abbrev eE:Stmt:=top 11
noncomputable abbrev zr:List Str:=["_law_hand_here","_law_some"]
noncomputable abbrev fH:Stmt:=top 12
noncomputable abbrev zt:List Str:=["_law_hand_here","_law_most","_law_high","_law_wide","_law_top","_law_side","_law_way","_law_cells","_law_row","_law_column","_law_free","_law_turn","_law_down","_law_right"]
noncomputable abbrev fI:Stmt:=top 13
noncomputable abbrev zu:List Str:=["_law_thing"]
noncomputable abbrev fJ:Stmt:=top 14
noncomputable abbrev zv:List Str:=["_law_thing","_law_one"]
noncomputable abbrev fK:Stmt:=top 15
noncomputable abbrev zw:List Str:=["_law_hand_here","_law_floor_here","_law_at","_law_row","_law_column","_law_odd","_law_one","_law_some"]
noncomputable abbrev du:Stmt:=top 16
noncomputable abbrev zx:List Str:=["_law_script","_law_k","_law_hand_here","_law_floor_here","_law_turn","_law_thing","_law_told","_law_odd"]
section
variable {P:Program}{w:World}{K:PySem.W.Frag}{mg:Str→Option Value}{base:Heap}
theorem qR:FnScope zk ["thing"] (az fC):=⟨rfl,rfl,rfl,by decide +kernel,rfl,by decide +kernel,by decide +kernel⟩
set_option maxHeartbeats 4000000 in
theorem zy {f:Addr}{fd:FuncData} (F:Fun K "is_whole" "is_whole" fC f fd) (T:Txt mg):
  FnOk P w K mg base CX0 1 f fd ["thing"] (spV 1 G.fu):=by
 have nd:=qR.nd
 refine fnV F qR rfl (by decide) (fun cdv A outer s H E hr=>?_)
 exact (aQ (bt (dA (bj (dC rfl T.b_isinstance dJ rfl T.b_int jB (ae (pv 0)))) (bj (fb (kf (bj (dC rfl T.b_isinstance dJ rfl T.b_bool l6 (ae (pv 0))))))))))
theorem qS:FnScope zl ["thing"] (az fE):=⟨rfl,rfl,rfl,by decide +kernel,rfl,by decide +kernel,by decide +kernel⟩
set_option maxHeartbeats 4000000 in
theorem zz {f:Addr}{fd:FuncData} (F:Fun K "is_pair" "is_pair" fE f fd) (T:Txt mg)
  {f_is_whole:Addr}{fd_is_whole:FuncData} (U_is_whole:Fun K "is_whole" "is_whole" fC f_is_whole fd_is_whole) (G_is_whole:FnOk P w K mg base CX0 1 f_is_whole fd_is_whole ["thing"] (spV 1 G.fu)) (b_is_whole:aT K fd_is_whole ["thing"] []) (m_is_whole:mg "is_whole" = some (.ref f_is_whole)):
  FnOk P w K mg base CX0 2 f fd ["thing"] (spV 1 G.gr):=by
 have nd:=qS.nd
 refine fnV F qS rfl (by decide) (fun cdv A outer s H E hr=>?_)
 exact (aQ (bt (dA (bj (dC rfl T.b_isinstance dJ rfl T.b_tuple iz (ae (pv 0)))) (dA (bj (cJ (fj (aM hr)) (aa (bO fY (by rfl) T.b_len gz (ad (ae (pv 0)) ag))) (aa ah) (bL _))) (dA (bj (aS G_is_whole (hr.mono (by omega)) rfl m_is_whole U_is_whole.kp b_is_whole (ad (aa (bY (b7 (aM hr)) (ae (pv 0)) (aa ah) (fun _ _=>rfl))) ag))) (bj (fb (aS G_is_whole (hr.mono (by omega)) rfl m_is_whole U_is_whole.kp b_is_whole (ad (aa (bY (b7 (aM hr)) (ae (pv 0)) (aa ah) (fun _ _=>rfl))) ag)))))))))
theorem qT:FnScope zm ["thing"] (az dL):=⟨rfl,rfl,rfl,by decide +kernel,rfl,by decide +kernel,by decide +kernel⟩
set_option maxHeartbeats 4000000 in
theorem zA {f:Addr}{fd:FuncData} (F:Fun K "is_cell" "is_cell" dL f fd) (T:Txt mg)
  {f_is_pair:Addr}{fd_is_pair:FuncData} (U_is_pair:Fun K "is_pair" "is_pair" fE f_is_pair fd_is_pair) (G_is_pair:FnOk P w K mg base CX0 2 f_is_pair fd_is_pair ["thing"] (spV 1 G.gr)) (b_is_pair:aT K fd_is_pair ["thing"] []) (m_is_pair:mg "is_pair" = some (.ref f_is_pair)):
  FnOk P w K mg base CX0 3 f fd ["thing"] (spV 1 G.fw):=by
 have nd:=qT.nd
 refine fnV F qT rfl (by decide) (fun cdv A outer s H E hr=>?_)
 exact (aQ (bt (dA (bj (aS G_is_pair (hr.mono (by omega)) rfl m_is_pair U_is_pair.kp b_is_pair (ad (ae (pv 0)) ag))) (dA (bj (lc gU gU (aa ah) (aa (bY (b7 (aM hr)) (ae (pv 0)) (aa ah) (fun _ _=>rfl))) (aa (om rfl T.c_GREATEST.choose_spec)))) (bj (fb (lc gU gU (aa ah) (aa (bY (b7 (aM hr)) (ae (pv 0)) (aa ah) (fun _ _=>rfl))) (aa (om rfl T.c_GREATEST.choose_spec)))))))))
theorem qU:FnScope zn ["thing","is_kind"] (az dM):=⟨rfl,rfl,rfl,by decide +kernel,rfl,by decide +kernel,by decide +kernel⟩
set_option maxHeartbeats 4000000 in
theorem zB {f:Addr}{fd:FuncData} (F:Fun K "is_rising" "is_rising" dM f fd) (T:Txt mg)
  {f_is_cell:Addr}{fd_is_cell:FuncData} (U_is_cell:Fun K "is_cell" "is_cell" dL f_is_cell fd_is_cell) (G_is_cell:FnOk P w K mg base CX0 3 f_is_cell fd_is_cell ["thing"] (spV 1 G.fw)) (b_is_cell:aT K fd_is_cell ["thing"] []) (m_is_cell:mg "is_cell" = some (.ref f_is_cell)):
  FnOk P w K mg base CX0 4 f fd ["thing","is_kind"] (spV 2 (G.il f_is_cell)):=by
 have nd:=qU.nd
 refine fnV F qU rfl (by decide) (fun cdv A outer s H E hr=>?_)
 exact (au (df (VW.vt (iU (eZ (d9 (aa (dC rfl T.b_isinstance dJ rfl T.b_tuple iz (ae (pv 0)))))) (iT (eZ (d9 (aa (bO (oj rfl) (by rfl) T.b_all qQ (ad (aa (kw (own:=["part"]) (caps:=[1]) rfl (jT (az dM) ["thing","is_kind"] (by decide +kernel)) (by decide) (km (ae (pv 0))) (fun Y=>(bP (i:=0) (show (["part","is_kind"]:List Str).Nodup by decide +kernel) rfl (by first | exact Or.inl rfl | exact Or.inr rfl) (by decide))) (fun Y=>ko) (fun Y=>(wY G_is_cell (hr.mono (by omega)) (pv 1) U_is_cell.kp b_is_cell (ad (ae (pv 0)) ag))))) ag)))))))) (aQ (bt bX)) de) (aQ (bt (bO (oj rfl) (by rfl) T.b_all qQ (ad (aa (kw (own:=["ahead","behind"]) (caps:=[]) rfl (jT (az dM) ["thing","is_kind"] (by decide +kernel)) (by decide) (wG rfl T.b_zip (ad (ae (pv 0)) (by exact (ad (aa (d7 (ae (pv 0)) (d6 ah) d0)) ag)))) (fun Y=>(iX rfl (dX (bP (i:=0) (show (["ahead","behind"]:List Str).Nodup by decide +kernel) rfl (by first | exact Or.inl rfl | exact Or.inr rfl) (by decide)) (dX (bP (i:=1) (show (["ahead","behind"]:List Str).Nodup by decide +kernel) rfl (by first | exact Or.inl rfl | exact Or.inr rfl) (by decide)) iW)))) (fun Y=>ko) (fun Y=>(cJ (yz (aM hr)) (ae (pv 0)) (ae (pv 1)) (bL _))))) ag)))))
theorem qV:FnScope zo ["thing"] (az fF):=⟨rfl,rfl,rfl,by decide +kernel,rfl,by decide +kernel,by decide +kernel⟩
set_option maxHeartbeats 4000000 in
theorem zC {f:Addr}{fd:FuncData} (F:Fun K "is_floor" "is_floor" fF f fd) (T:Txt mg)
  {f_is_cell:Addr}{fd_is_cell:FuncData} (U_is_cell:Fun K "is_cell" "is_cell" dL f_is_cell fd_is_cell) (G_is_cell:FnOk P w K mg base CX0 3 f_is_cell fd_is_cell ["thing"] (spV 1 G.fw)) (b_is_cell:aT K fd_is_cell ["thing"] []) (m_is_cell:mg "is_cell" = some (.ref f_is_cell))
  {f_is_rising:Addr}{fd_is_rising:FuncData} (U_is_rising:Fun K "is_rising" "is_rising" dM f_is_rising fd_is_rising) (G_is_rising:FnOk P w K mg base CX0 4 f_is_rising fd_is_rising ["thing","is_kind"] (spV 2 (G.il f_is_cell))) (b_is_rising:aT K fd_is_rising ["thing","is_kind"] []) (m_is_rising:mg "is_rising" = some (.ref f_is_rising)):
  FnOk P w K mg base CX0 5 f fd ["thing"] (spV 1 (G.er f_is_cell)):=by
 have nd:=qV.nd
 refine fnV F qV rfl (by decide) (fun cdv A outer s H E hr=>?_)
 exact (aQ (bt (aS G_is_rising (hr.mono (by omega)) rfl m_is_rising U_is_rising.kp b_is_rising (ad (ae (pv 0)) (by exact (ad (aa (wy rfl m_is_cell)) ag))))))
theorem qW:FnScope zp ["_law_script","_law_k"] (az fG):=⟨rfl,rfl,rfl,by decide +kernel,rfl,by decide +kernel,by decide +kernel⟩
set_option maxHeartbeats 4000000 in
theorem zD {f:Addr}{fd:FuncData} (F:Fun K "_law_hand" "_law_hand" fG f fd) (T:Txt mg):
  FnOk P w K mg base CX0 1 f fd ["_law_script","_law_k"] (spV 2 G.gg):=by
 have nd:=qW.nd
 refine fnV F qW rfl (by decide) (fun cdv A outer s H E hr=>?_)
 exact (au (aI (i:=2) nd rfl (by first | exact Or.inl rfl | exact Or.inr rfl) ah (by decide)) (au (df (fR n4 (ae (pv 1)) (aa (bO fY (by rfl) T.b_len gz (ad (ae (pv 0)) ag))) (bL _)) (aQ (aI (i:=2) nd rfl (by first | exact Or.inl rfl | exact Or.inr rfl) (bY (b7 (aM hr)) (ae (pv 0)) (ae (pv 1)) (fun _ _=>rfl)) (by decide))) de) (au (aI (i:=3) nd rfl (by first | exact Or.inl rfl | exact Or.inr rfl) (ak cY (aa (ak cY (aa (ak i7 (aa ah) (aa ah))) (aa (ak i7 (aa ah) (aa ah))))) (aa (ak i7 (aa ah) (aa ah)))) (by decide)) (au (aI (i:=4) nd rfl (by first | exact Or.inl rfl | exact Or.inr rfl) (ak cY (aa (ak dB (ae (pv 2)) (ae (pv 3)))) (aa (ff oh rfl T.b_int jB (ad (aa (cJ v4 (ae (pv 2)) (aa (ak i7 (aa ah) (aa ah))) (bL _))) ag)))) (by decide)) (aQ (bt (br (by exact (ad (ae (pv 4)) (by exact (ad (aa (ak aC (aa (ak aC (aa (ak dB (ae (pv 2)) (aa ah))) (aa (ak cY (aa ah) (ae (pv 1)))))) (aa ah))) (by exact (ad (aa ah) ag)))))))))))))
theorem qX:FnScope zq ["_law_hand_here","_law_many"] (az dN):=⟨rfl,rfl,rfl,by decide +kernel,rfl,by decide +kernel,by decide +kernel⟩
set_option maxHeartbeats 4000000 in
theorem zE {f:Addr}{fd:FuncData} (F:Fun K "_law_take" "_law_take" dN f fd) (T:Txt mg):
  FnOk P w K mg base CX0 1 f fd ["_law_hand_here","_law_many"] (spV 2 G.ba):=by
 have nd:=qX.nd
 refine fnV F qX rfl (by decide) (fun cdv A outer s H E hr=>?_)
 exact (au (df (fR n5 (aa (bY (b7 (aM hr)) (ae (pv 0)) (aa ah) (fun _ _=>rfl))) (aa ah) (bL _)) (au (aI (i:=2) nd rfl (by first | exact Or.inl rfl | exact Or.inr rfl) (ak dB (aa (bY (b7 (aM hr)) (ae (pv 0)) (aa ah) (fun _ _=>rfl))) (ae (pv 1))) (by decide)) (au (fh (ak i6 (aa (bY (b7 (aM hr)) (ae (pv 0)) (aa ah) (fun _ _=>rfl))) (ae (pv 1))) (ja (pv 0) ah (oJ (aM hr)))) (aQ (bt (gL (pv 2)))))) de) (au (fh (ak aC (aa (bY (b7 (aM hr)) (ae (pv 0)) (aa ah) (fun _ _=>rfl))) (aa ah)) (ja (pv 0) ah (oJ (aM hr)))) (au (aI (i:=3) nd rfl (by first | exact Or.inl rfl | exact Or.inr rfl) (bY (b7 (aM hr)) (ae (pv 0)) (aa ah) (fun _ _=>rfl)) (by decide)) (au (aI (i:=4) nd rfl (by first | exact Or.inl rfl | exact Or.inr rfl) (ak dB (aa (ak cY (aa (bY (b7 (aM hr)) (ae (pv 0)) (aa ah) (fun _ _=>rfl))) (aa (ak aC (aa (ak aC (aa ah) (aa (ak cY (aa (ak cY (aa ah) (ae (pv 3)))) (ae (pv 3)))))) (aa (ak cY (aa ah) (ae (pv 3)))))))) (aa ah)) (by decide)) (au (aI (i:=5) nd rfl (by first | exact Or.inl rfl | exact Or.inr rfl) (ak aC (aa (ak aC (aa (ak dB (ae (pv 4)) (aa ah))) (aa (ak cY (ae (pv 3)) (aa ah))))) (aa ah)) (by decide)) (au (aI (i:=4) nd rfl (by first | exact Or.inl rfl | exact Or.inr rfl) (ak dB (aa (ak cY (ae (pv 4)) (ae (pv 5)))) (aa ah)) (by decide)) (aQ (bt (ak dB (aa (ak aC (aa (ak i6 (ae (pv 4)) (aa ah))) (aa (ak i6 (ae (pv 4)) (aa ah))))) (ae (pv 1)))))))))))
theorem qY:FnScope zr ["_law_hand_here","_law_some"] (az eE):=⟨rfl,rfl,rfl,by decide +kernel,rfl,by decide +kernel,by decide +kernel⟩
set_option maxHeartbeats 4000000 in
theorem zF {f:Addr}{fd:FuncData} (F:Fun K "_law_of" "_law_of" eE f fd) (T:Txt mg)
  {f_l_take:Addr}{fd_l_take:FuncData} (U_l_take:Fun K "_law_take" "_law_take" dN f_l_take fd_l_take) (G_l_take:FnOk P w K mg base CX0 1 f_l_take fd_l_take ["_law_hand_here","_law_many"] (spV 2 G.ba)) (b_l_take:aT K fd_l_take ["_law_hand_here","_law_many"] []) (m_l_take:mg "_law_take" = some (.ref f_l_take)):
  FnOk P w K mg base CX0 2 f fd ["_law_hand_here","_law_some"] (spV 2 G.cF):=by
 have nd:=qY.nd
 refine fnV F qY rfl (by decide) (fun cdv A outer s H E hr=>?_)
 exact (aQ (bt (bY (b7 (aM hr)) (ae (pv 1)) (aa (aS G_l_take (hr.mono (by omega)) rfl m_l_take U_l_take.kp b_l_take (ad (ae (pv 0)) (by exact (ad (aa (bO fY (by rfl) T.b_len gz (ad (ae (pv 1)) ag))) ag))))) (fun _ _=>rfl))))
theorem qZ:FnScope zt ["_law_hand_here"] (az fH):=⟨rfl,rfl,rfl,by decide +kernel,rfl,by decide +kernel,by decide +kernel⟩
set_option maxHeartbeats 4000000 in
theorem zG {f:Addr}{fd:FuncData} (F:Fun K "_law_floor" "_law_floor" fH f fd) (T:Txt mg)
  {f_l_take:Addr}{fd_l_take:FuncData} (U_l_take:Fun K "_law_take" "_law_take" dN f_l_take fd_l_take) (G_l_take:FnOk P w K mg base CX0 1 f_l_take fd_l_take ["_law_hand_here","_law_many"] (spV 2 G.ba)) (b_l_take:aT K fd_l_take ["_law_hand_here","_law_many"] []) (m_l_take:mg "_law_take" = some (.ref f_l_take))
  {f_l_of:Addr}{fd_l_of:FuncData} (U_l_of:Fun K "_law_of" "_law_of" eE f_l_of fd_l_of) (G_l_of:FnOk P w K mg base CX0 2 f_l_of fd_l_of ["_law_hand_here","_law_some"] (spV 2 G.cF)) (b_l_of:aT K fd_l_of ["_law_hand_here","_law_some"] []) (m_l_of:mg "_law_of" = some (.ref f_l_of)):
  FnOk P w K mg base CX0 3 f fd ["_law_hand_here"] (spV 1 G.ip):=by
 have nd:=qZ.nd
 refine fnV F qZ rfl (by decide) (fun cdv A outer s H E hr=>?_)
 exact (au (aI (i:=1) nd rfl (by first | exact Or.inl rfl | exact Or.inr rfl) ah (by decide)) (au (df (fR (fj (aM hr)) (aa (aS G_l_take (hr.mono (by omega)) rfl m_l_take U_l_take.kp b_l_take (ad (ae (pv 0)) (by exact (ad (aa ah) ag))))) (aa ah) (bL _)) (aQ (aI (i:=1) nd rfl (by first | exact Or.inl rfl | exact Or.inr rfl) ah (by decide))) de) (au (nS (i:=2) (j:=3) rfl nd rfl rfl (by decide) rfl rfl (ad (aa (ak aC (aa ah) (aa (aS G_l_take (hr.mono (by omega)) rfl m_l_take U_l_take.kp b_l_take (ad (ae (pv 0)) (by exact (ad (ae (pv 1)) ag))))))) (by exact (ad (aa (ak aC (aa ah) (aa (aS G_l_take (hr.mono (by omega)) rfl m_l_take U_l_take.kp b_l_take (ad (ae (pv 0)) (by exact (ad (ae (pv 1)) ag))))))) ag))) (by decide) (by decide) rfl) (au (nS (i:=4) (j:=5) rfl nd rfl rfl (by decide) rfl rfl (ad (aa (aS G_l_of (hr.mono (by omega)) rfl m_l_of U_l_of.kp b_l_of (ad (ae (pv 0)) (by exact (ad (aa (br (by exact (ad (aa ah) (by exact (ad (aa ah) (by exact (ad (aa ah) (by exact (ad (aa (ak fV (aa ah) (ae (pv 2)))) ag)))))))))) ag))))) (by exact (ad (aa (aS G_l_of (hr.mono (by omega)) rfl m_l_of U_l_of.kp b_l_of (ad (ae (pv 0)) (by exact (ad (aa (br (by exact (ad (aa ah) (by exact (ad (aa ah) (by exact (ad (aa ah) (by exact (ad (aa (ak fV (aa ah) (ae (pv 3)))) ag)))))))))) ag))))) ag))) (by decide) (by decide) rfl) (au (aI (i:=6) nd rfl (by first | exact Or.inl rfl | exact Or.inr rfl) (aS G_l_take (hr.mono (by omega)) rfl m_l_take U_l_take.kp b_l_take (ad (ae (pv 0)) (by exact (ad (aa ah) ag)))) (by decide)) (au (aI (i:=7) nd rfl (by first | exact Or.inl rfl | exact Or.inr rfl) kW (by decide)) (au (fU (fx:=[0]) PassesOwn.never rfl (gQ rfl T.b_range (ad (ae (pv 2)) ag)) (bP (i:=8) nd rfl (by first | exact Or.inl rfl | exact Or.inr rfl) (by decide)) (aQ (fU (fx:=[0]) PassesOwn.never rfl (gQ rfl T.b_range (ad (ae (pv 3)) ag)) (bP (i:=9) nd rfl (by first | exact Or.inl rfl | exact Or.inr rfl) (by decide)) (au (aI (i:=10) nd rfl (by first | exact Or.inl rfl | exact Or.inr rfl) (br (by exact (ad (aa (cJ (fj (aM hr)) (aa (aS G_l_take (hr.mono (by omega)) rfl m_l_take U_l_take.kp b_l_take (ad (ae (pv 0)) (by exact (ad (aa ah) ag))))) (aa ah) (bL _))) (by exact (ad (aa (cJ n5 (aa (aS G_l_take (hr.mono (by omega)) rfl m_l_take U_l_take.kp b_l_take (ad (ae (pv 0)) (by exact (ad (aa ah) ag))))) (aa ah) (bL _))) (by exact (ad (aa bX) ag))))))) (by decide)) (au (vP (wB wA PySem.F.plainAttrs_list PySem.F.slot_list_append PySem.F.type_list_append wC (pv 10) (ad (aa (nK (bj (cJ (fj (aM hr)) (aa (ak dB (ae (pv 8)) (aa ah))) (aa ah) (bL _))) (bj (fb (cJ (fj (aM hr)) (ae (pv 9)) (aa (ak dB (aa (ak i6 (ae (pv 8)) (aa ah))) (ae (pv 3)))) (bL _)))))) ag))) (au (aI (i:=10) nd rfl (by first | exact Or.inl rfl | exact Or.inr rfl) (ak aC (ae (pv 10)) (aa (br (by exact (ad (aa (nK (bj (cJ (oU (aM hr)) (ae (pv 8)) (aa (aB (by exact (ad (aa ah) (by exact (ad (aa (ak fV (ae (pv 2)) (aa ah))) ag)))))) rfl)) (bj (fb (cJ (oU (aM hr)) (ae (pv 9)) (aa (aB (by exact (ad (aa ah) (by exact (ad (aa (ak fV (ae (pv 3)) (aa ah))) ag)))))) rfl))))) (by exact (ad (aa bX) ag))))))) (by decide)) (aQ (df (d9 (aa (bY (b7 (aM hr)) (ae (pv 10)) (ae (pv 6)) (fun _ _=>rfl)))) (aQ (fh bX (ja (pv 7) (aB (by exact (ad (aa (ak aC (ae (pv 8)) (ae (pv 4)))) (by exact (ad (aa (ak aC (ae (pv 9)) (ae (pv 5)))) ag))))) (oO (aM hr))))) de))))) (by decide) gR)) (by decide) gR) (au (fh (aB (by exact (ad (aa ah) (by exact (ad (aa ah) ag))))) (iX rfl (dX (bP (i:=8) nd rfl (by first | exact Or.inl rfl | exact Or.inr rfl) (by decide)) (dX (bP (i:=9) nd rfl (by first | exact Or.inl rfl | exact Or.inr rfl) (by decide)) iW)))) (au (fU (fx:=[0]) PassesOwn.never rfl (gQ rfl T.b_range (ad (aa (ak cY (aa ah) (aa (ff oh rfl T.b_int jB (ad (aa (cJ (fj (aM hr)) (ae (pv 6)) (aa ah) (bL _))) ag))))) ag)) (bP (i:=11) nd rfl (by first | exact Or.inl rfl | exact Or.inr rfl) (by decide)) (au (fh bX (ja (pv 7) (aB (by exact (ad (aa (ak aC (ae (pv 8)) (ae (pv 4)))) (by exact (ad (aa (ak aC (ae (pv 9)) (ae (pv 5)))) ag))))) (oO (aM hr)))) (au (fh (aS G_l_of (hr.mono (by omega)) rfl m_l_of U_l_of.kp b_l_of (ad (ae (pv 0)) (by exact (ad (aa (br (by exact (ad (aa (aB (by exact (ad (aa ah) (by exact (ad (aa ah) ag)))))) (by exact (ad (aa (aB (by exact (ad (aa ah) (by exact (ad (aa ah) ag)))))) (by exact (ad (aa (aB (by exact (ad (aa ah) (by exact (ad (aa ah) ag)))))) (by exact (ad (aa (aB (by exact (ad (aa (gX ah)) (by exact (ad (aa ah) ag)))))) (by exact (ad (aa (aB (by exact (ad (aa ah) (by exact (ad (aa (gX ah)) ag)))))) (by exact (ad (aa (aB (by exact (ad (aa ah) (by exact (ad (aa ah) ag)))))) ag)))))))))))))) ag)))) (iX rfl (dX (bP (i:=12) nd rfl (by first | exact Or.inl rfl | exact Or.inr rfl) (by decide)) (dX (bP (i:=13) nd rfl (by first | exact Or.inl rfl | exact Or.inr rfl) (by decide)) iW)))) (au (aI (i:=8) nd rfl (by first | exact Or.inl rfl | exact Or.inr rfl) (bO (kG rfl) (by rfl) T.b_min l9 (ad (aa (ak fV (ae (pv 2)) (aa ah))) (by exact (ad (aa (bO (kF rfl) (by rfl) T.b_max l8 (ad (aa ah) (by exact (ad (aa (ak aC (ae (pv 8)) (ae (pv 12)))) ag))))) ag)))) (by decide)) (aQ (aI (i:=9) nd rfl (by first | exact Or.inl rfl | exact Or.inr rfl) (bO (kG rfl) (by rfl) T.b_min l9 (ad (aa (ak fV (ae (pv 3)) (aa ah))) (by exact (ad (aa (bO (kF rfl) (by rfl) T.b_max l8 (ad (aa ah) (by exact (ad (aa (ak aC (ae (pv 9)) (ae (pv 13)))) ag))))) ag)))) (by decide)))))) (by decide) gR) (aQ (bt (ff wq rfl T.b_tuple iz (ad (aa (bO (xm rfl (aM hr)) (by rfl) T.b_sorted zh (ad (ae (pv 7)) ag))) ag)))))))))))))
theorem q8:FnScope zu ["_law_thing"] (az fI):=⟨rfl,rfl,rfl,by decide +kernel,rfl,by decide +kernel,by decide +kernel⟩
set_option maxHeartbeats 4000000 in
theorem zH {f:Addr}{fd:FuncData} (F:Fun K "_law_whole" "_law_whole" fI f fd) (T:Txt mg):
  FnOk P w K mg base CX0 1 f fd ["_law_thing"] (spV 1 G.et):=by
 have nd:=q8.nd
 refine fnV F q8 rfl (by decide) (fun cdv A outer s H E hr=>?_)
 exact (aQ (bt (dA (bj (dC rfl T.b_isinstance dJ rfl T.b_int jB (ae (pv 0)))) (dA (bj (kf (bj (dC rfl T.b_isinstance dJ rfl T.b_bool l6 (ae (pv 0)))))) (bj (fb (lc gU n4 (aa ah) (ae (pv 0)) (aa ah))))))))
theorem q9:FnScope zv ["_law_thing"] (az fJ):=⟨rfl,rfl,rfl,by decide +kernel,rfl,by decide +kernel,by decide +kernel⟩
set_option maxHeartbeats 4000000 in
theorem zI {f:Addr}{fd:FuncData} (F:Fun K "_law_due" "_law_due" fJ f fd) (T:Txt mg)
  {f_l_whole:Addr}{fd_l_whole:FuncData} (U_l_whole:Fun K "_law_whole" "_law_whole" fI f_l_whole fd_l_whole) (G_l_whole:FnOk P w K mg base CX0 1 f_l_whole fd_l_whole ["_law_thing"] (spV 1 G.et)) (b_l_whole:aT K fd_l_whole ["_law_thing"] []) (m_l_whole:mg "_law_whole" = some (.ref f_l_whole)):
  FnOk P w K mg base CX0 2 f fd ["_law_thing"] (spV 1 G.iq):=by
 have nd:=q9.nd
 refine fnV F q9 rfl (by decide) (fun cdv A outer s H E hr=>?_)
 exact (au (df (eZ (d9 (aa (dC rfl T.b_isinstance dJ rfl T.b_tuple iz (ae (pv 0)))))) (aQ (bt bX)) de) (au (fU (fx:=[0]) PassesOwn.never rfl (km (ae (pv 0))) (bP (i:=1) nd rfl (by first | exact Or.inl rfl | exact Or.inr rfl) (by decide)) (au (df (VW.vt (iU (eZ (d9 (aa (dC rfl T.b_isinstance dJ rfl T.b_tuple iz (ae (pv 1)))))) (iT (fR (n6 (aM hr)) (aa (bO fY (by rfl) T.b_len gz (ad (ae (pv 1)) ag))) (aa ah) (bL _))))) (aQ (bt bX)) de) (aQ (df (VW.vt (iU (eZ (d9 (aa (aS G_l_whole (hr.mono (by omega)) rfl m_l_whole U_l_whole.kp b_l_whole (ad (aa (bY (b7 (aM hr)) (ae (pv 1)) (aa ah) (fun _ _=>rfl))) ag))))) (iT (eZ (d9 (aa (aS G_l_whole (hr.mono (by omega)) rfl m_l_whole U_l_whole.kp b_l_whole (ad (aa (bY (b7 (aM hr)) (ae (pv 1)) (aa ah) (fun _ _=>rfl))) ag)))))))) (aQ (bt bX)) de))) (by decide) (vV (by decide))) (aQ (bt (cJ (fj (aM hr)) (aa (ff kD rfl T.b_list l7 (ad (ae (pv 0)) ag))) (aa (yx (zj hr) rfl T.b_sorted rfl T.b_set (ad (ae (pv 0)) ag))) (bL _))))))
theorem ra:FnScope zw ["_law_hand_here","_law_floor_here"] (az fK):=⟨rfl,rfl,rfl,by decide +kernel,rfl,by decide +kernel,by decide +kernel⟩
set_option maxHeartbeats 4000000 in
theorem zJ {f:Addr}{fd:FuncData} (F:Fun K "_law_spoilt" "_law_spoilt" fK f fd) (T:Txt mg)
  {f_l_take:Addr}{fd_l_take:FuncData} (U_l_take:Fun K "_law_take" "_law_take" dN f_l_take fd_l_take) (G_l_take:FnOk P w K mg base CX0 1 f_l_take fd_l_take ["_law_hand_here","_law_many"] (spV 2 G.ba)) (b_l_take:aT K fd_l_take ["_law_hand_here","_law_many"] []) (m_l_take:mg "_law_take" = some (.ref f_l_take))
  {f_l_of:Addr}{fd_l_of:FuncData} (U_l_of:Fun K "_law_of" "_law_of" eE f_l_of fd_l_of) (G_l_of:FnOk P w K mg base CX0 2 f_l_of fd_l_of ["_law_hand_here","_law_some"] (spV 2 G.cF)) (b_l_of:aT K fd_l_of ["_law_hand_here","_law_some"] []) (m_l_of:mg "_law_of" = some (.ref f_l_of)):
  FnOk P w K mg base CX0 3 f fd ["_law_hand_here","_law_floor_here"] (spV 2 G.gs):=by
 have nd:=ra.nd
 refine fnV F ra rfl (by decide) (fun cdv A outer s H E hr=>?_)
 exact (au (aI (i:=2) nd rfl (by first | exact Or.inl rfl | exact Or.inr rfl) (aS G_l_take (hr.mono (by omega)) rfl m_l_take U_l_take.kp b_l_take (ad (ae (pv 0)) (by exact (ad (aa (ak aC (aa (bO fY (by rfl) T.b_len gz (ad (ae (pv 1)) ag))) (aa ah))) ag)))) (by decide)) (au (fh (aS G_l_of (hr.mono (by omega)) rfl m_l_of U_l_of.kp b_l_of (ad (ae (pv 0)) (by exact (ad (aa (ak aC (aa (ff kD rfl T.b_list l7 (ad (ae (pv 1)) ag))) (aa (br (by exact (ad (aa (aB (by exact (ad (aa ah) (by exact (ad (aa ah) ag)))))) ag)))))) ag)))) (iX rfl (dX (bP (i:=3) nd rfl (by first | exact Or.inl rfl | exact Or.inr rfl) (by decide)) (dX (bP (i:=4) nd rfl (by first | exact Or.inl rfl | exact Or.inr rfl) (by decide)) iW)))) (au (aI (i:=5) nd rfl (by first | exact Or.inl rfl | exact Or.inr rfl) (br (by exact (ad (aa (g9 (br (by exact (ad (ae (pv 3)) (by exact (ad (ae (pv 4)) ag))))))) (by exact (ad (aa (aB (by exact (ad (ae (pv 3)) ag)))) (by exact (ad (aa (aB (by exact (ad (ae (pv 3)) (by exact (ad (ae (pv 4)) (by exact (ad (aa ah) ag)))))))) (by exact (ad (aa (aB (by exact (ad (ae (pv 3)) (by exact (ad (aa ah) ag)))))) (by exact (ad (aa (aB (by exact (ad (aa ah) (by exact (ad (ae (pv 4)) ag)))))) ag))))))))))) (by decide)) (au (aI (i:=5) nd rfl (by first | exact Or.inl rfl | exact Or.inr rfl) (ak aC (ae (pv 5)) (aa (br (by exact (ad (aa (aB (by exact (ad (aa (gX ah)) (by exact (ad (ae (pv 4)) ag)))))) (by exact (ad (aa (aB (by exact (ad (ae (pv 3)) (by exact (ad (aa (gX ah)) ag)))))) (by exact (ad (aa kc) (by exact (ad (ae (pv 3)) (by exact (ad (aa iQ) ag))))))))))))) (by decide)) (au (aI (i:=5) nd rfl (by first | exact Or.inl rfl | exact Or.inr rfl) (ak aC (ae (pv 5)) (aa (br (by exact (ad (aa (aB (by exact (ad (aa bX) (by exact (ad (ae (pv 4)) ag)))))) (by exact (ad (aa (aB (by exact (ad (ae (pv 3)) (by exact (ad (aa bX) ag)))))) (by exact (ad (aa (aB (by exact (ad (aa (ff yy rfl T.b_str zi (ad (ae (pv 3)) ag))) (by exact (ad (ae (pv 4)) ag)))))) (by exact (ad (aa (aB (by exact (ad (ae (pv 3)) (by exact (ad (aa kc) ag)))))) ag))))))))))) (by decide)) (au (aI (i:=5) nd rfl (by first | exact Or.inl rfl | exact Or.inr rfl) (ak aC (ae (pv 5)) (aa (br (by exact (ad (aa (aB (by exact (ad (aa (aB (by exact (ad (ae (pv 3)) (by exact (ad (ae (pv 4)) ag)))))) ag)))) (by exact (ad (aa (aB (by exact (ad (ae (pv 3)) (by exact (ad (aa (ak aC (ae (pv 4)) (aa ah))) ag)))))) ag))))))) (by decide)) (au (aI (i:=5) nd rfl (by first | exact Or.inl rfl | exact Or.inr rfl) (ak aC (ae (pv 5)) (aa (br (by exact (ad (aa (aB (by exact (ad (ae (pv 3)) (by exact (ad (ae (pv 4)) ag)))))) (by exact (ad (aa (aB (by exact (ad (aa ah) (by exact (ad (aa ah) ag)))))) (by exact (ad (aa (aB (by exact (ad (aa ah) (by exact (ad (aa ah) ag)))))) (by exact (ad (aa (aB (by exact (ad (aa (ak aC (ae (pv 3)) (aa ah))) (by exact (ad (ae (pv 4)) ag)))))) (by exact (ad (aa (g9 kW)) ag))))))))))))) (by decide)) (au (aI (i:=6) nd rfl (by first | exact Or.inl rfl | exact Or.inr rfl) (aS G_l_of (hr.mono (by omega)) rfl m_l_of U_l_of.kp b_l_of (ad (ae (pv 0)) (by exact (ad (ae (pv 5)) ag)))) (by decide)) (au (aI (i:=7) nd rfl (by first | exact Or.inl rfl | exact Or.inr rfl) (br (by exact (ad (aa (g9 (ff kD rfl T.b_list l7 (ad (ae (pv 1)) ag)))) (by exact (ad (aa (xg (ae (pv 1)) (gX ah))) (by exact (ad (aa (ak aC (ae (pv 1)) (ae (pv 1)))) ag))))))) (by decide)) (au (aI (i:=7) nd rfl (by first | exact Or.inl rfl | exact Or.inr rfl) (ak aC (ae (pv 7)) (aa (br (by exact (ad (aa (ak aC (aa (ak aC (aa (d7 (ae (pv 1)) d0 (d6 (gL (pv 2))))) (aa (aB (by exact (ad (ae (pv 6)) ag)))))) (aa (d7 (ae (pv 1)) (d6 (gL (pv 2))) d0)))) ag))))) (by decide)) (au (aI (i:=7) nd rfl (by first | exact Or.inl rfl | exact Or.inr rfl) (ak aC (ae (pv 7)) (aa (br (by exact (ad (aa (ak aC (aa (ak aC (aa (d7 (ae (pv 1)) d0 (d6 (gL (pv 2))))) (aa (aB (by exact (ad (ae (pv 6)) ag)))))) (aa (d7 (ae (pv 1)) (d6 (ak aC (ae (pv 2)) (aa ah))) d0)))) ag))))) (by decide)) (au (aI (i:=7) nd rfl (by first | exact Or.inl rfl | exact Or.inr rfl) (ak aC (ae (pv 7)) (aa (br (by exact (ad (aa (aB (by exact (ad (ae (pv 1)) ag)))) (by exact (ad (aa (d7 (ae (pv 1)) (d6 ah) d0)) (by exact (ad (aa (ak aC (aa (d7 (ae (pv 1)) d0 (d6 (gL (pv 2))))) (aa (d7 (ae (pv 1)) (d6 (ak aC (ae (pv 2)) (aa ah))) d0)))) ag))))))))) (by decide)) (au (aI (i:=7) nd rfl (by first | exact Or.inl rfl | exact Or.inr rfl) (ak aC (ae (pv 7)) (aa (br (by exact (ad (aa (ak aC (ae (pv 1)) (aa (aB (by exact (ad (ae (pv 6)) ag)))))) (by exact (ad (aa (aB (by exact (ad (ae (pv 6)) ag)))) ag))))))) (by decide)) (aQ (bt (aS G_l_of (hr.mono (by omega)) rfl m_l_of U_l_of.kp b_l_of (ad (ae (pv 0)) (by exact (ad (ae (pv 7)) ag)))))))))))))))))))
theorem rb:FnScope zx ["_law_script"] (az du):=⟨rfl,rfl,rfl,by decide +kernel,rfl,by decide +kernel,by decide +kernel⟩
set_option maxHeartbeats 4000000 in
theorem zK {f:Addr}{fd:FuncData} (F:Fun K "law" "law" du f fd) (T:Txt mg)
  {f_is_cell:Addr}{fd_is_cell:FuncData} (U_is_cell:Fun K "is_cell" "is_cell" dL f_is_cell fd_is_cell) (G_is_cell:FnOk P w K mg base CX0 3 f_is_cell fd_is_cell ["thing"] (spV 1 G.fw)) (b_is_cell:aT K fd_is_cell ["thing"] []) (m_is_cell:mg "is_cell" = some (.ref f_is_cell))
  {f_l_hand:Addr}{fd_l_hand:FuncData} (U_l_hand:Fun K "_law_hand" "_law_hand" fG f_l_hand fd_l_hand) (G_l_hand:FnOk P w K mg base CX0 1 f_l_hand fd_l_hand ["_law_script","_law_k"] (spV 2 G.gg)) (b_l_hand:aT K fd_l_hand ["_law_script","_law_k"] []) (m_l_hand:mg "_law_hand" = some (.ref f_l_hand))
  {f_l_floor:Addr}{fd_l_floor:FuncData} (U_l_floor:Fun K "_law_floor" "_law_floor" fH f_l_floor fd_l_floor) (G_l_floor:FnOk P w K mg base CX0 3 f_l_floor fd_l_floor ["_law_hand_here"] (spV 1 G.ip)) (b_l_floor:aT K fd_l_floor ["_law_hand_here"] []) (m_l_floor:mg "_law_floor" = some (.ref f_l_floor))
  {f_is_floor:Addr}{fd_is_floor:FuncData} (U_is_floor:Fun K "is_floor" "is_floor" fF f_is_floor fd_is_floor) (G_is_floor:FnOk P w K mg base CX0 5 f_is_floor fd_is_floor ["thing"] (spV 1 (G.er f_is_cell))) (b_is_floor:aT K fd_is_floor ["thing"] []) (m_is_floor:mg "is_floor" = some (.ref f_is_floor))
  {f_l_spoilt:Addr}{fd_l_spoilt:FuncData} (U_l_spoilt:Fun K "_law_spoilt" "_law_spoilt" fK f_l_spoilt fd_l_spoilt) (G_l_spoilt:FnOk P w K mg base CX0 3 f_l_spoilt fd_l_spoilt ["_law_hand_here","_law_floor_here"] (spV 2 G.gs)) (b_l_spoilt:aT K fd_l_spoilt ["_law_hand_here","_law_floor_here"] []) (m_l_spoilt:mg "_law_spoilt" = some (.ref f_l_spoilt))
  {f_l_due:Addr}{fd_l_due:FuncData} (U_l_due:Fun K "_law_due" "_law_due" fJ f_l_due fd_l_due) (G_l_due:FnOk P w K mg base CX0 2 f_l_due fd_l_due ["_law_thing"] (spV 1 G.iq)) (b_l_due:aT K fd_l_due ["_law_thing"] []) (m_l_due:mg "_law_due" = some (.ref f_l_due)):
  FnOk P w K mg base CX0 6 f fd ["_law_script"] (spV 1 (G.ir f_is_cell)):=by
 have nd:=rb.nd
 refine fnV F rb rfl (by decide) (fun cdv A outer s H E hr=>?_)
 exact @au _ _ _ _ _ _ (@fU _ _ ([ 0 ]) _ _ _ _ _ _ _ PassesOwn.never rfl (@gQ _ _ _ _ _ _ rfl T.b_range (@ad _ _ _ _ _ (@aa _ _ _ (@bO _ _ _ _ _ _ _ _ _ (kF rfl) (by rfl) T.b_max l8 (@ad _ _ _ _ _ (@aa _ _ _ ah) (@ad _ _ _ _ _ (@aa _ _ _ (@bO _ _ _ _ _ _ _ _ _ (kG rfl) (by rfl) T.b_min l9 (@ad _ _ _ _ _ (@aa _ _ _ ah) (@ad _ _ _ _ _ (@aa _ _ _ (@bO _ _ _ _ _ _ _ _ _ fY (by rfl) T.b_len gz (@ad _ _ _ _ _ (@ae _ _ _ (pv 0)) ag (by rfl)) (by decide) (by decide) (by rfl) (by rfl))) ag (by rfl)) (by rfl)) (by decide) (by decide) (by rfl) (by rfl))) ag (by rfl)) (by rfl)) (by decide) (by decide) (by rfl) (by rfl))) ag (by rfl)) (by rfl)) (@bP _ _ (1) _ _ nd rfl (by first | exact Or.inl rfl | exact Or.inr rfl) (by decide) (by first | exact .inl rfl | exact .inr rfl | assumption)) (@au _ _ _ _ _ _ (@aI _ _ (2) _ _ _ _ _ nd rfl (by first | exact Or.inl rfl | exact Or.inr rfl) (@aS _ _ _ _ _ _ _ _ _ _ _ _ _ G_l_hand (hr.mono (by omega)) rfl m_l_hand U_l_hand.kp b_l_hand (@ad _ _ _ _ _ (@ae _ _ _ (pv 0)) (@ad _ _ _ _ _ (@ae _ _ _ (pv 1)) ag (by rfl)) (by rfl)) (by decide) (by rfl) (by rfl)) (by decide) (by rfl) (by first | exact .inl rfl | exact .inr rfl | assumption)) (@au _ _ _ _ _ _ (@aI _ _ (3) _ _ _ _ _ nd rfl (by first | exact Or.inl rfl | exact Or.inr rfl) (@aS _ _ _ _ _ _ _ _ _ _ _ _ _ G_l_floor (hr.mono (by omega)) rfl m_l_floor U_l_floor.kp b_l_floor (@ad _ _ _ _ _ (@ae _ _ _ (pv 2)) ag (by rfl)) (by decide) (by rfl) (by rfl)) (by decide) (by rfl) (by first | exact .inl rfl | exact .inr rfl | assumption)) (@au _ _ _ _ _ _ (@df _ _ _ _ _ _ _ _ _ (@fR _ _ _ _ _ _ _ _ wj (@aa _ _ _ (@aS _ _ _ _ _ _ _ _ _ _ _ _ _ G_is_floor (hr.mono (by omega)) rfl m_is_floor U_is_floor.kp b_is_floor (@ad _ _ _ _ _ (@ae _ _ _ (pv 3)) ag (by rfl)) (by decide) (by rfl) (by rfl))) (@aa _ _ _ bX) (bL _)) (@aQ _ _ _ _ (@bt _ _ _ _ _ bX)) de) (@aQ _ _ _ _ (@fU _ _ ([ 0 ]) _ _ _ _ _ _ _ PassesOwn.never rfl (@gQ _ _ _ _ _ _ rfl T.b_range (@ad _ _ _ _ _ (@aa _ _ _ ah) ag (by rfl)) (by rfl)) (@bP _ _ (4) _ _ nd rfl (by first | exact Or.inl rfl | exact Or.inr rfl) (by decide) (by first | exact .inl rfl | exact .inr rfl | assumption)) (@au _ _ _ _ _ _ (@aI _ _ (5) _ _ _ _ _ nd rfl (by first | exact Or.inl rfl | exact Or.inr rfl) (@aS _ _ _ _ _ _ _ _ _ _ _ _ _ G_l_spoilt (hr.mono (by omega)) rfl m_l_spoilt U_l_spoilt.kp b_l_spoilt (@ad _ _ _ _ _ (@ae _ _ _ (pv 2)) (@ad _ _ _ _ _ (@ae _ _ _ (pv 3)) ag (by rfl)) (by rfl)) (by decide) (by rfl) (by rfl)) (by decide) (by rfl) (by first | exact .inl rfl | exact .inr rfl | assumption)) (@au _ _ _ _ _ _ (@aI _ _ (6) _ _ _ _ _ nd rfl (by first | exact Or.inl rfl | exact Or.inr rfl) (@aS _ _ _ _ _ _ _ _ _ _ _ _ _ G_is_floor (hr.mono (by omega)) rfl m_is_floor U_is_floor.kp b_is_floor (@ad _ _ _ _ _ (@ae _ _ _ (pv 5)) ag (by rfl)) (by decide) (by rfl) (by rfl)) (by decide) (by rfl) (by first | exact .inl rfl | exact .inr rfl | assumption)) (@aQ _ _ _ _ (@df _ _ _ _ _ _ _ _ _ (@VW.vt _ _ _ (@iU _ _ _ _ _ _ _ (@eZ _ _ _ _ (@d9 _ _ _ (@aa _ _ _ (@dC _ _ _ _ _ _ _ _ rfl T.b_isinstance dJ rfl T.b_bool l6 (@ae _ _ _ (pv 6)) (by decide) (by decide) (by rfl) (by rfl) (by rfl))) (by intro _;rfl))) (@iT _ _ _ _ (@fR _ _ _ _ _ _ _ _ (n6 (aM hr)) (@ae _ _ _ (pv 6)) (@aa _ _ _ (@aS _ _ _ _ _ _ _ _ _ _ _ _ _ G_l_due (hr.mono (by omega)) rfl m_l_due U_l_due.kp b_l_due (@ad _ _ _ _ _ (@ae _ _ _ (pv 5)) ag (by rfl)) (by decide) (by rfl) (by rfl))) (bL _))))) (@aQ _ _ _ _ (@bt _ _ _ _ _ bX)) de)))) (by decide) gR (by intro _;rfl)))))) (by decide) gR (by intro _;rfl)) (@au _ _ _ _ _ _ (@aI _ _ (7) _ _ _ _ _ nd rfl (by first | exact Or.inl rfl | exact Or.inr rfl) (@br _ _ _ _ (@ad _ _ _ _ _ (@aa _ _ _ kc) (@ad _ _ _ _ _ (@aa _ _ _ bX) (@ad _ _ _ _ _ (@aa _ _ _ ah) (@ad _ _ _ _ _ (@aa _ _ _ iQ) (@ad _ _ _ _ _ (@aa _ _ _ iQ) (@ad _ _ _ _ _ (@aa _ _ _ (@g9 _ _ _ (@br _ _ _ _ (@ag _)))) (@ad _ _ _ _ _ (@aa _ _ _ (@g9 _ _ _ kW)) (@ad _ _ _ _ _ (@aa _ _ _ (@aB _ _ _ _ _ (@ad _ _ _ _ _ (@aa _ _ _ ah) (@ad _ _ _ _ _ (@aa _ _ _ ah) ag (by rfl)) (by rfl)))) (@ad _ _ _ _ _ (@aa _ _ _ (@aB _ _ _ _ _ (@ad _ _ _ _ _ (@aa _ _ _ (@aB _ _ _ _ _ (@ag _))) ag (by rfl)))) (@ad _ _ _ _ _ (@aa _ _ _ (@aB _ _ _ _ _ (@ad _ _ _ _ _ (@aa _ _ _ iQ) ag (by rfl)))) (@ad _ _ _ _ _ (@aa _ _ _ (@aB _ _ _ _ _ (@ad _ _ _ _ _ (@aa _ _ _ (@aB _ _ _ _ _ (@ad _ _ _ _ _ (@aa _ _ _ ah) (@ad _ _ _ _ _ (@aa _ _ _ ah) ag (by rfl)) (by rfl)))) (@ad _ _ _ _ _ (@aa _ _ _ ah) ag (by rfl)) (by rfl)))) ag (by rfl)) (by rfl)) (by rfl)) (by rfl)) (by rfl)) (by rfl)) (by rfl)) (by rfl)) (by rfl)) (by rfl)) (by rfl))) (by decide) (by rfl) (by first | exact .inl rfl | exact .inr rfl | assumption)) (@aQ _ _ _ _ (@bt _ _ _ _ _ (@dA _ _ _ _ _ _ _ (@bj _ _ _ (@kf _ _ _ _ (@bj _ _ _ (@bO _ _ _ _ _ _ _ _ _ (wu rfl) (by rfl) T.b_any zg (@ad _ _ _ _ _ (@aa _ _ _ (@kw _ _ _ _ _ _ _ ([ "_law_thing" ]) ([ ]) _ _ _ _ rfl (jT (az du) [ "_law_script","_law_k","_law_hand_here","_law_floor_here","_law_turn","_law_thing","_law_told","_law_odd" ] (by decide +kernel)) (by decide) (@km _ _ _ _ (@ae _ _ _ (pv 7))) (fun Y=>@bP _ _ (0) _ _ (show (["_law_thing"]:List Str).Nodup by decide +kernel) rfl (by first | exact Or.inl rfl | exact Or.inr rfl) (by decide) (by first | exact .inl rfl | exact .inr rfl | assumption)) (fun Y=>@ko _) (fun Y=>@aS _ _ _ _ _ _ _ _ _ _ _ _ _ G_is_floor (hr.mono (by omega)) rfl m_is_floor U_is_floor.kp b_is_floor (@ad _ _ _ _ _ (@ae _ _ _ (pv 0)) ag (by rfl)) (by decide) (by rfl) (by rfl)) (by intro _;rfl))) ag (by rfl)) (by decide) (by decide) (by rfl) (by rfl))))) (@bj _ _ _ (@fb _ _ _ _ _ (@cJ _ _ _ _ _ _ _ _ wg (@aa _ _ _ (@aS _ _ _ _ _ _ _ _ _ _ _ _ _ G_is_floor (hr.mono (by omega)) rfl m_is_floor U_is_floor.kp b_is_floor (@ad _ _ _ _ _ (@aa _ _ _ (@aB _ _ _ _ _ (@ag _))) ag (by rfl)) (by decide) (by rfl) (by rfl))) (@aa _ _ _ bX) (bL _))))))))
end
end K01
namespace L2
open PySem PySem.Spec PyProof.Rows
noncomputable def iA:List (Addr×Obj)→Bool
 | []=>true
 | (_,o)::r=>(match o.data with
  | .seq _ _=>(match o.cls with | .type n=>n != "list" | _=>true)
  | _=>true) && iA r
theorem zL {K:List (Addr×Obj)}{a:Addr}{o:Obj}{its:Array Value}{n:Nat} (h:iA K=true) (e:K.lookup a=some o) (hc:o.cls=.type "list") (hd:o.data=.seq its n):False:=by
 induction K with
 | nil=>cases e
 | cons p r ih=>
  obtain⟨b,x⟩:=p
  rw[iA,Bool.and_eq_true] at h
  simp only[List.lookup] at e
  split at e
  ·cases e
   have h1:=h.1
   rw[hd] at h1
   dsimp only at h1
   rw[hc] at h1
   exact absurd h1 (by decide)
  ·exact ih h.2 e
theorem rc {H:Hp}:∀ ns:List Int,aj H (ns.map .int) (ns.map V.int)
 | []=>rfl
 | n::r=>⟨.int n,_,rfl,rfl,rc r⟩
theorem zM {G:Fn}{K:PySem.W.Frag} (hK:iA K=true) (H:Hp) (a:Addr) (ns:List Int) (hO:iM H) (hS:SqL K H a (ns.map V.int)) (ht:∃ outs,G [.fz (ns.map .int)]=some (.im (.bl true),outs)) {E:XK}:spV 1 G [.ref a] H (fun v _=>v=.bl true) E:=by
 obtain⟨outs,ht⟩:=ht
 have hf:∃ o,H a=some (.frz o (.lst (ns.map V.int))):=by
  rcases hS with (h | h) | ⟨o,its,n,h1,h2,h3,h4,_⟩
  ·rcases hO a with e | ⟨o,xs,e⟩
   ·rw[e] at h;cases h
   ·rw[e] at h;cases h
  ·exact h
  ·exact (zL hK h1 h2 h4).elim
 obtain⟨o,ho⟩:=hf
 refine⟨rfl,[.fz (ns.map .int)],[],.im (.bl true),outs,⟨_,_,[],[],rfl,⟨a,_,o,rfl,ho,rc ns,rfl⟩,⟨rfl,rfl⟩,rfl⟩,List.nodup_nil,ht,fun v H' R R' h _ _=>?_⟩
 exact h.1
theorem ma {us:List Value}{n:Nat} (h:us.length=n+1):∃ a r,us=a::r∧r.length=n:=by
 cases us with
 | nil=>cases h
 | cons a r=>exact⟨a,r,rfl,Nat.succ.inj h⟩
theorem Fun.binds1 {K:PySem.W.Frag}{x qual:Str}{st:Stmt}{f:Addr}{fd:FuncData}{ps:List Str} (F:Fun K x qual st f fd)
  (h:∀ (kV doc pm:Value) (an:Option Addr) (cdv ct:Value) (a:Value),bindArgs (PySem.W.fnOf x qual (bo st) (bd st) (az st) .none kV doc pm an cdv ct) ⟨[a],[]⟩=pure (ps.zip [a])) (hp:ps.length=1:=by rfl):aT K fd ps []:=
 F.binds fun kV doc pm an cdv ct us hl=>by
  replace hl:=hl.trans hp
  obtain⟨a,u1,rfl,h1⟩:=ma hl
  obtain rfl:=List.eq_nil_of_length_eq_zero h1
  exact h kV doc pm an cdv ct a
theorem Fun.binds2 {K:PySem.W.Frag}{x qual:Str}{st:Stmt}{f:Addr}{fd:FuncData}{ps:List Str} (F:Fun K x qual st f fd)
  (h:∀ (kV doc pm:Value) (an:Option Addr) (cdv ct:Value) (a b:Value),bindArgs (PySem.W.fnOf x qual (bo st) (bd st) (az st) .none kV doc pm an cdv ct) ⟨[a,b],[]⟩=pure (ps.zip [a,b])) (hp:ps.length=2:=by rfl):aT K fd ps []:=
 F.binds fun kV doc pm an cdv ct us hl=>by
  replace hl:=hl.trans hp
  obtain⟨a,u1,rfl,h1⟩:=ma hl
  obtain⟨b,u2,rfl,h2⟩:=ma h1
  obtain rfl:=List.eq_nil_of_length_eq_zero h2
  exact h kV doc pm an cdv ct a b
end L2
namespace K01
open PySem L2 PyProof.Rows
set_option maxHeartbeats 4000000 in
theorem all_mk {l:PySem.W.OpenLaw}{w:World}{K:PySem.W.Frag}{h:Heap}{mg:Str→Option Value}{fa f_w0 f_w1 f_w2 f_w3 f_w4 f_w5 f_w6 f_w7 f_w8 f_w9 f_w10 f_w11 f_law:Addr} (X:K.In h) (Gg:h.Ns mainGlobals mg) (hfa:mg "law" = some (.ref fa))
  {odw0 anw0 odw1 anw1 odw2 anw2 odw3 anw3 odw4 anw4 odw5 anw5 odw6 anw6 odw7 anw7 odw8 anw8 odw9 anw9 odw10 anw10 odw11 anw11 odlaw anlaw:Option Addr}{slw0 slw1 slw2 slw3 slw4 slw5 slw6 slw7 slw8 slw9 slw10 slw11 sllaw:Array (Option Value)}{ocw0 kVw0 dcw0 pmw0 cdw0 ctw0 ocw1 kVw1 dcw1 pmw1 cdw1 ctw1 ocw2 kVw2 dcw2 pmw2 cdw2 ctw2 ocw3 kVw3 dcw3 pmw3 cdw3 ctw3 ocw4 kVw4 dcw4 pmw4 cdw4 ctw4 ocw5 kVw5 dcw5 pmw5 cdw5 ctw5 ocw6 kVw6 dcw6 pmw6 cdw6 ctw6 ocw7 kVw7 dcw7 pmw7 cdw7 ctw7 ocw8 kVw8 dcw8 pmw8 cdw8 ctw8 ocw9 kVw9 dcw9 pmw9 cdw9 ctw9 ocw10 kVw10 dcw10 pmw10 cdw10 ctw10 ocw11 kVw11 dcw11 pmw11 cdw11 ctw11 oclaw kVlaw dclaw pmlaw cdlaw ctlaw:Value}
  {t_GREATEST:Tok}
  (aw0:PySem.W.nsIn K mainGlobals "is_whole" = some (some (.ref f_w0))) (lw0:K.lookup f_w0=some ⟨ocw0,odw0,.func (PySem.W.fnOf "is_whole" "is_whole" (bo fC) (bd fC) (az fC) .none kVw0 dcw0 pmw0 anw0 cdw0 ctw0),slw0⟩) (cw0:PySem.W.codeIn K cdw0 "is_whole" = true) (kw0:PySem.W.keepIn K (.ref f_w0)=true)
  (aw1:PySem.W.nsIn K mainGlobals "is_pair" = some (some (.ref f_w1))) (lw1:K.lookup f_w1=some ⟨ocw1,odw1,.func (PySem.W.fnOf "is_pair" "is_pair" (bo fE) (bd fE) (az fE) .none kVw1 dcw1 pmw1 anw1 cdw1 ctw1),slw1⟩) (cw1:PySem.W.codeIn K cdw1 "is_pair" = true) (kw1:PySem.W.keepIn K (.ref f_w1)=true)
  (aw2:PySem.W.nsIn K mainGlobals "is_cell" = some (some (.ref f_w2))) (lw2:K.lookup f_w2=some ⟨ocw2,odw2,.func (PySem.W.fnOf "is_cell" "is_cell" (bo dL) (bd dL) (az dL) .none kVw2 dcw2 pmw2 anw2 cdw2 ctw2),slw2⟩) (cw2:PySem.W.codeIn K cdw2 "is_cell" = true) (kw2:PySem.W.keepIn K (.ref f_w2)=true)
  (aw3:PySem.W.nsIn K mainGlobals "is_rising" = some (some (.ref f_w3))) (lw3:K.lookup f_w3=some ⟨ocw3,odw3,.func (PySem.W.fnOf "is_rising" "is_rising" (bo dM) (bd dM) (az dM) .none kVw3 dcw3 pmw3 anw3 cdw3 ctw3),slw3⟩) (cw3:PySem.W.codeIn K cdw3 "is_rising" = true) (kw3:PySem.W.keepIn K (.ref f_w3)=true)
  (aw4:PySem.W.nsIn K mainGlobals "is_floor" = some (some (.ref f_w4))) (lw4:K.lookup f_w4=some ⟨ocw4,odw4,.func (PySem.W.fnOf "is_floor" "is_floor" (bo fF) (bd fF) (az fF) .none kVw4 dcw4 pmw4 anw4 cdw4 ctw4),slw4⟩) (cw4:PySem.W.codeIn K cdw4 "is_floor" = true) (kw4:PySem.W.keepIn K (.ref f_w4)=true)
  (aw5:PySem.W.nsIn K mainGlobals "_law_hand" = some (some (.ref f_w5))) (lw5:K.lookup f_w5=some ⟨ocw5,odw5,.func (PySem.W.fnOf "_law_hand" "_law_hand" (bo fG) (bd fG) (az fG) .none kVw5 dcw5 pmw5 anw5 cdw5 ctw5),slw5⟩) (cw5:PySem.W.codeIn K cdw5 "_law_hand" = true) (kw5:PySem.W.keepIn K (.ref f_w5)=true)
  (aw6:PySem.W.nsIn K mainGlobals "_law_take" = some (some (.ref f_w6))) (lw6:K.lookup f_w6=some ⟨ocw6,odw6,.func (PySem.W.fnOf "_law_take" "_law_take" (bo dN) (bd dN) (az dN) .none kVw6 dcw6 pmw6 anw6 cdw6 ctw6),slw6⟩) (cw6:PySem.W.codeIn K cdw6 "_law_take" = true) (kw6:PySem.W.keepIn K (.ref f_w6)=true)
  (aw7:PySem.W.nsIn K mainGlobals "_law_of" = some (some (.ref f_w7))) (lw7:K.lookup f_w7=some ⟨ocw7,odw7,.func (PySem.W.fnOf "_law_of" "_law_of" (bo eE) (bd eE) (az eE) .none kVw7 dcw7 pmw7 anw7 cdw7 ctw7),slw7⟩) (cw7:PySem.W.codeIn K cdw7 "_law_of" = true) (kw7:PySem.W.keepIn K (.ref f_w7)=true)
  (aw8:PySem.W.nsIn K mainGlobals "_law_floor" = some (some (.ref f_w8))) (lw8:K.lookup f_w8=some ⟨ocw8,odw8,.func (PySem.W.fnOf "_law_floor" "_law_floor" (bo fH) (bd fH) (az fH) .none kVw8 dcw8 pmw8 anw8 cdw8 ctw8),slw8⟩) (cw8:PySem.W.codeIn K cdw8 "_law_floor" = true) (kw8:PySem.W.keepIn K (.ref f_w8)=true)
  (aw9:PySem.W.nsIn K mainGlobals "_law_whole" = some (some (.ref f_w9))) (lw9:K.lookup f_w9=some ⟨ocw9,odw9,.func (PySem.W.fnOf "_law_whole" "_law_whole" (bo fI) (bd fI) (az fI) .none kVw9 dcw9 pmw9 anw9 cdw9 ctw9),slw9⟩) (cw9:PySem.W.codeIn K cdw9 "_law_whole" = true) (kw9:PySem.W.keepIn K (.ref f_w9)=true)
  (aw10:PySem.W.nsIn K mainGlobals "_law_due" = some (some (.ref f_w10))) (lw10:K.lookup f_w10=some ⟨ocw10,odw10,.func (PySem.W.fnOf "_law_due" "_law_due" (bo fJ) (bd fJ) (az fJ) .none kVw10 dcw10 pmw10 anw10 cdw10 ctw10),slw10⟩) (cw10:PySem.W.codeIn K cdw10 "_law_due" = true) (kw10:PySem.W.keepIn K (.ref f_w10)=true)
  (aw11:PySem.W.nsIn K mainGlobals "_law_spoilt" = some (some (.ref f_w11))) (lw11:K.lookup f_w11=some ⟨ocw11,odw11,.func (PySem.W.fnOf "_law_spoilt" "_law_spoilt" (bo fK) (bd fK) (az fK) .none kVw11 dcw11 pmw11 anw11 cdw11 ctw11),slw11⟩) (cw11:PySem.W.codeIn K cdw11 "_law_spoilt" = true) (kw11:PySem.W.keepIn K (.ref f_w11)=true)
  (alaw:PySem.W.nsIn K mainGlobals "law" = some (some (.ref f_law))) (llaw:K.lookup f_law=some ⟨oclaw,odlaw,.func (PySem.W.fnOf "law" "law" (bo du) (bd du) (az du) .none kVlaw dclaw pmlaw anlaw cdlaw ctlaw),sllaw⟩) (claw:PySem.W.codeIn K cdlaw "law" = true) (klaw:PySem.W.keepIn K (.ref f_law)=true)
  (g_GREATEST:PySem.W.nsIn K mainGlobals "GREATEST" = some (some (.int 30 t_GREATEST)))
  (z_all:PySem.W.nsIn K mainGlobals "all" = some none) (z_any:PySem.W.nsIn K mainGlobals "any" = some none) (z_bool:PySem.W.nsIn K mainGlobals "bool" = some none) (z_int:PySem.W.nsIn K mainGlobals "int" = some none) (z_isinstance:PySem.W.nsIn K mainGlobals "isinstance" = some none) (z_len:PySem.W.nsIn K mainGlobals "len" = some none) (z_list:PySem.W.nsIn K mainGlobals "list" = some none) (z_max:PySem.W.nsIn K mainGlobals "max" = some none) (z_min:PySem.W.nsIn K mainGlobals "min" = some none) (z_range:PySem.W.nsIn K mainGlobals "range" = some none) (z_set:PySem.W.nsIn K mainGlobals "set" = some none) (z_sorted:PySem.W.nsIn K mainGlobals "sorted" = some none) (z_str:PySem.W.nsIn K mainGlobals "str" = some none) (z_tuple:PySem.W.nsIn K mainGlobals "tuple" = some none) (z_zip:PySem.W.nsIn K mainGlobals "zip" = some none):
  ∃ fd:FuncData,(∀ (s:Shared) (v:Value),BindsTo s fd ⟨[v],[]⟩ [("_law_script",v)])∧∀ base:Heap,K.In base→base.Ns mainGlobals mg→FnOk l.prog w K mg base CX0 6 fa fd ["_law_script"] (spV 1 (G.ir f_w2)):=by
 have e:=hfa.symm.trans (PySem.W.mg_of X Gg alaw)
 cases e
 have T:Txt mg:=⟨PySem.W.mg_none_of X Gg z_all,PySem.W.mg_none_of X Gg z_any,PySem.W.mg_none_of X Gg z_bool,PySem.W.mg_none_of X Gg z_int,PySem.W.mg_none_of X Gg z_isinstance,PySem.W.mg_none_of X Gg z_len,PySem.W.mg_none_of X Gg z_list,PySem.W.mg_none_of X Gg z_max,PySem.W.mg_none_of X Gg z_min,PySem.W.mg_none_of X Gg z_range,PySem.W.mg_none_of X Gg z_set,PySem.W.mg_none_of X Gg z_sorted,PySem.W.mg_none_of X Gg z_str,PySem.W.mg_none_of X Gg z_tuple,PySem.W.mg_none_of X Gg z_zip,⟨t_GREATEST,PySem.W.mg_of X Gg g_GREATEST⟩⟩
 have U_w0:=cu (st:=fC) lw0 cw0 kw0
 have U_w1:=cu (st:=fE) lw1 cw1 kw1
 have U_w2:=cu (st:=dL) lw2 cw2 kw2
 have U_w3:=cu (st:=dM) lw3 cw3 kw3
 have U_w4:=cu (st:=fF) lw4 cw4 kw4
 have U_w5:=cu (st:=fG) lw5 cw5 kw5
 have U_w6:=cu (st:=dN) lw6 cw6 kw6
 have U_w7:=cu (st:=eE) lw7 cw7 kw7
 have U_w8:=cu (st:=fH) lw8 cw8 kw8
 have U_w9:=cu (st:=fI) lw9 cw9 kw9
 have U_w10:=cu (st:=fJ) lw10 cw10 kw10
 have U_w11:=cu (st:=fK) lw11 cw11 kw11
 have U_law:=cu (st:=du) llaw claw klaw
 have b_w0:=U_w0.binds1 (ps:=["thing"]) fun _ _ _ _ _ _ _=>rfl
 have m_w0:=PySem.W.mg_of X Gg aw0
 have b_w1:=U_w1.binds1 (ps:=["thing"]) fun _ _ _ _ _ _ _=>rfl
 have m_w1:=PySem.W.mg_of X Gg aw1
 have b_w2:=U_w2.binds1 (ps:=["thing"]) fun _ _ _ _ _ _ _=>rfl
 have m_w2:=PySem.W.mg_of X Gg aw2
 have b_w3:=U_w3.binds2 (ps:=["thing","is_kind"]) fun _ _ _ _ _ _ _ _=>rfl
 have m_w3:=PySem.W.mg_of X Gg aw3
 have b_w4:=U_w4.binds1 (ps:=["thing"]) fun _ _ _ _ _ _ _=>rfl
 have m_w4:=PySem.W.mg_of X Gg aw4
 have b_w5:=U_w5.binds2 (ps:=["_law_script","_law_k"]) fun _ _ _ _ _ _ _ _=>rfl
 have m_w5:=PySem.W.mg_of X Gg aw5
 have b_w6:=U_w6.binds2 (ps:=["_law_hand_here","_law_many"]) fun _ _ _ _ _ _ _ _=>rfl
 have m_w6:=PySem.W.mg_of X Gg aw6
 have b_w7:=U_w7.binds2 (ps:=["_law_hand_here","_law_some"]) fun _ _ _ _ _ _ _ _=>rfl
 have m_w7:=PySem.W.mg_of X Gg aw7
 have b_w8:=U_w8.binds1 (ps:=["_law_hand_here"]) fun _ _ _ _ _ _ _=>rfl
 have m_w8:=PySem.W.mg_of X Gg aw8
 have b_w9:=U_w9.binds1 (ps:=["_law_thing"]) fun _ _ _ _ _ _ _=>rfl
 have m_w9:=PySem.W.mg_of X Gg aw9
 have b_w10:=U_w10.binds1 (ps:=["_law_thing"]) fun _ _ _ _ _ _ _=>rfl
 have m_w10:=PySem.W.mg_of X Gg aw10
 have b_w11:=U_w11.binds2 (ps:=["_law_hand_here","_law_floor_here"]) fun _ _ _ _ _ _ _ _=>rfl
 have m_w11:=PySem.W.mg_of X Gg aw11
 refine⟨PySem.W.fnOf "law" "law" (bo du) (bd du) (az du) .none kVlaw dclaw pmlaw anlaw cdlaw ctlaw,fun s v=>.of_eq rfl,fun base _ _=>?_⟩
 have G_w0:=zy (P:=l.prog) (w:=w) (base:=base) U_w0 T 
 have G_w1:=zz (P:=l.prog) (w:=w) (base:=base) U_w1 T U_w0 G_w0 b_w0 m_w0
 have G_w2:=zA (P:=l.prog) (w:=w) (base:=base) U_w2 T U_w1 G_w1 b_w1 m_w1
 have G_w3:=zB (P:=l.prog) (w:=w) (base:=base) U_w3 T U_w2 G_w2 b_w2 m_w2
 have G_w4:=zC (P:=l.prog) (w:=w) (base:=base) U_w4 T U_w2 G_w2 b_w2 m_w2 U_w3 G_w3 b_w3 m_w3
 have G_w5:=zD (P:=l.prog) (w:=w) (base:=base) U_w5 T 
 have G_w6:=zE (P:=l.prog) (w:=w) (base:=base) U_w6 T 
 have G_w7:=zF (P:=l.prog) (w:=w) (base:=base) U_w7 T U_w6 G_w6 b_w6 m_w6
 have G_w8:=zG (P:=l.prog) (w:=w) (base:=base) U_w8 T U_w6 G_w6 b_w6 m_w6 U_w7 G_w7 b_w7 m_w7
 have G_w9:=zH (P:=l.prog) (w:=w) (base:=base) U_w9 T 
 have G_w10:=zI (P:=l.prog) (w:=w) (base:=base) U_w10 T U_w9 G_w9 b_w9 m_w9
 have G_w11:=zJ (P:=l.prog) (w:=w) (base:=base) U_w11 T U_w6 G_w6 b_w6 m_w6 U_w7 G_w7 b_w7 m_w7
 exact zK U_law T U_w2 G_w2 b_w2 m_w2 U_w5 G_w5 b_w5 m_w5 U_w8 G_w8 b_w8 m_w8 U_w4 G_w4 b_w4 m_w4 U_w11 G_w11 b_w11 m_w11 U_w10 G_w10 b_w10 m_w10
theorem walk {f_w2:Addr}{l:PySem.W.OpenLaw}{q:Program}{loose:List Str}{XP:(Str→Option Value)→Heap→Prop}{YP:World→Heap→Prop}{d:DefRec}{K:Params→PySem.W.Frag} (hn:l.most=some 63) (hdf:d.params.defaults=[])
  (hY:∀ (w:World) (h:Heap),YP w h→(K w.params).In h) (hK:∀ p,iA (K p)=true)
  (F:∀ (w:World) (mg:Str→Option Value) (fa:Addr) (h:Heap),(K w.params).In h→h.Ns mainGlobals mg→mg d.name=some (.ref fa)→
   ∃ fd:FuncData,(∀ (s:Shared) (u:Value),BindsTo s fd ⟨[u],[]⟩ [("_law_script",u)])∧∀ base:Heap,(K w.params).In base→base.Ns mainGlobals mg→FnOk l.prog w (K w.params) mg base CX0 6 fa fd ["_law_script"] (spV 1 (G.ir f_w2))):
  PySem.W.WalkO q loose XP YP l.row.toRowW d [] (fun f vs=>PySem.call f vs):=
 L2.uW (n:=63) (k:=6) (x := "_law_script") (CX:=fun _=>CX0) (sp:=fun w=>spV 1 (G.ir f_w2)) hn (by decide) hdf ⟨rfl,by decide,by decide,rfl⟩ hY F (fun w H a ns hl hO hS=>zM (hK w.params) H a ns hO hS (G.zf f_w2 ns (Nat.lt_of_le_of_lt hl (by decide)))) fun _ _ _ _ _ z=>z
end K01
noncomputable def PySem.W.Fast.tw3668986630863027223:=0
noncomputable def PySem.W.Fast.tw17844167483836053376:=0
noncomputable def PySem.W.Fast.tw7942170188569505602:=0
noncomputable def PySem.W.Fast.tw4397903307526658915:=0
noncomputable def PySem.W.Fast.tw4433773641811191236:=0
noncomputable def PySem.W.Fast.tw12243969199754574821:=0
noncomputable def PySem.W.Fast.tw16767202750584810886:=0
noncomputable def PySem.W.Fast.tw12221724426105495270:=0
noncomputable def PySem.W.Fast.tw4987602379164319080:=0
noncomputable def PySem.W.Fast.tw13111631914735438249:=0
noncomputable def PySem.W.Fast.tw13548001830952104747:=0
noncomputable def PySem.W.Fast.tw12349939495261340974:=0
noncomputable def PySem.W.Fast.tw9993135130613164430:=0
noncomputable def PySem.W.Fast.tw4137358275796613106:=0
noncomputable def PySem.W.Fast.tw76888826085380854:=0
noncomputable def PySem.W.Fast.tw1700049133473306711:=0
noncomputable def PySem.W.Fast.tw15756359744097139992:=0
noncomputable def PySem.W.Fast.tw12362856500266638936:=0
noncomputable def PySem.W.Fast.tw6568369758833939032:=0
noncomputable def PySem.W.Fast.tw13373715178590238427:=0
noncomputable def PySem.W.Fast.tw11429532375196741181:=0
noncomputable def PySem.W.Fast.tw2328033484006575773:=0
noncomputable def PySem.W.Fast.tw13978323852608051998:=0
noncomputable def PySem.W.Fast.tw4674337104385983327:=0
open PySem PySem.W PyProof.Rows
set_option maxRecDepth 100000 in
set_option maxHeartbeats 0 in
theorem PySem.Challenge.cw_mowfloor_k01_floors_of_anything_holds : PySem.Challenge.rw_mowfloor_k01_floors_of_anything.Holds := by
  w_on; o_law; k_head; (case hw => w_witness2)
  k_fill
  refine' K01.walk (l := PySem.Challenge.rw_mowfloor_k01_floors_of_anything) rfl rfl (fun w h Y => PySem.W.kIn_of Y) ?hK ?F
  case hK => intro p; rfl
  case F =>
    intro w mg fa h KX G hmg
    refine' K01.all_mk KX G hmg ?aw0 ?lw0 ?cw0 ?kw0 ?aw1 ?lw1 ?cw1 ?kw1 ?aw2 ?lw2 ?cw2 ?kw2 ?aw3 ?lw3 ?cw3 ?kw3 ?aw4 ?lw4 ?cw4 ?kw4 ?aw5 ?lw5 ?cw5 ?kw5 ?aw6 ?lw6 ?cw6 ?kw6 ?aw7 ?lw7 ?cw7 ?kw7 ?aw8 ?lw8 ?cw8 ?kw8 ?aw9 ?lw9 ?cw9 ?kw9 ?aw10 ?lw10 ?cw10 ?kw10 ?aw11 ?lw11 ?cw11 ?kw11 ?alaw ?llaw ?claw ?klaw ?g_GREATEST ?z_all ?z_any ?z_bool ?z_int ?z_isinstance ?z_len ?z_list ?z_max ?z_min ?z_range ?z_set ?z_sorted ?z_str ?z_tuple ?z_zip
    (case aw0 => k_is)
    (case lw0 => k_is)
    (case cw0 => k_is)
    (case kw0 => k_is)
    (case aw1 => k_is)
    (case lw1 => k_is)
    (case cw1 => k_is)
    (case kw1 => k_is)
    (case aw2 => k_is)
    (case lw2 => k_is)
    (case cw2 => k_is)
    (case kw2 => k_is)
    (case aw3 => k_is)
    (case lw3 => k_is)
    (case cw3 => k_is)
    (case kw3 => k_is)
    (case aw4 => k_is)
    (case lw4 => k_is)
    (case cw4 => k_is)
    (case kw4 => k_is)
    (case aw5 => k_is)
    (case lw5 => k_is)
    (case cw5 => k_is)
    (case kw5 => k_is)
    (case aw6 => k_is)
    (case lw6 => k_is)
    (case cw6 => k_is)
    (case kw6 => k_is)
    (case aw7 => k_is)
    (case lw7 => k_is)
    (case cw7 => k_is)
    (case kw7 => k_is)
    (case aw8 => k_is)
    (case lw8 => k_is)
    (case cw8 => k_is)
    (case kw8 => k_is)
    (case aw9 => k_is)
    (case lw9 => k_is)
    (case cw9 => k_is)
    (case kw9 => k_is)
    (case aw10 => k_is)
    (case lw10 => k_is)
    (case cw10 => k_is)
    (case kw10 => k_is)
    (case aw11 => k_is)
    (case lw11 => k_is)
    (case cw11 => k_is)
    (case kw11 => k_is)
    (case alaw => k_is)
    (case llaw => k_is)
    (case claw => k_is)
    (case klaw => k_is)
    (case g_GREATEST => k_is)
    (case z_all => k_is)
    (case z_any => k_is)
    (case z_bool => k_is)
    (case z_int => k_is)
    (case z_isinstance => k_is)
    (case z_len => k_is)
    (case z_list => k_is)
    (case z_max => k_is)
    (case z_min => k_is)
    (case z_range => k_is)
    (case z_set => k_is)
    (case z_sorted => k_is)
    (case z_str => k_is)
    (case z_tuple => k_is)
    (case z_zip => k_is)
