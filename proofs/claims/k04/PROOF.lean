import PyProof.Rows.All
import Wide.All
import OpenK.AllK
import Wide.FinOn
import Lean
import PyProof.EqAt
import PyProof.EqKinds
import PyProof.TupleCall
import PySem.Challenge.RW_mowfloor_k04_parts
-- CHANGE: your row's module here, as the last of these rows
set_option Elab.async false
set_option linter.all false
set_option maxRecDepth 100000
/-! THE HAND LAYER, for ints, bools, texts, own classes, LISTS and tuples (index, slices, in, append, pop ..), calls, loops. Paste it whole ahead of your own text; what your proof does not reach may be deleted. -/
namespace L2
open PySem PySem.Spec PyProof.Rows
abbrev Key := Sum Int Str
def keyIs : Key → Value → Bool
  | .inl k, v => Value.isInt k v
  | .inr x, v => Value.isStrOf x v
def keyH (w : World) : Key → Int
  | .inl k => hashInt k
  | .inr x => hashStr w x
theorem keyIs_shape : ∀ {k : Key} {v : Value}, keyIs k v = true → (∃ i t, k = Sum.inl i ∧ v = Value.int i t) ∨ (∃ x t, k = Sum.inr x ∧ v = Value.str x t)
  | .inl i, v, h => by
    obtain ⟨t, e⟩ := Value.isInt_shape (k := i) (v := v) h
    exact .inl ⟨i, t, rfl, e⟩
  | .inr x, v, h => by
    obtain ⟨t, e⟩ := Value.isStrOf_shape (x := x) (v := v) h
    exact .inr ⟨x, t, rfl, e⟩
theorem keyIs_int (i : Int) (t : Tok) : keyIs (.inl i) (.int i t) = true := by simp [keyIs, Value.isInt]
theorem keyIs_str (x : Str) (t : Tok) : keyIs (.inr x) (.str x t) = true := by simp [keyIs, Value.isStrOf]
theorem key_ll (a b : Int) : decide ((Sum.inl a : Key) = Sum.inl b) = (a == b) := by
  by_cases e : a = b
  · subst e; simp
  · have h : ¬ (Sum.inl a : Key) = Sum.inl b := fun q => e (Sum.inl.inj q)
    rw [decide_eq_false h]
    exact (beq_eq_false_iff_ne.mpr e).symm
theorem key_rr (a b : Str) : decide ((Sum.inr a : Key) = Sum.inr b) = decide (a = b) := by
  by_cases e : a = b
  · subst e; simp
  · have h : ¬ (Sum.inr a : Key) = Sum.inr b := fun q => e (Sum.inr.inj q)
    rw [decide_eq_false h, decide_eq_false e]
theorem key_lr (a : Int) (b : Str) : decide ((Sum.inl a : Key) = Sum.inr b) = false := decide_eq_false (fun q => nomatch q)
theorem key_rl (a : Str) (b : Int) : decide ((Sum.inr a : Key) = Sum.inl b) = false := decide_eq_false (fun q => nomatch q)
def mixKind (prog : Program) (w : World) : PySem.KeyKind prog w Key where
  is := keyIs
  hash := keyH w
  inj := fun v a b ha hb => by
    rcases keyIs_shape ha with ⟨i, t, rfl, rfl⟩ | ⟨x, t, rfl, rfl⟩
    · rcases keyIs_shape hb with ⟨j, u, rfl, e⟩ | ⟨y, u, rfl, e⟩
      · injection e with e1 _; rw [e1]
      · exact nomatch e
    · rcases keyIs_shape hb with ⟨j, u, rfl, e⟩ | ⟨y, u, rfl, e⟩
      · exact nomatch e
      · injection e with e1 _; rw [e1]
  byValue := fun k v h => by
    rcases keyIs_shape h with ⟨i, t, rfl, rfl⟩ | ⟨x, t, rfl, rfl⟩ <;> rfl
  pyHash := fun hv h => by
    rcases keyIs_shape hv with ⟨i, t, rfl, rfl⟩ | ⟨x, t, rfl, rfl⟩
    · exact wpAny_pyHash_int h
    · exact wpAny_pyHash_str h
  eqBool := fun hu hv h => by
    rcases keyIs_shape hu with ⟨i, t, rfl, rfl⟩ | ⟨x, t, rfl, rfl⟩
    · rcases keyIs_shape hv with ⟨j, u, rfl, rfl⟩ | ⟨y, u, rfl, rfl⟩
      · rw [key_ll] at h; exact wpAny_eqBool_int h
      · rw [key_lr] at h; exact SeqAt.EqAt.int_str i t y u _ _ _ _ h
    · rcases keyIs_shape hv with ⟨j, u, rfl, rfl⟩ | ⟨y, u, rfl, rfl⟩
      · rw [key_rl] at h; exact SeqAt.EqAt.str_int x t j u _ _ _ _ h
      · rw [key_rr] at h; exact wpAny_eqBool_str h
  «strs» := fun k x t v h => by
    rcases keyIs_shape h with ⟨i, u, rfl, e⟩ | ⟨y, u, rfl, e⟩
    · exact nomatch e
    · injection e with e1 _
      subst e1
      cases v <;> rfl
theorem mixKind_is (prog : Program) (w : World) (k : Key) (v : Value) : (mixKind prog w).is k v = keyIs k v := rfl
theorem mixKind_int (prog : Program) (w : World) (i : Int) (t : Tok) : (mixKind prog w).is (.inl i) (.int i t) = true := keyIs_int i t
theorem mixKind_str (prog : Program) (w : World) (x : Str) (t : Tok) : (mixKind prog w).is (.inr x) (.str x t) = true := keyIs_str x t
end L2
namespace L2
open PySem PySem.Spec PyProof.Rows
inductive V where
  | non | bl (b : Bool) | int (i : Int) | str (x : Str) | byt (b : Array UInt8) | flt (b : UInt64) | ref (a : Addr) | ty (n : String)
  deriving DecidableEq
def RelV : V → Value → Prop
  | .non, u => u = Value.none
  | .bl b, u => u = Value.bool b
  | .int i, u => ∃ t, u = Value.int i t
  | .str x, u => ∃ t, u = Value.str x t
  | .byt b, u => ∃ t, u = Value.bytes b t
  | .flt b, u => ∃ t, u = Value.float b t
  | .ref a, u => u = Value.ref a
  | .ty n, u => u = Value.type n
abbrev Vals : List V → List Value → Prop := Paired RelV
theorem Vals.length {xs : List V} {us : List Value} (r : Vals xs us) : xs.length = us.length := Paired.length r
theorem Vals.get : ∀ {xs : List V} {us : List Value} {i : Nat} {x : V}, Vals xs us → xs[i]? = some x → ∃ u, us[i]? = some u ∧ RelV x u
  | _, _, _, _, .nil, e => by simp at e
  | _, _, 0, _, .cons r _, e => by simp at e; subst e; exact ⟨_, rfl, r⟩
  | _, _, i + 1, x, .cons _ t, e => by
    obtain ⟨u, h1, h2⟩ := Vals.get (i := i) (x := x) t (by simpa using e)
    exact ⟨u, by simpa using h1, h2⟩
theorem Vals.set {x : V} {u : Value} (r : RelV x u) : ∀ {xs : List V} {us : List Value} (i : Nat), Vals xs us → Vals (xs.set i x) (us.set i u)
  | _, _, _, .nil => .nil
  | _, _, 0, .cons _ t => .cons r t
  | _, _, i + 1, .cons q t => .cons q (Vals.set r i t)
theorem Vals.append : ∀ {xs ys : List V} {us ws : List Value}, Vals xs us → Vals ys ws → Vals (xs ++ ys) (us ++ ws)
  | _, _, _, _, .nil, s => s
  | _, _, _, _, .cons r t, s => .cons r (Vals.append t s)
theorem Vals.take : ∀ {xs : List V} {us : List Value} (n : Nat), Vals xs us → Vals (xs.take n) (us.take n)
  | _, _, 0, _ => .nil
  | _, _, _ + 1, .nil => .nil
  | _, _, n + 1, .cons r t => .cons r (Vals.take n t)
theorem Vals.drop : ∀ {xs : List V} {us : List Value} (n : Nat), Vals xs us → Vals (xs.drop n) (us.drop n)
  | _, _, 0, r => r
  | _, _, _ + 1, .nil => .nil
  | _, _, n + 1, .cons _ t => Vals.drop n t
theorem Vals.none_of : ∀ {xs : List V} {us : List Value} {i : Nat}, Vals xs us → xs[i]? = none → us[i]? = none := fun {xs us i} r e => by
  have h1 := r.length
  have h2 : xs.length ≤ i := List.getElem?_eq_none_iff.mp e
  exact List.getElem?_eq_none_iff.mpr (by omega)
def RelO : Option V → Option Value → Prop
  | some v, some u => RelV v u
  | none, none => True
  | _, _ => False
def KV {κ : Type} : List (κ × V) → List (κ × Value) → Prop := Paired fun (p : κ × V) (q : κ × Value) => p.1 = q.1 ∧ RelV p.2 q.2
def kV : Key → V
  | .inl i => .int i
  | .inr x => .str x
inductive HO where
  | lst (xs : List V)
  | tup (xs : List V)
  | dK (kvs : List (Key × V)) | dT (kvs : List (List Key × V))
  | set (S : Int → Bool) (n : Nat)
  | ins (C dx : Addr) (fs : List (Str × V))
  | own (x : Addr)
  | xd (fs : List (Str × V))
  | met (f x : Addr)
  | rng (lo hi : Int)
  | frz (o : Obj) (u : HO)
  | tbl (ps : Array Value)
  | ext (φ : Heap → Prop)
abbrev Hp := Addr → Option HO
def upd (H : Hp) (a : Addr) (o : HO) : Hp := fun b => if b = a then some o else H b
theorem upd_same {H : Hp} {a : Addr} {o : HO} : upd H a o a = some o := by unfold upd; rw [if_pos rfl]
theorem upd_ne {H : Hp} {a b : Addr} {o : HO} (h : b ≠ a) : upd H a o b = H b := by unfold upd; rw [if_neg h]
theorem upd_upd {H : Hp} {a : Addr} {o u : HO} : upd (upd H a o) a u = upd H a u := by
  funext b; unfold upd; split <;> rfl
theorem ne_of {H : Hp} {a b : Addr} {o u : HO} (h : H a = some o) (h' : H b = some u) (d : o ≠ u) : a ≠ b := by
  intro e; subst e; rw [h] at h'; exact d (Option.some.inj h')
theorem ne_of_none {H : Hp} {a b : Addr} {o : HO} (h : H a = some o) (h' : H b = none) : a ≠ b := by
  intro e; subst e; rw [h] at h'; cases h'
section
variable (P : Program) (w : World)
def ObjOk (H : Hp) (h : Heap) (a : Addr) : HO → Prop
  | .lst xs => xs.length ≤ sizeLine ∧ ∃ (its : List Value) (n : Nat), Vals xs its ∧ h.get? a = some { cls := .type "list", data := .seq its.toArray n }
  | .tup xs => xs.length ≤ sizeLine ∧ ∃ its : List Value, Vals xs its ∧ IsTup h a its.toArray
  | .dK kvs => kvs.length ≤ sizeLine ∧ (a == sysModules) = false ∧ ∃ vs, KV kvs vs ∧ h.DictOf (mixKind P w) a vs
  | .dT kvs => kvs.length ≤ sizeLine ∧ (a == sysModules) = false ∧ ∃ xs : List (List Key × Addr × Value),
      Paired (fun (p : List Key × V) (q : List Key × Addr × Value) => p.1 = q.1 ∧ H q.2.1 = some (.tup (p.1.map kV)) ∧ RelV p.2 q.2.2) kvs xs ∧
      ∃ o es ep, h.get? a = some o ∧ o.ExactDict ∧ o.data = .dict es ep ∧ es.toList = xs.map (entryOfKey (tupleKind (mixKind P w))) ∧ (xs.map (·.1)).Nodup
  | .set S n => h.SetOf (intKind P w) a S n
  | .ins C dx fs => H dx = some (.own a) ∧ fs.length ≤ 1000 ∧ dx ≠ a ∧ h.get? a = some (PySem.W.instObj C dx) ∧
      ∃ mA, h.Ns1 dx mA ∧ (∀ f, RelO (fs.lookup f) (mA f)) ∧ PySem.Within mA (fs.map (·.1))
  | .own _ => ∃ o, h.get? a = some o
  | .xd fs => ∃ mA, h.Ns1 a mA ∧ ∀ f, RelO (fs.lookup f) (mA f)
  | .rng lo hi => ∃ t u v, h.get? a = some { cls := .type "range", data := .fields #[.int lo t, .int hi u, .int 1 v] }
  | .frz o u => h.get? a = some o ∧ ObjOk H h a u
  | .tbl ps => h.get? a = some { cls := .none, data := .fields ps }
  | .met f x => h.get? a = some (PySem.W.methodObj (.ref f) (.ref x))
  | .ext φ => φ h ∧ (∃ o, h.get? a = some o) ∧ ∀ h1 h2 : Heap, φ h1 → (∀ o, h1.get? a = some o → h2.get? a = some o) → φ h2
def HOk (H : Hp) (h : Heap) : Prop := ∀ a o, H a = some o → ObjOk P w H h a o
end
section
variable {P : Program} {w : World} {H H' : Hp} {h h' : Heap} {a : Addr} {o : HO}
theorem ObjOk.lt (x : ObjOk P w H h a o) : a < h.objs.size := by
  cases o with
  | lst xs => obtain ⟨_, _, _, _, e⟩ := x; exact Heap.lt_size e
  | tup xs => obtain ⟨_, _, _, p⟩ := x; exact p.lt
  | dK kvs => obtain ⟨_, _, _, _, o, _, _, e, _⟩ := x; exact Heap.lt_size e
  | dT kvs => obtain ⟨_, _, _, _, o, _, _, e, _⟩ := x; exact Heap.lt_size e
  | set S n => obtain ⟨o, _, _, _, e, _⟩ := x; exact Heap.lt_size e
  | ins C dx fs => obtain ⟨_, _, _, e, _⟩ := x; exact Heap.lt_size e
  | own y => obtain ⟨_, e⟩ := x; exact Heap.lt_size e
  | xd fs => obtain ⟨_, ⟨_, _, _, e, _⟩, _⟩ := x; exact Heap.lt_size e
  | rng lo hi => obtain ⟨_, _, _, e⟩ := x; exact Heap.lt_size e
  | frz ob u => obtain ⟨e, _⟩ := x; exact Heap.lt_size e
  | tbl ps => exact Heap.lt_size (show h.get? a = some _ from x)
  | met f y => exact Heap.lt_size (show h.get? a = some _ from x)
  | ext φ => obtain ⟨_, ⟨_, e⟩, _⟩ := x; exact Heap.lt_size e
theorem Paired.mapP {α β : Type} {F G : α → β → Prop} : ∀ {l₁ : List α} {l₂ : List β}, Paired F l₁ l₂ → (∀ a b, F a b → G a b) → Paired G l₁ l₂
  | _, _, .nil, _ => .nil
  | _, _, .cons r t, f => .cons (f _ _ r) (Paired.mapP t f)
theorem Paired.imp' {α β : Type} {F G : α → β → Prop} (f : ∀ a b, F a b → G a b) {l₁ : List α} {l₂ : List β} (r : Paired F l₁ l₂) : Paired G l₁ l₂ := Paired.mapP r f
theorem ObjOk.stay (x : ObjOk P w H h a o) (k : ∀ b u, (b = a ∨ H b = some (.own a)) → h.get? b = some u → h'.get? b = some u)
    (ho : ∀ b, H b = some (.own a) → H' b = some (.own a)) (ht : ∀ b xs, H b = some (.tup xs) → H' b = some (.tup xs)) : ObjOk P w H' h' a o := by
  induction o with
  | lst xs => obtain ⟨z, its, n, r, e⟩ := x; exact ⟨z, its, n, r, k _ _ (.inl rfl) e⟩
  | tup xs => obtain ⟨z, its, r, ob, e, c⟩ := x; exact ⟨z, its, r, ob, k _ _ (.inl rfl) e, c⟩
  | dK kvs => obtain ⟨z, y, vs, r, ob, es, ep, e, c⟩ := x; exact ⟨z, y, vs, r, ob, es, ep, k _ _ (.inl rfl) e, c⟩
  | dT kvs =>
    obtain ⟨z, y, xs, r, ob, es, ep, e, c⟩ := x
    exact ⟨z, y, xs, Paired.mapP r fun p q z => ⟨z.1, ht _ _ z.2.1, z.2.2⟩, ob, es, ep, k _ _ (.inl rfl) e, c⟩
  | set S n => obtain ⟨ob, es, ep, t, e, c⟩ := x; exact ⟨ob, es, ep, t, k _ _ (.inl rfl) e, c⟩
  | ins C dx fs =>
    obtain ⟨d, z, ne, e, mA, ⟨od, es, ep, e2, c⟩, r⟩ := x
    exact ⟨ho _ d, z, ne, k _ _ (.inl rfl) e, mA, ⟨od, es, ep, k _ _ (.inr d) e2, c⟩, r⟩
  | own y => obtain ⟨ob, e⟩ := x; exact ⟨ob, k _ _ (.inl rfl) e⟩
  | xd fs => obtain ⟨mA, ⟨od, es, ep, e, c⟩, r⟩ := x; exact ⟨mA, ⟨od, es, ep, k _ _ (.inl rfl) e, c⟩, r⟩
  | rng lo hi => obtain ⟨t, u, v, e⟩ := x; exact ⟨t, u, v, k _ _ (.inl rfl) e⟩
  | frz ob u ih => obtain ⟨e, q⟩ := x; exact ⟨k _ _ (.inl rfl) e, ih q⟩
  | tbl ps =>
    have e : h.get? a = some { cls := .none, data := .fields ps } := x
    show h'.get? a = some { cls := .none, data := .fields ps }
    exact k a _ (.inl rfl) e
  | met f y =>
    have e : h.get? a = some (PySem.W.methodObj (.ref f) (.ref y)) := x
    show h'.get? a = some (PySem.W.methodObj (.ref f) (.ref y))
    exact k a _ (.inl rfl) e
  | ext φ => obtain ⟨p, ⟨o, e⟩, st⟩ := x; exact ⟨st _ _ p fun o q => k _ _ (.inl rfl) q, ⟨o, k _ _ (.inl rfl) e⟩, st⟩
theorem HOk.lt (x : HOk P w H h) (e : H a = some o) : a < h.objs.size := (x a o e).lt
theorem HOk.fresh (x : HOk P w H h) (e : h.objs.size ≤ a) : H a = none := by
  cases q : H a with
  | none => rfl
  | some u => exact absurd (Nat.lt_of_lt_of_le (x.lt q) e) (Nat.lt_irrefl _)
theorem HOk.kept (x : HOk P w H h) (k : ∀ b u, h.get? b = some u → h'.get? b = some u) : HOk P w H h' := fun a o e =>
  (x a o e).stay (fun b u _ q => k b u q) (fun _ q => q) fun _ _ q => q
theorem HOk.laid (x : HOk P w H h) (k : ∀ b u, h.get? b = some u → h'.get? b = some u) (hp : h.objs.size ≤ a) (new : ObjOk P w (upd H a o) h' a o) : HOk P w (upd H a o) h' := fun b u e => by
  have hn := x.fresh hp
  by_cases hb : b = a
  · subst hb; rw [upd_same] at e; cases e; exact new
  · rw [upd_ne hb] at e
    exact (x b u e).stay (fun c v _ q => k c v q) (fun c q => by rw [upd_ne (ne_of_none q hn)]; exact q) fun c xs q => by rw [upd_ne (ne_of_none q hn)]; exact q
end
def Rd (H : Hp) (a : Addr) (u : HO) : Prop := H a = some u ∨ ∃ o, H a = some (.frz o u)
theorem Rd.of {H : Hp} {a : Addr} {u : HO} (h : H a = some u) : Rd H a u := .inl h
theorem Rd.ok {P : Program} {w : World} {H : Hp} {h : Heap} {a : Addr} {u : HO} (r : Rd H a u) (x : HOk P w H h) : ObjOk P w H h a u := by
  rcases r with r | ⟨o, r⟩
  · exact x a u r
  · obtain ⟨_, q⟩ := x a _ r
    exact q
def Mut : Option HO → Prop
  | some (.lst _) => True
  | some (.dK _) => True
  | some (.dT _) => True
  | some (.set _ _) => True
  | some (.ins _ _ _) => True
  | some (.ext _) => True
  | _ => False
section
variable {P : Program} {w : World} {H : Hp} {h h' : Heap} {x e : Addr} {o' : HO}
theorem HOk.write (ok : HOk P w H h) (mu : Mut (H x)) (he : e = x ∨ H e = some (.own x)) (k : ∀ b u, b ≠ e → h.get? b = some u → h'.get? b = some u) (heo : ∃ u, h'.get? e = some u)
    (new : ObjOk P w (upd H x o') h' x o') : HOk P w (upd H x o') h' := fun b u q => by
  have nown : ∀ c y, H c = some (.own y) → c ≠ x := fun c y r z => by subst z; rw [r] at mu; exact mu
  have ntup : ∀ c xs, H c = some (.tup xs) → c ≠ x := fun c xs r z => by subst z; rw [r] at mu; exact mu
  by_cases hb : b = x
  · subst hb; rw [upd_same] at q; cases q; exact new
  · rw [upd_ne hb] at q
    by_cases hbe : b = e
    · have q' : H b = some (.own x) := by
        rcases he with z | z
        · exact absurd (hbe.trans z) hb
        · rw [hbe]; exact z
      rw [q] at q'; cases q'
      obtain ⟨v, hv⟩ := heo
      exact ⟨v, by rw [hbe]; exact hv⟩
    · refine (ok b u q).stay (fun c v hc r => k c v ?_ r) (fun c r => by rw [upd_ne (nown c b r)]; exact r) fun c xs r => by rw [upd_ne (ntup c xs r)]; exact r
      rcases hc with rfl | hc
      · exact hbe
      · rintro rfl
        rcases he with z | z
        · exact nown c b hc z
        · rw [hc] at z; cases z; exact hb rfl
end
/-! ### kept unless tracked; of the frames at fs (the callers') the slots may change (an exception that passes writes there); of the records at ex (iterators) nothing is said -/
structure Un (fs ex : List Addr) (H H' : Hp) (h h' : Heap) : Prop where
  keep : ∀ b o, h.get? b = some o → H b = none → b ∉ fs → b ∉ ex → h'.get? b = some o
  slot : ∀ b o, h.get? b = some o → H b = none → b ∈ fs → b ∉ ex → ∃ sl, h'.get? b = some { o with slots := sl }
  free : ∀ b o, h.get? b = some o → H b = none → b ∉ ex → H' b = none
  there : ∀ b o, h.get? b = some o → b ∉ ex → ∃ o', h'.get? b = some o'
  tups : ∀ b xs, H b = some (.tup xs) → H' b = some (.tup xs)
  frzs : ∀ b o u, H b = some (.frz o u) → H' b = some (.frz o u)
  tbls : ∀ b ps, H b = some (.tbl ps) → ∃ more, H' b = some (.tbl (ps ++ more))
section
variable {fs fs' ex ex' : List Addr} {H H1 H2 : Hp} {h h1 h2 h' : Heap} {a x e : Addr} {o : HO}
theorem Un.any (u : Un fs ex H H1 h h1) {b : Addr} {ob : Obj} (q : h.get? b = some ob) (n : H b = none) (hx : b ∉ ex) : ∃ sl, h1.get? b = some { ob with slots := sl } := by
  by_cases hb : b ∈ fs
  · exact u.slot b ob q n hb hx
  · exact ⟨ob.slots, u.keep b ob q n hb hx⟩
theorem Un.trans (a : Un fs ex H H1 h h1) (b : Un fs ex H1 H2 h1 h2) : Un fs ex H H2 h h2 where
  keep := fun c ob q n hc hx => b.keep c ob (a.keep c ob q n hc hx) (a.free c ob q n hx) hc hx
  slot := fun c ob q n hc hx => by
    obtain ⟨sl, e1⟩ := a.slot c ob q n hc hx
    obtain ⟨sl', e2⟩ := b.slot c _ e1 (a.free c ob q n hx) hc hx
    exact ⟨sl', e2⟩
  free := fun c ob q n hx => by
    obtain ⟨o', e1⟩ := a.there c ob q hx
    exact b.free c o' e1 (a.free c ob q n hx) hx
  there := fun c ob q hx => by
    obtain ⟨o', e1⟩ := a.there c ob q hx
    exact b.there c o' e1 hx
  tups := fun c xs q => b.tups c xs (a.tups c xs q)
  frzs := fun c ob xs q => b.frzs c ob xs (a.frzs c ob xs q)
  tbls := fun c ps q => by
    obtain ⟨m1, e1⟩ := a.tbls c ps q
    obtain ⟨m2, e2⟩ := b.tbls c _ e1
    exact ⟨m1 ++ m2, by rw [e2, Array.append_assoc]⟩
theorem Un.kept (k : ∀ b u, h.get? b = some u → h'.get? b = some u) : Un fs ex H H h h' :=
  ⟨fun b ob q _ _ _ => k b ob q, fun b ob q _ _ _ => ⟨ob.slots, k b ob q⟩, fun _ _ _ n _ => n, fun b ob q _ => ⟨ob, k b ob q⟩, fun _ _ q => q, fun _ _ _ q => q, fun _ ps q => ⟨#[], by rw [q]; simp⟩⟩
theorem Un.refl : Un fs ex H H h h := Un.kept fun _ _ q => q
theorem Un.laid (k : ∀ b u, h.get? b = some u → h'.get? b = some u) (hp : h.objs.size ≤ a) (hn : H a = none) : Un fs ex H (upd H a o) h h' where
  keep := fun b u q _ _ _ => k b u q
  slot := fun b u q _ _ _ => ⟨u.slots, k b u q⟩
  free := fun b u q n _ => by rw [upd_ne (Nat.ne_of_lt (Nat.lt_of_lt_of_le (Heap.lt_size q) hp))]; exact n
  there := fun b u q _ => ⟨u, k b u q⟩
  tups := fun b xs q => by rw [upd_ne (ne_of_none q hn)]; exact q
  frzs := fun b u xs q => by rw [upd_ne (ne_of_none q hn)]; exact q
  tbls := fun b ps q => ⟨#[], by rw [upd_ne (ne_of_none q hn), q]; simp⟩
theorem Un.write (mu : Mut (H x)) (he : e = x ∨ H e = some (.own x)) (k : ∀ b u, b ≠ e → h.get? b = some u → h'.get? b = some u) (heo : ∃ u, h'.get? e = some u) : Un fs ex H (upd H x o) h h' := by
  have hx : ∀ b, H b = none → b ≠ x := fun b n z => by subst z; rw [n] at mu; exact mu
  have hb : ∀ b, H b = none → b ≠ e := fun b n z => by
    subst z
    rcases he with r | r
    · exact hx b n r
    · rw [n] at r; cases r
  have hm : ∀ b u, H b = some u → ¬ Mut (some u) → b ≠ x := fun b u q nm z => by subst z; rw [q] at mu; exact nm mu
  refine ⟨fun b u q n _ _ => k b u (hb b n) q, fun b u q n _ _ => ⟨u.slots, k b u (hb b n) q⟩, fun b u q n _ => by rw [upd_ne (hx b n)]; exact n, fun b u q _ => ?_,
    fun b xs q => by rw [upd_ne (hm b _ q fun z => z)]; exact q, fun b u xs q => by rw [upd_ne (hm b _ q fun z => z)]; exact q, fun b ps q => ⟨#[], by rw [upd_ne (hm b _ q fun z => z), q]; simp⟩⟩
  by_cases hbe : b = e
  · subst hbe; exact heo
  · exact ⟨u, k b u hbe q⟩
theorem Un.mono (u : Un fs ex H H1 h h1) (hs : ∀ b ∈ fs, b ∈ fs') (hx : ∀ b ∈ ex, b ∈ ex') : Un fs' ex' H H1 h h1 :=
  ⟨fun b ob q n hb he => u.keep b ob q n (fun z => hb (hs b z)) fun z => he (hx b z), fun _ _ q n _ he => u.any q n fun z => he (hx _ z), fun b ob q n he => u.free b ob q n fun z => he (hx b z), fun b ob q he => u.there b ob q fun z => he (hx b z), u.tups, u.frzs, u.tbls⟩
end
/-! ### the heap without what is tracked -/
def trk (h : Heap) (H : Hp) : List Addr := (List.range h.objs.size).filter fun a => (H a).isSome
def hidT (h : Heap) (H : Hp) : Heap := PySem.W.hideAll h (trk h H)
theorem hidT_size (h : Heap) (H : Hp) : (hidT h H).objs.size = h.objs.size := PySem.W.hideAll_size _ _
theorem hidT_get {h : Heap} {H : Hp} {b : Addr} {o : Obj} (e : h.get? b = some o) (n : H b = none) : (hidT h H).get? b = some o :=
  PySem.W.hideAll_get _ e fun hm => by
    have q : (H b).isSome = true := (List.mem_filter.mp hm).2
    rw [n] at q; simp at q
theorem of_hidT {h : Heap} {H : Hp} {b : Addr} {o : Obj} (e : (hidT h H).get? b = some o) : h.get? b = some o ∧ H b = none := by
  have e' : h.get? b = some o := PySem.W.of_hideAll (trk h H) e
  refine ⟨e', ?_⟩
  cases q : H b with
  | none => rfl
  | some x =>
    have hm : b ∈ trk h H := List.mem_filter.mpr ⟨List.mem_range.mpr (Heap.lt_size e'), by simp [q]⟩
    have z : (hidT h H).get? b = none := PySem.W.hideAll_none (trk h H) hm
    rw [z] at e; cases e
/-! ### OpenK's ledger, filled with every new object but one -/
def allNews (g h : Heap) (L : Addr) : List (Addr × Obj) := (List.range h.objs.size).filterMap fun a => if a = L ∨ (g.get? a).isSome = true then none else (h.get? a).map fun o => (a, o)
theorem mem_allNews {g h : Heap} {L a : Addr} {o : Obj} (h1 : a ≠ L) (h2 : g.get? a = none) (h3 : h.get? a = some o) : (a, o) ∈ allNews g h L :=
  List.mem_filterMap.mpr ⟨a, List.mem_range.mpr (Heap.lt_size h3), by simp [h1, h2, h3]⟩
theorem of_mem_allNews {g h : Heap} {L : Addr} {p : Addr × Obj} (hp : p ∈ allNews g h L) : p.1 ≠ L ∧ g.get? p.1 = none ∧ h.get? p.1 = some p.2 := by
  obtain ⟨b, _, e⟩ := List.mem_filterMap.mp hp
  split at e
  · cases e
  · rename_i hn
    cases q : h.get? b with
    | none => rw [q] at e; simp at e
    | some u =>
      rw [q] at e
      simp only [Option.map_some, Option.some.injEq] at e
      subst e
      refine ⟨fun z => hn (.inl z), ?_, q⟩
      show g.get? b = none
      cases r : g.get? b with
      | none => rfl
      | some v => exact (hn (.inr (by simp [r]))).elim
def rest (g h : Heap) (L d : Addr) : List (Addr × Obj) := (allNews g h L).filter fun p => decide (p.1 ≠ d)
theorem rest_ne {g h : Heap} {L d : Addr} : ∀ p ∈ rest g h L d, p.1 ≠ d := fun p hp => of_decide_eq_true (List.mem_filter.mp hp).2
theorem mem_rest {g h : Heap} {L d a : Addr} {o : Obj} (h1 : a ≠ L) (h2 : g.get? a = none) (h3 : h.get? a = some o) (h4 : a ≠ d) : (a, o) ∈ rest g h L d :=
  List.mem_filter.mpr ⟨mem_allNews h1 h2 h3, decide_eq_true h4⟩
theorem news_all {g h : Heap} {L : Addr} : News g L h (allNews g h L) := fun p hp => let ⟨a, b, c⟩ := of_mem_allNews hp; ⟨c, a, b⟩
theorem news_at {g h : Heap} {L d : Addr} {o : Obj} (h1 : d ≠ L) (h2 : g.get? d = none) (h3 : h.get? d = some o) : News g L h ((d, o) :: rest g h L d) := fun p hp => by
  rcases List.mem_cons.mp hp with rfl | hp
  · exact ⟨h3, h1, h2⟩
  · exact news_all p (List.mem_filter.mp hp).1
theorem kept_of_news {g h h' : Heap} {L d : Addr} {m : Str → Option Value} (k : ∀ b o, g.get? b = some o → h.get? b = some o) (F : Fr g L h' m) (N : News g L h' (rest g h L d)) :
    ∀ b o, b ≠ L → b ≠ d → h.get? b = some o → h'.get? b = some o := fun b o h1 h2 e => by
  cases q : g.get? b with
  | some u =>
    have := k b u q
    rw [e] at this; cases this
    exact F.keep b _ q
  | none => exact (N (b, o) (mem_rest h1 q e h2)).1
end L2
namespace L2
open PySem PySem.Spec PyProof.Rows
structure Mod (K : PySem.W.Frag) (mg : Str → Option Value) (base : Heap) : Prop where
  kin : K.In base
  glob : base.Ns mainGlobals mg
  blt : ∃ mb, base.Ns builtinsNs mb ∧ ∀ x : Str, x ≠ "__name__" → mb x = bootBuiltins x
  nolimit : base.NoLimit
/-- the context: a def's body (or a comprehension's block) running. base: fixed through the whole law; s₀, H₀: the entry; outer: the frames whose slots others may change (a def's callers); stack: all frames that run;
   ex: iterators that were made ahead of the entry and are walked here (a comprehension's); fn: the names whose cells were made at the entry (a def: all; a comprehension's block: its own); calm: not within an except suite; pn: pins that every state bears; xe: what is wanted of an exception that leaves the code -/
structure Cx where
  prog : Program
  w : World
  K : PySem.W.Frag
  mg : Str → Option Value
  base : Heap
  A : Around
  N : List Str
  s₀ : Shared
  H₀ : Hp
  env : Env
  outer : List Env
  stack : List Env
  ex : List Addr
  fn : Str → Bool
  calm : Bool
  pn : List (Addr × Obj)
  xe : Value → Shared → Prop
def frs (l : List Env) : List Addr := l.filterMap (·.frame)
abbrev Cx.fs (X : Cx) : List Addr := frs X.outer
def Vis (sc : Scope) (x : Str) : Prop := sc.names.lookup x = some .local ∨ sc.names.lookup x = some .cell ∨ sc.names.lookup x = some .free
def Loc (sc : Scope) (x : Str) : Prop := sc.names.lookup x = some .local ∨ sc.names.lookup x = some .cell
def Look (env : Env) (h : Heap) (m : Str → Option Value) (x : Str) (u : Value) : Prop :=
  (env.kindOf x = some .local ∧ m x = some u) ∨ ((env.kindOf x = some .cell ∨ env.kindOf x = some .free) ∧ ∃ c, env.cells.lookup x = some c ∧ h.IsCell c (some u))
structure Cx.Ok (X : Cx) : Prop where
  mod : Mod X.K X.mg X.base
  kind : X.env.scope.kind = .function
  glob : X.env.globals = mainGlobals
  blt : X.env.builtins = builtinsNs
  above : X.s₀.heap.objs.size ≤ X.env.locals
  inj : ∀ x y c, X.env.cells.lookup x = some c → X.env.cells.lookup y = some c → x = y
  has : ∀ x, (X.env.kindOf x = some .cell ∨ X.env.kindOf x = some .free) → ∃ c, X.env.cells.lookup x = some c
  cab : ∀ x c, X.fn x = true → X.env.cells.lookup x = some c → X.s₀.heap.objs.size ≤ c
  hd : X.calm = true → X.A.handled = none
  frames : X.A.frames = some X.stack
  stk : X.stack = X.outer ∨ (X.stack = X.env :: X.outer ∧ X.env.frame = some X.env.locals)
  exf : ∀ b ∈ X.ex, b ≠ X.env.locals ∧ ∀ x c, X.env.cells.lookup x = some c → c ≠ b
  bs : ∀ b o, X.base.get? b = some o → X.s₀.heap.get? b = some o ∧ X.H₀ b = none
  bsz : X.base.objs.size ≤ X.s₀.heap.objs.size
  noex : ∀ b o, X.base.get? b = some o → b ∉ X.ex
  exfs : ∀ b ∈ X.ex, b ∉ X.fs
  funs : X.s₀.heap.FunFrames X.base X.outer
  frf : ∀ b ∈ X.fs, X.H₀ b = none
structure Inv (X : Cx) (pins : List (Addr × Obj)) (σ : List (Option V)) (H : Hp) (s : Shared) : Prop where
  ok : X.Ok
  os : s.os = X.s₀.os
  bare : AllBare s.gens
  base : Un X.fs X.ex X.H₀ H X.s₀.heap s.heap
  loc : ∃ m, s.heap.Ns X.env.locals m ∧ ∀ (i : Nat) (x : Str) (v : V), X.N[i]? = some x → σ[i]? = some (some v) → Vis X.env.scope x → ∃ u, RelV v u ∧ Look X.env s.heap m x u
  cell : ∀ x c, X.env.cells.lookup x = some c → ∃ v, s.heap.IsCell c v
  free : H X.env.locals = none
  freeC : ∀ x c, X.env.cells.lookup x = some c → H c = none
  pin : ∀ p ∈ X.pn ++ pins, s.heap.get? p.1 = some p.2 ∧ H p.1 = none ∧ p.1 ≠ X.env.locals ∧ p.1 ∉ X.fs ∧ ∀ v, p.2.data ≠ .cell v
  hok : HOk X.prog X.w H s.heap
  len : σ.length = X.N.length
section
variable {X : Cx} {pins : List (Addr × Obj)} {σ : List (Option V)} {H H' : Hp} {s : Shared} {h' : Heap}
theorem Cx.Ok.nofr (ok : X.Ok) {b : Addr} {o : Obj} (e : X.base.get? b = some o) : b ∉ X.fs := fun hb => by
  have := (ok.funs.mem hb).1
  rw [e] at this; cases this
theorem Inv.bs (I : Inv X pins σ H s) : ∀ b o, X.base.get? b = some o → s.heap.get? b = some o ∧ H b = none := fun b o e =>
  ⟨I.base.keep b o (I.ok.bs b o e).1 (I.ok.bs b o e).2 (I.ok.nofr e) (I.ok.noex b o e), I.base.free b o (I.ok.bs b o e).1 (I.ok.bs b o e).2 (I.ok.noex b o e)⟩
theorem Inv.bk (I : Inv X pins σ H s) : ∀ b o, X.base.get? b = some o → s.heap.get? b = some o := fun b o e => (I.bs b o e).1
theorem Inv.mod (I : Inv X pins σ H s) : Mod X.K X.mg X.base := I.ok.mod
theorem Inv.kIn (I : Inv X pins σ H s) : X.K.In s.heap := I.ok.mod.kin.keeps I.bk
theorem Inv.nolimit (I : Inv X pins σ H s) : s.heap.NoLimit := I.ok.mod.nolimit.keeps I.bk
theorem Inv.fr (I : Inv X pins σ H s) : ∃ m, Fr X.base X.env.locals s.heap m :=
  let ⟨m, hn, _⟩ := I.loc
  ⟨m, hn, I.bk, Nat.le_trans I.ok.bsz I.ok.above⟩
theorem Inv.lt (I : Inv X pins σ H s) : X.env.locals < s.heap.objs.size := let ⟨_, hn, _⟩ := I.loc; hn.lt
theorem Inv.sz (I : Inv X pins σ H s) : X.s₀.heap.objs.size ≤ s.heap.objs.size := Nat.le_trans I.ok.above (Nat.le_of_lt I.lt)
theorem Inv.nofs (I : Inv X pins σ H s) {a : Addr} (h : s.heap.objs.size ≤ a) : a ∉ X.fs := fun hb => by
  obtain ⟨_, o, ho, _⟩ := I.ok.funs.mem hb
  exact absurd (Nat.lt_of_lt_of_le (Heap.lt_size ho) (Nat.le_trans I.sz h)) (Nat.lt_irrefl _)
theorem Inv.cne (I : Inv X pins σ H s) : ∀ x c, X.env.cells.lookup x = some c → c ≠ X.env.locals := fun x c e z => by
  obtain ⟨v, o, ho, hd⟩ := I.cell x c e
  obtain ⟨m, ⟨o', es, ep, ho', hd', _⟩, _⟩ := I.loc
  rw [z, ho'] at ho; cases ho; rw [hd'] at hd; cases hd
theorem Inv.funs (I : Inv X pins σ H s) : s.heap.FunFrames X.base X.outer := by
  have all : ∀ (l : List Env), (∀ b ∈ frs l, b ∈ X.fs) → X.s₀.heap.FunFrames X.base l → s.heap.FunFrames X.base l := by
    intro l
    induction l with
    | nil => intro _ _; trivial
    | cons env r ih =>
      intro hs hl
      obtain ⟨hk, ⟨L, o, hf, hn, ho, hd⟩, hr⟩ := hl
      have hL : L ∈ X.fs := hs L (by unfold frs; rw [List.filterMap_cons, hf]; exact List.mem_cons_self)
      obtain ⟨sl, e⟩ := I.base.slot L o ho (I.ok.frf L hL) hL fun z => I.ok.exfs L z hL
      exact ⟨hk, ⟨L, _, hf, hn, e, hd⟩, ih (fun b hb => hs b (by unfold frs; rw [List.filterMap_cons, hf]; exact List.mem_cons_of_mem _ hb)) hr⟩
  exact all X.outer (fun _ hb => hb) I.ok.funs
theorem Inv.stack (I : Inv X pins σ H s) : s.heap.FunFrames X.base X.stack := by
  rcases I.ok.stk with e | ⟨e, hf⟩
  · rw [e]; exact I.funs
  · rw [e]
    obtain ⟨m, hn, _⟩ := I.loc
    refine .cons (by rw [I.ok.kind]; decide) hf hn ?_ I.funs
    exact Heap.get?_none_of_le (Nat.le_trans I.ok.bsz I.ok.above)
theorem Inv.stkSub (I : Inv X pins σ H s) : ∀ b ∈ frs X.stack, b ∈ X.env.locals :: X.fs := fun b hb => by
  rcases I.ok.stk with e | ⟨e, hf⟩
  · rw [e] at hb; exact List.mem_cons_of_mem _ hb
  · rw [e] at hb
    unfold frs at hb
    rw [List.filterMap_cons, hf] at hb
    exact hb
theorem Inv.stkFree (I : Inv X pins σ H s) : ∀ b ∈ frs X.stack, H b = none := fun b hb => by
  rcases List.mem_cons.mp (I.stkSub b hb) with e | hb
  · rw [e]; exact I.free
  · obtain ⟨_, o, ho, _⟩ := I.ok.funs.mem hb
    exact I.base.free b o ho (I.ok.frf b hb) fun z => I.ok.exfs b z hb
theorem Inv.step {g' : Array GenState} {t' : Nat} {d' : Drawn} {ch : List Addr} (I : Inv X pins σ H s)
    (hch : ∀ b ∈ ch, (b ∈ X.ex ∨ X.s₀.heap.objs.size ≤ b) ∧ b ≠ X.env.locals ∧ (∀ x c, X.env.cells.lookup x = some c → c ≠ b) ∧ ∀ p ∈ X.pn ++ pins, p.1 ≠ b)
    (keep : ∀ b o, b ≠ X.env.locals → b ∉ X.fs → b ∉ ch → s.heap.get? b = some o → H b = none → h'.get? b = some o)
    (slot : ∀ b o, b ≠ X.env.locals → b ∈ X.fs → b ∉ ch → s.heap.get? b = some o → H b = none → ∃ sl, h'.get? b = some { o with slots := sl }) (free : ∀ b o, b ∉ ch → s.heap.get? b = some o → H b = none → H' b = none)
    (there : ∀ b o, b ∉ ch → s.heap.get? b = some o → ∃ o', h'.get? b = some o')
    (tups : ∀ b xs, H b = some (.tup xs) → H' b = some (.tup xs)) (frzs : ∀ b o u, H b = some (.frz o u) → H' b = some (.frz o u)) (tbls : ∀ b ps, H b = some (.tbl ps) → ∃ more, H' b = some (.tbl (ps ++ more)))
    (ns : ∀ m, s.heap.Ns X.env.locals m → h'.Ns X.env.locals m) (hok : HOk X.prog X.w H' h') (hg : AllBare g') :
    Inv X pins σ H' { s with heap := h', gens := g', drawn := d', toks := t' } := by
  have neL : ∀ b o, X.s₀.heap.get? b = some o → b ≠ X.env.locals := fun b o e => Nat.ne_of_lt (Nat.lt_of_lt_of_le (Heap.lt_size e) I.ok.above)
  have neC : ∀ b o, X.s₀.heap.get? b = some o → b ∉ X.ex → b ∉ ch := fun b o e hx hb => by
    rcases (hch b hb).1 with z | z
    · exact hx z
    · exact absurd (Nat.lt_of_lt_of_le (Heap.lt_size e) z) (Nat.lt_irrefl _)
  have cellK : ∀ x c, X.env.cells.lookup x = some c → ∀ v, s.heap.IsCell c v → h'.IsCell c v := fun x c e v ⟨o, ho, hd⟩ => by
    have nch : c ∉ ch := fun z => (hch c z).2.2.1 x c e rfl
    by_cases hc : c ∈ X.fs
    · obtain ⟨sl, q⟩ := slot c o (I.cne x c e) hc nch ho (I.freeC x c e)
      exact ⟨_, q, hd⟩
    · exact ⟨o, keep c o (I.cne x c e) hc nch ho (I.freeC x c e), hd⟩
  refine ⟨I.ok, I.os, hg, ⟨fun b o e n hb hx => ?_, fun b o e n hb hx => ?_, fun b o e n hx => ?_, fun b o e hx => ?_, fun b xs e => tups b xs (I.base.tups b xs e), fun b o xs e => frzs b o xs (I.base.frzs b o xs e), fun b ps e => ?_⟩, ?_, fun x c e => ?_, ?_, fun x c e => ?_, fun p hp => ?_, hok, I.len⟩
  · exact keep b o (neL b o e) hb (neC b o e hx) (I.base.keep b o e n hb hx) (I.base.free b o e n hx)
  · obtain ⟨sl, e1⟩ := I.base.slot b o e n hb hx
    obtain ⟨sl', e2⟩ := slot b _ (neL b o e) hb (neC b o e hx) e1 (I.base.free b o e n hx)
    exact ⟨sl', e2⟩
  · obtain ⟨o', e1⟩ := I.base.there b o e hx
    exact free b o' (neC b o e hx) e1 (I.base.free b o e n hx)
  · obtain ⟨o', e1⟩ := I.base.there b o e hx
    exact there b o' (neC b o e hx) e1
  · obtain ⟨m1, e1⟩ := I.base.tbls b ps e
    obtain ⟨m2, e2⟩ := tbls b _ e1
    exact ⟨m1 ++ m2, by rw [e2, Array.append_assoc]⟩
  · obtain ⟨m, hn, hl⟩ := I.loc
    refine ⟨m, ns m hn, fun i x v e1 e2 e3 => ?_⟩
    obtain ⟨u, r, l⟩ := hl i x v e1 e2 e3
    refine ⟨u, r, ?_⟩
    rcases l with l | ⟨k, c, e, z⟩
    · exact .inl l
    · exact .inr ⟨k, c, e, cellK x c e _ z⟩
  · obtain ⟨v, z⟩ := I.cell x c e
    exact ⟨v, cellK x c e v z⟩
  · obtain ⟨m, ⟨o, _, _, ho, _⟩, _⟩ := I.loc
    exact free _ o (fun z => (hch _ z).2.1 rfl) ho I.free
  · obtain ⟨v, o, ho, hd⟩ := I.cell x c e
    exact free c o (fun z => (hch c z).2.2.1 x c e rfl) ho (I.freeC x c e)
  · obtain ⟨e, n, ne, nf, d⟩ := I.pin p hp
    have nch : p.1 ∉ ch := fun z => (hch p.1 z).2.2.2 p hp rfl
    exact ⟨keep p.1 p.2 ne nf nch e n, free p.1 p.2 nch e n, ne, nf, d⟩
theorem Inv.un {t' : Nat} (I : Inv X pins σ H s) (u : Un X.fs [] H H' s.heap h') (hok : HOk X.prog X.w H' h') : Inv X pins σ H' { s with heap := h', toks := t' } := by
  obtain ⟨m, ⟨o, es, ep, ho, r⟩, _⟩ := id I.loc
  obtain ⟨sl, hL⟩ := u.any ho I.free (by simp)
  exact I.step (g' := s.gens) (d' := s.drawn) (ch := []) (fun _ z => nomatch z) (fun b o _ hb _ e n => u.keep b o e n hb (by simp)) (fun b o _ hb _ e n => u.slot b o e n hb (by simp)) (fun b o _ e n => u.free b o e n (by simp)) (fun b o _ e => u.there b o e (by simp)) u.tups u.frzs u.tbls (fun m' hm => by
    obtain ⟨o', es', ep', ho', r'⟩ := hm
    rw [ho] at ho'; cases ho'
    exact ⟨_, es', ep', hL, r'⟩) hok I.bare
theorem Inv.call {g' : Array GenState} {t' : Nat} {d' : Drawn} {ch : List Addr} (I : Inv X pins σ H s) (u : Un (frs X.stack) ch H H' s.heap h') (hok : HOk X.prog X.w H' h') (hg : AllBare g')
    (hch : ∀ b ∈ ch, (b ∈ X.ex ∨ X.s₀.heap.objs.size ≤ b) ∧ b ≠ X.env.locals ∧ (∀ x c, X.env.cells.lookup x = some c → c ≠ b) ∧ ∀ p ∈ X.pn ++ pins, p.1 ≠ b) :
    Inv X pins σ H' { s with heap := h', gens := g', drawn := d', toks := t' } := by
  obtain ⟨m, ⟨o, es, ep, ho, r⟩, _⟩ := id I.loc
  obtain ⟨sl, hL⟩ := u.any ho I.free fun z => (hch _ z).2.1 rfl
  exact I.step (ch := ch) hch (fun b o hL hb hc e n => u.keep b o e n (fun z => (List.mem_cons.mp (I.stkSub b z)).elim hL hb) hc) (fun b o _ _ hc e n => u.any e n hc) (fun b o hc e n => u.free b o e n hc) (fun b o hc e => u.there b o e hc) u.tups u.frzs u.tbls (fun m' hm => by
    obtain ⟨o', es', ep', ho', r'⟩ := hm
    rw [ho] at ho'; cases ho'
    exact ⟨_, es', ep', hL, r'⟩) hok hg
theorem Inv.turned {t' : Nat} {it : Addr} (I : Inv X pins σ H s) (k : ∀ b o, b ≠ it → s.heap.get? b = some o → h'.get? b = some o) (hn : H it = none) (hL : it ≠ X.env.locals)
    (h1 : it ∈ X.ex ∨ X.s₀.heap.objs.size ≤ it) (h2 : ∀ x c, X.env.cells.lookup x = some c → c ≠ it) (h3 : ∀ p ∈ X.pn ++ pins, p.1 ≠ it) : Inv X pins σ H { s with heap := h', toks := t' } := by
  have nit : ∀ b u, H b = some u → b ≠ it := fun b u e z => by rw [z, hn] at e; cases e
  refine I.step (g' := s.gens) (d' := s.drawn) (ch := [it]) (fun b hb => ?_) (fun b o _ _ hc e _ => k b o (fun z => hc (by simp [z])) e) (fun b o _ _ hc e _ => ⟨o.slots, k b o (fun z => hc (by simp [z])) e⟩) (fun _ _ _ _ n => n)
    (fun b o hc e => ⟨o, k b o (fun z => hc (by simp [z])) e⟩) (fun _ _ e => e) (fun _ _ _ e => e) (fun b ps e => ⟨#[], by rw [e]; simp⟩) (fun m hm => ?_) (fun b u e => ?_) I.bare
  · have e : b = it := by simpa using hb
    subst e
    exact ⟨h1, hL, h2, h3⟩
  · obtain ⟨o, es, ep, ho, r⟩ := hm
    exact ⟨o, es, ep, k _ o (Ne.symm hL) ho, r⟩
  · refine (I.hok b u e).stay (fun c v hc q => k c v ?_ q) (fun _ q => q) fun _ _ q => q
    rcases hc with z | z
    · rw [z]; exact nit b u e
    · exact nit c _ z
theorem Inv.tok (I : Inv X pins σ H s) (t : Nat) : Inv X pins σ H { s with toks := t } := I.un (h' := s.heap) (t' := t) Un.refl I.hok
theorem Inv.kept {t' : Nat} (I : Inv X pins σ H s) (k : ∀ b u, s.heap.get? b = some u → h'.get? b = some u) : Inv X pins σ H { s with heap := h', toks := t' } := I.un (Un.kept k) (I.hok.kept k)
theorem Inv.laid {a : Addr} {o : HO} {t' : Nat} (I : Inv X pins σ H s) (k : ∀ b u, s.heap.get? b = some u → h'.get? b = some u) (hp : s.heap.objs.size ≤ a) (new : ObjOk X.prog X.w (upd H a o) h' a o) :
    Inv X pins σ (upd H a o) { s with heap := h', toks := t' } := I.un (Un.laid k hp (I.hok.fresh hp)) (I.hok.laid k hp new)
theorem Inv.write {x e : Addr} {o : HO} {t' : Nat} (I : Inv X pins σ H s) (mu : Mut (H x)) (he : e = x ∨ H e = some (.own x)) (k : ∀ b u, b ≠ e → s.heap.get? b = some u → h'.get? b = some u) (heo : ∃ u, h'.get? e = some u)
    (new : ObjOk X.prog X.w (upd H x o) h' x o) : Inv X pins σ (upd H x o) { s with heap := h', toks := t' } := I.un (Un.write mu he k heo) (I.hok.write mu he k heo new)
theorem Inv.weak {σ' : List (Option V)} (I : Inv X pins σ H s) (hl : σ'.length = σ.length) (w : ∀ (i : Nat) v, σ'[i]? = some (some v) → σ[i]? = some (some v)) : Inv X pins σ' H s :=
  ⟨I.ok, I.os, I.bare, I.base, let ⟨m, hn, hl'⟩ := I.loc; ⟨m, hn, fun i x v e1 e2 e3 => hl' i x v e1 (w i v e2) e3⟩, I.cell, I.free, I.freeC, I.pin, I.hok, hl.trans I.len⟩
theorem Inv.pins_of {pins' : List (Addr × Obj)} (I : Inv X pins σ H s) (h : ∀ p ∈ pins', s.heap.get? p.1 = some p.2 ∧ H p.1 = none ∧ p.1 ≠ X.env.locals ∧ p.1 ∉ X.fs ∧ ∀ v, p.2.data ≠ .cell v) : Inv X pins' σ H s :=
  ⟨I.ok, I.os, I.bare, I.base, I.loc, I.cell, I.free, I.freeC, fun p hp => (List.mem_append.mp hp).elim (fun z => I.pin p (List.mem_append_left _ z)) (h p), I.hok, I.len⟩
theorem nodup_ix {N : List Str} (hN : N.Nodup) {i j : Nat} {x : Str} (a : N[i]? = some x) (b : N[j]? = some x) : i = j := by
  obtain ⟨h1, e1⟩ := List.getElem?_eq_some_iff.mp a
  obtain ⟨h2, e2⟩ := List.getElem?_eq_some_iff.mp b
  exact (List.getElem_inj hN).mp (e1.trans e2.symm)
theorem store_ok2 {M : Model} {A : Around} {E : Value → Shared → Prop} {i : Nat} {x : Str} {v : V} {u : Value} {Q : Unit → Shared → Prop} (I : Inv X pins σ H s) (hN : X.N.Nodup) (hi : X.N[i]? = some x) (hx : Loc X.env.scope x) (r : RelV v u)
    (h : ∀ s', Inv X pins (σ.set i (some v)) H s' → (∃ a, Heap.SameBut a s.heap s'.heap ∧ (a = X.env.locals ∨ X.env.cells.lookup x = some a)) → Q () s') (hf : X.fn x = true ∨ X.env.scope.names.lookup x = some .local := by first | exact .inl rfl | exact .inr rfl | assumption) : wpAny M A (storeName X.env x u) Q E s := by
  obtain ⟨m, hn, hl⟩ := id I.loc
  have hcls : (X.env.scope.kind == .class || (X.env.scope.kind == .module && X.env.locals != X.env.globals)) = false := by rw [I.ok.kind]; rfl
  have hiσ : i < σ.length := by rw [I.len]; exact (List.getElem?_eq_some_iff.mp hi).1
  have cne := I.cne
  have tracked : ∀ {a : Addr} {h' : Heap}, (∃ o, s.heap.get? a = some o ∧ H a = none) → Heap.SameBut a s.heap h' → HOk X.prog X.w H h' := fun {a h'} ha hs b ob e => by
    obtain ⟨_, _, hfree⟩ := ha
    refine (I.hok b ob e).stay (fun c w' hc q => (hs.2 c ?_).trans q) (fun _ q => q) fun _ _ q => q
    rintro rfl
    rcases hc with rfl | hc
    · rw [hfree] at e; cases e
    · rw [hfree] at hc; cases hc
  rcases hx with hk | hk
  · refine wpAny_storeName_local hk hn (fun h' hn' hs => ?_) hcls
    obtain ⟨oL, _, _, hoL, _⟩ := id hn
    refine h _ ⟨I.ok, I.os, I.bare, ⟨fun b o e n hb hx => ?_, fun b o e n hb hx => ?_, I.base.free, fun b o e hx => ?_, I.base.tups, I.base.frzs, I.base.tbls⟩, ⟨_, hn', fun j y v' e1 e2 e3 => ?_⟩, fun y c e => ?_, I.free, I.freeC, fun p hp => ?_, tracked ⟨oL, hoL, I.free⟩ hs, by simpa using I.len⟩ ⟨_, hs, .inl rfl⟩
    · exact (hs.2 b (Nat.ne_of_lt (Nat.lt_of_lt_of_le (Heap.lt_size e) I.ok.above))).trans (I.base.keep b o e n hb hx)
    · obtain ⟨sl, e1⟩ := I.base.slot b o e n hb hx
      exact ⟨sl, (hs.2 b (Nat.ne_of_lt (Nat.lt_of_lt_of_le (Heap.lt_size e) I.ok.above))).trans e1⟩
    · obtain ⟨o', e1⟩ := I.base.there b o e hx
      exact ⟨o', (hs.2 b (Nat.ne_of_lt (Nat.lt_of_lt_of_le (Heap.lt_size e) I.ok.above))).trans e1⟩
    · by_cases hj : j = i
      · subst hj
        rw [hi] at e1; cases e1
        rw [List.getElem?_set_self hiσ] at e2
        cases e2
        exact ⟨u, r, .inl ⟨hk, by simp⟩⟩
      · rw [List.getElem?_set_ne (Ne.symm hj)] at e2
        obtain ⟨u', r', q⟩ := hl j y v' e1 e2 e3
        refine ⟨u', r', ?_⟩
        rcases q with ⟨k, e⟩ | ⟨k, c, e, z⟩
        · refine .inl ⟨k, ?_⟩
          have : y ≠ x := fun e => hj (nodup_ix hN e1 (e ▸ hi))
          simp [this, e]
        · exact .inr ⟨k, c, e, z.sameBut hs (cne y c e)⟩
    · obtain ⟨w', z⟩ := I.cell y c e
      exact ⟨w', z.sameBut hs (cne y c e)⟩
    · obtain ⟨e, n, ne, nf, d⟩ := I.pin p hp
      exact ⟨(hs.2 p.1 ne).trans e, n, ne, nf, d⟩
  · have hfn : X.fn x = true := by
      rcases hf with z | z
      · exact z
      · rw [z] at hk; cases hk
    obtain ⟨c, hc⟩ := I.ok.has x (.inl hk)
    obtain ⟨w', z⟩ := I.cell x c hc
    refine wpAny_storeName_cell I.ok.kind hk hc z (fun h' hc' hs => ?_)
    obtain ⟨oc, hoc, hocd⟩ := id z
    refine h { s with heap := h' } ⟨I.ok, I.os, I.bare, ⟨fun b o e n hb hx => ?_, fun b o e n hb hx => ?_, I.base.free, fun b o e hx => ?_, I.base.tups, I.base.frzs, I.base.tbls⟩, ⟨m, hn.sameBut hs (Ne.symm (cne x c hc)), fun j y v' e1 e2 e3 => ?_⟩, fun y c' e => ?_, I.free, I.freeC, fun p hp => ?_, tracked ⟨oc, hoc, I.freeC x c hc⟩ hs, by simpa using I.len⟩ ⟨c, hs, .inr hc⟩
    · exact (hs.2 b (Nat.ne_of_lt (Nat.lt_of_lt_of_le (Heap.lt_size e) (I.ok.cab x c hfn hc)))).trans (I.base.keep b o e n hb hx)
    · obtain ⟨sl, e1⟩ := I.base.slot b o e n hb hx
      exact ⟨sl, (hs.2 b (Nat.ne_of_lt (Nat.lt_of_lt_of_le (Heap.lt_size e) (I.ok.cab x c hfn hc)))).trans e1⟩
    · obtain ⟨o', e1⟩ := I.base.there b o e hx
      exact ⟨o', (hs.2 b (Nat.ne_of_lt (Nat.lt_of_lt_of_le (Heap.lt_size e) (I.ok.cab x c hfn hc)))).trans e1⟩
    · by_cases hj : j = i
      · subst hj
        rw [hi] at e1; cases e1
        rw [List.getElem?_set_self hiσ] at e2
        cases e2
        exact ⟨u, r, .inr ⟨.inl hk, c, hc, hc'⟩⟩
      · rw [List.getElem?_set_ne (Ne.symm hj)] at e2
        obtain ⟨u', r', q⟩ := hl j y v' e1 e2 e3
        refine ⟨u', r', ?_⟩
        rcases q with q | ⟨k, c', e, z'⟩
        · exact .inl q
        · refine .inr ⟨k, c', e, z'.sameBut hs ?_⟩
          rintro rfl
          exact hj (nodup_ix hN e1 (I.ok.inj _ _ _ e hc ▸ hi))
    · by_cases hcc : c' = c
      · subst hcc; exact ⟨_, hc'⟩
      · obtain ⟨w2, z2⟩ := I.cell y c' e
        exact ⟨w2, z2.sameBut hs hcc⟩
    · obtain ⟨e, n, ne, nf, d⟩ := I.pin p hp
      refine ⟨(hs.2 p.1 ?_).trans e, n, ne, nf, d⟩
      intro q
      rw [q, hoc] at e
      have q' : oc = p.2 := Option.some.inj e
      exact d w' (by rw [← q']; exact hocd)
theorem store_ok {M : Model} {A : Around} {E : Value → Shared → Prop} {i : Nat} {x : Str} {v : V} {u : Value} {Q : Unit → Shared → Prop} (I : Inv X pins σ H s) (hN : X.N.Nodup) (hi : X.N[i]? = some x) (hx : Loc X.env.scope x) (r : RelV v u)
    (h : ∀ s', Inv X pins (σ.set i (some v)) H s' → Q () s') (hf : X.fn x = true ∨ X.env.scope.names.lookup x = some .local := by first | exact .inl rfl | exact .inr rfl | assumption) : wpAny M A (storeName X.env x u) Q E s :=
  store_ok2 I hN hi hx r (fun s' I' _ => h s' I') hf
theorem Inv.call' {s' : Shared} {ch : List Addr} (I : Inv X pins σ H s) (ho : s'.os = s.os) (u : Un (frs X.stack) ch H H' s.heap s'.heap) (hok : HOk X.prog X.w H' s'.heap) (hg : AllBare s'.gens)
    (hch : ∀ b ∈ ch, (b ∈ X.ex ∨ X.s₀.heap.objs.size ≤ b) ∧ b ≠ X.env.locals ∧ (∀ x c, X.env.cells.lookup x = some c → c ≠ b) ∧ ∀ p ∈ X.pn ++ pins, p.1 ≠ b) : Inv X pins σ H' s' := by
  obtain ⟨h', g', d', t', o'⟩ := s'
  have e : o' = s.os := ho
  subst e
  exact I.call (g' := g') (t' := t') (d' := d') u hok hg hch
end
/-! ### the judgements -/
abbrev XK := Value → Option Addr → Hp → Prop
abbrev St := List (Option V)
abbrev VK := V → Hp → Prop
abbrev TE := St → Hp → VK → Prop
abbrev TT := St → Hp → (Bool → Hp → Prop) → Prop
abbrev TA := St → Hp → (List V → Hp → Prop) → Prop
structure Ends where
  nx : St → Hp → Prop
  rt : VK
  bk : St → Hp → Prop := fun _ _ => False
  ct : St → Hp → Prop := fun _ _ => False
abbrev TS := Ends → St → Hp → Prop
def EP (X : Cx) (pins : List (Addr × Obj)) (σ : St) (Q : VK) (u : Value) (s' : Shared) : Prop := ∃ v H', Inv X pins σ H' s' ∧ RelV v u ∧ Q v H'
def TP (X : Cx) (pins : List (Addr × Obj)) (σ : St) (Q : Bool → Hp → Prop) (b : Bool) (s' : Shared) : Prop := ∃ H', Inv X pins σ H' s' ∧ Q b H'
def AP (X : Cx) (pins : List (Addr × Obj)) (σ : St) (Q : List V → Hp → Prop) (us : List Value) (s' : Shared) : Prop := ∃ vs H', Inv X pins σ H' s' ∧ Vals vs us ∧ Q vs H'
def SP (X : Cx) (pins : List (Addr × Obj)) (D : Ends) (f : Flow) (s' : Shared) : Prop :=
  match f with
  | .next => ∃ σ' H', Inv X pins σ' H' s' ∧ D.nx σ' H'
  | .brk => ∃ σ' H', Inv X pins σ' H' s' ∧ D.bk σ' H'
  | .cont => ∃ σ' H', Inv X pins σ' H' s' ∧ D.ct σ' H'
  | .ret u => ∃ v σ' H', Inv X pins σ' H' s' ∧ RelV v u ∧ D.rt v H'
def PE (X : Cx) (e : Expr) (t : TE) : Prop :=
  ∀ (pins : List (Addr × Obj)) (s : Shared) (σ : St) (H : Hp) (Q : VK), Inv X pins σ H s → t σ H Q → wpAny (model X.prog X.w) X.A (eval e X.env) (EP X pins σ Q) X.xe s
def PT (X : Cx) (e : Expr) (t : TT) : Prop :=
  ∀ (pins : List (Addr × Obj)) (s : Shared) (σ : St) (H : Hp) (Q : Bool → Hp → Prop), Inv X pins σ H s → t σ H Q → wpAny (model X.prog X.w) X.A (isTrue e X.env (eval e X.env)) (TP X pins σ Q) X.xe s
def PW (X : Cx) (e : Expr) (t : TT) : Prop :=
  ∀ (whole : Sem Value) (pins : List (Addr × Obj)) (s : Shared) (σ : St) (H : Hp) (Q : Bool → Hp → Prop), Inv X pins σ H s → t σ H Q → wpAny (model X.prog X.w) X.A (isTrue e X.env whole) (TP X pins σ Q) X.xe s
theorem PW.pt {X : Cx} {e : Expr} {t : TT} (h : PW X e t) : PT X e t := h _
def PA (X : Cx) (es : List Expr) (t : TA) : Prop :=
  ∀ (pos : Pos) (pins : List (Addr × Obj)) (s : Shared) (σ : St) (H : Hp) (Q : List V → Hp → Prop), Inv X pins σ H s → t σ H Q → wpAny (model X.prog X.w) X.A (spliced (backTo pos (starEach es X.env))) (AP X pins σ Q) X.xe s
def PS (X : Cx) (st : Stmt) (t : TS) : Prop :=
  ∀ (pins : List (Addr × Obj)) (s : Shared) (σ : St) (H : Hp) (D : Ends), Inv X pins σ H s → t D σ H → wpAny (model X.prog X.w) X.A (exec st X.env) (SP X pins D) X.xe s
def PSs (X : Cx) (st : List Stmt) (t : TS) : Prop :=
  ∀ (pins : List (Addr × Obj)) (s : Shared) (σ : St) (H : Hp) (D : Ends), Inv X pins σ H s → t D σ H → wpAny (model X.prog X.w) X.A (execs st X.env) (SP X pins D) X.xe s
theorem thn {α : Type} {t : Sem α} {Q Q' : α → Shared → Prop} {M : Model} {A : Around} {E : Value → Shared → Prop} {s : Shared} (h : wpAny M A t Q E s) (hQ : ∀ a s, Q a s → Q' a s) : wpAny M A t Q' E s := wpAny_mono h hQ fun _ _ x => x
end L2
namespace L2
open PySem PySem.Spec PyProof.Rows
section
variable {X : Cx}
theorem bin {a b : Expr} {ta tb : TE} (ha : PE X a ta) (hb : PE X b tb) {pins : List (Addr × Obj)} {s : Shared} {σ : St} {H : Hp} {R : V → V → Hp → Prop} (I : Inv X pins σ H s) (h : ta σ H fun x H1 => tb σ H1 fun y H2 => R x y H2)
    {α : Type} {Q : α → Shared → Prop} {f : Value → Value → Sem α}
    (hf : ∀ v u s2 x y H2, Inv X pins σ H2 s2 → RelV x v → RelV y u → R x y H2 → wpAny (model X.prog X.w) X.A (f v u) Q X.xe s2) :
    wpAny (model X.prog X.w) X.A (eval a X.env) (fun v s₁ => wpAny (model X.prog X.w) X.A (eval b X.env) (fun u s₂ => wpAny (model X.prog X.w) X.A (f v u) Q X.xe s₂) X.xe s₁) X.xe s := by
  refine thn (ha pins s σ H _ I h) fun v s1 ⟨x, H1, I1, r1, q1⟩ => ?_
  refine thn (hb pins s1 σ H1 _ I1 q1) fun u s2 ⟨y, H2, I2, r2, q2⟩ => ?_
  exact hf v u s2 x y H2 I2 r1 r2 q2
/-! ### names and constants -/
def tVar (i : Nat) : TE := fun σ H Q => ∃ v, σ[i]? = some (some v) ∧ Q v H
def tC (v : V) : TE := fun _ H Q => Q v H
theorem pe_var {i : Nat} {x : Str} {pos : Pos} (hN : X.N[i]? = some x) (hv : Vis X.env.scope x) (hd : (x == ("__debug__" : Str)) = false := by decide) (hcd : (x == ("__classdict__" : Str)) = false := by decide) : PE X (.Name x pos) (tVar i) := by
  intro pins s σ H Q I h
  obtain ⟨v, e, h⟩ := h
  obtain ⟨m, hn, hl⟩ := I.loc
  obtain ⟨u, r, l⟩ := hl i x v hN e hv
  have fin : EP X pins σ Q u s := ⟨v, H, I, r, h⟩
  rcases l with ⟨hk, hm⟩ | ⟨hk, c, hc, hcell⟩
  · exact wpAny_Name (wpAny_loadName_local I.ok.kind hk hn hm fin) hd
  · rcases hk with hk | hk
    · exact wpAny_Name (wpAny_loadName_cell I.ok.kind hk hc hcell fin) hd
    · exact wpAny_Name (wpAny_loadName_free I.ok.kind hk hc hcell fin hcd) hd
theorem pe_int {i j pos} : PE X (.Constant (.int i) j pos) (tC (.int i)) := fun _ _ _ H _ I h => wpAny_Constant_int ⟨.int i, H, I.tok _, ⟨_, rfl⟩, h⟩
theorem pe_bl {b j pos} : PE X (.Constant (.bool b) j pos) (tC (.bl b)) := fun _ _ _ H _ I h => Constant_bool ⟨.bl b, H, I, rfl, h⟩
theorem pe_non {j pos} : PE X (.Constant .none j pos) (tC .non) := fun _ _ _ H _ I h => Constant_none ⟨.non, H, I, rfl, h⟩
theorem pe_str {x j pos} : PE X (.Constant (.str x) j pos) (tC (.str x)) := fun _ _ _ H _ I h => Calls.Constant_str ⟨.str x, H, I.tok _, ⟨_, rfl⟩, h⟩
def Gl (X : Cx) (x : Str) : Prop := X.env.kindOf x = some .globalImplicit
theorem ld_glob {E : Value → Shared → Prop} {pins : List (Addr × Obj)} {s : Shared} {σ : St} {H : Hp} {x : Str} {u : Value} {pos : Pos} {Q : Value → Shared → Prop} (I : Inv X pins σ H s) (hg : Gl X x) (hm : X.mg x = some u) (h : Q u s)
    (hd : (x == ("__debug__" : Str)) = false := by decide) : wpAny (model X.prog X.w) X.A (eval (.Name x pos) X.env) Q E s :=
  Calls.Name_function_global I.ok.kind hg (Calls.loadGlobal_global (by rw [I.ok.glob]; exact I.mod.glob.keeps I.bk) hm h) hd
theorem ld_blt {E : Value → Shared → Prop} {pins : List (Addr × Obj)} {s : Shared} {σ : St} {H : Hp} {x : Str} {u : Value} {pos : Pos} {Q : Value → Shared → Prop} (I : Inv X pins σ H s) (hg : Gl X x) (hm : X.mg x = none) (hv : bootBuiltins x = some u) (h : Q u s)
    (hn : x ≠ "__name__" := by decide) (hd : (x == ("__debug__" : Str)) = false := by decide) : wpAny (model X.prog X.w) X.A (eval (.Name x pos) X.env) Q E s := by
  obtain ⟨mb, h1, h2⟩ := I.mod.blt
  exact Calls.Name_function_global I.ok.kind hg (Calls.loadGlobal_builtin (by rw [I.ok.glob]; exact I.mod.glob.keeps I.bk) hm (by rw [I.ok.blt]; exact h1.keeps I.bk) ((h2 x hn).trans hv) h) hd
theorem pe_glob {x : Str} {v : V} {u : Value} {pos : Pos} (hg : Gl X x) (hm : X.mg x = some u) (r : RelV v u) (hd : (x == ("__debug__" : Str)) = false := by decide) : PE X (.Name x pos) (tC v) :=
  fun _ _ _ H _ I h => ld_glob I hg hm ⟨v, H, I, r, h⟩ hd
theorem pe_bltn {x : Str} {v : V} {u : Value} {pos : Pos} (hg : Gl X x) (hm : X.mg x = none) (hv : bootBuiltins x = some u) (r : RelV v u) (hn : x ≠ "__name__" := by decide) (hd : (x == ("__debug__" : Str)) = false := by decide) : PE X (.Name x pos) (tC v) :=
  fun _ _ _ H _ I h => ld_blt I hg hm hv ⟨v, H, I, r, h⟩ hn hd
/-! ### arithmetic -/
def t2I (ta tb : TE) (k : Int → Int → Hp → Prop) : St → Hp → Prop := fun σ H => ta σ H fun x H1 => tb σ H1 fun y H2 => ∃ i j, x = .int i ∧ y = .int j ∧ k i j H2
def tAdd (ta tb : TE) : TE := fun σ H Q => t2I ta tb (fun i j H2 => Q (.int (i + j)) H2) σ H
def tSub (ta tb : TE) : TE := fun σ H Q => t2I ta tb (fun i j H2 => Q (.int (i - j)) H2) σ H
def tMul (ta tb : TE) : TE := fun σ H Q => t2I ta tb (fun i j H2 => (-(2 ^ 64) < i ∧ i < 2 ^ 64) ∧ Q (.int (i * j)) H2) σ H
variable {a b : Expr} {ta tb : TE} {pos : Pos}
theorem pe_add (ha : PE X a ta) (hb : PE X b tb) : PE X (.BinOp a .Add b pos) (tAdd ta tb) := by
  intro pins s σ H Q I h
  refine wpAny_BinOp (bin ha hb I h fun v u s2 x y H2 I2 rx ry q => ?_)
  obtain ⟨i, j, rfl, rfl, q⟩ := q
  obtain ⟨t, rfl⟩ := rx
  obtain ⟨t', rfl⟩ := ry
  exact add_int ⟨.int _, H2, I2.tok _, ⟨_, rfl⟩, q⟩
theorem pe_sub (ha : PE X a ta) (hb : PE X b tb) : PE X (.BinOp a .Sub b pos) (tSub ta tb) := by
  intro pins s σ H Q I h
  refine wpAny_BinOp (bin ha hb I h fun v u s2 x y H2 I2 rx ry q => ?_)
  obtain ⟨i, j, rfl, rfl, q⟩ := q
  obtain ⟨t, rfl⟩ := rx
  obtain ⟨t', rfl⟩ := ry
  exact sub_int ⟨.int _, H2, I2.tok _, ⟨_, rfl⟩, q⟩
theorem pe_mul (ha : PE X a ta) (hb : PE X b tb) : PE X (.BinOp a .Mult b pos) (tMul ta tb) := by
  intro pins s σ H Q I h
  refine wpAny_BinOp (bin ha hb I h fun v u s2 x y H2 I2 rx ry q => ?_)
  obtain ⟨i, j, rfl, rfl, ⟨q1, q2⟩, q⟩ := q
  obtain ⟨t, rfl⟩ := rx
  obtain ⟨t', rfl⟩ := ry
  exact mul_int ⟨.int _, H2, I2.tok _, ⟨_, rfl⟩, q⟩ (.of_left (intBits_le_64 q1 q2))
/-! ### comparisons -/
def PC (X : Cx) (op : CmpOp) (a b : Expr) (t : TE) : Prop :=
  ∀ (pins : List (Addr × Obj)) (s : Shared) (σ : St) (H : Hp) (Q : VK), Inv X pins σ H s → t σ H Q →
    wpAny (model X.prog X.w) X.A (eval a X.env) (fun v s₁ => wpAny (model X.prog X.w) X.A (eval b X.env) (fun u s₂ => wpAny (model X.prog X.w) X.A (compareOp op v u) (EP X pins σ Q) X.xe s₂) X.xe s₁) X.xe s
theorem nobehind (b : Expr) {op : CmpOp} (h : op ≠ .In) (h2 : op ≠ .NotIn) : behindInMarks op b = false := by
  have e1 : (op == CmpOp.In) = false := by cases op <;> first | rfl | exact absurd rfl h
  have e2 : (op == CmpOp.NotIn) = false := by cases op <;> first | rfl | exact absurd rfl h2
  cases b <;> simp [behindInMarks, e1, e2]
def tCmp (p : Int → Int → Bool) (ta tb : TE) : TE := fun σ H Q => t2I ta tb (fun i j H2 => Q (.bl (p i j)) H2) σ H
abbrev tLt : TE → TE → TE := tCmp fun i j => decide (i < j)
abbrev tLe : TE → TE → TE := tCmp fun i j => decide (i ≤ j)
abbrev tGt : TE → TE → TE := tCmp fun i j => decide (j < i)
abbrev tGe : TE → TE → TE := tCmp fun i j => decide (j ≤ i)
abbrev tEqI : TE → TE → TE := tCmp fun i j => decide (i = j)
abbrev tNeI : TE → TE → TE := tCmp fun i j => !decide (i = j)
theorem pc_int {op : CmpOp} {p : Int → Int → Bool} (ha : PE X a ta) (hb : PE X b tb)
    (rule : ∀ (i j : Int) (t u : Tok) (Q : Value → Shared → Prop) (s : Shared), Q (.bool (p i j)) s → wpAny (model X.prog X.w) X.A (compareOp op (.int i t) (.int j u)) Q X.xe s) : PC X op a b (tCmp p ta tb) := by
  intro pins s σ H Q I h
  refine bin ha hb I h fun v u s2 x y H2 I2 rx ry q => ?_
  obtain ⟨i, j, rfl, rfl, q⟩ := q
  obtain ⟨t, rfl⟩ := rx
  obtain ⟨t', rfl⟩ := ry
  exact rule i j t t' _ s2 ⟨.bl _, H2, I2, rfl, q⟩
theorem pc_lt (ha : PE X a ta) (hb : PE X b tb) : PC X .Lt a b (tLt ta tb) := pc_int ha hb fun _ _ _ _ _ _ h => lt_int h
theorem pc_le (ha : PE X a ta) (hb : PE X b tb) : PC X .LtE a b (tLe ta tb) := pc_int ha hb fun _ _ _ _ _ _ h => le_int h
theorem pc_gt (ha : PE X a ta) (hb : PE X b tb) : PC X .Gt a b (tGt ta tb) := pc_int ha hb fun _ _ _ _ _ _ h => gt_int h
theorem pc_ge (ha : PE X a ta) (hb : PE X b tb) : PC X .GtE a b (tGe ta tb) := pc_int ha hb fun _ _ _ _ _ _ h => ge_int h
theorem pc_eqI (ha : PE X a ta) (hb : PE X b tb) : PC X .Eq a b (tEqI ta tb) := pc_int ha hb fun _ _ _ _ _ _ h => eq_int (by rw [Bool.beq_eq_decide_eq]; exact h)
theorem pc_neI (ha : PE X a ta) (hb : PE X b tb) : PC X .NotEq a b (tNeI ta tb) := pc_int ha hb fun _ _ _ _ _ _ h => ne_int (by rw [bne, Bool.beq_eq_decide_eq]; exact h)
def tIsN (ta : TE) : TE := fun σ H Q => ta σ H fun x H1 => Q (.bl (decide (x = .non))) H1
def tNotN (ta : TE) : TE := fun σ H Q => ta σ H fun x H1 => Q (.bl (!decide (x = .non))) H1
theorem RelV.none_iff {x : V} {v : Value} (r : RelV x v) : (v == Value.none) = decide (x = .non) := by
  cases x with
  | non => cases r; rfl
  | bl _ => cases r; rfl
  | int _ => obtain ⟨t, rfl⟩ := r; rfl
  | str _ => obtain ⟨t, rfl⟩ := r; rfl
  | byt _ => obtain ⟨t, rfl⟩ := r; rfl
  | flt _ => obtain ⟨t, rfl⟩ := r; rfl
  | ref _ => cases r; rfl
  | ty _ => cases r; rfl
theorem pc_isN {j pos'} (ha : PE X a ta) : PC X .Is a (.Constant .none j pos') (tIsN ta) := by
  intro pins s σ H Q I h
  refine thn (ha pins s σ H _ I h) fun v s1 ⟨x, H1, I1, r1, q1⟩ => ?_
  exact Constant_none (is_none_gen ⟨.bl _, H1, I1, by rw [r1.none_iff]; rfl, q1⟩)
theorem pc_notN {j pos'} (ha : PE X a ta) : PC X .IsNot a (.Constant .none j pos') (tNotN ta) := by
  intro pins s σ H Q I h
  refine thn (ha pins s σ H _ I h) fun v s1 ⟨x, H1, I1, r1, q1⟩ => ?_
  exact Constant_none (isnot_none_gen ⟨.bl _, H1, I1, by rw [r1.none_iff]; rfl, q1⟩)
def tB (t : TE) : TT := fun σ H Q => t σ H fun x H1 => ∃ c, x = .bl c ∧ Q c H1
theorem pe_cmp {op : CmpOp} {t : TE} (h : PC X op a b t) (h1 : behindInMarks op b = false := by first | exact nobehind _ (by decide) (by decide) | rfl) : PE X (.Compare a [op] [b] pos) t := fun pins s σ H Q I hw => wpAny_Compare1 (h pins s σ H Q I hw) h1
theorem pt_cmp {op : CmpOp} {t : TE} (h : PC X op a b t) (h1 : behindInMarks op b = false := by first | exact nobehind _ (by decide) (by decide) | rfl) : PT X (.Compare a [op] [b] pos) (tB t) := by
  intro pins s σ H Q I hw
  refine wpAny_isTrue_Compare1 (thn (h pins s σ H _ I hw) fun v s1 h1 => thn h1 fun u s2 h2 => thn h2 fun c s3 ⟨x, H1, I1, r1, q1⟩ => ?_) h1
  obtain ⟨d, rfl, q⟩ := q1
  cases r1
  exact wpAny_truthy_bool ⟨H1, I1, q⟩
theorem pt_val {e : Expr} {t : TE} (h : PE X e t) (he : ∀ whole, isTrue e X.env whole = (do let v ← whole; standAt e.pos; holding [v] (truthy v)) := by intro _; rfl) : PT X e (tB t) := by
  intro pins s σ H Q I hw
  refine isTrue_plain (thn (h pins s σ H _ I hw) fun v s1 ⟨x, H1, I1, r1, q1⟩ => ?_) (he _)
  obtain ⟨d, rfl, q⟩ := q1
  cases r1
  exact wpAny_truthy_bool ⟨H1, I1, q⟩
/-! ### and, or, not -/
variable {tA tB' : TT} {rest : List Expr}
def tAnd (t u : TT) : TT := fun σ H Q => t σ H fun c H1 => if c = true then u σ H1 Q else Q false H1
def tOr (t u : TT) : TT := fun σ H Q => t σ H fun c H1 => if c = true then Q true H1 else u σ H1 Q
def tNot (t : TT) : TT := fun σ H Q => t σ H fun c H1 => Q (!c) H1
theorem pw_and1 (ha : PT X a tA) : PW X (.BoolOp .And [a] pos) tA := by
  intro wh pins s σ H Q I h
  refine isTrue_and (thn (ha pins s σ H Q I h) fun c s1 e => ?_)
  cases c with
  | true => exact isTrue_and_nil e
  | false => exact e
theorem pw_or1 (ha : PT X a tA) : PW X (.BoolOp .Or [a] pos) tA := by
  intro wh pins s σ H Q I h
  refine isTrue_or (thn (ha pins s σ H Q I h) fun c s1 e => ?_)
  cases c with
  | false => exact isTrue_or_nil e
  | true => exact e
theorem pw_and (ha : PT X a tA) (hb : PW X (.BoolOp .And (b :: rest) pos) tB') : PW X (.BoolOp .And (a :: b :: rest) pos) (tAnd tA tB') := by
  intro wh pins s σ H Q I h
  refine isTrue_and (thn (ha pins s σ H _ I h) fun c s1 ⟨H1, I1, q1⟩ => ?_)
  cases c with
  | true => exact hb wh pins s1 σ H1 Q I1 q1
  | false => exact ⟨H1, I1, q1⟩
theorem pw_or (ha : PT X a tA) (hb : PW X (.BoolOp .Or (b :: rest) pos) tB') : PW X (.BoolOp .Or (a :: b :: rest) pos) (tOr tA tB') := by
  intro wh pins s σ H Q I h
  refine isTrue_or (thn (ha pins s σ H _ I h) fun c s1 ⟨H1, I1, q1⟩ => ?_)
  cases c with
  | true => exact ⟨H1, I1, q1⟩
  | false => exact hb wh pins s1 σ H1 Q I1 q1
theorem pt_not (ha : PT X a tA) : PT X (.UnaryOp .Not a pos) (tNot tA) := by
  intro pins s σ H Q I h
  exact isTrue_not (ha pins s σ H (fun c H1 => Q (!c) H1) I h)
def tAndV (ta tb : TE) : TE := fun σ H Q => ta σ H fun x H1 => ∃ c, x = .bl c ∧ if c = true then tb σ H1 Q else Q (.bl false) H1
def tOrV (ta tb : TE) : TE := fun σ H Q => ta σ H fun x H1 => ∃ c, x = .bl c ∧ if c = true then Q (.bl true) H1 else tb σ H1 Q
def tNotV (ta : TE) : TE := fun σ H Q => ta σ H fun x H1 => ∃ c, x = .bl c ∧ Q (.bl (!c)) H1
theorem pe_one {op} {t : TE} (h : PE X a t) : PE X (.BoolOp op [a] pos) t := fun pins s σ H Q I hw => BoolOp_one (h pins s σ H Q I hw)
theorem pe_and (ha : PE X a ta) (hb : PE X (.BoolOp .And (b :: rest) pos) tb) : PE X (.BoolOp .And (a :: b :: rest) pos) (tAndV ta tb) := by
  intro pins s σ H Q I h
  refine BoolOp_and (thn (ha pins s σ H _ I h) fun v s1 ⟨x, H1, I1, r1, q1⟩ => ?_)
  obtain ⟨c, rfl, q1⟩ := q1
  cases r1
  refine wpAny_truthy_bool ?_
  cases c with
  | true => exact hb pins s1 σ H1 Q I1 q1
  | false => exact ⟨.bl false, H1, I1, rfl, q1⟩
theorem pe_or (ha : PE X a ta) (hb : PE X (.BoolOp .Or (b :: rest) pos) tb) : PE X (.BoolOp .Or (a :: b :: rest) pos) (tOrV ta tb) := by
  intro pins s σ H Q I h
  refine BoolOp_or (thn (ha pins s σ H _ I h) fun v s1 ⟨x, H1, I1, r1, q1⟩ => ?_)
  obtain ⟨c, rfl, q1⟩ := q1
  cases r1
  refine wpAny_truthy_bool ?_
  cases c with
  | false => exact hb pins s1 σ H1 Q I1 q1
  | true => exact ⟨.bl true, H1, I1, rfl, q1⟩
theorem pe_not (ha : PE X a ta) : PE X (.UnaryOp .Not a pos) (tNotV ta) := by
  intro pins s σ H Q I h
  refine UnaryOp_ (thn (ha pins s σ H _ I h) fun v s1 ⟨x, H1, I1, r1, q1⟩ => ?_)
  obtain ⟨c, rfl, q1⟩ := q1
  cases r1
  exact not_of (wpAny_truthy_bool ⟨.bl (!c), H1, I1, rfl, q1⟩)
def tIf (t : TT) (ta tb : TE) : TE := fun σ H Q => t σ H fun c H1 => if c = true then ta σ H1 Q else tb σ H1 Q
theorem pe_ifExp {c : Expr} (hc : PT X c tA) (ha : PE X a ta) (hb : PE X b tb) : PE X (.IfExp c a b pos) (tIf tA ta tb) := by
  intro pins s σ H Q I h
  refine wpAny_IfExp (thn (hc pins s σ H _ I h) fun d s1 ⟨H1, I1, q1⟩ => ?_)
  cases d with
  | true => exact ha pins s1 σ H1 Q I1 q1
  | false => exact hb pins s1 σ H1 Q I1 q1
end
end L2
namespace L2
open PySem PySem.Spec PyProof.Rows
/-! ### a list, a tuple that is read: tracked, frozen, or an object of the module -/
def SqL (K : PySem.W.Frag) (H : Hp) (a : Addr) (xs : List V) : Prop :=
  Rd H a (.lst xs) ∨
    ∃ (o : Obj) (its : Array Value) (n : Nat), K.lookup a = some o ∧ o.cls = .type "list" ∧ o.dict = none ∧ o.data = .seq its n ∧ its.size ≤ sizeLine ∧ Vals xs its.toList
def SqT (K : PySem.W.Frag) (H : Hp) (a : Addr) (xs : List V) : Prop :=
  Rd H a (.tup xs) ∨
    ∃ (o : Obj) (its : Array Value) (n : Nat), K.lookup a = some o ∧ o.cls = .type "tuple" ∧ o.data = .seq its n ∧ its.size ≤ sizeLine ∧ Vals xs its.toList
def absV : Value → Option V
  | .none => some .non
  | .bool b => some (.bl b)
  | .int i _ => some (.int i)
  | .str x _ => some (.str x)
  | .bytes b _ => some (.byt b)
  | .float b _ => some (.flt b)
  | .ref a => some (.ref a)
  | .type n => some (.ty n)
  | _ => none
theorem RelV.abs {x : V} {u : Value} (r : RelV x u) : absV u = some x := by
  cases x with
  | non => cases r; rfl
  | bl _ => cases r; rfl
  | int _ => obtain ⟨t, rfl⟩ := r; rfl
  | str _ => obtain ⟨t, rfl⟩ := r; rfl
  | byt _ => obtain ⟨t, rfl⟩ := r; rfl
  | flt _ => obtain ⟨t, rfl⟩ := r; rfl
  | ref _ => cases r; rfl
  | ty _ => cases r; rfl
theorem RelV.inj {x y : V} {u : Value} (r : RelV x u) (q : RelV y u) : x = y := Option.some.inj (r.abs.symm.trans q.abs)
theorem Vals.inj : ∀ {xs ys : List V} {us : List Value}, Vals xs us → Vals ys us → xs = ys
  | _, _, _, .nil, .nil => rfl
  | _, _, _, .cons r t, .cons r' t' => by rw [r.inj r', Vals.inj t t']
section
variable {X : Cx} {pins : List (Addr × Obj)} {σ : St} {H : Hp} {s : Shared} {a : Addr} {xs ys : List V}
theorem SqL.of {K : PySem.W.Frag} (h : H a = some (.lst xs)) : SqL K H a xs := .inl (.inl h)
theorem SqT.of {K : PySem.W.Frag} (h : H a = some (.tup xs)) : SqT K H a xs := .inl (.inl h)
theorem Inv.list (I : Inv X pins σ H s) (h : SqL X.K H a xs) : ∃ its : List Value, Vals xs its ∧ PlainL s.heap a its.toArray ∧ xs.length ≤ sizeLine := by
  rcases h with h | ⟨o, its, n, hk, hc, hd, hs, hz, r⟩
  · obtain ⟨z, its, n, r, e⟩ := h.ok I.hok
    exact ⟨its, r, ⟨_, n, e, rfl, rfl, rfl⟩, z⟩
  · refine ⟨its.toList, r, ⟨o, n, I.kIn a o hk, hc, hd, by simpa using hs⟩, ?_⟩
    have e := r.length
    simp only [Array.length_toList] at e
    omega
theorem Inv.tuple (I : Inv X pins σ H s) (h : SqT X.K H a xs) : ∃ its : List Value, Vals xs its ∧ IsTup s.heap a its.toArray ∧ xs.length ≤ sizeLine := by
  rcases h with h | ⟨o, its, n, hk, hc, hs, hz, r⟩
  · obtain ⟨z, its, r, p⟩ := h.ok I.hok
    exact ⟨its, r, p, z⟩
  · refine ⟨its.toList, r, ⟨o, I.kIn a o hk, hc, n, by simpa using hs⟩, ?_⟩
    have e := r.length
    simp only [Array.length_toList] at e
    omega
theorem Inv.list_inj (I : Inv X pins σ H s) (h : SqL X.K H a xs) (h' : SqL X.K H a ys) : xs = ys := by
  obtain ⟨its, r, ⟨o, n, e, _, _, d⟩, _⟩ := I.list h
  obtain ⟨its', r', ⟨o', n', e', _, _, d'⟩, _⟩ := I.list h'
  rw [e] at e'; cases e'
  rw [d] at d'
  injection d' with d1 _
  have : its = its' := by simpa using congrArg Array.toList d1
  subst this
  exact r.inj r'
theorem Inv.tuple_inj (I : Inv X pins σ H s) (h : SqT X.K H a xs) (h' : SqT X.K H a ys) : xs = ys := by
  obtain ⟨its, r, ⟨o, e, _, n, d⟩, _⟩ := I.tuple h
  obtain ⟨its', r', ⟨o', e', _, n', d'⟩, _⟩ := I.tuple h'
  rw [e] at e'; cases e'
  rw [d] at d'
  injection d' with d1 _
  have : its = its' := by simpa using congrArg Array.toList d1
  subst this
  exact r.inj r'
end
/-! ### another wish about exceptions -/
abbrev Cx.wish (X : Cx) (E : Value → Shared → Prop) : Cx := { X with xe := E }
abbrev Cx.nox (X : Cx) : Cx := X.wish fun _ _ => False
theorem Cx.Ok.wish {X : Cx} (ok : X.Ok) (E : Value → Shared → Prop) : (X.wish E).Ok :=
  ⟨ok.mod, ok.kind, ok.glob, ok.blt, ok.above, ok.inj, ok.has, ok.cab, ok.hd, ok.frames, ok.stk, ok.exf, ok.bs, ok.bsz, ok.noex, ok.exfs, ok.funs, ok.frf⟩
theorem Cx.Ok.unwish {X : Cx} {E : Value → Shared → Prop} (ok : (X.wish E).Ok) : X.Ok :=
  ⟨ok.mod, ok.kind, ok.glob, ok.blt, ok.above, ok.inj, ok.has, ok.cab, ok.hd, ok.frames, ok.stk, ok.exf, ok.bs, ok.bsz, ok.noex, ok.exfs, ok.funs, ok.frf⟩
section
variable {X : Cx} {pins : List (Addr × Obj)} {σ : St} {H : Hp} {s : Shared} {E : Value → Shared → Prop}
theorem Inv.wish (I : Inv X pins σ H s) (E : Value → Shared → Prop) : Inv (X.wish E) pins σ H s := ⟨I.ok.wish E, I.os, I.bare, I.base, I.loc, I.cell, I.free, I.freeC, I.pin, I.hok, I.len⟩
theorem Inv.unwish (I : Inv (X.wish E) pins σ H s) : Inv X pins σ H s := ⟨I.ok.unwish, I.os, I.bare, I.base, I.loc, I.cell, I.free, I.freeC, I.pin, I.hok, I.len⟩
theorem SP.unwish {D : Ends} {f : Flow} {s' : Shared} (h : SP (X.wish E) pins D f s') : SP X pins D f s' := by
  cases f with
  | next => obtain ⟨σ', H', I, q⟩ := h; exact ⟨σ', H', I.unwish, q⟩
  | brk => obtain ⟨σ', H', I, q⟩ := h; exact ⟨σ', H', I.unwish, q⟩
  | cont => obtain ⟨σ', H', I, q⟩ := h; exact ⟨σ', H', I.unwish, q⟩
  | ret u => obtain ⟨v, σ', H', I, r, q⟩ := h; exact ⟨v, σ', H', I.unwish, r, q⟩
theorem PE.nox {e : Expr} {t : TE} (h : PE X.nox e t) : PE X e t := fun pins s σ H Q I hw =>
  wpAny_mono (h pins s σ H Q (I.wish _) hw) (fun _ _ ⟨v, H', I', r, q⟩ => ⟨v, H', I'.unwish, r, q⟩) fun _ _ z => False.elim z
theorem PT.nox {e : Expr} {t : TT} (h : PT X.nox e t) : PT X e t := fun pins s σ H Q I hw =>
  wpAny_mono (h pins s σ H Q (I.wish _) hw) (fun _ _ ⟨H', I', q⟩ => ⟨H', I'.unwish, q⟩) fun _ _ z => False.elim z
theorem PSs.nox {st : List Stmt} {t : TS} (h : PSs X.nox st t) : PSs X st t := fun pins s σ H D I hw =>
  wpAny_mono (h pins s σ H D (I.wish _) hw) (fun _ _ q => q.unwish) fun _ _ z => False.elim z
end
/-! ### blocks and small statements -/
section
variable {X : Cx} {st : Stmt} {rest : List Stmt} {t u : TS} {e : Expr} {te : TE} {pos : Pos}
def tNext : TS := fun D σ H => D.nx σ H
def tSeq (t u : TS) : TS := fun D σ H => t { D with nx := u D } σ H
theorem pss_nil : PSs X [] tNext := fun _ _ σ H _ I h => wpAny_execs_nil ⟨σ, H, I, h⟩
theorem pss_cons (h1 : PS X st t) (h2 : PSs X rest u) : PSs X (st :: rest) (tSeq t u) := by
  intro pins s σ H D I h
  refine wpAny_execs_cons (thn (h1 pins s σ H { D with nx := u D } I h) fun f s1 q => ?_)
  cases f with
  | next =>
    obtain ⟨σ', H', I', q⟩ := q
    exact h2 pins s1 σ' H' D I' q
  | ret v => exact q
  | brk => exact q
  | cont => exact q
theorem pss_one (h1 : PS X st t) : PSs X [st] t := by
  intro pins s σ H D I h
  refine wpAny_execs_cons (thn (h1 pins s σ H D I h) fun f s1 q => ?_)
  cases f with
  | next => exact wpAny_execs_nil q
  | ret v => exact q
  | brk => exact q
  | cont => exact q
def tBreak : TS := fun D σ H => D.bk σ H
def tCont : TS := fun D σ H => D.ct σ H
theorem ps_pass : PS X (.Pass pos) tNext := fun _ _ σ H _ I h => wpAny_Pass ⟨σ, H, I, h⟩
theorem ps_break : PS X (.Break pos) tBreak := fun _ _ σ H _ I h => wpAny_Break ⟨σ, H, I, h⟩
theorem ps_continue : PS X (.Continue pos) tCont := fun _ _ σ H _ I h => wpAny_Continue ⟨σ, H, I, h⟩
theorem Inv.quiet {pins : List (Addr × Obj)} {σ : St} {H : Hp} {s : Shared} (I : Inv X pins σ H s) : interactive X.env = false := by simp [interactive, I.ok.kind]
theorem ps_doc {x j pos pos'} : PS X (.Expr (.Constant (.str x) j pos) pos') tNext := fun _ s σ H _ I h => wpAny_Expr (Calls.Constant_str (show SP X _ _ .next { s with toks := s.toks + 1 } from ⟨σ, H, I.tok _, h⟩)) I.quiet
def tDrop (te : TE) : TS := fun D σ H => te σ H fun _ H1 => D.nx σ H1
theorem ps_expr (he : PE X e te) (hs : swapsWith e none pos.line X.env = pure false := by rfl) : PS X (.Expr e pos) (tDrop te) := by
  intro pins s σ H D I h
  exact wpAny_Expr_any (thn (he pins s σ H _ I h) fun v s1 ⟨x, H1, I1, r1, q1⟩ => ⟨σ, H1, I1, q1⟩) I.quiet hs
def tRet (te : TE) : TS := fun D σ H => te σ H D.rt
theorem ps_ret (he : PE X e te) : PS X (.Return (some e) pos) (tRet te) := by
  intro pins s σ H D I h
  exact wpAny_Return_some (thn (he pins s σ H _ I h) fun v s1 ⟨x, H1, I1, r1, q1⟩ => ⟨x, σ, H1, I1, r1, q1⟩)
def tRetN : TS := fun D _ H => D.rt .non H
theorem ps_retN : PS X (.Return none pos) tRetN := fun _ _ σ H _ I h => wpAny_Return_none ⟨.non, σ, H, I, rfl, h⟩
def tIfS (c : TT) (t u : TS) : TS := fun D σ H => c σ H fun b H1 => if b = true then t D σ H1 else u D σ H1
theorem ps_if {c : Expr} {a b : List Stmt} {tc : TT} (hc : PT X c tc) (ha : PSs X a t) (hb : PSs X b u) : PS X (.If c a b pos) (tIfS tc t u) := by
  intro pins s σ H D I h
  refine wpAny_If (thn (hc pins s σ H _ I h) fun d s1 ⟨H1, I1, q1⟩ => ?_)
  cases d with
  | true => exact ha pins s1 σ H1 D I1 q1
  | false => exact hb pins s1 σ H1 D I1 q1
def tNever : TS := fun _ _ _ => False
theorem ps_never : PS X st tNever := fun _ _ _ _ _ _ h => h.elim
theorem pss_never {sts : List Stmt} : PSs X sts tNever := fun _ _ _ _ _ _ h => h.elim
end
/-! ### targets -/
abbrev TG := V → St → Hp → (St → Hp → Prop) → Prop
abbrev TGs := List V → St → Hp → (St → Hp → Prop) → Prop
def PG (X : Cx) (target : Expr) (t : TG) : Prop :=
  ∀ (pins : List (Addr × Obj)) (s : Shared) (σ : St) (H : Hp) (v : V) (u : Value) (Q : St → Hp → Prop), Inv X pins σ H s → RelV v u → t v σ H Q →
    wpAny (model X.prog X.w) X.A (assign target X.env u) (fun _ s' => ∃ σ' H', Inv X pins σ' H' s' ∧ Q σ' H') X.xe s
def PGs (X : Cx) (ts : List Expr) (t : TGs) : Prop :=
  ∀ (pins : List (Addr × Obj)) (s : Shared) (σ : St) (H : Hp) (vs : List V) (us : List Value) (Q : St → Hp → Prop), Inv X pins σ H s → Vals vs us → t vs σ H Q →
    wpAny (model X.prog X.w) X.A (assignInOrder ((assignEach ts X.env).map (·.2)) us) (fun _ s' => ∃ σ' H', Inv X pins σ' H' s' ∧ Q σ' H') X.xe s
abbrev TSet := V → V → V → Hp → (Hp → Prop) → Prop
def PSet (X : Cx) (t : TSet) : Prop :=
  ∀ (pins : List (Addr × Obj)) (s : Shared) (σ : St) (H : Hp) (o i v : V) (ov iv u : Value) (Q : Hp → Prop), Inv X pins σ H s → RelV o ov → RelV i iv → RelV v u → t o i v H Q →
    wpAny (model X.prog X.w) X.A (setItem ov iv u) (fun _ s' => ∃ H', Inv X pins σ H' s' ∧ Q H') X.xe s
abbrev TIp := V → V → Hp → VK → Prop
def PIp (X : Cx) (op : Operator) (t : TIp) : Prop :=
  ∀ (pins : List (Addr × Obj)) (s : Shared) (σ : St) (H : Hp) (x y : V) (v u : Value) (Q : VK), Inv X pins σ H s → RelV x v → RelV y u → t x y H Q →
    wpAny (model X.prog X.w) X.A (inplaceOp op v u) (EP X pins σ Q) X.xe s
section
variable {X : Cx} {pos : Pos}
def gName (i : Nat) : TG := fun v σ H Q => Q (σ.set i (some v)) H
theorem pg_name {i : Nat} {x : Str} (hN : X.N.Nodup) (hi : X.N[i]? = some x) (hx : Loc X.env.scope x) (hf : X.fn x = true ∨ X.env.scope.names.lookup x = some .local := by first | exact .inl rfl | exact .inr rfl | assumption) : PG X (.Name x pos) (gName i) := by
  intro pins s σ H v u Q I r h
  exact wpAny_assign_Name (store_ok I hN hi hx r (fun s' I' => ⟨_, H, I', h⟩) hf)
def gNil : TGs := fun vs σ H Q => vs = [] ∧ Q σ H
def gCons (t : TG) (u : TGs) : TGs := fun vs σ H Q => ∃ v r, vs = v :: r ∧ t v σ H fun σ' H' => u r σ' H' Q
theorem pgs_nil : PGs X [] gNil := by
  intro pins s σ H vs us Q I r h
  obtain ⟨e, h⟩ := h
  subst e
  cases r
  exact assignInOrder_nil ⟨σ, H, I, h⟩
theorem pgs_cons {e : Expr} {es : List Expr} {t : TG} {u : TGs} (h1 : PG X e t) (h2 : PGs X es u)
    (hs : (assignEach (e :: es) X.env).map (·.2) = assign e X.env :: (assignEach es X.env).map (·.2) := by rfl) : PGs X (e :: es) (gCons t u) := by
  intro pins s σ H vs us Q I r h
  obtain ⟨v, vr, e1, h⟩ := h
  subst e1
  cases r with
  | cons r rr =>
    rw [hs]
    refine assignInOrder_cons (thn (h1 pins s σ H _ _ _ I r h) fun _ s1 ⟨σ1, H1, I1, q1⟩ => ?_)
    exact h2 pins s1 σ1 H1 _ _ Q I1 rr q1
def gTup (K : PySem.W.Frag) (n : Nat) (t : TGs) : TG := fun v σ H Q => ∃ a xs, v = .ref a ∧ SqT K H a xs ∧ xs.length = n ∧ t xs σ H Q
theorem pg_tup {es : List Expr} {k : Nat} {t : TGs} {n : Nat} (hc : X.calm = true) (h : PGs X es t)
    (hn : (assignEach es X.env).length = n := by rfl) (hst : (assignEach es X.env).findIdx? (·.1) = none := by rfl) : PG X (.Tuple es k pos) (gTup X.K n t) := by
  intro pins s σ H v u Q I r hw
  obtain ⟨a, xs, e1, hq, hl, hw⟩ := hw
  subst e1
  cases r
  obtain ⟨its, rv, ht, hz⟩ := I.tuple hq
  refine assign_Tuple_tuple (I.ok.hd hc) ht (by simp [hn, ← hl, rv.length]) hst fun h' hx => ?_
  have I1 : Inv X pins σ H { s with heap := h' } := I.kept (t' := s.toks) fun b o e => hx b o (Nat.ne_of_lt (Heap.lt_size e)) e
  exact h pins _ σ H xs _ Q I1 (by simpa using rv) hw
def gSub (to ti : TE) (t : TSet) : TG := fun v σ H Q => to σ H fun o H1 => ti σ H1 fun i H2 => t o i v H2 fun H3 => Q σ H3
theorem pg_sub {o i : Expr} {to ti : TE} {t : TSet} (ho : PE X o to) (hi : PE X i ti) (hs : PSet X t)
    (ha : ∀ v, assign (.Subscript o i pos) X.env v = (do
      let ov ← holding [v] (eval o X.env)
      let iv ← holding [v, ov] (eval i X.env)
      standAt pos
      holding [v, ov, iv] (setItem ov iv v)
      release [v, ov, iv] []) := by intro _; rfl) : PG X (.Subscript o i pos) (gSub to ti t) := by
  intro pins s σ H v u Q I r h
  rw [ha]
  refine wpAny_bind (wpAny_holding (thn (ho pins s σ H _ I h) fun ov s1 ⟨x, H1, I1, r1, q1⟩ => ?_))
  refine wpAny_bind (wpAny_holding (thn (hi pins s1 σ H1 _ I1 q1) fun iv s2 ⟨y, H2, I2, r2, q2⟩ => ?_))
  refine wpAny_bind (wpAny_standAt (wpAny_bind (wpAny_holding (thn (hs pins s2 σ H2 x y v ov iv u _ I2 r1 r2 r q2) fun _ s3 ⟨H3, I3, q3⟩ => ?_))))
  exact wpAny_release ⟨σ, H3, I3, q3⟩
def tAsg (te : TE) (g : TG) : TS := fun D σ H => te σ H fun x H1 => g x σ H1 D.nx
theorem ps_asg {tg e : Expr} {te : TE} {g : TG} (he : PE X e te) (hg : PG X tg g) (hs : swapsWithSole [tg] e pos.line X.env = pure false := by rfl) (hw : swappedStores [tg] e X.env = pure none := by rfl)
    (h1 : (assignEach [tg] X.env).map (·.2) = [assign tg X.env] := by rfl) : PS X (.Assign [tg] e pos) (tAsg te g) := by
  intro pins s σ H D I h
  refine wpAny_Assign_stores (thn (he pins s σ H _ I h) fun v s1 ⟨x, H1, I1, r1, q1⟩ => ?_) hs hw
  rw [h1]
  exact thn (hg pins s1 σ H1 x v _ I1 r1 q1) fun _ s2 q => q
theorem ps_set {i : Nat} {x : Str} {e : Expr} {te : TE} {pos' : Pos} (hN : X.N.Nodup) (hi : X.N[i]? = some x) (hx : Loc X.env.scope x) (he : PE X e te) (hs : swapsWith e (some (.Name x pos')) pos.line X.env = pure false := by rfl) (hf : X.fn x = true ∨ X.env.scope.names.lookup x = some .local := by first | exact .inl rfl | exact .inr rfl | assumption) :
    PS X (.Assign [.Name x pos'] e pos) (tAsg te (gName i)) := by
  intro pins s σ H D I h
  refine wpAny_Assign_Name (thn (he pins s σ H _ I h) fun v s1 ⟨y, H1, I1, r1, q1⟩ => ?_) hs
  exact store_ok I1 hN hi hx r1 (fun s2 I2 => ⟨_, H1, I2, q1⟩) hf
def tPar (i j : Nat) (ta : TA) : TS := fun D σ H => ta σ H fun vs H1 => ∃ v w, vs = [v, w] ∧ D.nx ((σ.set i (some v)).set j (some w)) H1
theorem ps_par {i j : Nat} {x y : Str} {a b : Expr} {ta : TA} {px py pt : Pos} {kt k2 pt2} (hc : X.calm = true) (hN : X.N.Nodup) (hi : X.N[i]? = some x) (hj : X.N[j]? = some y) (hij : i ≠ j)
    (hx : X.env.scope.names.lookup x = some .local) (hy : X.env.scope.names.lookup y = some .local) (ha : PA X [a, b] ta)
    (hw : swappedStores [.Tuple [.Name x px, .Name y py] kt pt] (.Tuple [a, b] k2 pt2) X.env = pure (some [x, y]))
    (hs : swapsWithSole [.Tuple [.Name x px, .Name y py] kt pt] (.Tuple [a, b] k2 pt2) pos.line X.env = pure false := by rfl) :
    PS X (.Assign [.Tuple [.Name x px, .Name y py] kt pt] (.Tuple [a, b] k2 pt2) pos) (tPar i j ta) := by
  intro pins s σ H D I h
  rw [exec_Assign_arm]
  refine wpAny_bind (wpAny_standAt ?_)
  rw [hs]
  refine wpAny_bind (wpAny_pure ?_)
  rw [if_neg (by decide)]
  refine wpAny_bind (Tuple_ (thn (ha _ pins s σ H _ I h) fun us s1 ⟨vs, H1, I1, r1, q1⟩ => ?_))
  obtain ⟨v, w, e1, q1⟩ := q1
  subst e1
  obtain ⟨u1, u2, rfl, rv, rw'⟩ : ∃ u1 u2, us = [u1, u2] ∧ RelV v u1 ∧ RelV w u2 := by
    cases r1 with
    | cons p q =>
      cases q with
      | cons p' q' =>
        cases q'
        exact ⟨_, _, rfl, p, p'⟩
  refine wpAny_newObj_type ?_ (by show 2 ≤ sizeLine; decide)
  have I2 : Inv X pins σ H1 { s1 with heap := s1.heap.push { cls := .type "tuple", data := .seq [u1, u2].toArray } } := I1.kept (t' := s1.toks) fun b o e => Heap.get?_push_of_some _ e
  rw [hw]
  refine wpAny_bind (wpAny_pure ?_)
  show wpAny (model X.prog X.w) X.A (do rule "assign.swapped-stores"; let items ← unpackItems (.ref s1.heap.objs.size) 2 none; assignInOrder [fun v => bindName X.env y v, fun v => bindName X.env x v] items.reverse; pure Flow.next) _ _ _
  refine wpAny_bind (wpAny_rule (wpAny_bind (unpackItems_tuple (items := #[u1, u2]) (I.ok.hd hc) (IsTup.new s1.heap _) fun h' hx' => ?_)))
  have I3 := I2.kept (h' := h') (t' := s1.toks) fun b o e => hx' b o (Nat.ne_of_lt (Heap.lt_size e)) e
  show wpAny _ _ (assignInOrder [fun v => bindName X.env y v, fun v => bindName X.env x v] [u2, u1] >>= fun _ => pure Flow.next) _ _ _
  refine wpAny_bind (assignInOrder_cons (wpAny_bindName (store_ok I3 hN hj (.inl hy) rw' (fun s2 I4 => ?_) (.inr hy))))
  refine assignInOrder_cons (wpAny_bindName (store_ok I4 hN hi (.inl hx) rv (fun s3 I5 => assignInOrder_nil (wpAny_pure ?_)) (.inr hx)))
  rw [List.set_comm _ _ (Ne.symm hij)] at I5
  exact ⟨_, H1, I5, q1⟩
def tAug (i : Nat) (te : TE) (ti : TIp) : TS := fun D σ H => ∃ x, σ[i]? = some (some x) ∧ te σ H fun y H1 => ti x y H1 fun z H2 => D.nx (σ.set i (some z)) H2
theorem ps_aug {i : Nat} {x : Str} {e : Expr} {te : TE} {op : Operator} {ti : TIp} {pos' : Pos} (hN : X.N.Nodup) (hi : X.N[i]? = some x) (hx : Loc X.env.scope x) (he : PE X e te) (ho : PIp X op ti) (hf : X.fn x = true ∨ X.env.scope.names.lookup x = some .local := by first | exact .inl rfl | exact .inr rfl | assumption) :
    PS X (.AugAssign (.Name x pos') op e pos) (tAug i te ti) := by
  intro pins s σ H D I h
  obtain ⟨v, e1, h⟩ := h
  obtain ⟨m, hn, hl⟩ := I.loc
  have vis : Vis X.env.scope x := by rcases hx with k | k; exact .inl k; exact .inr (.inl k)
  obtain ⟨u, r, l⟩ := hl i x v hi e1 vis
  refine wpAny_AugAssign_Name ?_
  have go : wpAny (model X.prog X.w) X.A (eval e X.env) (fun w s₂ => wpAny (model X.prog X.w) X.A (inplaceOp op u w) (fun r s₃ => wpAny (model X.prog X.w) X.A (storeName X.env x r) (fun _ => SP X pins D .next) X.xe s₃) X.xe s₂) X.xe s := by
    refine thn (he pins s σ H _ I h) fun w s1 ⟨y, H1, I1, r1, q1⟩ => ?_
    refine thn (ho pins s1 σ H1 v y u w _ I1 r r1 q1) fun z s2 ⟨zv, H2, I2, r2, q2⟩ => ?_
    exact store_ok I2 hN hi hx r2 (fun s3 I3 => ⟨_, H2, I3, q2⟩) hf
  rcases l with ⟨hk, hm⟩ | ⟨hk, c, hc, hcell⟩
  · exact wpAny_loadName_local I.ok.kind hk hn hm go
  · rcases hk with hk | hk
    · exact wpAny_loadName_cell I.ok.kind hk hc hcell go
    · rcases hx with k | k
      · have : X.env.scope.names.lookup x = some .free := hk
        rw [k] at this; cases this
      · have : X.env.scope.names.lookup x = some .free := hk
        rw [k] at this; cases this
def tAugS (to ti te : TE) (tget : V → V → Hp → VK → Prop) (tip : TIp) (tset : TSet) : TS := fun D σ H => to σ H fun o H1 => ti σ H1 fun i H2 => tget o i H2 fun x H3 => te σ H3 fun y H4 => tip x y H4 fun z H5 => tset o i z H5 fun H6 => D.nx σ H6
def PGet (X : Cx) (t : V → V → Hp → VK → Prop) : Prop :=
  ∀ (pins : List (Addr × Obj)) (s : Shared) (σ : St) (H : Hp) (o i : V) (ov iv : Value) (Q : VK), Inv X pins σ H s → RelV o ov → RelV i iv → t o i H Q →
    wpAny (model X.prog X.w) X.A (getItem ov iv) (EP X pins σ Q) X.xe s
theorem ps_augS {o i e : Expr} {to ti te : TE} {tget : V → V → Hp → VK → Prop} {tip : TIp} {tset : TSet} {op : Operator} {tpos : Pos} (ho : PE X o to) (hi : PE X i ti) (hg : PGet X tget) (he : PE X e te) (hp : PIp X op tip) (hs : PSet X tset)
    (ha : ∀ ov iv new, augStore i ov iv new = (do holding [new, ov, iv] (setItem ov iv new); release [new, ov, iv] []; pure .next) := by intros; rfl) : PS X (.AugAssign (.Subscript o i tpos) op e pos) (tAugS to ti te tget tip tset) := by
  intro pins s σ H D I h
  refine wpAny_AugAssign_SubscriptAny (thn (ho pins s σ H _ I h) fun ov s1 ⟨x1, H1, I1, r1, q1⟩ => ?_) ha
  refine thn (hi pins s1 σ H1 _ I1 q1) fun iv s2 ⟨x2, H2, I2, r2, q2⟩ => ?_
  refine thn (hg pins s2 σ H2 x1 x2 ov iv _ I2 r1 r2 q2) fun old s3 ⟨x3, H3, I3, r3, q3⟩ => ?_
  refine thn (he pins s3 σ H3 _ I3 q3) fun v s4 ⟨x4, H4, I4, r4, q4⟩ => ?_
  refine thn (hp pins s4 σ H4 x3 x4 old v _ I4 r3 r4 q4) fun new s5 ⟨x5, H5, I5, r5, q5⟩ => ?_
  exact thn (hs pins s5 σ H5 x1 x2 x5 ov iv new _ I5 r1 r2 r5 q5) fun _ s6 ⟨H6, I6, q6⟩ => ⟨σ, H6, I6, q6⟩
def ipI (f : Int → Int → Int) : TIp := fun x y H Q => ∃ i j, x = .int i ∧ y = .int j ∧ Q (.int (f i j)) H
theorem ip_add : PIp X .Add (ipI fun i j => i + j) := by
  intro pins s σ H x y v u Q I r1 r2 h
  obtain ⟨i, j, e1, e2, q⟩ := h
  subst e1; subst e2
  obtain ⟨t, rfl⟩ := r1
  obtain ⟨t', rfl⟩ := r2
  exact iadd_int ⟨.int _, H, I.tok _, ⟨_, rfl⟩, q⟩
theorem ip_sub : PIp X .Sub (ipI fun i j => i - j) := by
  intro pins s σ H x y v u Q I r1 r2 h
  obtain ⟨i, j, e1, e2, q⟩ := h
  subst e1; subst e2
  obtain ⟨t, rfl⟩ := r1
  obtain ⟨t', rfl⟩ := r2
  exact isub_int ⟨.int _, H, I.tok _, ⟨_, rfl⟩, q⟩
end
/-! ### while -/
section
variable {X : Cx} {pos : Pos}
def tWhile (c : TT) (tb : TS) : TS := fun D σ H => ∃ W : Nat → St → Hp → Prop, (∃ m, W m σ H) ∧ ∀ m σ H, W m σ H →
  c σ H fun b H1 => if b = true then ∃ N : St → Hp → Prop, (∀ σ' H', N σ' H' → ∃ m', m' < m ∧ W m' σ' H') ∧ tb { D with nx := N, ct := N, bk := D.nx } σ H1 else D.nx σ H1
theorem ps_while {c : Expr} {body : List Stmt} {tc : TT} {tb : TS} (hp : PassesOwn (model X.prog X.w) X.A X.env X.xe) (hc : PT X c tc) (hb : PSs X body tb) : PS X (.While c body [] pos) (tWhile tc tb) := by
  intro pins s σ H D I h
  obtain ⟨W, ⟨m0, w0⟩, turn⟩ := h
  refine wpAny_While (codeAny_whileLoop (fun n s' => ∃ σ' H', Inv X pins σ' H' s' ∧ W n σ' H') ?_ m0 ⟨σ, H, I, w0⟩)
  rintro n s1 ⟨σ1, H1, I1, w1⟩
  refine wpAny_passesOwn hp (thn (hc pins s1 σ1 H1 _ I1 (turn n σ1 H1 w1)) fun b s2 ⟨H2, I2, q2⟩ => ?_)
  cases b with
  | true =>
    obtain ⟨N, hN, q2⟩ := q2
    rw [if_pos rfl]
    refine wpAny_passesOwn hp (thn (hb pins s2 σ1 H2 _ I2 q2) fun f s3 q3 => ?_)
    cases f with
    | next =>
      obtain ⟨σ3, H3, I3, n3⟩ := q3
      obtain ⟨m', hm, w3⟩ := hN σ3 H3 n3
      exact ⟨m', hm, σ3, H3, I3, w3⟩
    | cont =>
      obtain ⟨σ3, H3, I3, n3⟩ := q3
      obtain ⟨m', hm, w3⟩ := hN σ3 H3 n3
      exact ⟨m', hm, σ3, H3, I3, w3⟩
    | brk => exact q3
    | ret v => exact q3
  | false =>
    rw [if_neg Bool.false_ne_true]
    exact wpAny_execs_nil ⟨σ1, H2, I2, q2⟩
end
/-! ### what a loop or a comprehension walks -/
structure It where
  go : Nat → Hp → Prop
  yld : Nat → Hp → V → Hp → Prop
  stop : Nat → Hp → Prop
def FpOk (X : Cx) (pins : List (Addr × Obj)) (H : Hp) (b : Addr) : Prop :=
  H b = none ∧ b ≠ X.env.locals ∧ b ∉ X.fs ∧ (b ∈ X.ex ∨ X.s₀.heap.objs.size ≤ b) ∧ (∀ x c, X.env.cells.lookup x = some c → c ≠ b) ∧ ∀ p ∈ X.pn ++ pins, p.1 ≠ b
theorem Inv.fpOk {X : Cx} {pins : List (Addr × Obj)} {σ : St} {H H' : Hp} {s : Shared} {b : Addr} (I : Inv X pins σ H s) (hb : s.heap.objs.size ≤ b) (hn : H' b = none) : FpOk X pins H' b := by
  refine ⟨hn, Nat.ne_of_gt (Nat.lt_of_lt_of_le I.lt hb), I.nofs hb, .inr (Nat.le_trans I.sz hb), fun x c e z => ?_, fun p hp z => ?_⟩
  · obtain ⟨v, q⟩ := I.cell x c e
    exact absurd (Nat.lt_of_lt_of_le q.lt (by rw [z]; exact hb)) (Nat.lt_irrefl _)
  · exact absurd (Nat.lt_of_lt_of_le (Heap.lt_size (I.pin p hp).1) (by rw [z]; exact hb)) (Nat.lt_irrefl _)
structure Turn (P : Program) (w : World) (K : PySem.W.Frag) (tg : Expr) (J : It) (fp : List Addr) (it : Addr) (tn : Nat → Heap → Prop) : Prop where
  mem : it ∈ fp
  obj : ∀ i h, tn i h → ∀ b ∈ fp, ∃ o, h.get? b = some o ∧ ∀ v, o.data ≠ .cell v
  keep : ∀ i h h', tn i h → (∀ b ∈ fp, ∀ o, h.get? b = some o → h'.get? b = some o) → tn i h'
  item : ∀ (X : Cx), X.prog = P → X.w = w → X.K = K → X.calm = true → ∀ (i : Nat) (pins : List (Addr × Obj)) (s : Shared) (σ : St) (H : Hp) (E : Value → Shared → Prop), Inv X pins σ H s → (∀ b ∈ fp, FpOk X pins H b) → tn i s.heap → J.go i H →
    wpAny (model P w) X.A (pyNext (.ref it)) (fun r s1 => ∃ u, r = some u ∧
      wpAny (model P w) X.A (letOwnedTupleGo tg (.ref it) u) (fun _ s2 => ∃ x H', Inv X pins σ H' s2 ∧ RelV x u ∧ J.yld i H x H' ∧ tn (i + 1) s2.heap ∧ ∀ b ∈ fp, H' b = none) E s1) E s
  done : ∀ (X : Cx), X.prog = P → X.w = w → X.K = K → X.calm = true → ∀ (i : Nat) (pins : List (Addr × Obj)) (s : Shared) (σ : St) (H : Hp) (E : Value → Shared → Prop), Inv X pins σ H s → (∀ b ∈ fp, FpOk X pins H b) → tn i s.heap → J.stop i H →
    wpAny (model P w) X.A (pyNext (.ref it)) (fun r s1 => r = none ∧ Inv X pins σ H s1) E s
  self : ∀ (A : Around) (i : Nat) (s : Shared) (Q : Value → Shared → Prop) (E : Value → Shared → Prop), tn i s.heap → Q (.ref it) s → wpAny (model P w) A (pyIter (.ref it)) Q E s
abbrev TI := St → Hp → (It → Hp → Prop) → Prop
def PIE (X : Cx) (pins : List (Addr × Obj)) (σ : St) (tg : Expr) (R : It → Hp → Prop) (itv : Value) (s2 : Shared) : Prop :=
  ∃ (it : Addr) (fp : List Addr) (tn : Nat → Heap → Prop) (J : It) (H' : Hp), itv = .ref it ∧ Inv X pins σ H' s2 ∧ Turn X.prog X.w X.K tg J fp it tn ∧ tn 0 s2.heap ∧ (∀ b ∈ fp, FpOk X pins H' b) ∧ R J H'
def PI (X : Cx) (tg iter : Expr) (wi : TI) : Prop :=
  ∀ (pins : List (Addr × Obj)) (s : Shared) (σ : St) (H : Hp) (R : It → Hp → Prop), Inv X pins σ H s → wi σ H R →
    wpAny (model X.prog X.w) X.A (eval iter X.env) (fun v s1 => wpAny (model X.prog X.w) X.A (pyIter v) (PIE X pins σ tg R) X.xe s1) X.xe s
theorem go_of {M : Model} {A : Around} {E : Value → Shared → Prop} {s : Shared} {tg : Expr} {it : Addr} {u : Value} {o : Obj} {n : String} {vs : Array Value} {Q : Unit → Shared → Prop} (ho : s.heap.get? it = some o) (hc : o.cls = .type n) (hd : o.data = .fields vs)
    (hn : ["enumerate", "zip", "dict_itemiterator", "dict_reverseitemiterator", "odict_iterator", "itertools.zip_longest", "itertools.pairwise"].contains n = false) (hQ : Q () s) : wpAny M A (letOwnedTupleGo tg (.ref it) u) Q E s := by
  unfold letOwnedTupleGo
  cases tg <;> first
    | exact wpAny_pure hQ
    | (cases u <;> first
        | exact wpAny_pure hQ
        | (refine wpAny_bind (wpAny_load ho ?_)
           rw [hc, hd]
           show wpAny M A (if (["enumerate", "zip", "dict_itemiterator", "dict_reverseitemiterator", "odict_iterator", "itertools.zip_longest", "itertools.pairwise"].contains n && vs[0]? == some (rawInt _)) = true then _ else _) Q E s
           rw [if_neg (by intro h; rw [hn, Bool.false_and] at h; cases h)]
           exact wpAny_pure hQ))
def Itl (K : PySem.W.Frag) (a : Addr) : It :=
  ⟨fun i H => ∃ xs x, SqL K H a xs ∧ xs[i]? = some x, fun i H x H' => H' = H ∧ ∀ xs, SqL K H a xs → xs[i]? = some x, fun i H => ∃ xs, SqL K H a xs ∧ xs.length ≤ i⟩
def Itt (K : PySem.W.Frag) (a : Addr) : It :=
  ⟨fun i H => ∃ xs x, SqT K H a xs ∧ xs[i]? = some x, fun i H x H' => H' = H ∧ ∀ xs, SqT K H a xs → xs[i]? = some x, fun i H => ∃ xs, SqT K H a xs ∧ xs.length ≤ i⟩
def Itr (lo : Int) (n : Nat) : It := ⟨fun i _ => i < n, fun i H x H' => H' = H ∧ x = .int (lo + i), fun i _ => n ≤ i⟩
theorem turn_list {P : Program} {w : World} {K : PySem.W.Frag} {tg : Expr} (a it : Addr) : Turn P w K tg (Itl K a) [it] it (fun i h => h.IsListIter it a i) where
  mem := by simp
  obj := fun i h st b hb => by
    have e : b = it := by simpa using hb
    subst e
    obtain ⟨o, e, c, d⟩ := st
    exact ⟨o, e, fun v z => by rw [d] at z; cases z⟩
  keep := fun i h h' st k => st.at fun o e => k it (by simp) o e
  item := by
    intro X hP hw hK hc i pins s σ H E I hf st hg
    subst hP hw hK
    obtain ⟨xs, x, hq, hx⟩ := hg
    obtain ⟨its, rv, p, hz⟩ := I.list hq
    obtain ⟨u, hu, ru⟩ := rv.get hx
    obtain ⟨f0, f1, f2, f3, f4, f5⟩ := hf it (by simp)
    refine wpAny_pyNext_list_item st p.isList (x := u) (by simpa using hu) fun h' st' sb => ?_
    have I1 : Inv X pins σ H { s with heap := h' } := I.turned (t' := s.toks) (fun b o hb e => (sb.2 b hb).trans e) f0 f1 f3 f4 f5
    obtain ⟨o, e, c, d⟩ := id st'
    exact ⟨u, rfl, go_of (s := { s with heap := h' }) e c d (by decide) ⟨x, H, I1, ru, ⟨rfl, fun ys hy => by rw [I.list_inj hy hq]; exact hx⟩, st', fun b hb => (hf b hb).1⟩⟩
  done := by
    intro X hP hw hK hc i pins s σ H E I hf st hg
    subst hP hw hK
    obtain ⟨xs, hq, hx⟩ := hg
    obtain ⟨its, rv, p, hz⟩ := I.list hq
    obtain ⟨f0, f1, f2, f3, f4, f5⟩ := hf it (by simp)
    have hl := rv.length
    exact wpAny_pyNext_list_end (I.ok.hd hc) st p.isList (by simp; omega) fun h' eb => ⟨rfl, I.turned (t' := s.toks) (fun b o hb e => eb b o hb e) f0 f1 f3 f4 f5⟩
  self := fun _ _ _ _ _ st h => wpAny_pyIter_listiter st h
theorem turn_tuple {P : Program} {w : World} {K : PySem.W.Frag} {tg : Expr} (a it : Addr) : Turn P w K tg (Itt K a) [it] it (fun i h => h.IsTupleIter it a i) where
  mem := by simp
  obj := fun i h st b hb => by
    have e : b = it := by simpa using hb
    subst e
    obtain ⟨o, e, c, d⟩ := st
    exact ⟨o, e, fun v z => by rw [d] at z; cases z⟩
  keep := fun i h h' st k => st.at fun o e => k it (by simp) o e
  item := by
    intro X hP hw hK hc i pins s σ H E I hf st hg
    subst hP hw hK
    obtain ⟨xs, x, hq, hx⟩ := hg
    obtain ⟨its, rv, p, hz⟩ := I.tuple hq
    obtain ⟨u, hu, ru⟩ := rv.get hx
    obtain ⟨f0, f1, f2, f3, f4, f5⟩ := hf it (by simp)
    refine wpAny_pyNext_tuple_item st (show s.heap.IsTuple a its.toArray from p) (x := u) (by simpa using hu) fun h' st' sb => ?_
    have I1 : Inv X pins σ H { s with heap := h' } := I.turned (t' := s.toks) (fun b o hb e => (sb.2 b hb).trans e) f0 f1 f3 f4 f5
    obtain ⟨o, e, c, d⟩ := id st'
    exact ⟨u, rfl, go_of (s := { s with heap := h' }) e c d (by decide) ⟨x, H, I1, ru, ⟨rfl, fun ys hy => by rw [I.tuple_inj hy hq]; exact hx⟩, st', fun b hb => (hf b hb).1⟩⟩
  done := by
    intro X hP hw hK hc i pins s σ H E I hf st hg
    subst hP hw hK
    obtain ⟨xs, hq, hx⟩ := hg
    obtain ⟨its, rv, p, hz⟩ := I.tuple hq
    obtain ⟨f0, f1, f2, f3, f4, f5⟩ := hf it (by simp)
    have hl := rv.length
    exact wpAny_pyNext_tuple_end (I.ok.hd hc) st (show s.heap.IsTuple a its.toArray from p) (by simp; omega) fun h' eb => ⟨rfl, I.turned (t' := s.toks) (fun b o hb e => eb b o hb e) f0 f1 f3 f4 f5⟩
  self := fun _ _ _ _ _ st h => wpAny_pyIter_tupleiter st h
theorem turn_range {P : Program} {w : World} {K : PySem.W.Frag} {tg : Expr} (it : Addr) (lo : Int) (n : Nat) : Turn P w K tg (Itr lo n) [it] it (fun i h => IsRangeIter h it (lo + (i : Nat) * 1) ((n : Int) - (i : Nat)) 1) where
  mem := by simp
  obj := fun i h st b hb => by
    have e : b = it := by simpa using hb
    subst e
    exact ⟨_, st, fun v z => by
      have z' : Data.fields _ = Data.cell v := z
      cases z'⟩
  keep := fun i h h' st k => k it (by simp) _ st
  item := by
    intro X hP hw hK hc i pins s σ H E I hf st hg
    subst hP hw hK
    obtain ⟨f0, f1, f2, f3, f4, f5⟩ := hf it (by simp)
    have W := Walks.range (prog := X.prog) (w := X.w) (I.ok.hd hc) it lo 1 n
    refine W.item i s _ _ hg st fun v h' tk hv st' kk => ?_
    obtain ⟨t, rfl⟩ := hv
    have I1 : Inv X pins σ H { s with heap := h', toks := tk } := I.turned (fun b o hb e => kk b o (by simpa using hb) e) f0 f1 f3 f4 f5
    refine ⟨_, rfl, go_of (s := { s with heap := h', toks := tk }) (n := "range_iterator") st' rfl rfl (by decide) ⟨.int (lo + i), H, I1, ⟨t, ?_⟩, ⟨rfl, rfl⟩, st', fun b hb => (hf b hb).1⟩⟩
    rw [Int.mul_one]
  done := by
    intro X hP hw hK hc i pins s σ H E I hf st hg
    subst hP hw hK
    obtain ⟨f0, f1, f2, f3, f4, f5⟩ := hf it (by simp)
    exact wpAny_pyNext_range_end (I.ok.hd hc) st (by have : n ≤ i := hg; omega) fun h' eb => ⟨rfl, I.turned (t' := s.toks) (fun b o hb e => eb b o hb e) f0 f1 f3 f4 f5⟩
  self := fun _ _ _ _ _ st h => wpAny_pyIter_rangeiter st h
end L2
namespace L2
open PySem PySem.Spec PyProof.Rows
section
variable {X : Cx} {tg : Expr}
def iList (K : PySem.W.Frag) (tl : TE) : TI := fun σ H R => tl σ H fun x H1 => ∃ a, x = .ref a ∧ (∃ xs, SqL K H1 a xs) ∧ R (Itl K a) H1
def iTup (K : PySem.W.Frag) (tl : TE) : TI := fun σ H R => tl σ H fun x H1 => ∃ a, x = .ref a ∧ (∃ xs, SqT K H1 a xs) ∧ R (Itt K a) H1
theorem pi_list {l : Expr} {tl : TE} (hl : PE X l tl) : PI X tg l (iList X.K tl) := by
  intro pins s σ H R I h
  refine thn (hl pins s σ H _ I h) fun v s1 ⟨x, H1, I1, r1, q1⟩ => ?_
  obtain ⟨a, e, ⟨xs, hq⟩, q⟩ := q1
  subst e
  cases r1
  obtain ⟨its, rv, p, hz⟩ := I1.list hq
  refine wpAny_pyIter_list p.isList ?_
  refine ⟨s1.heap.objs.size, [s1.heap.objs.size], _, _, H1, rfl, I1.kept (t' := s1.toks) fun b o e => Heap.get?_push_of_some _ e, turn_list a _, ⟨_, Heap.get?_push_size _ rfl, rfl, rfl⟩, fun b hb => ?_, q⟩
  have e : b = s1.heap.objs.size := by simpa using hb
  subst e
  exact I1.fpOk (Nat.le_refl _) (I1.hok.fresh (Nat.le_refl _))
theorem pi_tup {l : Expr} {tl : TE} (hl : PE X l tl) : PI X tg l (iTup X.K tl) := by
  intro pins s σ H R I h
  refine thn (hl pins s σ H _ I h) fun v s1 ⟨x, H1, I1, r1, q1⟩ => ?_
  obtain ⟨a, e, ⟨xs, hq⟩, q⟩ := q1
  subst e
  cases r1
  obtain ⟨its, rv, p, hz⟩ := I1.tuple hq
  refine wpAny_pyIter_tuple (show s1.heap.IsTuple a its.toArray from p) ?_
  refine ⟨s1.heap.objs.size, [s1.heap.objs.size], _, _, H1, rfl, I1.kept (t' := s1.toks) fun b o e => Heap.get?_push_of_some _ e, turn_tuple a _, ⟨_, Heap.get?_push_size _ rfl, rfl, rfl⟩, fun b hb => ?_, q⟩
  have e : b = s1.heap.objs.size := by simpa using hb
  subst e
  exact I1.fpOk (Nat.le_refl _) (I1.hok.fresh (Nat.le_refl _))
theorem range_it {pins : List (Addr × Obj)} {σ : St} {H : Hp} {s : Shared} {R : It → Hp → Prop} {E : Value → Shared → Prop} {lo hi : Int} {t u v : Tok} {tk : Nat} (I : Inv X pins σ H s) (h1 : -(2 ^ 62) ≤ lo) (h2 : lo < 2 ^ 62) (h3 : -(2 ^ 62) ≤ hi) (h4 : hi < 2 ^ 62)
    (q : R (Itr lo (hi - lo).toNat) H) : wpAny (model X.prog X.w) X.A (pyIter (.ref s.heap.objs.size)) (PIE X pins σ tg R) E { s with heap := s.heap.push { cls := .type "range", data := .fields #[.int lo t, .int hi u, .int 1 v] }, toks := tk } := by
  refine wpAny_pyIter_range (IsRange.new ..) (small_one h1 h2 h3 h4) ?_
  have I1 : Inv X pins σ H { s with heap := s.heap.push { cls := .type "range", data := .fields #[.int lo t, .int hi u, .int 1 v] }, toks := tk } := I.kept fun b o e => Heap.get?_push_of_some _ e
  refine ⟨(s.heap.push { cls := .type "range", data := .fields #[.int lo t, .int hi u, .int 1 v] }).objs.size, [(s.heap.push { cls := .type "range", data := .fields #[.int lo t, .int hi u, .int 1 v] }).objs.size], _, _, H, rfl,
    I1.kept (t' := tk) fun b o e => Heap.get?_push_of_some _ e, turn_range _ lo (hi - lo).toNat, ?_, fun b hb => ?_, q⟩
  · have e1 : lo + ((0 : Nat) : Int) * 1 = lo := by simp
    have e2 : (((hi - lo).toNat : Nat) : Int) - ((0 : Nat) : Int) = Builtin.Range.rangeSize lo hi 1 := by rw [rangeSize_one]; split <;> omega
    show IsRangeIter _ _ (lo + ((0 : Nat) : Int) * 1) ((((hi - lo).toNat : Nat) : Int) - ((0 : Nat) : Int)) 1
    rw [e1, e2]
    exact Heap.get?_push_size _ rfl
  · have e : b = (s.heap.push { cls := .type "range", data := .fields #[.int lo t, .int hi u, .int 1 v] }).objs.size := by simpa using hb
    subst e
    exact I1.fpOk (Nat.le_refl _) (I1.hok.fresh (Nat.le_refl _))
def iRng1 (ta : TA) : TI := fun σ H R => ta σ H fun vs H1 => ∃ j : Int, vs = [.int j] ∧ -(2 ^ 62) ≤ j ∧ j < 2 ^ 62 ∧ R (Itr 0 j.toNat) H1
def iRng2 (ta : TA) : TI := fun σ H R => ta σ H fun vs H1 => ∃ i j : Int, vs = [.int i, .int j] ∧ (-(2 ^ 62) ≤ i ∧ i < 2 ^ 62 ∧ -(2 ^ 62) ≤ j ∧ j < 2 ^ 62) ∧ R (Itr i (j - i).toNat) H1
theorem pi_range1 {a : Expr} {ta : TA} {p pos : Pos} (hg : Gl X "range") (hm : X.mg "range" = none) (ha : PA X [a] ta) (hs : starEach [a] X.env = [(false, eval a X.env)] := by rfl) : PI X tg (.Call (.Name "range" p) [a] [] pos) (iRng1 ta) := by
  intro pins s σ H R I h
  refine Call_ (ld_blt I hg hm boot_range (PyProof.Rows.callWith_type1 (thn (ha pos pins s σ H _ I h) fun us s1 ⟨vs, H1, I1, r1, q1⟩ => ?_) hs rfl))
  obtain ⟨j, e, q1, q2, q⟩ := q1
  subst e
  cases r1 with
  | cons r rr =>
    cases rr
    obtain ⟨t, rfl⟩ := r
    exact call_range_1 (range_it I1 (by omega) (by omega) q1 q2 (by simpa using q))
theorem pi_range2 {a b : Expr} {ta : TA} {p pos : Pos} (hg : Gl X "range") (hm : X.mg "range" = none) (ha : PA X [a, b] ta) (hs : starEach [a, b] X.env = [(false, eval a X.env), (false, eval b X.env)] := by rfl) (hs2 : starEach [b] X.env = [(false, eval b X.env)] := by rfl) :
    PI X tg (.Call (.Name "range" p) [a, b] [] pos) (iRng2 ta) := by
  intro pins s σ H R I h
  refine Call_ (ld_blt I hg hm boot_range (PyProof.Rows.callWith_type1 (thn (ha pos pins s σ H _ I h) fun us s1 ⟨vs, H1, I1, r1, q1⟩ => ?_) (by rw [hs, hs2]) (by rw [hs2]; rfl)))
  obtain ⟨i, j, e, ⟨q1, q2, q3, q4⟩, q⟩ := q1
  subst e
  cases r1 with
  | cons r rr =>
    cases rr with
    | cons r' rr =>
      cases rr
      obtain ⟨t, rfl⟩ := r
      obtain ⟨t', rfl⟩ := r'
      exact call_range_2 (range_it I1 q1 q2 q3 q4 q)
/-! ### for -/
def tFor (wi : TI) (g : TG) (tb : TS) : TS := fun D σ H => wi σ H fun J H1 => ∃ W : Nat → Nat → St → Hp → Prop, (∃ m, W 0 m σ H1) ∧ ∀ i m σ H, W i m σ H →
  (J.stop i H ∧ D.nx σ H) ∨ (J.go i H ∧ ∃ N : St → Hp → Prop, (∀ σ' H', N σ' H' → ∃ m', m' < m ∧ W (i + 1) m' σ' H') ∧ ∀ x H', J.yld i H x H' → g x σ H' fun σ2 H2 => tb { D with nx := N, ct := N, bk := D.nx } σ2 H2)
def pinsAt (fp : List Addr) (h : Heap) : List (Addr × Obj) := fp.filterMap fun b => (h.get? b).map fun o => (b, o)
theorem mem_pinsAt {fp : List Addr} {h : Heap} {b : Addr} {o : Obj} (hb : b ∈ fp) (e : h.get? b = some o) : (b, o) ∈ pinsAt fp h := List.mem_filterMap.mpr ⟨b, hb, by rw [e]; rfl⟩
theorem of_pinsAt {fp : List Addr} {h : Heap} {p : Addr × Obj} (hp : p ∈ pinsAt fp h) : p.1 ∈ fp ∧ h.get? p.1 = some p.2 := by
  obtain ⟨b, hb, e⟩ := List.mem_filterMap.mp hp
  cases q : h.get? b with
  | none => rw [q] at e; cases e
  | some o =>
    rw [q] at e
    have e' : (b, o) = p := Option.some.inj e
    subst e'
    exact ⟨hb, q⟩
theorem Inv.pinned {pins : List (Addr × Obj)} {σ : St} {H : Hp} {s : Shared} {fp : List Addr} (I : Inv X pins σ H s) (hf : ∀ b ∈ fp, FpOk X pins H b) (ho : ∀ b ∈ fp, ∃ o, s.heap.get? b = some o ∧ ∀ v, o.data ≠ .cell v) : Inv X (pins ++ pinsAt fp s.heap) σ H s :=
  I.pins_of fun p hp => (List.mem_append.mp hp).elim (fun z => I.pin p (List.mem_append_right _ z)) fun z => by
    obtain ⟨hb, e⟩ := of_pinsAt z
    obtain ⟨f0, f1, f2, _⟩ := hf p.1 hb
    obtain ⟨o, e', d⟩ := ho p.1 hb
    rw [e] at e'; cases e'
    exact ⟨e, f0, f1, f2, d⟩
theorem Inv.unpinned {pins pl : List (Addr × Obj)} {σ : St} {H : Hp} {s : Shared} (I : Inv X (pins ++ pl) σ H s) : Inv X pins σ H s := I.pins_of fun p hp => I.pin p (List.mem_append_right _ (List.mem_append_left _ hp))
theorem ps_for {iter : Expr} {body : List Stmt} {wi : TI} {g : TG} {tb : TS} {pos : Pos} (hp : PassesOwn (model X.prog X.w) X.A X.env X.xe) (hc : X.calm = true) (hi : PI X tg iter wi) (hg : PG X tg g) (hb : PSs X body tb)
    (hs : ∀ x, foldedSetIterable iter X.env x = pure x := by intro _; rfl) : PS X (.For tg iter body [] pos) (tFor wi g tb) := by
  intro pins s σ H D I h
  refine wpAny_For (thn (hi pins s σ H _ I h) fun v s1 h1 => thn h1 fun itv s2 h2 => ?_) hs
  obtain ⟨it, fp, tn, J, H2, e, I2, T, st2, f2, W, ⟨m0, w0⟩, turn⟩ := h2
  subst e
  -- what stays true of the iterator's objects through the loop
  have stat : ∀ {H' : Hp}, (∀ b ∈ fp, H' b = none) → ∀ b ∈ fp, FpOk X pins H' b := fun hn b hb => ⟨hn b hb, (f2 b hb).2⟩
  refine codeAny_forLoop_any (fun n s' => ∃ i σ' H', Inv X pins σ' H' s' ∧ tn i s'.heap ∧ (∀ b ∈ fp, H' b = none) ∧ W i n σ' H') ?_ m0 ⟨0, σ, H2, I2, st2, fun b hb => (f2 b hb).1, w0⟩
  rintro n s3 ⟨i, σ3, H3, I3, st3, fr3, w3⟩
  rcases turn i n σ3 H3 w3 with ⟨stop, qn⟩ | ⟨go, N, hN, step⟩
  · refine wpAny_passesOwn hp (thn (T.done X rfl rfl rfl hc i pins s3 σ3 H3 X.xe I3 (stat fr3) st3 stop) fun r s4 ⟨hr, I4⟩ => ?_)
    subst hr
    exact wpAny_execs_nil ⟨σ3, H3, I4, qn⟩
  · refine wpAny_passesOwn hp (thn (T.item X rfl rfl rfl hc i pins s3 σ3 H3 X.xe I3 (stat fr3) st3 go) fun r s4 ⟨u, hr, h4⟩ => ?_)
    subst hr
    refine wpAny_passesOwn hp (thn h4 fun _ s5 ⟨x, H5, I5, r5, y5, st5, fr5⟩ => ?_)
    have I5' := I5.pinned (stat fr5) (T.obj _ _ st5)
    refine wpAny_passesOwn hp (thn (hg _ s5 σ3 H5 x u _ I5' r5 (step x H5 y5)) fun _ s6 ⟨σ6, H6, I6, q6⟩ => ?_)
    refine wpAny_passesOwn hp (thn (hb _ s6 σ6 H6 _ I6 q6) fun f s7 q7 => ?_)
    have again : ∀ {σ7 : St} {H7 : Hp}, Inv X (pins ++ pinsAt fp s5.heap) σ7 H7 s7 → N σ7 H7 → ∃ m, m < n ∧ ∃ i σ' H', Inv X pins σ' H' s7 ∧ tn i s7.heap ∧ (∀ b ∈ fp, H' b = none) ∧ W i m σ' H' := fun {σ7 H7} I7 n7 => by
      obtain ⟨m', hm, w7⟩ := hN σ7 H7 n7
      refine ⟨m', hm, i + 1, σ7, H7, I7.unpinned, T.keep _ _ _ st5 fun b hb o e => (I7.pin (b, o) (List.mem_append_right _ (List.mem_append_right _ (mem_pinsAt hb e)))).1, fun b hb => ?_, w7⟩
      obtain ⟨o, e, d⟩ := T.obj _ _ st5 b hb
      exact (I7.pin (b, o) (List.mem_append_right _ (List.mem_append_right _ (mem_pinsAt hb e)))).2.1
    cases f with
    | next => obtain ⟨σ7, H7, I7, n7⟩ := q7; exact again I7 n7
    | cont => obtain ⟨σ7, H7, I7, n7⟩ := q7; exact again I7 n7
    | brk => obtain ⟨σ7, H7, I7, q7⟩ := q7; exact ⟨σ7, H7, I7.unpinned, q7⟩
    | ret v => obtain ⟨x7, σ7, H7, I7, r7, q7⟩ := q7; exact ⟨x7, σ7, H7, I7.unpinned, r7, q7⟩
end
/-! ### the forms one uses -/
theorem for_list {K : PySem.W.Frag} {a : Addr} {xs : List V} {g : TG} {tb : TS} {D : Ends} {σ : St} {H : Hp} (Pv : Nat → St → Hp → Prop) (h0 : Pv 0 σ H) (hl : ∀ i σ H, i ≤ xs.length → Pv i σ H → SqL K H a xs)
    (hs : ∀ i x σ H, xs[i]? = some x → Pv i σ H → g x σ H fun σ2 H2 => tb { D with nx := Pv (i + 1), ct := Pv (i + 1), bk := D.nx } σ2 H2) (hd : ∀ σ H, Pv xs.length σ H → D.nx σ H) :
    ∃ W : Nat → Nat → St → Hp → Prop, (∃ m, W 0 m σ H) ∧ ∀ i m σ H, W i m σ H →
      ((Itl K a).stop i H ∧ D.nx σ H) ∨ ((Itl K a).go i H ∧ ∃ N : St → Hp → Prop, (∀ σ' H', N σ' H' → ∃ m', m' < m ∧ W (i + 1) m' σ' H') ∧ ∀ x H', (Itl K a).yld i H x H' → g x σ H' fun σ2 H2 => tb { D with nx := N, ct := N, bk := D.nx } σ2 H2) := by
  refine ⟨fun i m σ H => m = xs.length - i ∧ i ≤ xs.length ∧ Pv i σ H, ⟨xs.length, by simp, Nat.zero_le _, h0⟩, ?_⟩
  rintro i m σ H ⟨rfl, hi, p⟩
  have q := hl i σ H hi p
  by_cases hlt : i < xs.length
  · refine .inr ⟨⟨xs, xs[i], q, by simp [hlt]⟩, Pv (i + 1), fun σ' H' p' => ⟨xs.length - (i + 1), by omega, rfl, hlt, p'⟩, fun x H' y => ?_⟩
    obtain ⟨e, y⟩ := y
    subst e
    exact hs i x σ _ (y xs q) p
  · have e : i = xs.length := by omega
    subst e
    exact .inl ⟨⟨xs, q, Nat.le_refl _⟩, hd σ H p⟩
theorem for_tup {K : PySem.W.Frag} {a : Addr} {xs : List V} {g : TG} {tb : TS} {D : Ends} {σ : St} {H : Hp} (Pv : Nat → St → Hp → Prop) (h0 : Pv 0 σ H) (hl : ∀ i σ H, i ≤ xs.length → Pv i σ H → SqT K H a xs)
    (hs : ∀ i x σ H, xs[i]? = some x → Pv i σ H → g x σ H fun σ2 H2 => tb { D with nx := Pv (i + 1), ct := Pv (i + 1), bk := D.nx } σ2 H2) (hd : ∀ σ H, Pv xs.length σ H → D.nx σ H) :
    ∃ W : Nat → Nat → St → Hp → Prop, (∃ m, W 0 m σ H) ∧ ∀ i m σ H, W i m σ H →
      ((Itt K a).stop i H ∧ D.nx σ H) ∨ ((Itt K a).go i H ∧ ∃ N : St → Hp → Prop, (∀ σ' H', N σ' H' → ∃ m', m' < m ∧ W (i + 1) m' σ' H') ∧ ∀ x H', (Itt K a).yld i H x H' → g x σ H' fun σ2 H2 => tb { D with nx := N, ct := N, bk := D.nx } σ2 H2) := by
  refine ⟨fun i m σ H => m = xs.length - i ∧ i ≤ xs.length ∧ Pv i σ H, ⟨xs.length, by simp, Nat.zero_le _, h0⟩, ?_⟩
  rintro i m σ H ⟨rfl, hi, p⟩
  have q := hl i σ H hi p
  by_cases hlt : i < xs.length
  · refine .inr ⟨⟨xs, xs[i], q, by simp [hlt]⟩, Pv (i + 1), fun σ' H' p' => ⟨xs.length - (i + 1), by omega, rfl, hlt, p'⟩, fun x H' y => ?_⟩
    obtain ⟨e, y⟩ := y
    subst e
    exact hs i x σ _ (y xs q) p
  · have e : i = xs.length := by omega
    subst e
    exact .inl ⟨⟨xs, q, Nat.le_refl _⟩, hd σ H p⟩
theorem for_range {lo : Int} {n : Nat} {g : TG} {tb : TS} {D : Ends} {σ : St} {H : Hp} (Pv : Nat → St → Hp → Prop) (h0 : Pv 0 σ H)
    (hs : ∀ i σ H, i < n → Pv i σ H → g (.int (lo + i)) σ H fun σ2 H2 => tb { D with nx := Pv (i + 1), ct := Pv (i + 1), bk := D.nx } σ2 H2) (hd : ∀ σ H, Pv n σ H → D.nx σ H) :
    ∃ W : Nat → Nat → St → Hp → Prop, (∃ m, W 0 m σ H) ∧ ∀ i m σ H, W i m σ H →
      ((Itr lo n).stop i H ∧ D.nx σ H) ∨ ((Itr lo n).go i H ∧ ∃ N : St → Hp → Prop, (∀ σ' H', N σ' H' → ∃ m', m' < m ∧ W (i + 1) m' σ' H') ∧ ∀ x H', (Itr lo n).yld i H x H' → g x σ H' fun σ2 H2 => tb { D with nx := N, ct := N, bk := D.nx } σ2 H2) := by
  refine ⟨fun i m σ H => m = n - i ∧ i ≤ n ∧ Pv i σ H, ⟨n, by simp, Nat.zero_le _, h0⟩, ?_⟩
  rintro i m σ H ⟨rfl, hi, p⟩
  by_cases hlt : i < n
  · refine .inr ⟨hlt, Pv (i + 1), fun σ' H' p' => ⟨n - (i + 1), by omega, rfl, hlt, p'⟩, fun x H' y => ?_⟩
    obtain ⟨e, y⟩ := y
    subst e y
    exact hs i σ _ hlt p
  · have e : i = n := by omega
    subst e
    exact .inl ⟨Nat.le_refl _, hd σ H p⟩
theorem while_by {c : TT} {tb : TS} {D : Ends} {σ : St} {H : Hp} (Pv : St → Hp → Prop) (μ : St → Hp → Nat) (h0 : Pv σ H)
    (hs : ∀ σ H, Pv σ H → c σ H fun b H1 => if b = true then tb { D with nx := fun σ' H' => Pv σ' H' ∧ μ σ' H' < μ σ H, ct := fun σ' H' => Pv σ' H' ∧ μ σ' H' < μ σ H, bk := D.nx } σ H1 else D.nx σ H1)
    (mono : ∀ σ H Q Q', (∀ b H1, Q b H1 → Q' b H1) → c σ H Q → c σ H Q') : tWhile c tb D σ H := by
  refine ⟨fun m σ H => m = μ σ H ∧ Pv σ H, ⟨_, rfl, h0⟩, ?_⟩
  rintro m σ H ⟨rfl, p⟩
  refine mono σ H _ _ (fun b H1 q => ?_) (hs σ H p)
  cases b with
  | true => exact ⟨_, fun σ' H' ⟨p', l⟩ => ⟨_, l, rfl, p'⟩, q⟩
  | false => exact q
end L2
namespace L2
open PySem PySem.Spec PyProof.Rows
abbrev R2 := V → V → Hp → VK → Prop
def OpR (X : Cx) (f : Value → Value → Sem Value) (r : R2) : Prop :=
  ∀ (pins : List (Addr × Obj)) (s : Shared) (σ : St) (H : Hp) (x y : V) (v u : Value) (Q : VK), Inv X pins σ H s → RelV x v → RelV y u → r x y H Q →
    wpAny (model X.prog X.w) X.A (f v u) (EP X pins σ Q) X.xe s
def UnR (X : Cx) (f : Value → Sem Value) (r : V → Hp → VK → Prop) : Prop :=
  ∀ (pins : List (Addr × Obj)) (s : Shared) (σ : St) (H : Hp) (x : V) (v : Value) (Q : VK), Inv X pins σ H s → RelV x v → r x H Q →
    wpAny (model X.prog X.w) X.A (f v) (EP X pins σ Q) X.xe s
def CallR (X : Cx) (f : Value) (r : List V → Hp → VK → Prop) : Prop :=
  ∀ (pins : List (Addr × Obj)) (s : Shared) (σ : St) (H : Hp) (xs : List V) (us : List Value) (Q : VK), Inv X pins σ H s → Vals xs us → r xs H Q →
    wpAny (model X.prog X.w) X.A (call f us) (EP X pins σ Q) X.xe s
def TruR (X : Cx) (r : V → Hp → (Bool → Hp → Prop) → Prop) : Prop :=
  ∀ (pins : List (Addr × Obj)) (s : Shared) (σ : St) (H : Hp) (x : V) (v : Value) (Q : Bool → Hp → Prop), Inv X pins σ H s → RelV x v → r x H Q →
    wpAny (model X.prog X.w) X.A (truthy v) (TP X pins σ Q) X.xe s
def tOp (r : R2) (ta tb : TE) : TE := fun σ H Q => ta σ H fun x H1 => tb σ H1 fun y H2 => r x y H2 Q
def tUn (r : V → Hp → VK → Prop) (ta : TE) : TE := fun σ H Q => ta σ H fun x H1 => r x H1 Q
def rI (C : Int → Int → Prop) (g : Int → Int → V) : R2 := fun x y H Q => ∃ i j, x = .int i ∧ y = .int j ∧ C i j ∧ Q (g i j) H
def rI0 (g : Int → Int → V) : R2 := fun x y H Q => ∃ i j, x = .int i ∧ y = .int j ∧ Q (g i j) H
def rU (g : Int → V) : V → Hp → VK → Prop := fun x H Q => ∃ i, x = .int i ∧ Q (g i) H
section
variable {X : Cx} {a b c : Expr} {ta tb tc : TE} {pos : Pos}
theorem binT (ha : PE X a ta) (hb : PE X b tb) {pins : List (Addr × Obj)} {s : Shared} {σ : St} {H : Hp} {R : V → V → Hp → Prop} (I : Inv X pins σ H s)
    (h : ta σ H fun x H1 => tb σ H1 fun y H2 => R x y H2) {Q : Value → Shared → Prop} {f : Value → Value → Sem Value}
    (hf : ∀ v u s2 x y H2, Inv X pins σ H2 s2 → RelV x v → RelV y u → R x y H2 → wpAny (model X.prog X.w) X.A (f v u) Q X.xe s2) :
    wpAny (model X.prog X.w) X.A (eval a X.env) (fun v s₁ => wpAny (model X.prog X.w) X.A (eval b X.env) (fun u s₂ => wpAny (model X.prog X.w) X.A (f v u) Q X.xe s₂) X.xe s₁) X.xe s := by
  refine thn (ha pins s σ H _ I h) fun v s1 ⟨x, H1, I1, r1, q1⟩ => ?_
  refine thn (hb pins s1 σ H1 _ I1 q1) fun u s2 ⟨y, H2, I2, r2, q2⟩ => ?_
  exact hf v u s2 x y H2 I2 r1 r2 q2
theorem pe_op {op : Operator} {r : R2} (ho : OpR X (binaryOp op) r) (ha : PE X a ta) (hb : PE X b tb) : PE X (.BinOp a op b pos) (tOp r ta tb) := by
  intro pins s σ H Q I h
  exact wpAny_BinOp (binT ha hb I h fun v u s2 x y H2 I2 rx ry q => ho pins s2 σ H2 x y v u Q I2 rx ry q)
theorem pe_un {op : UnaryOp} {r : V → Hp → VK → Prop} (ho : UnR X (unaryOp op) r) (ha : PE X a ta) : PE X (.UnaryOp op a pos) (tUn r ta) := by
  intro pins s σ H Q I h
  exact UnaryOp_ (thn (ha pins s σ H _ I h) fun v s1 ⟨x, H1, I1, r1, q1⟩ => ho pins s1 σ H1 x v Q I1 r1 q1)
theorem augR {op : Operator} {r : R2} (ho : OpR X (inplaceOp op) r) {pins : List (Addr × Obj)} {s : Shared} {σ : St} {H : Hp} {x y : V} {v u : Value} {Q : VK} (I : Inv X pins σ H s)
    (rx : RelV x v) (ry : RelV y u) (q : r x y H Q) : wpAny (model X.prog X.w) X.A (inplaceOp op v u) (EP X pins σ Q) X.xe s := ho pins s σ H x y v u Q I rx ry q
/-! ### ints -/
theorem opI {f : Value → Value → Sem Value} {C : Int → Int → Prop} {g : Int → Int → Int}
    (rule : ∀ (i j : Int) (t u : Tok) (s : Shared) (Q : Value → Shared → Prop) (E : Value → Shared → Prop), C i j → Q (.int (g i j) s.toks) { s with toks := s.toks + 1 } → wpAny (model X.prog X.w) X.A (f (.int i t) (.int j u)) Q E s) :
    OpR X f (rI C fun i j => .int (g i j)) := by
  intro pins s σ H x y v u Q I rx ry h
  obtain ⟨i, j, rfl, rfl, hc, q⟩ := h
  obtain ⟨t, rfl⟩ := rx
  obtain ⟨t', rfl⟩ := ry
  exact rule i j t t' s _ _ hc ⟨.int (g i j), H, I.tok _, ⟨_, rfl⟩, q⟩
theorem opI0 {f : Value → Value → Sem Value} {g : Int → Int → Int}
    (rule : ∀ (i j : Int) (t u : Tok) (s : Shared) (Q : Value → Shared → Prop) (E : Value → Shared → Prop), Q (.int (g i j) s.toks) { s with toks := s.toks + 1 } → wpAny (model X.prog X.w) X.A (f (.int i t) (.int j u)) Q E s) :
    OpR X f (rI0 fun i j => .int (g i j)) := by
  intro pins s σ H x y v u Q I rx ry h
  obtain ⟨i, j, rfl, rfl, q⟩ := h
  obtain ⟨t, rfl⟩ := rx
  obtain ⟨t', rfl⟩ := ry
  exact rule i j t t' s _ _ ⟨.int (g i j), H, I.tok _, ⟨_, rfl⟩, q⟩
theorem opB0 {f : Value → Value → Sem Value} {g : Int → Int → Bool}
    (rule : ∀ (i j : Int) (t u : Tok) (s : Shared) (Q : Value → Shared → Prop) (E : Value → Shared → Prop), Q (.bool (g i j)) s → wpAny (model X.prog X.w) X.A (f (.int i t) (.int j u)) Q E s) :
    OpR X f (rI0 fun i j => .bl (g i j)) := by
  intro pins s σ H x y v u Q I rx ry h
  obtain ⟨i, j, rfl, rfl, q⟩ := h
  obtain ⟨t, rfl⟩ := rx
  obtain ⟨t', rfl⟩ := ry
  exact rule i j t t' s _ _ ⟨.bl (g i j), H, I, rfl, q⟩
def CDiv (i j : Int) : Prop := 0 < j ∧ j < 1073741824
def CDivN (i j : Int) : Prop := j ≠ 0 ∧ j.natAbs < 1073741824
def CPow (i j : Int) : Prop := 0 ≤ j ∧ j ≤ 1000000 ∧ i.natAbs < 2 ^ 64
def CMul (i j : Int) : Prop := (-(2 ^ 64) < i ∧ i < 2 ^ 64) ∨ (-(2 ^ 64) < j ∧ j < 2 ^ 64)
theorem CMul.ok {i j : Int} (h : CMul i j) : IntMulOk i j := by
  rcases h with ⟨h1, h2⟩ | ⟨h1, h2⟩
  · exact .of_left (intBits_le_64 h1 h2)
  · exact .of_right (intBits_le_64 h1 h2)
theorem two_pow_nn (k : Nat) : (0 : Int) ≤ 2 ^ k := by
  rw [two_pow_cast]
  exact Int.natCast_nonneg _
theorem op_add : OpR X (binaryOp .Add) (rI0 fun i j => .int (i + j)) := opI0 fun _ _ _ _ _ _ _ q => add_int q
theorem op_sub : OpR X (binaryOp .Sub) (rI0 fun i j => .int (i - j)) := opI0 fun _ _ _ _ _ _ _ q => sub_int q
theorem op_mul : OpR X (binaryOp .Mult) (rI CMul fun i j => .int (i * j)) := opI fun _ _ _ _ _ _ _ hc q => mul_int q hc.ok
theorem op_fdiv : OpR X (binaryOp .FloorDiv) (rI CDiv fun i j => .int (i / j)) := opI fun i j _ _ _ _ _ hc q => by
  have h1 : (0 : Int) < j := hc.1
  have h2 : j < 1073741824 := hc.2
  exact floordiv_int (by omega) (by rw [Int.fdiv_eq_ediv_of_nonneg i (by omega)]; exact q) (.inl (PyProof.noPylong_small (by omega)))
theorem op_fdivN : OpR X (binaryOp .FloorDiv) (rI CDivN fun i j => .int (i.fdiv j)) := opI fun _ _ _ _ _ _ _ hc q => floordiv_int hc.1 q (.inl (PyProof.noPylong_small hc.2))
theorem op_mod : OpR X (binaryOp .Mod) (rI (fun _ j => 0 < j) fun i j => .int (i % j)) := opI fun i j _ _ _ _ _ hc q => by
  have h1 : (0 : Int) < j := hc
  exact mod_int' (by omega) (by rw [Int.fmod_eq_emod_of_nonneg i (by omega)]; exact q)
theorem op_modN : OpR X (binaryOp .Mod) (rI (fun _ j => j ≠ 0) fun i j => .int (i.fmod j)) := opI fun _ _ _ _ _ _ _ hc q => mod_int' hc q
theorem op_pow : OpR X (binaryOp .Pow) (rI CPow fun i j => .int (i ^ j.toNat)) := opI fun _ _ _ _ _ _ _ hc q => pow_int_small hc.1 hc.2.1 hc.2.2 q
theorem op_shl : OpR X (binaryOp .LShift) (rI CPow fun i j => .int (i * 2 ^ j.toNat)) := opI fun _ _ _ _ _ _ _ hc q => lshift_int_small hc.1 hc.2.1 hc.2.2 q
theorem op_shr : OpR X (binaryOp .RShift) (rI (fun _ j => 0 ≤ j) fun i j => .int (i / 2 ^ j.toNat)) := opI fun i j _ _ _ _ _ hc q =>
  rshift_int hc (by rw [Int.fdiv_eq_ediv_of_nonneg i (two_pow_nn _)]; exact q)
theorem op_and : OpR X (binaryOp .BitAnd) (rI0 fun i j => .int (Builtin.bitAnd i j)) := opI0 fun _ _ _ _ _ _ _ q => and_int q
theorem op_or : OpR X (binaryOp .BitOr) (rI0 fun i j => .int (Builtin.bitOr i j)) := opI0 fun _ _ _ _ _ _ _ q => or_int q
theorem op_xor : OpR X (binaryOp .BitXor) (rI0 fun i j => .int (Builtin.bitXor i j)) := opI0 fun _ _ _ _ _ _ _ q => xor_int q
theorem iop_add : OpR X (inplaceOp .Add) (rI0 fun i j => .int (i + j)) := opI0 fun _ _ _ _ _ _ _ q => iadd_int q
theorem iop_sub : OpR X (inplaceOp .Sub) (rI0 fun i j => .int (i - j)) := opI0 fun _ _ _ _ _ _ _ q => isub_int q
theorem iop_mul : OpR X (inplaceOp .Mult) (rI CMul fun i j => .int (i * j)) := opI fun _ _ _ _ _ _ _ hc q => imul_int q hc.ok
theorem iop_fdiv : OpR X (inplaceOp .FloorDiv) (rI CDiv fun i j => .int (i / j)) := opI fun i j _ _ _ _ _ hc q => by
  have h1 : (0 : Int) < j := hc.1
  have h2 : j < 1073741824 := hc.2
  exact ifloordiv_int (by omega) (by rw [Int.fdiv_eq_ediv_of_nonneg i (by omega)]; exact q) (.inl (PyProof.noPylong_small (by omega)))
theorem iop_mod : OpR X (inplaceOp .Mod) (rI (fun _ j => 0 < j) fun i j => .int (i % j)) := opI fun i j _ _ _ _ _ hc q => by
  have h1 : (0 : Int) < j := hc
  exact imod_int (by omega) (by rw [Int.fmod_eq_emod_of_nonneg i (by omega)]; exact q)
theorem iop_shl : OpR X (inplaceOp .LShift) (rI CPow fun i j => .int (i * 2 ^ j.toNat)) := opI fun _ _ _ _ _ _ _ hc q => ilshift_int_small hc.1 hc.2.1 hc.2.2 q
theorem iop_shr : OpR X (inplaceOp .RShift) (rI (fun _ j => 0 ≤ j) fun i j => .int (i / 2 ^ j.toNat)) := opI fun i j _ _ _ _ _ hc q =>
  irshift_int hc (by rw [Int.fdiv_eq_ediv_of_nonneg i (two_pow_nn _)]; exact q)
theorem iop_and : OpR X (inplaceOp .BitAnd) (rI0 fun i j => .int (Builtin.bitAnd i j)) := opI0 fun _ _ _ _ _ _ _ q => iand_int q
theorem iop_or : OpR X (inplaceOp .BitOr) (rI0 fun i j => .int (Builtin.bitOr i j)) := opI0 fun _ _ _ _ _ _ _ q => ior_int q
theorem iop_xor : OpR X (inplaceOp .BitXor) (rI0 fun i j => .int (Builtin.bitXor i j)) := opI0 fun _ _ _ _ _ _ _ q => ixor_int q
theorem unI {f : Value → Sem Value} {g : Int → Int}
    (rule : ∀ (i : Int) (t : Tok) (s : Shared) (Q : Value → Shared → Prop) (E : Value → Shared → Prop), Q (.int (g i) s.toks) { s with toks := s.toks + 1 } → wpAny (model X.prog X.w) X.A (f (.int i t)) Q E s) :
    UnR X f (rU fun i => .int (g i)) := by
  intro pins s σ H x v Q I rx h
  obtain ⟨i, rfl, q⟩ := h
  obtain ⟨t, rfl⟩ := rx
  exact rule i t s _ _ ⟨.int (g i), H, I.tok _, ⟨_, rfl⟩, q⟩
theorem un_neg : UnR X (unaryOp .USub) (rU fun i => .int (-i)) := unI fun _ _ _ _ _ q => neg_int q
theorem un_inv : UnR X (unaryOp .Invert) (rU fun i => .int (Builtin.bitNot i)) := unI fun _ _ _ _ _ q => invert_int q
/-! ### bools among ints: n += (a < b) -/
theorem op_add_ib : OpR X (binaryOp .Add) (fun x y H Q => ∃ i k, x = .int i ∧ y = .bl k ∧ Q (.int (i + b2i k)) H) := by
  intro pins s σ H x y v u Q I rx ry h
  obtain ⟨i, k, rfl, rfl, q⟩ := h
  obtain ⟨t, rfl⟩ := rx
  cases ry
  exact add_int_bool ⟨.int (i + b2i k), H, I.tok _, ⟨_, rfl⟩, q⟩
end
/-! ### comparisons -/
def scal : V → V → Bool
  | .non, .non => true | .non, .int _ => true | .int _, .non => true | .non, .bl _ => true | .bl _, .non => true | .non, .str _ => true | .str _, .non => true
  | .int _, .int _ => true | .bl _, .bl _ => true | .str _, .str _ => true | .byt _, .byt _ => true
  | .int _, .str _ => true | .str _, .int _ => true | .bl _, .str _ => true | .str _, .bl _ => true
  | _, _ => false
def rEq : R2 := fun x y H Q => scal x y = true ∧ Q (.bl (decide (x = y))) H
def rNe : R2 := fun x y H Q => scal x y = true ∧ Q (.bl (!decide (x = y))) H
theorem dec_int {i j : Int} : decide (V.int i = V.int j) = (i == j) := by
  rw [Bool.eq_iff_iff]
  simp
theorem dec_bl {i j : Bool} : decide (V.bl i = V.bl j) = (i == j) := by
  rw [Bool.eq_iff_iff]
  simp
theorem dec_str {i j : Str} : decide (V.str i = V.str j) = (i == j) := by
  rw [Bool.eq_iff_iff]
  simp
theorem dec_byt {i j : Array UInt8} : decide (V.byt i = V.byt j) = (i.toList == j.toList) := by
  rw [Bool.eq_iff_iff]
  cases i
  cases j
  simp
section
variable {X : Cx} {a b c : Expr} {ta tb tc : TE} {pos : Pos}
theorem fin_bl {pins : List (Addr × Obj)} {σ : St} {H : Hp} {s : Shared} {Q : VK} {k k' : Bool} (I : Inv X pins σ H s) (q : Q (.bl k) H) (e : k = k') : EP X pins σ Q (.bool k') s := by
  subst e
  exact ⟨.bl k, H, I, rfl, q⟩
theorem op_eq : OpR X (compareOp .Eq) rEq := by
  intro pins s σ H x y v u Q I rx ry h
  obtain ⟨hs, q⟩ := h
  cases x with
  | non =>
    cases rx
    cases y with
    | non => cases ry; exact PySem.EqNone.eq_none_none (fin_bl I q (by simp))
    | bl j => cases ry; exact PySem.EqNone.eq_none_bool (fin_bl I q (by simp))
    | int j => obtain ⟨t', rfl⟩ := ry; exact PySem.EqNone.eq_none_int (fin_bl I q (by simp))
    | str j => obtain ⟨t', rfl⟩ := ry; exact PySem.EqNone.eq_none_str (fin_bl I q (by simp))
    | _ => exact absurd (show false = true from hs) Bool.false_ne_true
  | bl i =>
    cases rx
    cases y with
    | non => cases ry; exact PySem.EqNone.eq_bool_none (fin_bl I q (by simp))
    | bl j => cases ry; exact eq_bool (fin_bl I q dec_bl)
    | str j => obtain ⟨t', rfl⟩ := ry; exact PySem.EqMixed.eq_bool_str (fin_bl I q (by simp))
    | _ => exact absurd (show false = true from hs) Bool.false_ne_true
  | int i =>
    obtain ⟨t, rfl⟩ := rx
    cases y with
    | non => cases ry; exact PySem.EqNone.eq_int_none (fin_bl I q (by simp))
    | int j => obtain ⟨t', rfl⟩ := ry; exact eq_int (fin_bl I q dec_int)
    | str j => obtain ⟨t', rfl⟩ := ry; exact PySem.EqMixed.eq_int_str (fin_bl I q (by simp))
    | _ => exact absurd (show false = true from hs) Bool.false_ne_true
  | str i =>
    obtain ⟨t, rfl⟩ := rx
    cases y with
    | non => cases ry; exact PySem.EqNone.eq_str_none (fin_bl I q (by simp))
    | bl j => cases ry; exact PySem.EqMixed.eq_str_bool (fin_bl I q (by simp))
    | int j => obtain ⟨t', rfl⟩ := ry; exact PySem.EqMixed.eq_str_int (fin_bl I q (by simp))
    | str j => obtain ⟨t', rfl⟩ := ry; exact eq_str (fin_bl I q dec_str)
    | _ => exact absurd (show false = true from hs) Bool.false_ne_true
  | byt i =>
    obtain ⟨t, rfl⟩ := rx
    cases y with
    | byt j => obtain ⟨t', rfl⟩ := ry; exact PySem.W.eq_bytes (fin_bl I q dec_byt)
    | _ => exact absurd (show false = true from hs) Bool.false_ne_true
  | _ => cases y <;> exact absurd (show false = true from hs) Bool.false_ne_true
theorem op_ne : OpR X (compareOp .NotEq) rNe := by
  intro pins s σ H x y v u Q I rx ry h
  obtain ⟨hs, q⟩ := h
  cases x with
  | non =>
    cases rx
    cases y with
    | non => cases ry; exact PySem.EqNone.ne_none_none (fin_bl I q (by simp))
    | bl j => cases ry; exact PySem.EqNone.ne_none_bool (fin_bl I q (by simp))
    | int j => obtain ⟨t', rfl⟩ := ry; exact PySem.EqNone.ne_none_int (fin_bl I q (by simp))
    | str j => obtain ⟨t', rfl⟩ := ry; exact PySem.EqNone.ne_none_str (fin_bl I q (by simp))
    | _ => exact absurd (show false = true from hs) Bool.false_ne_true
  | bl i =>
    cases rx
    cases y with
    | non => cases ry; exact PySem.EqNone.ne_bool_none (fin_bl I q (by simp))
    | bl j => cases ry; exact ne_bool (fin_bl I q (congrArg not dec_bl))
    | str j => obtain ⟨t', rfl⟩ := ry; exact PySem.EqMixed.ne_bool_str (fin_bl I q (by simp))
    | _ => exact absurd (show false = true from hs) Bool.false_ne_true
  | int i =>
    obtain ⟨t, rfl⟩ := rx
    cases y with
    | non => cases ry; exact PySem.EqNone.ne_int_none (fin_bl I q (by simp))
    | int j => obtain ⟨t', rfl⟩ := ry; exact ne_int (fin_bl I q (congrArg not dec_int))
    | str j => obtain ⟨t', rfl⟩ := ry; exact PySem.EqMixed.ne_int_str (fin_bl I q (by simp))
    | _ => exact absurd (show false = true from hs) Bool.false_ne_true
  | str i =>
    obtain ⟨t, rfl⟩ := rx
    cases y with
    | non => cases ry; exact PySem.EqNone.ne_str_none (fin_bl I q (by simp))
    | bl j => cases ry; exact PySem.EqMixed.ne_str_bool (fin_bl I q (by simp))
    | int j => obtain ⟨t', rfl⟩ := ry; exact PySem.EqMixed.ne_str_int (fin_bl I q (by simp))
    | str j => obtain ⟨t', rfl⟩ := ry; exact ne_str (fin_bl I q (congrArg not dec_str))
    | _ => exact absurd (show false = true from hs) Bool.false_ne_true
  | byt i =>
    obtain ⟨t, rfl⟩ := rx
    cases y with
    | byt j => obtain ⟨t', rfl⟩ := ry; exact PySem.W.ne_bytes (fin_bl I q (congrArg not dec_byt))
    | _ => exact absurd (show false = true from hs) Bool.false_ne_true
  | _ => cases y <;> exact absurd (show false = true from hs) Bool.false_ne_true
theorem op_lt : OpR X (compareOp .Lt) (rI0 fun i j => .bl (decide (i < j))) := opB0 fun _ _ _ _ _ _ _ q => lt_int q
theorem op_le : OpR X (compareOp .LtE) (rI0 fun i j => .bl (decide (i ≤ j))) := opB0 fun _ _ _ _ _ _ _ q => le_int q
theorem op_gt : OpR X (compareOp .Gt) (rI0 fun i j => .bl (decide (j < i))) := opB0 fun _ _ _ _ _ _ _ q => gt_int q
theorem op_ge : OpR X (compareOp .GtE) (rI0 fun i j => .bl (decide (j ≤ i))) := opB0 fun _ _ _ _ _ _ _ q => ge_int q
theorem op_lt_str : OpR X (compareOp .Lt) (fun x y H Q => ∃ i j, x = .str i ∧ y = .str j ∧ Q (.bl (decide (i.cps.toList < j.cps.toList))) H) := by
  intro pins s σ H x y v u Q I rx ry h
  obtain ⟨i, j, rfl, rfl, q⟩ := h
  obtain ⟨t, rfl⟩ := rx
  obtain ⟨t', rfl⟩ := ry
  exact lt_str (fin_bl I q rfl)
theorem op_in_str : OpR X (compareOp .In) (fun x y H Q => ∃ i j, x = .str i ∧ y = .str j ∧ Q (.bl (!(Builtin.Str.occurrences j i 0 j.length 1).isEmpty)) H) := by
  intro pins s σ H x y v u Q I rx ry h
  obtain ⟨i, j, rfl, rfl, q⟩ := h
  obtain ⟨t, rfl⟩ := rx
  obtain ⟨t', rfl⟩ := ry
  exact in_str (fin_bl I q rfl)
theorem op_isN : OpR X (compareOp .Is) (fun x y H Q => y = .non ∧ Q (.bl (decide (x = .non))) H) := by
  intro pins s σ H x y v u Q I rx ry h
  obtain ⟨rfl, q⟩ := h
  cases ry
  refine is_none_gen (fin_bl I q ?_)
  cases x <;> first
    | (cases rx; rfl)
    | (obtain ⟨t, rfl⟩ := rx; rfl)
theorem op_notN : OpR X (compareOp .IsNot) (fun x y H Q => y = .non ∧ Q (.bl (!decide (x = .non))) H) := by
  intro pins s σ H x y v u Q I rx ry h
  obtain ⟨rfl, q⟩ := h
  cases ry
  refine isnot_none_gen (fin_bl I q ?_)
  cases x <;> first
    | (cases rx; rfl)
    | (obtain ⟨t, rfl⟩ := rx; rfl)
theorem op_notin_str : OpR X (compareOp .NotIn) (fun x y H Q => ∃ i j, x = .str i ∧ y = .str j ∧ Q (.bl (!(!(Builtin.Str.occurrences j i 0 j.length 1).isEmpty))) H) := by
  intro pins s σ H x y v u Q I rx ry h
  obtain ⟨i, j, rfl, rfl, q⟩ := h
  obtain ⟨t, rfl⟩ := rx
  obtain ⟨t', rfl⟩ := ry
  exact notIn_str (fin_bl I q rfl)
def isObj : HO → Bool
  | .lst _ => true
  | .ins _ _ _ => true
  | _ => false
theorem obj_there {pins : List (Addr × Obj)} {s : Shared} {σ : St} {H : Hp} {a : Addr} {o : HO} (I : Inv X pins σ H s) (h : H a = some o) (p : isObj o = true) : ∃ ob, s.heap.get? a = some ob ∧ ob.cls ≠ .type "tuple" := by
  cases o with
  | lst xs =>
    obtain ⟨_, its, n, _, e⟩ : xs.length ≤ sizeLine ∧ ∃ (its : List Value) (n : Nat), Vals xs its ∧ s.heap.get? a = some { cls := .type "list", data := .seq its.toArray n } := I.hok a _ h
    exact ⟨_, e, (by show Value.type "list" ≠ .type "tuple"; decide +kernel)⟩
  | ins C dx fs =>
    have x := I.hok a _ h
    obtain ⟨_, _, _, e, _⟩ := x
    exact ⟨_, e, (by show Value.ref C ≠ .type "tuple"; exact fun z => by cases z)⟩
  | _ => exact absurd (show false = true from p) Bool.false_ne_true
theorem op_is_ref : OpR X (compareOp .Is) (fun x y H Q => ∃ a b oa ob, x = .ref a ∧ y = .ref b ∧ H a = some oa ∧ isObj oa = true ∧ H b = some ob ∧ isObj ob = true ∧ Q (.bl (decide (a = b))) H) := by
  intro pins s σ H x y v u Q I rx ry h
  obtain ⟨a, b, oa, ob, rfl, rfl, ha, pa, hb, pb, q⟩ := h
  cases rx
  cases ry
  obtain ⟨o1, e1, n1⟩ := obj_there I ha pa
  obtain ⟨o2, e2, _⟩ := obj_there I hb pb
  by_cases z : a = b
  · subst z
    exact wpAny_is_ref_self (fin_bl I q (by simp))
  · exact wpAny_is_ref_other z e1 e2 n1 (fin_bl I q (by simp [z]))
theorem op_isnot_ref : OpR X (compareOp .IsNot) (fun x y H Q => ∃ a b oa ob, x = .ref a ∧ y = .ref b ∧ H a = some oa ∧ isObj oa = true ∧ H b = some ob ∧ isObj ob = true ∧ Q (.bl (!decide (a = b))) H) := by
  intro pins s σ H x y v u Q I rx ry h
  obtain ⟨a, b, oa, ob, rfl, rfl, ha, pa, hb, pb, q⟩ := h
  cases rx
  cases ry
  obtain ⟨o1, e1, n1⟩ := obj_there I ha pa
  obtain ⟨o2, e2, _⟩ := obj_there I hb pb
  by_cases z : a = b
  · subst z
    exact wpAny_isNot_ref_self (fin_bl I q (by simp))
  · exact wpAny_isNot_ref_other z e1 e2 n1 (fin_bl I q (by simp [z]))
theorem OpR.or {f : Value → Value → Sem Value} {r r' : R2} (h : OpR X f r) (h' : OpR X f r') : OpR X f (fun x y H Q => r x y H Q ∨ r' x y H Q) := by
  intro pins s σ H x y v u Q I rx ry q
  rcases q with q | q
  · exact h pins s σ H x y v u Q I rx ry q
  · exact h' pins s σ H x y v u Q I rx ry q
theorem nomark (b : Expr) {op : CmpOp} (h : op ≠ .In := by decide) (h2 : op ≠ .NotIn := by decide) : behindInMarks op b = false := by
  have e1 : (op == CmpOp.In) = false := by cases op <;> first | rfl | exact absurd rfl h
  have e2 : (op == CmpOp.NotIn) = false := by cases op <;> first | rfl | exact absurd rfl h2
  cases b <;> simp [behindInMarks, e1, e2]
theorem pe_cmpR {op : CmpOp} {r : R2} (ho : OpR X (compareOp op) r) (ha : PE X a ta) (hb : PE X b tb) (hm : behindInMarks op b = false) : PE X (.Compare a [op] [b] pos) (tOp r ta tb) := by
  intro pins s σ H Q I h
  exact wpAny_Compare1 (binT ha hb I h fun v u s2 x y H2 I2 rx ry q => ho pins s2 σ H2 x y v u Q I2 rx ry q) hm
def tTest (t : TE) : TT := fun σ H Q => t σ H fun x H' => ∃ k, x = .bl k ∧ Q k H'
theorem pt_cmpR {op : CmpOp} {r : R2} (ho : OpR X (compareOp op) r) (ha : PE X a ta) (hb : PE X b tb) (hm : behindInMarks op b = false) : PT X (.Compare a [op] [b] pos) (tTest (tOp r ta tb)) := by
  intro pins s σ H Q I h
  refine wpAny_isTrue_Compare1 (thn (ha pins s σ H _ I h) fun v s1 ⟨x, H1, I1, r1, q1⟩ => thn (hb pins s1 σ H1 _ I1 q1) fun u s2 ⟨y, H2, I2, r2, q2⟩ =>
    thn (ho pins s2 σ H2 x y v u _ I2 r1 r2 q2) fun c s3 ⟨z, H3, I3, r3, k, e, q3⟩ => ?_) hm
  subst e
  cases r3
  exact wpAny_truthy_bool ⟨H3, I3, q3⟩
def tChain (r r' : R2) (ta tb tc : TE) : TE := fun σ H Q => ta σ H fun x H1 => tb σ H1 fun y H2 => r x y H2 fun z H3 => ∃ k, z = .bl k ∧
  (if k = true then tc σ H3 fun w' H4 => r' y w' H4 Q else Q (.bl false) H3)
theorem pe_chain {op op' : CmpOp} {r r' : R2} (ho : OpR X (compareOp op) r) (ho' : OpR X (compareOp op') r') (ha : PE X a ta) (hb : PE X b tb) (hc : PE X c tc)
    (hm : lastMarks [op, op'] [b, c] = false := by with_unfolding_all rfl) : PE X (.Compare a [op, op'] [b, c] pos) (tChain r r' ta tb tc) := by
  intro pins s σ H Q I h
  refine Compare_chain (thn (ha pins s σ H _ I h) fun v s1 ⟨x, H1, I1, r1, q1⟩ => chain_link (thn (hb pins s1 σ H1 _ I1 q1) fun u s2 ⟨y, H2, I2, r2, q2⟩ =>
    thn (ho pins s2 σ H2 x y v u _ I2 r1 r2 q2) fun d s3 ⟨z, H3, I3, r3, k, e, q3⟩ => ?_)) hm
  subst e
  cases r3
  refine wpAny_truthy_bool ?_
  cases k with
  | false => exact ite_ff ⟨.bl false, H3, I3, rfl, q3⟩
  | true => exact ite_tt (chain_last (thn (hc pins s3 σ H3 _ I3 q3) fun w' s4 ⟨z', H4, I4, r4, q4⟩ => ho' pins s4 σ H4 y z' u w' Q I4 r2 r4 q4))
theorem pt_chain {op op' : CmpOp} {r r' : R2} (ho : OpR X (compareOp op) r) (ho' : OpR X (compareOp op') r') (ha : PE X a ta) (hb : PE X b tb) (hc : PE X c tc)
    (hm : lastMarks [op, op'] [b, c] = false := by with_unfolding_all rfl) : PT X (.Compare a [op, op'] [b, c] pos) (tTest (tChain r r' ta tb tc)) := by
  intro pins s σ H Q I h
  refine isTrue_chain (thn (ha pins s σ H _ I h) fun v s1 ⟨x, H1, I1, r1, q1⟩ => test_link (thn (hb pins s1 σ H1 _ I1 q1) fun u s2 ⟨y, H2, I2, r2, q2⟩ =>
    thn (ho pins s2 σ H2 x y v u _ I2 r1 r2 q2) fun d s3 ⟨z, H3, I3, r3, k, e, q3⟩ => ?_)) hm
  subst e
  cases r3
  refine wpAny_truthy_bool ?_
  cases k with
  | false =>
    obtain ⟨k', e', q'⟩ := q3
    cases e'
    exact ite_ff ⟨H3, I3, q'⟩
  | true =>
    refine ite_tt (test_last (thn (hc pins s3 σ H3 _ I3 q3) fun w' s4 ⟨z', H4, I4, r4, q4⟩ => thn (ho' pins s4 σ H4 y z' u w' _ I4 r2 r4 q4) fun d' s5 ⟨z2, H5, I5, r5, k2, e2, q5⟩ => ?_))
    subst e2
    cases r5
    exact wpAny_truthy_bool ⟨H5, I5, q5⟩
/-! ### truth -/
def TruV (K : PySem.W.Frag) (x : V) (H : Hp) (k : Bool) : Prop :=
  match x with
  | .non => k = false
  | .bl b => k = b
  | .int i => k = (i != 0)
  | .str y => y.length ≤ sizeLine ∧ k = ((y.length : Int) != 0)
  | .byt y => y.size ≤ sizeLine ∧ k = ((y.size : Int) != 0)
  | .ref p => (∃ xs, SqL K H p xs ∧ k = !xs.isEmpty) ∨ (∃ xs, SqT K H p xs ∧ k = !xs.isEmpty) ∨ ∃ kvs, H p = some (.dK kvs) ∧ k = !kvs.isEmpty
  | _ => False
theorem isEmpty_kv {κ : Type} {kvs : List (κ × V)} {vs : List (κ × Value)} (r : KV kvs vs) : (!vs.isEmpty) = !kvs.isEmpty := by
  cases r <;> rfl
theorem isEmpty_of {xs : List V} {its : List Value} (r : Vals xs its) : (!its.toArray.isEmpty) = !xs.isEmpty := by
  cases r <;> simp
theorem line63 : (sizeLine : Nat) < 2 ^ 63 := by rw [sizeLine_eq]; decide
theorem tru_ok : TruR X (fun x H Q => ∃ k, TruV X.K x H k ∧ Q k H) := by
  intro pins s σ H x v Q I rx h
  obtain ⟨k, e, q⟩ := h
  have hl := line63
  have hs : sizeLine = 16777216 := sizeLine_eq
  cases x with
  | non =>
    cases rx
    have e' : k = false := e
    subst e'
    exact truthy_none ⟨H, I, q⟩
  | bl b =>
    cases rx
    have e' : k = b := e
    subst e'
    exact wpAny_truthy_bool ⟨H, I, q⟩
  | int i =>
    obtain ⟨t, rfl⟩ := rx
    have e' : k = (i != 0) := e
    subst e'
    exact PySem.P.truthy_int ⟨H, I, q⟩
  | str y =>
    obtain ⟨t, rfl⟩ := rx
    obtain ⟨hy, e'⟩ : y.length ≤ sizeLine ∧ k = ((y.length : Int) != 0) := e
    subst e'
    exact PySem.P.truthy_str (by omega) ⟨H, I.tok _, q⟩
  | byt y =>
    obtain ⟨t, rfl⟩ := rx
    obtain ⟨hy, e'⟩ : y.size ≤ sizeLine ∧ k = ((y.size : Int) != 0) := e
    subst e'
    exact PySem.W.truthy_bytes (by omega) ⟨H, I.tok _, q⟩
  | ref p =>
    cases rx
    have e' : (∃ xs, SqL X.K H p xs ∧ k = !xs.isEmpty) ∨ (∃ xs, SqT X.K H p xs ∧ k = !xs.isEmpty) ∨ ∃ kvs, H p = some (.dK kvs) ∧ k = !kvs.isEmpty := e
    rcases e' with ⟨xs, hx, e'⟩ | ⟨xs, hx, e'⟩ | ⟨kvs, hx, e'⟩
    · subst e'
      obtain ⟨its, r, pl, hz⟩ := I.list hx
      have hlen := r.length
      exact wpAny_truthy_list pl.isList (by simp only [List.size_toArray]; omega) ⟨H, I.tok _, by rw [isEmpty_of r]; exact q⟩
    · subst e'
      obtain ⟨its, r, pl, hz⟩ := I.tuple hx
      have hlen := r.length
      exact truthy_tuple pl (by simp only [List.size_toArray]; omega) ⟨H, I.tok _, by rw [isEmpty_of r]; exact q⟩
    · subst e'
      obtain ⟨hz, hS, vs, r, m⟩ : kvs.length ≤ sizeLine ∧ (p == sysModules) = false ∧ ∃ vs, KV kvs vs ∧ s.heap.DictOf (mixKind X.prog X.w) p vs := I.hok p _ hx
      have hlen : kvs.length = vs.length := Paired.length r
      exact wpAny_truthy_dict hS m (by omega) ⟨H, I.tok _, by rw [isEmpty_kv r]; exact q⟩
  | _ => exact (show False from e).elim
theorem pt_truth (ha : PE X a ta) (he : ∀ whole, isTrue a X.env whole = (do let v ← whole; standAt a.pos; holding [v] (truthy v))) :
    PT X a (fun σ H Q => ta σ H fun x H' => ∃ k, TruV X.K x H' k ∧ Q k H') := by
  intro pins s σ H Q I h
  exact isTrue_plain (thn (ha pins s σ H _ I h) fun v s1 ⟨x, H1, I1, r1, q1⟩ => tru_ok pins s1 σ H1 x v Q I1 r1 q1) (he _)
/-! ### strs and bytes -/
theorem pe_byt {x : List UInt8} {k : Nat} : PE X (.Constant (.bytes x) k pos) (fun _ H Q => Q (.byt x.toArray) H) := fun _ _ _ H _ I h => PySem.W.Constant_bytes ⟨.byt x.toArray, H, I.tok _, ⟨_, rfl⟩, h⟩
theorem op_add_str : OpR X (binaryOp .Add) (fun x y H Q => ∃ i j, x = .str i ∧ y = .str j ∧ i.length + j.length ≤ sizeLine ∧ Q (.str (i ++ j)) H) := by
  intro pins s σ H x y v u Q I rx ry h
  obtain ⟨i, j, rfl, rfl, hz, q⟩ := h
  obtain ⟨t, rfl⟩ := rx
  obtain ⟨t', rfl⟩ := ry
  exact add_str (fun t' tk => ⟨.str (i ++ j), H, I.tok _, ⟨_, rfl⟩, q⟩) hz
theorem iop_add_str : OpR X (inplaceOp .Add) (fun x y H Q => ∃ i j, x = .str i ∧ y = .str j ∧ i.length + j.length ≤ sizeLine ∧ Q (.str (i ++ j)) H) := by
  intro pins s σ H x y v u Q I rx ry h
  obtain ⟨i, j, rfl, rfl, hz, q⟩ := h
  obtain ⟨t, rfl⟩ := rx
  obtain ⟨t', rfl⟩ := ry
  exact iadd_str (fun t' tk => ⟨.str (i ++ j), H, I.tok _, ⟨_, rfl⟩, q⟩) hz
theorem op_add_byt : OpR X (binaryOp .Add) (fun x y H Q => ∃ i j, x = .byt i ∧ y = .byt j ∧ i.size + j.size ≤ 16777216 ∧ Q (.byt (i ++ j)) H) := by
  intro pins s σ H x y v u Q I rx ry h
  obtain ⟨i, j, rfl, rfl, hz, q⟩ := h
  obtain ⟨t, rfl⟩ := rx
  obtain ⟨t', rfl⟩ := ry
  exact PySem.W.KBy.add_bytes hz (fun t' tk => ⟨.byt (i ++ j), H, I.tok _, ⟨_, rfl⟩, q⟩)
def PlainIxT (b : Expr) : Prop := ∀ o i, subscripted b false o i = operate [o, i] (getItem o i)
theorem pe_item_str (ha : PE X a ta) (hb : PE X b tb) (hs : PlainIxT b) :
    PE X (.Subscript a b pos) (tOp (fun x y H Q => ∃ z i c, x = .str z ∧ y = .int i ∧ 0 ≤ i ∧ i < 2 ^ 63 ∧ i < z.length ∧ z.cps[i.toNat]? = some c ∧ Q (.str ⟨#[c]⟩) H) ta tb) := by
  intro pins s σ H Q I h
  refine Subscript_ (binT ha hb I h fun v u s2 x y H2 I2 rx ry q => ?_)
  obtain ⟨z, i, c, rfl, rfl, h0, h63, h1, hc, q⟩ := q
  obtain ⟨t, rfl⟩ := rx
  obtain ⟨t', rfl⟩ := ry
  have e : seqIndex? i z.length = some i.toNat := PySem.StrLaws.seqIndex_nonneg h0 h1
  exact tail_any (typeIs_str s2 z t) slot_str_getitem.lookup (getItem_str (c := c) (by
    have e1 : decide (i < -(2 ^ 63 : Int)) = false := decide_eq_false (by omega)
    have e2 : decide (i ≥ 2 ^ 63) = false := decide_eq_false (by omega)
    rw [e1, e2] <;> rfl) (by rw [e]; exact hc) ⟨.str ⟨#[c]⟩, H2, I2.tok _, ⟨_, rfl⟩, q⟩) (hs _ _)
theorem pe_item_byt (ha : PE X a ta) (hb : PE X b tb) (hs : PlainIxT b) :
    PE X (.Subscript a b pos) (tOp (fun x y H Q => ∃ (z : List UInt8) (i : Int), x = .byt z.toArray ∧ y = .int i ∧ z.length ≤ sizeLine ∧ 0 ≤ i ∧ i < z.length ∧ Q (.int ((z.getD i.toNat 0).toNat : Nat)) H) ta tb) := by
  intro pins s σ H Q I h
  refine Subscript_ (binT ha hb I h fun v u s2 x y H2 I2 rx ry q => ?_)
  obtain ⟨z, i, rfl, rfl, hz, h0, h1, q⟩ := q
  obtain ⟨t, rfl⟩ := rx
  obtain ⟨t', rfl⟩ := ry
  have hl : sizeLine = 16777216 := sizeLine_eq
  exact tail_any (PySem.W.typeIs_bytes s2 z.toArray t) PySem.W.FB.slot_bytes_getitem.lookup (PySem.W.getItem_bytes (by omega) h0 h1 ⟨.int ((z.getD i.toNat 0).toNat : Nat), H2, I2.tok _, ⟨_, rfl⟩, q⟩) (hs _ _)
/-! ### scalar builtins, by CallR -/
theorem vals1 {x : V} {us : List Value} (r : Vals [x] us) : ∃ u, us = [u] ∧ RelV x u := by
  cases r with
  | cons r1 r2 => cases r2; exact ⟨_, rfl, r1⟩
theorem vals2 {x y : V} {us : List Value} (r : Vals [x, y] us) : ∃ u w', us = [u, w'] ∧ RelV x u ∧ RelV y w' := by
  cases r with
  | cons r1 r2 =>
    cases r2 with
    | cons r3 r4 => cases r4; exact ⟨_, _, rfl, r1, r3⟩
theorem call_abs : CallR X (.builtin "abs") (fun xs H Q => ∃ i, xs = [.int i] ∧ Q (.int (if i < 0 then -i else i)) H) := by
  intro pins s σ H xs us Q I r h
  obtain ⟨i, rfl, q⟩ := h
  obtain ⟨u, rfl, t, rfl⟩ := vals1 r
  exact call_abs_int fun u tk => ⟨.int (if i < 0 then -i else i), H, I.tok _, ⟨_, rfl⟩, q⟩
theorem call_max2 (hc : X.calm = true) : CallR X (.builtin "max") (fun xs H Q => ∃ i j, xs = [.int i, .int j] ∧ Q (.int (if j > i then j else i)) H) := by
  intro pins s σ H xs us Q I r h
  obtain ⟨i, j, rfl, q⟩ := h
  obtain ⟨u, w', rfl, ⟨t, rfl⟩, ⟨t', rfl⟩⟩ := vals2 r
  refine max_two_ints (I.ok.hd hc) fun h' tk k => ⟨_, H, I.kept k, ?_, q⟩
  by_cases hj : j > i
  · rw [if_pos hj, if_pos hj]; exact ⟨_, rfl⟩
  · rw [if_neg hj, if_neg hj]; exact ⟨_, rfl⟩
theorem call_min2 (hc : X.calm = true) : CallR X (.builtin "min") (fun xs H Q => ∃ i j, xs = [.int i, .int j] ∧ Q (.int (if j < i then j else i)) H) := by
  intro pins s σ H xs us Q I r h
  obtain ⟨i, j, rfl, q⟩ := h
  obtain ⟨u, w', rfl, ⟨t, rfl⟩, ⟨t', rfl⟩⟩ := vals2 r
  refine min_two_ints (I.ok.hd hc) fun h' tk k => ⟨_, H, I.kept k, ?_, q⟩
  by_cases hj : j < i
  · rw [if_pos hj, if_pos hj]; exact ⟨_, rfl⟩
  · rw [if_neg hj, if_neg hj]; exact ⟨_, rfl⟩
theorem call_int1 : CallR X (.type "int") (fun xs H Q => (∃ i, xs = [.int i] ∧ Q (.int i) H) ∨ ∃ k, xs = [.bl k] ∧ Q (.int (if k then 1 else 0)) H) := by
  intro pins s σ H xs us Q I r h
  rcases h with ⟨i, rfl, q⟩ | ⟨k, rfl, q⟩
  · obtain ⟨u, rfl, t, rfl⟩ := vals1 r
    exact call_int_int ⟨.int i, H, I, ⟨_, rfl⟩, q⟩
  · obtain ⟨u, rfl, r1⟩ := vals1 r
    cases r1
    exact call_int_bool ⟨.int (if k then 1 else 0), H, I.tok _, ⟨_, rfl⟩, q⟩
theorem call_bool1 : CallR X (.type "bool") (fun xs H Q => (∃ i, xs = [.int i] ∧ Q (.bl (i != 0)) H) ∨ ∃ k, xs = [.bl k] ∧ Q (.bl k) H) := by
  intro pins s σ H xs us Q I r h
  rcases h with ⟨i, rfl, q⟩ | ⟨k, rfl, q⟩
  · obtain ⟨u, rfl, t, rfl⟩ := vals1 r
    exact call_bool_int ⟨.bl (i != 0), H, I, rfl, q⟩
  · obtain ⟨u, rfl, r1⟩ := vals1 r
    cases r1
    exact call_bool_bool ⟨.bl k, H, I, rfl, q⟩
theorem call_str_int : CallR X (.type "str") (fun xs H Q => ∃ i, xs = [.int i] ∧ i.natAbs.log2 < 1920 ∧ Q (.str (toString i)) H) := by
  intro pins s σ H xs us Q I r h
  obtain ⟨i, rfl, hz, q⟩ := h
  obtain ⟨u, rfl, t, rfl⟩ := vals1 r
  exact PySem.P.str_of_int hz ⟨.str _, H, I.tok _, ⟨_, rfl⟩, q⟩
theorem call_ord : CallR X (.builtin "ord") (fun xs H Q => ∃ x, xs = [.str x] ∧ x.length = 1 ∧ Q (.int (x.cps.getD 0 0 : Nat)) H) := by
  intro pins s σ H xs us Q I r h
  obtain ⟨x, rfl, hz, q⟩ := h
  obtain ⟨u, rfl, t, rfl⟩ := vals1 r
  exact ord_of_one hz ⟨.int _, H, I.tok _, ⟨_, rfl⟩, q⟩
theorem call_chr : CallR X (.builtin "chr") (fun xs H Q => ∃ i, xs = [.int i] ∧ 0 ≤ i ∧ i ≤ 1114111 ∧ Q (.str ⟨#[i.toNat]⟩) H) := by
  intro pins s σ H xs us Q I r h
  obtain ⟨i, rfl, h0, h1, q⟩ := h
  obtain ⟨u, rfl, t, rfl⟩ := vals1 r
  exact chr_of_range h0 h1 ⟨.str _, H, I.tok _, ⟨_, rfl⟩, q⟩
def LenV (K : PySem.W.Frag) (x : V) (H : Hp) (n : Nat) : Prop :=
  match x with
  | .str y => y.length ≤ sizeLine ∧ n = y.length
  | .byt y => y.size ≤ sizeLine ∧ n = y.size
  | .ref p => (∃ xs, SqL K H p xs ∧ n = xs.length) ∨ ∃ xs, SqT K H p xs ∧ n = xs.length
  | _ => False
theorem call_len : CallR X (.builtin "len") (fun xs H Q => ∃ x n, xs = [x] ∧ LenV X.K x H n ∧ Q (.int n) H) := by
  intro pins s σ H xs us Q I r h
  obtain ⟨x, n, rfl, e, q⟩ := h
  obtain ⟨u, rfl, rx⟩ := vals1 r
  have hl := line63
  have hs : sizeLine = 16777216 := sizeLine_eq
  cases x with
  | str y =>
    obtain ⟨t, rfl⟩ := rx
    obtain ⟨hy, e'⟩ : y.length ≤ sizeLine ∧ n = y.length := e
    subst e'
    exact len_str (by omega) ⟨.int _, H, I.tok _, ⟨_, rfl⟩, q⟩
  | byt y =>
    obtain ⟨t, rfl⟩ := rx
    obtain ⟨hy, e'⟩ : y.size ≤ sizeLine ∧ n = y.size := e
    subst e'
    exact PySem.W.len_bytes (by omega) ⟨.int _, H, I.tok _, ⟨_, rfl⟩, q⟩
  | ref p =>
    cases rx
    have e' : (∃ xs, SqL X.K H p xs ∧ n = xs.length) ∨ ∃ xs, SqT X.K H p xs ∧ n = xs.length := e
    rcases e' with ⟨xs, hx, e'⟩ | ⟨xs, hx, e'⟩
    · subst e'
      obtain ⟨its, r', pl, hz⟩ := I.list hx
      have hlen := r'.length
      exact Calls.call_len_list pl.isList (by simp only [List.size_toArray]; omega) ⟨.int xs.length, H, I.tok _, ⟨_, by simp only [List.size_toArray]; rw [hlen]⟩, q⟩
    · subst e'
      obtain ⟨its, r', pl, hz⟩ := I.tuple hx
      have hlen := r'.length
      exact len_tuple pl (by simp only [List.size_toArray]; omega) ⟨.int xs.length, H, I.tok _, ⟨_, by simp only [List.size_toArray]; rw [hlen]⟩, q⟩
  | _ => exact (show False from e).elim
theorem call_divmod : CallR X (.builtin "divmod") (fun xs H Q => ∃ i j, xs = [.int i, .int j] ∧ CDiv i j ∧ ∀ p, H p = none → Q (.ref p) (upd H p (.tup [.int (i / j), .int (i % j)]))) := by
  intro pins s σ H xs us Q I r h
  obtain ⟨i, j, rfl, ⟨h1, h2⟩, q⟩ := h
  obtain ⟨u, w', rfl, ⟨t, rfl⟩, ⟨t', rfl⟩⟩ := vals2 r
  refine divmod_int (by omega) ?_ (.inl (PyProof.noPylong_small (by omega)))
  rw [Int.fdiv_eq_ediv_of_nonneg i (by omega), Int.fmod_eq_emod_of_nonneg i (by omega)]
  have hn : H s.heap.objs.size = none := I.hok.fresh (Nat.le_refl _)
  refine ⟨.ref s.heap.objs.size, _, ?_, rfl, q _ hn⟩
  refine I.laid (fun b o e => Heap.get?_push_of_some _ e) (Nat.le_refl _) ⟨by simp only [List.length_cons, List.length_nil]; rw [sizeLine_eq]; decide, [.int (i / j) s.toks, .int (i % j) (s.toks + 1)], .cons ⟨_, rfl⟩ (.cons ⟨_, rfl⟩ .nil), ?_⟩
  exact ⟨_, Heap.get?_push_size s.heap rfl, rfl, 0, rfl⟩
end
end L2
namespace L2
open PySem PySem.Spec PyProof.Rows
/-! ### an instance, its attributes a map -/
structure ObjM (h : Heap) (x dx C : Addr) (mA : Str → Option Value) : Prop where
  obj : h.get? x = some (PySem.W.instObj C dx)
  ns : h.Ns1 dx mA
  ne : dx ≠ x
theorem lookIn_ns {h : Heap} {dx : Addr} {mA : Str → Option Value} (n : h.Ns1 dx mA) : ∃ od, h.get? dx = some od ∧ ∀ name, PySem.W.lookIn name od = some (mA name) := by
  obtain ⟨o, es, ep, ho, hd, hk, _, hm⟩ := n
  refine ⟨o, ho, fun name => ?_⟩
  have e := hm name
  unfold nsFind findBy at e
  rw [← Array.find?_toList] at e
  unfold PySem.W.lookIn
  rw [hd]
  dsimp only
  split
  · rename_i y q
    rw [q] at e
    exact congrArg some e
  · rename_i q
    rw [q] at e
    have a : es.toList.any (·.refKey) = false := by
      rw [List.any_eq_false]
      intro y hy
      obtain ⟨z, t, hkey⟩ := hk y (Array.mem_toList_iff.mp hy)
      simp [DictEntry.refKey, hkey]
    have a' : ¬ es.toList.any (·.refKey) = true := by rw [a]; exact Bool.false_ne_true
    rw [if_neg a']
    exact congrArg some e
theorem ObjM.look {h : Heap} {x dx C : Addr} {mA : Str → Option Value} (I : ObjM h x dx C mA) : ∃ od, PySem.W.InstAt h x (PySem.W.instObj C dx) C (some od) ∧ ∀ name, PySem.W.lookIn name od = some (mA name) :=
  let ⟨od, ho, hl⟩ := lookIn_ns I.ns
  ⟨od, ⟨I.obj, rfl, rfl, ho⟩, hl⟩
section
variable {prog : Program} {w : World} {A : Around} {E : Value → Shared → Prop} {s : Shared} {K : PySem.W.Frag} {x dx C f : Addr} {mA : Str → Option Value} {name : Str} {v : Value}
theorem get_map {expr : Bool} {Q : Value → Shared → Prop} (X : K.In s.heap) (I : ObjM s.heap x dx C mA) (hg : PySem.W.plainGet K C name = true) (hh : PySem.W.hasDictIn K C = true)
    (ha : PySem.W.findIn K (.ref C) name = some none) (hv : mA name = some v) (hv' : PySem.W.handedIn v = true) (h : Q v { s with toks := s.toks + 1 }) :
    wpAny (model prog w) A (getAttr (.ref x) name expr) Q E s := by
  obtain ⟨od, J, hl⟩ := I.look
  exact PySem.W.get_value X J (PySem.W.plainGet_of hg).1 (PySem.W.findObj_own hh ha rfl (by rw [hl, hv])) hv' h
theorem get_const {expr : Bool} {a : Value} {Q : Value → Shared → Prop} (X : K.In s.heap) (I : ObjM s.heap x dx C mA) (hg : PySem.W.plainGet K C name = true) (hh : PySem.W.hasDictIn K C = true)
    (ha : PySem.W.findIn K (.ref C) name = some (some a)) (hn : PySem.W.specialIn K a "__get__" = some none) (hc : PySem.W.copiedNames.contains name = false) (hv : mA name = none) (hv' : PySem.W.handedIn a = true)
    (h : Q a { s with toks := s.toks + 1 }) : wpAny (model prog w) A (getAttr (.ref x) name expr) Q E s := by
  obtain ⟨od, J, hl⟩ := I.look
  exact PySem.W.get_value X J (PySem.W.plainGet_of hg).1 (PySem.W.findObj_cls hh ha hn hv' hc (by rw [hl, hv])) hv' h
theorem get_meth {pl : Sem Bool} {Q : Value × List Value → Shared → Prop} (X : K.In s.heap) (I : ObjM s.heap x dx C mA) (hg : PySem.W.plainGet K C name = true)
    (hf : PySem.W.findIn K (.ref C) name = some (some (.ref f))) (ht : PySem.W.isFn K (.ref f) = true) (hv : mA name = none) (h : Q (.ref f, [.ref x]) s) :
    wpAny (model prog w) A (getMethod (.ref x) name pl) Q E s := by
  obtain ⟨od, J, hl⟩ := I.look
  exact PySem.W.method_fn X J (PySem.W.plainGet_of hg).1 (PySem.W.plainGet_of hg).2 hf (beq_iff_eq.mp ht) (by show (PySem.W.lookIn name od).map (·.isSome) = some false; rw [hl, hv]; rfl) h
theorem set_map {ns : List Str} {Q : Unit → Shared → Prop} (X : K.In s.heap) (I : ObjM s.heap x dx C mA)
    (hs : PySem.W.findIn K (.ref C) "__setattr__" = some (some (.builtin "object.__setattr__"))) (hp : PySem.W.plainOver K C = true) (ht : PySem.W.takerIn K C name = some none) (hh : PySem.W.hasDictIn K C = true)
    (hw : PySem.Within mA ns) (hsz : ns.length ≤ sizeLine)
    (h : ∀ h', ObjM h' x dx C (fun y => if y = name then some v else mA y) → Heap.SameBut dx s.heap h' → Q () { s with heap := h', toks := s.toks + 2 }) :
    wpAny (model prog w) A (setAttr (.ref x) name v) Q E s := by
  obtain ⟨od, J, hl⟩ := I.look
  refine PySem.W.set_plain X J hs (PySem.W.osa_open (s := { s with toks := s.toks + 1 }) (r := none) X J hp ht fun b => ?_)
  obtain ⟨cd, hc, hd'⟩ := PySem.W.any_some hh
  have hx : s.heap.get? x = some ⟨.ref C, some dx, .plain, #[]⟩ := I.obj
  refine wpAny_bind (wpAny_pure (wpAny_bind (wpAny_bind (wpAny_loadPart hx (wpAny_bind (PySem.W.Looks.here (s := { s with toks := s.toks + 1 }) (PySem.W.looks_clsIn X hc) ?_))))))
  rw [hd']
  refine wpAny_pure (a := some dx) (wpAny_bind (wpAny_pure (wpAny_bind ?_)))
  refine wpAny_nsSet1 (s := { s with toks := s.toks + 1 }) I.ns fun h' hn2 hs2 => ?_
  obtain ⟨oD, esD, epD, hoD, hdD, hcD⟩ := hn2.count (PySem.Within.cons name v hw)
  refine wpAny_bind (wpAny_lookBehind hoD (by rw [hdD]; exact pastItsLine_dict (Nat.le_trans hcD (by rw [List.length_cons]; omega))) ?_)
  exact wpAny_pure (h _ ⟨(hs2.2 _ (Ne.symm I.ne)).trans I.obj, hn2, I.ne⟩ hs2)
theorem make_map {R : Result → Shared → Prop} {vs : List Value} {kw : List (Str × Value)} (X : K.In s.heap) (hm : PySem.W.makesIn K C = true)
    (hi : PySem.W.findIn K (.ref C) "__init__" = some (some (.ref f))) (hf : PySem.W.typeIn K (.ref f) = some (.type "function"))
    (h : codeAny (model prog w) (A.under (.builtin "type.__call__" ⟨.ref C :: vs, kw⟩)) (.call (.ref f) ⟨.ref (s.heap.objs.size + 1) :: vs, kw⟩) (PySem.W.InitBack (s.heap.objs.size + 1) R)
      { s with heap := (s.heap.push PySem.W.emptyDict).push (PySem.W.instObj C s.heap.objs.size) }) :
    codeAny (model prog w) A (.call (.ref C) ⟨vs, kw⟩) R s := by
  obtain ⟨hh, g, d, t, os⟩ := s
  exact PySem.W.make_core (PySem.W.makes_of X hm) (PySem.W.looks_findIn X hi) (fun self => PySem.W.bind_fn X self hf) (.inl rfl) h
theorem make_map0 {R : Result → Shared → Prop} (X : K.In s.heap) (hm : PySem.W.makesIn K C = true)
    (hi : PySem.W.findIn K (.ref C) "__init__" = some (some (.builtin "object.__init__")))
    (hb : ∀ self, PySem.W.Looks (model prog w) s.heap (bindSpecial (.builtin "object.__init__") self) (.builtin "object.__init__", [self]))
    (h : codeAny (model prog w) (A.under (.builtin "type.__call__" ⟨[.ref C], []⟩)) (.call (.builtin "object.__init__") ⟨[.ref (s.heap.objs.size + 1)], []⟩) (PySem.W.InitBack (s.heap.objs.size + 1) R)
      { s with heap := (s.heap.push PySem.W.emptyDict).push (PySem.W.instObj C s.heap.objs.size) }) :
    codeAny (model prog w) A (.call (.ref C) ⟨[], []⟩) R s := by
  obtain ⟨hh, g, d, t, os⟩ := s
  exact PySem.W.make_core (PySem.W.makes_of X hm) (PySem.W.looks_findIn X hi) hb (.inr ⟨rfl, rfl⟩) h
end
/-! ### the attributes as a list of pairs -/
def putF (f : Str) (v : V) : List (Str × V) → List (Str × V)
  | [] => [(f, v)]
  | (g, x) :: r => if g = f then (g, v) :: r else (g, x) :: putF f v r
theorem lookup_putF (f g : Str) (v : V) : ∀ fs : List (Str × V), (putF f v fs).lookup g = if g = f then some v else fs.lookup g
  | [] => by
    show List.lookup g [(f, v)] = _
    by_cases h : g = f
    · have hb : (g == f) = true := beq_iff_eq.mpr h
      simp only [List.lookup, hb, if_pos h]
    · have hb : (g == f) = false := beq_eq_false_iff_ne.mpr h
      simp only [List.lookup, hb, if_neg h]
  | (k, x) :: r => by
    have ih := lookup_putF f g v r
    rw [show putF f v ((k, x) :: r) = (if k = f then (k, v) :: r else (k, x) :: putF f v r) from rfl]
    by_cases hk : k = f
    · rw [if_pos hk]
      by_cases h : g = k
      · have hb : (g == k) = true := beq_iff_eq.mpr h
        simp only [List.lookup, hb, if_pos (h.trans hk)]
      · have hb : (g == k) = false := beq_eq_false_iff_ne.mpr h
        simp only [List.lookup, hb, if_neg (fun e : g = f => h (e.trans hk.symm))]
    · rw [if_neg hk]
      by_cases h : g = k
      · have hb : (g == k) = true := beq_iff_eq.mpr h
        simp only [List.lookup, hb, if_neg (fun e : g = f => hk (h.symm.trans e))]
      · have hb : (g == k) = false := beq_eq_false_iff_ne.mpr h
        simp only [List.lookup, hb]
        exact ih
theorem keys_putF (f : Str) (v : V) : ∀ fs : List (Str × V), f ∈ (putF f v fs).map (·.1) ∧ ∀ g, g ∈ fs.map (·.1) → g ∈ (putF f v fs).map (·.1)
  | [] => ⟨by simp [putF], fun g h => by simp at h⟩
  | (k, x) :: r => by
    obtain ⟨i1, i2⟩ := keys_putF f v r
    rw [show putF f v ((k, x) :: r) = (if k = f then (k, v) :: r else (k, x) :: putF f v r) from rfl]
    by_cases hk : k = f
    · rw [if_pos hk]
      subst hk
      exact ⟨by simp, fun g h => by simpa using h⟩
    · rw [if_neg hk]
      refine ⟨?_, fun g h => ?_⟩
      · rw [List.map_cons]
        exact List.mem_cons_of_mem _ i1
      · rw [List.map_cons] at h ⊢
        rcases List.mem_cons.mp h with e | e
        · exact List.mem_cons.mpr (.inl e)
        · exact List.mem_cons_of_mem _ (i2 g e)
theorem length_putF (f : Str) (v : V) : ∀ fs : List (Str × V), (putF f v fs).length ≤ fs.length + 1
  | [] => by simp [putF]
  | (k, x) :: r => by
    have ih := length_putF f v r
    rw [show putF f v ((k, x) :: r) = (if k = f then (k, v) :: r else (k, x) :: putF f v r) from rfl]
    by_cases hk : k = f
    · rw [if_pos hk, List.length_cons, List.length_cons]; omega
    · rw [if_neg hk, List.length_cons, List.length_cons]; omega
theorem RelO.some_of {v : V} {o : Option Value} (r : RelO (some v) o) : ∃ u, o = some u ∧ RelV v u := by
  cases o with
  | none => exact (show False from r).elim
  | some u => exact ⟨u, rfl, r⟩
theorem RelO.none_of {o : Option Value} (r : RelO none o) : o = none := by
  cases o with
  | none => rfl
  | some u => exact (show False from r).elim
theorem handed_of {v : V} {u : Value} (r : RelV v u) : PySem.W.handedIn u = true := by
  cases v with
  | non => cases (show u = Value.none from r); rfl
  | bl b => cases (show u = Value.bool b from r); rfl
  | int i => obtain ⟨t, e⟩ := (show ∃ t, u = Value.int i t from r); cases e; rfl
  | str x => obtain ⟨t, e⟩ := (show ∃ t, u = Value.str x t from r); cases e; rfl
  | byt b => obtain ⟨t, e⟩ := (show ∃ t, u = Value.bytes b t from r); cases e; rfl
  | flt b => obtain ⟨t, e⟩ := (show ∃ t, u = Value.float b t from r); cases e; rfl
  | ref a => cases (show u = Value.ref a from r); rfl
  | ty n => cases (show u = Value.type n from r); rfl
section
variable {P : Program} {w : World} {H H' : Hp} {h h' : Heap} {a C dx : Addr} {fs fs' : List (Str × V)}
theorem ins_get (hok : HOk P w H h) (e : H a = some (.ins C dx fs)) : ∃ mA, ObjM h a dx C mA ∧ (∀ f, RelO (fs.lookup f) (mA f)) ∧ PySem.Within mA (fs.map (·.1)) ∧ fs.length ≤ 1000 ∧ H dx = some (.own a) := by
  obtain ⟨d, z, ne, ob, mA, n, r, q⟩ := (show ObjOk P w H h a (.ins C dx fs) from hok a _ e)
  exact ⟨mA, ⟨ob, n, ne⟩, r, q, z, d⟩
end
/-! ### what of the text a class must have -/
structure Cls (K : PySem.W.Frag) (C : Addr) : Prop where
  pg : PySem.W.plainGet K C Str.empty = true
  hd : PySem.W.hasDictIn K C = true
  po : PySem.W.plainOver K C = true
  sa : PySem.W.findIn K (.ref C) "__setattr__" = some (some (.builtin "object.__setattr__"))
theorem Cls.get {K : PySem.W.Frag} {C : Addr} (c : Cls K C) (f : Str) : PySem.W.plainGet K C f = true := c.pg
def NoAttr (K : PySem.W.Frag) (C : Addr) (f : Str) : Prop := PySem.W.findIn K (.ref C) f = some none
theorem NoAttr.taker {K : PySem.W.Frag} {C : Addr} {f : Str} (n : NoAttr K C f) : PySem.W.takerIn K C f = some none := by
  unfold PySem.W.takerIn
  rw [show PySem.W.findIn K (.ref C) f = some none from n]
  rfl
structure Con (K : PySem.W.Frag) (C : Addr) (f : Str) (v : V) (u : Value) : Prop where
  at_ : PySem.W.findIn K (.ref C) f = some (some u)
  rel : RelV v u
  get : PySem.W.specialIn K u "__get__" = some none
  cp : PySem.W.copiedNames.contains f = false
structure Meth (K : PySem.W.Frag) (C : Addr) (m : Str) (f : Addr) : Prop where
  at_ : PySem.W.findIn K (.ref C) m = some (some (.ref f))
  fn : PySem.W.isFn K (.ref f) = true
  kp : PySem.W.keepIn K (.ref f) = true
section
variable {X : Cx} {pins : List (Addr × Obj)} {σ : St} {H : Hp} {s : Shared} {a C dx : Addr} {fs : List (Str × V)} {f : Str} {v : V} {A : Around} {E : Value → Shared → Prop}
theorem getattr_ok {b : Bool} {Q : Value → Shared → Prop} (I : Inv X pins σ H s) (e : H a = some (.ins C dx fs)) (c : Cls X.K C) (n : NoAttr X.K C f) (l : fs.lookup f = some v)
    (h : ∀ u s', Inv X pins σ H s' → RelV v u → Q u s') : wpAny (model X.prog X.w) A (getAttr (.ref a) f b) Q E s := by
  obtain ⟨mA, O, r, _, _, _⟩ := ins_get I.hok e
  obtain ⟨u, hu, ru⟩ := RelO.some_of (v := v) (o := mA f) (by rw [← l]; exact r f)
  exact get_map I.kIn O (c.get f) c.hd n hu (handed_of ru) (h u _ (I.tok _) ru)
theorem getcon_ok {b : Bool} {u : Value} {Q : Value → Shared → Prop} (I : Inv X pins σ H s) (e : H a = some (.ins C dx fs)) (c : Cls X.K C) (k : Con X.K C f v u) (l : fs.lookup f = none)
    (h : ∀ s', Inv X pins σ H s' → Q u s') : wpAny (model X.prog X.w) A (getAttr (.ref a) f b) Q E s := by
  obtain ⟨mA, O, r, _, _, _⟩ := ins_get I.hok e
  have hn : mA f = none := RelO.none_of (by rw [← l]; exact r f)
  exact get_const I.kIn O (c.get f) c.hd k.at_ k.get k.cp hn (handed_of k.rel) (h _ (I.tok _))
theorem getmeth_ok {m : Str} {g : Addr} {pl : Sem Bool} {Q : Value × List Value → Shared → Prop} (I : Inv X pins σ H s) (e : H a = some (.ins C dx fs)) (c : Cls X.K C) (k : Meth X.K C m g) (l : fs.lookup m = none)
    (h : Q (.ref g, [.ref a]) s) : wpAny (model X.prog X.w) A (getMethod (.ref a) m pl) Q E s := by
  obtain ⟨mA, O, r, _, _, _⟩ := ins_get I.hok e
  have hn : mA m = none := RelO.none_of (by rw [← l]; exact r m)
  exact get_meth I.kIn O (c.get m) k.at_ k.fn hn h
theorem setattr_ok {y : V} {u : Value} {Q : Unit → Shared → Prop} (I : Inv X pins σ H s) (e : H a = some (.ins C dx fs)) (c : Cls X.K C) (n : NoAttr X.K C f) (hl : fs.length < 1000) (ry : RelV y u)
    (h : ∀ s', Inv X pins σ (upd H a (.ins C dx (putF f y fs))) s' → Q () s') : wpAny (model X.prog X.w) A (setAttr (.ref a) f u) Q E s := by
  obtain ⟨mA, O, r, wi, _, ho⟩ := ins_get I.hok e
  have hz : (fs.map (·.1)).length ≤ sizeLine := by rw [List.length_map, sizeLine_eq]; omega
  refine set_map I.kIn O c.sa c.po n.taker c.hd wi hz fun h' O' sb => h _ ?_
  have hd : ∃ o, h'.get? dx = some o := let ⟨o, _, _, e', _⟩ := O'.ns; ⟨o, e'⟩
  refine I.write (x := a) (e := dx) (by rw [e]; exact True.intro) (.inr ho) (fun b q hb z => (sb.2 b hb).trans z) hd ?_
  refine ⟨by rw [upd_ne O.ne]; exact ho, ?_, O.ne, O'.obj, _, O'.ns, fun g => ?_, fun g hg => ?_⟩
  · have := length_putF f y fs; omega
  · show RelO ((putF f y fs).lookup g) (if g = f then some u else mA g)
    rw [lookup_putF]
    by_cases q : g = f
    · rw [if_pos q, if_pos q]; exact ry
    · rw [if_neg q, if_neg q]; exact r g
  · by_cases q : g = f
    · rw [q]; exact (keys_putF f y fs).1
    · refine (keys_putF f y fs).2 g (wi g fun z => hg ?_)
      show (if g = f then some u else mA g) = none
      rw [if_neg q]; exact z
theorem Inv.made (I : Inv X pins σ H s) : Inv X pins σ (upd (upd H s.heap.objs.size (.own (s.heap.objs.size + 1))) (s.heap.objs.size + 1) (.ins C s.heap.objs.size []))
    { s with heap := (s.heap.push PySem.W.emptyDict).push (PySem.W.instObj C s.heap.objs.size) } := by
  have e1 : (s.heap.push PySem.W.emptyDict).get? s.heap.objs.size = some PySem.W.emptyDict := Heap.get?_push_size s.heap rfl
  have e2 : ((s.heap.push PySem.W.emptyDict).push (PySem.W.instObj C s.heap.objs.size)).get? (s.heap.objs.size + 1) = some (PySem.W.instObj C s.heap.objs.size) := by
    have := Heap.get?_push_size (s.heap.push PySem.W.emptyDict) (o := PySem.W.instObj C s.heap.objs.size) rfl
    rwa [Heap.size_push] at this
  have e3 : (s.heap.push PySem.W.emptyDict).Ns s.heap.objs.size (fun _ => none) := ⟨PySem.W.emptyDict, #[], _, e1, rfl, (fun e he => absurd he (by simp)), fun _ => rfl⟩
  have I1 := I.laid (a := s.heap.objs.size) (o := .own (s.heap.objs.size + 1)) (h' := s.heap.push PySem.W.emptyDict) (t' := s.toks) (fun b u q => Heap.get?_push_of_some _ q) (Nat.le_refl _) ⟨_, e1⟩
  refine I1.laid (a := s.heap.objs.size + 1) (o := .ins C s.heap.objs.size []) (t' := s.toks) (fun b u q => Heap.get?_push_of_some _ q) (Nat.le_of_eq (Heap.size_push _ _)) ?_
  have ne : s.heap.objs.size ≠ s.heap.objs.size + 1 := Nat.ne_of_lt (Nat.lt_succ_self _)
  refine ⟨by rw [upd_ne ne, upd_same], Nat.zero_le _, ne, e2, fun _ => none, (Heap.Ns1.of_empty e3).at fun o q => Heap.get?_push_of_some _ q, fun _ => True.intro, fun y hy => absurd rfl hy⟩
theorem attr_of {prog : Program} {w : World} {env : Env} {e : Expr} {f : Str} {pos : Pos} {s : Shared} {Q : Value → Shared → Prop} (hb : attributeBase e f env (eval e env) = eval e env)
    (h : wpAny (model prog w) A (eval e env) (fun o s₁ => wpAny (model prog w) A (getAttr o f true) Q E s₁) E s) : wpAny (model prog w) A (eval (.Attribute e f pos) env) Q E s :=
  Attribute_any_ h (by rw [arm_eval_Attribute, hb])
end
/-! ### readings and rules -/
def tFld (K : PySem.W.Frag) (ta : TE) (f : Str) : TE := fun σ H Q => ta σ H fun x H1 => ∃ a C dx fs v, x = .ref a ∧ H1 a = some (.ins C dx fs) ∧ Cls K C ∧ NoAttr K C f ∧ fs.lookup f = some v ∧ Q v H1
def tCon (K : PySem.W.Frag) (ta : TE) (f : Str) : TE := fun σ H Q => ta σ H fun x H1 => ∃ a C dx fs v u, x = .ref a ∧ H1 a = some (.ins C dx fs) ∧ Cls K C ∧ Con K C f v u ∧ fs.lookup f = none ∧ Q v H1
def sFld (K : PySem.W.Frag) (ta tv : TE) (f : Str) : TS := fun D σ H => tv σ H fun y H1 => ta σ H1 fun x H2 => ∃ a C dx fs, x = .ref a ∧ H2 a = some (.ins C dx fs) ∧ Cls K C ∧ NoAttr K C f ∧ fs.length < 1000 ∧
  D.nx σ (upd H2 a (.ins C dx (putF f y fs)))
def InOp (X : Cx) (op : Operator) (rd : V → V → Hp → VK → Prop) : Prop :=
  ∀ (pins : List (Addr × Obj)) (s : Shared) (σ : St) (H : Hp) (x y : V) (u v : Value) (Q : VK), Inv X pins σ H s → RelV x u → RelV y v → rd x y H Q → wpAny (model X.prog X.w) X.A (inplaceOp op u v) (EP X pins σ Q) X.xe s
def sFldAug (K : PySem.W.Frag) (ta tv : TE) (rd : V → V → Hp → VK → Prop) (f : Str) : TS := fun D σ H => ta σ H fun x H1 => ∃ a C dx fs v, x = .ref a ∧ H1 a = some (.ins C dx fs) ∧ Cls K C ∧ NoAttr K C f ∧ fs.lookup f = some v ∧
  tv σ H1 fun y H2 => rd v y H2 fun z H3 => ∃ dx' fs', H3 a = some (.ins C dx' fs') ∧ fs'.length < 1000 ∧ D.nx σ (upd H3 a (.ins C dx' (putF f z fs')))
section
variable {X : Cx} {o e value : Expr} {f : Str} {pos pos' tpos : Pos} {ta tv : TE}
theorem pe_fld (he : PE X e ta) (hb : attributeBase e f X.env (eval e X.env) = eval e X.env) : PE X (.Attribute e f pos) (tFld X.K ta f) := by
  intro pins s σ H Q I h
  refine attr_of hb (thn (he pins s σ H _ I h) fun u s1 ⟨x, H1, I1, rx, a, C, dx, fs, v, ex, ea, c, n, l, q⟩ => ?_)
  subst ex
  obtain rfl : u = Value.ref a := rx
  exact getattr_ok I1 ea c n l fun u' s2 I2 ru => ⟨v, H1, I2, ru, q⟩
theorem pe_con (he : PE X e ta) (hb : attributeBase e f X.env (eval e X.env) = eval e X.env) : PE X (.Attribute e f pos) (tCon X.K ta f) := by
  intro pins s σ H Q I h
  refine attr_of hb (thn (he pins s σ H _ I h) fun u s1 ⟨x, H1, I1, rx, a, C, dx, fs, v, u0, ex, ea, c, k, l, q⟩ => ?_)
  subst ex
  obtain rfl : u = Value.ref a := rx
  exact getcon_ok I1 ea c k l fun s2 I2 => ⟨v, H1, I2, k.rel, q⟩
theorem ps_fld (ha : PE X o ta) (hv : PE X value tv) (hs : swapsWith value (some (.Attribute o f pos')) pos.line X.env = pure false) : PS X (.Assign [.Attribute o f pos'] value pos) (sFld X.K ta tv f) := by
  intro pins s σ H D I h
  refine plainObj_wpAny_Assign_Attribute (thn (hv pins s σ H _ I h) fun u s1 ⟨y, H1, I1, ry, q⟩ => thn (ha pins s1 σ H1 _ I1 q) fun ov s2 ⟨x, H2, I2, rx, a, C, dx, fs, ex, ea, c, n, l, q2⟩ => ?_) hs
  subst ex
  obtain rfl : ov = Value.ref a := rx
  exact setattr_ok I2 ea c n l ry fun s3 I3 => ⟨σ, _, I3, q2⟩
theorem ps_fldaug {op : Operator} {rd : V → V → Hp → VK → Prop} (ha : PE X o ta) (hv : PE X value tv) (hop : InOp X op rd) : PS X (.AugAssign (.Attribute o f tpos) op value pos) (sFldAug X.K ta tv rd f) := by
  intro pins s σ H D I h
  refine wpAny_AugAssign_AttributeAny (thn (ha pins s σ H _ I h) fun ov s1 ⟨x, H1, I1, rx, a, C, dx, fs, v, ex, ea, c, n, l, q⟩ => ?_)
  subst ex
  obtain rfl : ov = Value.ref a := rx
  refine getattr_ok I1 ea c n l fun u s2 I2 ru => thn (hv pins s2 σ H1 _ I2 q) fun w3 s3 ⟨y, H2, I3, ry, q3⟩ => thn (hop pins s3 σ H2 v y u w3 _ I3 ru ry q3) fun w4 s4 ⟨z, H3, I4, rz, dx', fs', ea', l', q4⟩ => ?_
  exact setattr_ok I4 ea' c n l' rz fun s5 I5 => ⟨σ, _, I5, q4⟩
def rAdd : V → V → Hp → VK → Prop := fun x y H Q => ∃ i j, x = .int i ∧ y = .int j ∧ Q (.int (i + j)) H
def rSub : V → V → Hp → VK → Prop := fun x y H Q => ∃ i j, x = .int i ∧ y = .int j ∧ Q (.int (i - j)) H
theorem in_add : InOp X .Add rAdd := by
  rintro pins s σ H x y u v Q I rx ry ⟨i, j, rfl, rfl, q⟩
  obtain ⟨t, rfl⟩ := (show ∃ t, u = Value.int i t from rx)
  obtain ⟨t', rfl⟩ := (show ∃ t', v = Value.int j t' from ry)
  exact PyProof.Rows.iadd_int ⟨.int (i + j), H, I.tok _, ⟨_, rfl⟩, q⟩
theorem in_sub : InOp X .Sub rSub := by
  rintro pins s σ H x y u v Q I rx ry ⟨i, j, rfl, rfl, q⟩
  obtain ⟨t, rfl⟩ := (show ∃ t, u = Value.int i t from rx)
  obtain ⟨t', rfl⟩ := (show ∃ t', v = Value.int j t' from ry)
  exact PyProof.Rows.isub_int ⟨.int (i - j), H, I.tok _, ⟨_, rfl⟩, q⟩
theorem methcall_of {pl : Sem Bool} {m : Str} {apos : Pos} {args : List Expr} {pins : List (Addr × Obj)} {s : Shared} {σ : St} {H : Hp} {Q : Value → Shared → Prop} {te : TE} (he : PE X e te) (I : Inv X pins σ H s)
    (h : te σ H fun x H1 => ∃ a C dx fs g, x = .ref a ∧ H1 a = some (.ins C dx fs) ∧ Cls X.K C ∧ Meth X.K C m g ∧ fs.lookup m = none ∧
      ∀ s1, Inv X pins σ H1 s1 → wpAny (model X.prog X.w) X.A (callWith pos (.ref g) [.ref a] (backTo pos (starEach args X.env)) (backToKw pos (keywordEach [] X.env))) Q X.xe s1)
    (ht : eval (.Call (.Attribute e m apos) args [] pos) X.env = (do
      let ov ← eval e X.env
      standAt apos.atName
      let (f, first) ← holding [ov] (getMethod ov m pl)
      callWith pos f first (backTo pos (starEach args X.env)) (backToKw pos (keywordEach [] X.env)))) :
    wpAny (model X.prog X.w) X.A (eval (.Call (.Attribute e m apos) args [] pos) X.env) Q X.xe s := by
  refine PySem.W.methodCall_KW (pl := pl) (thn (he pins s σ H _ I h) fun u s1 ⟨x, H1, I1, rx, a, C, dx, fs, g, ex, ea, c, k, l, q⟩ => ?_) ht
  subst ex
  obtain rfl : u = Value.ref a := rx
  exact getmeth_ok I1 ea c k l (q s1 I1)
end
/-! ### isinstance -/
section
variable {X : Cx} {pins : List (Addr × Obj)} {σ : St} {H : Hp} {s : Shared} {A : Around} {E : Value → Shared → Prop} {Q : Value → Shared → Prop} {c : Value} {b : Bool}
inductive TyOf (K : PySem.W.Frag) (H : Hp) : V → Value → Prop where
  | non : TyOf K H .non (.type "NoneType")
  | bl (x : Bool) : TyOf K H (.bl x) (.type "bool")
  | int (i : Int) : TyOf K H (.int i) (.type "int")
  | str (x : Str) : TyOf K H (.str x) (.type "str")
  | flt (x : UInt64) : TyOf K H (.flt x) (.type "float")
  | lst {a : Addr} {xs : List V} (e : H a = some (.lst xs)) : TyOf K H (.ref a) (.type "list")
  | frz {a : Addr} {o : Obj} {xs : List V} (e : H a = some (.frz o (.lst xs))) : TyOf K H (.ref a) (.type "list")
  | tup {a : Addr} {xs : List V} (e : H a = some (.tup xs)) : TyOf K H (.ref a) (.type "tuple")
  | dK {a : Addr} {kvs : List (Key × V)} (e : H a = some (.dK kvs)) : TyOf K H (.ref a) (.type "dict")
  | dT {a : Addr} {kvs : List (List Key × V)} (e : H a = some (.dT kvs)) : TyOf K H (.ref a) (.type "dict")
  | ins {a C dx : Addr} {fs : List (Str × V)} (e : H a = some (.ins C dx fs)) (cl : Cls K C) (ha : PySem.W.findIn K (.ref C) "__class__" = some (some (.builtin "object.__class__")))
      (hn : PySem.W.specialIn K (.builtin "object.__class__") "__get__" = some (some (.builtin "getset_descriptor.__get__"))) (htk : PySem.W.takesIn K (.builtin "object.__class__") = some true)
      (hm : PySem.W.mroIn K C (.type "object") = some true) : TyOf K H (.ref a) (.ref C)
theorem isinst_ok {x : V} {u t : Value} (I : Inv X pins σ H s) (rx : RelV x u) (ty : TyOf X.K H x t) (e : PySem.W.kitOne X.K t c = some b) (h : ∀ tk, Q (.bool b) { s with toks := tk }) :
    wpAny (model X.prog X.w) A (call (.builtin "isinstance") [u, c]) Q E s := by
  cases ty with
  | non => cases (show u = Value.none from rx); exact PySem.W.kia_one PySem.W.kitx_none I.kIn True.intro e (fun z => nomatch z) h
  | bl y => cases (show u = Value.bool y from rx); exact PySem.W.kia_one PySem.W.kitx_bool I.kIn True.intro e (fun z => nomatch z) h
  | int i => obtain ⟨t, q⟩ := (show ∃ t, u = Value.int i t from rx); cases q; exact PySem.W.kia_one PySem.W.kitx_int I.kIn True.intro e (fun z => nomatch z) h
  | str y => obtain ⟨t, q⟩ := (show ∃ t, u = Value.str y t from rx); cases q; exact PySem.W.kia_one PySem.W.kitx_str I.kIn True.intro e (fun z => nomatch z) h
  | flt y => obtain ⟨t, q⟩ := (show ∃ t, u = Value.float y t from rx); cases q; exact PySem.W.kia_one PySem.W.kitx_float I.kIn True.intro e (fun z => nomatch z) h
  | @lst a xs ea =>
    cases (show u = Value.ref a from rx)
    obtain ⟨_, _, n, _, h1⟩ := (show ObjOk X.prog X.w H s.heap a (.lst xs) from I.hok a _ ea)
    exact PySem.W.kia_one PySem.W.kitx_list I.kIn ⟨_, h1, rfl⟩ e (fun z => nomatch z) h
  | @frz a ob xs ea =>
    cases (show u = Value.ref a from rx)
    obtain ⟨_, _, _, n, _, h1⟩ := (show ObjOk X.prog X.w H s.heap a (.frz ob (.lst xs)) from I.hok a _ ea)
    exact PySem.W.kia_one PySem.W.kitx_list I.kIn ⟨_, h1, rfl⟩ e (fun z => nomatch z) h
  | @tup a xs ea =>
    cases (show u = Value.ref a from rx)
    obtain ⟨_, _, _, p⟩ := (show ObjOk X.prog X.w H s.heap a (.tup xs) from I.hok a _ ea)
    obtain ⟨o, h1, h2, _⟩ := p
    exact PySem.W.kia_one PySem.W.kitx_tuple I.kIn ⟨o, h1, h2⟩ e (fun z => nomatch z) h
  | @dK a kvs ea =>
    cases (show u = Value.ref a from rx)
    obtain ⟨_, _, vs, _, p⟩ := (show ObjOk X.prog X.w H s.heap a (.dK kvs) from I.hok a _ ea)
    obtain ⟨o, es, ep, h1, h2, _⟩ := p
    exact PySem.W.kia_one PySem.W.kitx_dict I.kIn ⟨o, h1, h2.1⟩ e (fun z => nomatch z) h
  | @dT a kvs ea =>
    cases (show u = Value.ref a from rx)
    obtain ⟨_, _, xs, _, o, es, ep, h1, h2, _⟩ := (show ObjOk X.prog X.w H s.heap a (.dT kvs) from I.hok a _ ea)
    exact PySem.W.kia_one PySem.W.kitx_dict I.kIn ⟨o, h1, h2.1⟩ e (fun z => nomatch z) h
  | @ins a C dx fs ea cl ha hn htk hm =>
    cases (show u = Value.ref a from rx)
    obtain ⟨mA, O, _⟩ := ins_get I.hok ea
    obtain ⟨od, J, _⟩ := O.look
    exact PySem.W.kia_one (PySem.W.kitx_own (cl.get _) cl.hd ha hn htk hm) I.kIn J e (fun z => nomatch z) h
end
end L2
namespace L2
open PySem PySem.Spec PyProof.Rows
/-! ### room -/
structure Room (k : Nat) (A : Around) : Prop where
  hd : A.handled = none
  dp : A.depth + 3 * k + 5 < recursionLimit
  un : A.units + 16 * k + 200 < cLine
  gd : A.guards = some []
theorem Room.mono {j k : Nat} {A : Around} (r : Room k A) (h : j ≤ k) : Room j A := ⟨r.hd, by have := r.dp; omega, by have := r.un; omega, r.gd⟩
theorem Room.deeper {k : Nat} {A : Around} (r : Room (k + 1) A) (env : Env) : Room k (A.deeper env) :=
  ⟨r.hd, by have := r.dp; show A.depth + 1 + 3 * k + 5 < _; omega, by have := r.un; show A.units + 3 + 16 * k + 200 < _; omega, r.gd⟩
theorem Room.in1 {k : Nat} {A : Around} (r : Room (k + 1) A) : Room k A.in1 :=
  ⟨r.hd, by have := r.dp; show A.depth + 3 * k + 5 < _; omega, by have := r.un; show A.units + 1 + 16 * k + 200 < _; omega, r.gd⟩
theorem make_depth {A : Around} {C : Addr} {us : List Value} {kw : List (Str × Value)} : (A.under (.builtin "type.__call__" ⟨.ref C :: us, kw⟩)).depth = A.depth + 1 := by
  first | rfl | simp [Around.under, Code.weight, Code.isCreation, Code.isGuard, Code.isCaller, Code.frames, Code.isFrame, guardIds]
theorem make_units {A : Around} {C : Addr} {us : List Value} {kw : List (Str × Value)} : (A.under (.builtin "type.__call__" ⟨.ref C :: us, kw⟩)).units = A.units + 1 := by
  first | rfl | simp [Around.under, Code.cUnits, Code.frames, Code.isFrame]
theorem Room.make {k : Nat} {A : Around} (r : Room (k + 1) A) (C : Addr) (us : List Value) (kw : List (Str × Value)) : Room k (A.under (.builtin "type.__call__" ⟨.ref C :: us, kw⟩)) :=
  ⟨r.hd, by have := r.dp; rw [make_depth]; omega, by have := r.un; rw [make_units]; omega, by
    have := r.gd
    first | exact this | (simp [Around.under, Code.guards, Code.isGuard, guardIds, pushGuards]; exact this)⟩
theorem Room.depth {k : Nat} {A : Around} (r : Room k A) : A.depth < recursionLimit := by have := r.dp; omega
theorem Room.units {k : Nat} {A : Around} (r : Room k A) : A.units + 64 < cLine := by have := r.un; omega
theorem Room.units0 {k : Nat} {A : Around} (r : Room k A) : A.units < cLine := by have := r.un; omega
/-! ### argument lists and displays -/
def tNil : TA := fun _ H Q => Q [] H
def tCons (ta : TE) (tr : TA) : TA := fun σ H Q => ta σ H fun x H1 => tr σ H1 fun xs H2 => Q (x :: xs) H2
section
variable {X : Cx} {e : Expr} {es : List Expr} {te : TE} {t : TA} {pos : Pos}
theorem pa_nil : PA X [] tNil := fun _ _ _ _ H Q I h => Calls.spliced_nil ⟨[], H, I, .nil, h⟩
theorem pa_cons (ha : PE X e te) (hr : PA X es t) (hs : starEach (e :: es) X.env = (false, eval e X.env) :: starEach es X.env := by rfl) : PA X (e :: es) (tCons te t) := by
  intro pos pins s σ H Q I h
  rw [hs]
  show wpAny _ _ (spliced ((false, eval e X.env) :: backTo pos (starEach es X.env))) _ _ s
  refine Calls.spliced_cons (thn (ha pins s σ H _ I h) fun u s1 ⟨x, H1, I1, r1, q1⟩ => ?_)
  exact thn (hr pos pins s1 σ H1 _ I1 q1) fun us s2 ⟨xs, H2, I2, r2, q2⟩ => ⟨x :: xs, H2, I2, .cons r1 r2, q2⟩
def tTup (t : TA) : TE := fun σ H Q => t σ H fun xs H1 => xs.length ≤ sizeLine ∧ ∀ p, H1 p = none → Q (.ref p) (upd H1 p (.tup xs))
def tLst (t : TA) : TE := fun σ H Q => t σ H fun xs H1 => xs.length ≤ sizeLine ∧ ∀ p, H1 p = none → Q (.ref p) (upd H1 p (.lst xs))
theorem pe_tup {x1} (h : PA X es t) : PE X (.Tuple es x1 pos) (tTup t) := by
  intro pins s σ H Q I hq
  refine wpAny_Tuple_spliced (thn (h pos pins s σ H _ I hq) fun us s1 ⟨xs, H1, I1, r, z, q⟩ => ⟨by rw [← r.length]; exact z, ?_⟩)
  have hf : H1 s1.heap.objs.size = none := I1.hok.fresh (Nat.le_refl _)
  refine ⟨.ref s1.heap.objs.size, upd H1 s1.heap.objs.size (.tup xs), I1.laid (t' := s1.toks) (fun b u e => Heap.get?_push_of_some _ e) (Nat.le_refl _) ?_, rfl, q _ hf⟩
  exact ⟨z, us, r, ⟨_, Heap.get?_push_size _ rfl, rfl, _, rfl⟩⟩
theorem pe_lst (h : PA X es t) : PE X (.List es pos) (tLst t) := by
  intro pins s σ H Q I hq
  refine wpAny_List_spliced (thn (h pos pins s σ H _ I hq) fun us s1 ⟨xs, H1, I1, r, z, q⟩ => ⟨by rw [← r.length]; exact z, ?_⟩)
  have hf : H1 s1.heap.objs.size = none := I1.hok.fresh (Nat.le_refl _)
  refine ⟨.ref s1.heap.objs.size, upd H1 s1.heap.objs.size (.lst xs), I1.laid (t' := s1.toks) (fun b u e => Heap.get?_push_of_some _ e) (Nat.le_refl _) ?_, rfl, q _ hf⟩
  exact ⟨z, us, 0, r, Heap.get?_push_size _ rfl⟩
end
/-! ### what a def promises -/
abbrev Sp := List V → Hp → VK → XK → Prop
abbrev CXT := List Env → Hp → Shared → XK → Value → Shared → Prop
structure Env0 (P : Program) (w : World) (K : PySem.W.Frag) (mg : Str → Option Value) (base : Heap) (A : Around) (outer : List Env) (s : Shared) (H : Hp) : Prop where
  frames : A.frames = some outer
  mod : Mod K mg base
  bs : ∀ b o, base.get? b = some o → s.heap.get? b = some o ∧ H b = none
  bsz : base.objs.size ≤ s.heap.objs.size
  funs : s.heap.FunFrames base outer
  frf : ∀ b ∈ frs outer, H b = none
  hok : HOk P w H s.heap
  bare : AllBare s.gens
def CE (outer : List Env) (P : Program) (w : World) (H : Hp) (s : Shared) (Q : VK) (u : Value) (s' : Shared) : Prop :=
  ∃ v H', s'.os = s.os ∧ AllBare s'.gens ∧ Un (frs outer) [] H H' s.heap s'.heap ∧ HOk P w H' s'.heap ∧ RelV v u ∧ Q v H'
def CR (CX : CXT) (outer : List Env) (P : Program) (w : World) (H : Hp) (s : Shared) (Q : VK) (E : XK) (r : Result) (s' : Shared) : Prop :=
  match r with
  | .ok (.ret u) => CE outer P w H s Q u s'
  | .ok _ => False
  | .error e => CX outer H s E e s'
structure FnOk (P : Program) (w : World) (K : PySem.W.Frag) (mg : Str → Option Value) (base : Heap) (CX : CXT) (k : Nat) (f : Addr) (fd : FuncData) (ps : List Str) (sp : Sp) : Prop where
  len : ∀ vs H Q E, sp vs H Q E → vs.length = ps.length
  run : ∀ (A : Around) (outer : List Env) (s : Shared) (H : Hp) (args : Args) (us : List Value) (vs : List V) (Q : VK) (E : XK), Room k A → Env0 P w K mg base A outer s H → BindsTo s fd args (ps.zip us) → Vals vs us → sp vs H Q E →
    codeAny (model P w) A (.call (.ref f) args) (CR CX outer P w H s Q E) s
theorem FnOk.mono {P : Program} {w : World} {K : PySem.W.Frag} {mg : Str → Option Value} {base : Heap} {CX : CXT} {j k : Nat} {f : Addr} {fd : FuncData} {ps : List Str} {sp : Sp} (F : FnOk P w K mg base CX j f fd ps sp) (h : j ≤ k) :
    FnOk P w K mg base CX k f fd ps sp := ⟨F.len, fun A outer s H args us vs Q E hr => F.run A outer s H args us vs Q E (hr.mono h)⟩
theorem FnOk.imp {P : Program} {w : World} {K : PySem.W.Frag} {mg : Str → Option Value} {base : Heap} {CX : CXT} {k : Nat} {f : Addr} {fd : FuncData} {ps : List Str} {sp sp' : Sp} (F : FnOk P w K mg base CX k f fd ps sp)
    (h : ∀ vs H Q E, sp' vs H Q E → sp vs H Q E) : FnOk P w K mg base CX k f fd ps sp' :=
  ⟨fun vs H Q E q => F.len vs H Q E (h _ _ _ _ q), fun A outer s H args us vs Q E hr he hb hv hs => F.run A outer s H args us vs Q E hr he hb hv (h _ _ _ _ hs)⟩
theorem Env0.make {P : Program} {w : World} {K : PySem.W.Frag} {mg : Str → Option Value} {base : Heap} {A : Around} {outer : List Env} {s : Shared} {H : Hp} (e : Env0 P w K mg base A outer s H) (C : Addr) (us : List Value) (kw : List (Str × Value)) :
    Env0 P w K mg base (A.under (.builtin "type.__call__" ⟨.ref C :: us, kw⟩)) outer s H := ⟨by first | exact e.frames | (simpa [Around.under, Code.envs, Code.isFrame, pushEnvs] using e.frames), e.mod, e.bs, e.bsz, e.funs, e.frf, e.hok, e.bare⟩
theorem Env0.in1 {P : Program} {w : World} {K : PySem.W.Frag} {mg : Str → Option Value} {base : Heap} {A : Around} {outer : List Env} {s : Shared} {H : Hp} (e : Env0 P w K mg base A outer s H) :
    Env0 P w K mg base A.in1 outer s H := ⟨e.frames, e.mod, e.bs, e.bsz, e.funs, e.frf, e.hok, e.bare⟩
section
variable {X : Cx} {pins : List (Addr × Obj)} {σ : St} {H : Hp} {s s' : Shared}
theorem Inv.env0 (I : Inv X pins σ H s) : Env0 X.prog X.w X.K X.mg X.base X.A X.stack s H :=
  ⟨I.ok.frames, I.ok.mod, I.bs, Nat.le_trans I.ok.bsz I.sz, I.stack, I.stkFree, I.hok, I.bare⟩
theorem Inv.after {Q : VK} {u : Value} (I : Inv X pins σ H s) (h : CE X.stack X.prog X.w H s Q u s') : EP X pins σ Q u s' := by
  obtain ⟨v, H', os, bare, un, hok, r, q⟩ := h
  obtain ⟨hh, g, d, t, os'⟩ := s'
  obtain rfl : os' = s.os := os
  exact ⟨v, H', I.call (h' := hh) (g' := g) (d' := d) (t' := t) (ch := []) un hok bare (fun b z => absurd z (by simp)), r, q⟩
end
/-! ### calls -/
def tCall (sp : Sp) (dvs : List V) (E : XK) (t : TA) : TE := fun σ H Q => t σ H fun vs H1 => sp (vs ++ dvs) H1 Q E
def tMeth (C : Addr) (m : Str) (sp : Sp) (dvs : List V) (E : XK) (ta : TE) (t : TA) : TE := fun σ H Q => ta σ H fun x H1 => ∃ a dx fs, x = .ref a ∧ H1 a = some (.ins C dx fs) ∧ fs.lookup m = none ∧
  t σ H1 fun vs H2 => sp (x :: (vs ++ dvs)) H2 Q E
def tMake (C : Addr) (sp : Sp) (dvs : List V) (E : XK) (t : TA) : TE := fun σ H Q => t σ H fun vs H1 => ∀ x dx, H1 x = none → H1 dx = none → dx ≠ x →
  sp (.ref x :: (vs ++ dvs)) (upd (upd H1 dx (.own x)) x (.ins C dx [])) (fun v H2 => v = .non ∧ Q (.ref x) H2) E
def Binds (K : PySem.W.Frag) (fd : FuncData) (ps : List Str) (ds : List Value) : Prop :=
  ∀ (s : Shared) (us : List Value), K.In s.heap → (us ++ ds).length = ps.length → BindsTo s fd ⟨us, []⟩ (ps.zip (us ++ ds))
theorem Binds.all {K : PySem.W.Frag} {fd : FuncData} {ps : List Str} (h : ∀ us : List Value, us.length = ps.length → bindArgs fd ⟨us, []⟩ = pure (ps.zip us)) : Binds K fd ps [] := fun s us _ hl => by
  rw [List.append_nil] at hl ⊢
  exact .of_eq (h us hl)
def Passes (CX : CXT) (X : Cx) (E : XK) : Prop := ∀ (pins : List (Addr × Obj)) (σ : St) (H : Hp) (s : Shared) (e : Value) (s' : Shared), Inv X pins σ H s → CX X.stack H s E e s' → X.xe e s'
section
variable {X : Cx} {CX : CXT} {k : Nat} {f C : Addr} {fd : FuncData} {ps : List Str} {sp : Sp} {dvs : List V} {ds : List Value} {E : XK} {x m : Str} {p pos apos : Pos} {e o : Expr} {es : List Expr} {ta : TE} {t : TA}
theorem run_fn {pins : List (Addr × Obj)} {σ : St} {H : Hp} {s : Shared} {Q : VK} {us : List Value} {vs : List V} (F : FnOk X.prog X.w X.K X.mg X.base CX k f fd ps sp) (hr : Room k X.A) (hb : Binds X.K fd ps ds) (hd : Vals dvs ds) (hx : Passes CX X E)
    (I : Inv X pins σ H s) (r : Vals vs us) (h : sp (vs ++ dvs) H Q E) : wpAny (model X.prog X.w) X.A (call (.ref f) us) (EP X pins σ Q) X.xe s := by
  have r2 : Vals (vs ++ dvs) (us ++ ds) := r.append hd
  have hl : (us ++ ds).length = ps.length := by rw [← r2.length]; exact F.len _ _ _ _ h
  refine wpAny_call (codeAny_mono (F.run X.A X.stack s H ⟨us, []⟩ (us ++ ds) (vs ++ dvs) Q E hr I.env0 (hb s us I.kIn hl) r2 h) fun r s' hq => ?_)
  cases r with
  | error e => exact hx pins σ H s e s' I hq
  | ok fl =>
    cases fl with
    | ret u => exact I.after hq
    | next => exact False.elim hq
    | brk => exact False.elim hq
    | cont => exact False.elim hq
theorem pe_call (F : FnOk X.prog X.w X.K X.mg X.base CX k f fd ps sp) (hr : Room k X.A) (hg : Gl X x) (hm : X.mg x = some (.ref f)) (hk : PySem.W.keepIn X.K (.ref f) = true) (hb : Binds X.K fd ps ds) (hd : Vals dvs ds) (hx : Passes CX X E)
    (ha : PA X (e :: es) t) (hdb : (x == ("__debug__" : Str)) = false := by decide) (he : starEach (e :: es) X.env = (false, eval e X.env) :: starEach es X.env := by rfl) (hpl : (backTo pos (starEach es X.env)).any (·.1) = false := by rfl) :
    PE X (.Call (.Name x p) (e :: es) [] pos) (tCall sp dvs E t) := by
  intro pins s σ H Q I h
  refine wpAny_Call_Name_kw (ld_glob I hg hm ?_ hdb)
  refine PySem.W.callWith_K (h₀ := X.base) I.ok.mod.kin hk (thn (ha pos pins s σ H _ I h) fun us s1 ⟨vs, H1, I1, r, q⟩ => ⟨I1.kIn, ?_⟩) he hpl
  exact run_fn F hr hb hd hx I1 r q
theorem pe_call0 (F : FnOk X.prog X.w X.K X.mg X.base CX k f fd ps sp) (hr : Room k X.A) (hg : Gl X x) (hm : X.mg x = some (.ref f)) (hk : PySem.W.keepIn X.K (.ref f) = true) (hb : Binds X.K fd ps ds) (hd : Vals dvs ds) (hx : Passes CX X E)
    (hdb : (x == ("__debug__" : Str)) = false := by decide) : PE X (.Call (.Name x p) [] [] pos) (tCall sp dvs E tNil) := by
  intro pins s σ H Q I h
  refine wpAny_Call_Name_kw (ld_glob I hg hm ?_ hdb)
  exact PySem.W.callWith_K0 I.kIn hk (run_fn (us := []) F hr hb hd hx I .nil h)
theorem pe_meth {pl : Sem Bool} (he : PE X o ta) (c : Cls X.K C) (hm : Meth X.K C m f) (F : FnOk X.prog X.w X.K X.mg X.base CX k f fd ps sp) (hr : Room k X.A) (hb : Binds X.K fd ps ds) (hd : Vals dvs ds) (hx : Passes CX X E) (ha : PA X (e :: es) t)
    (hst : starEach (e :: es) X.env = (false, eval e X.env) :: starEach es X.env := by rfl) (hpl : (backTo pos (starEach es X.env)).any (·.1) = false := by rfl)
    (ht : eval (.Call (.Attribute o m apos) (e :: es) [] pos) X.env = (do
      let ov ← eval o X.env
      standAt apos.atName
      let (f, first) ← holding [ov] (getMethod ov m pl)
      callWith pos f first (backTo pos (starEach (e :: es) X.env)) (backToKw pos (keywordEach [] X.env))) := by rfl) :
    PE X (.Call (.Attribute o m apos) (e :: es) [] pos) (tMeth C m sp dvs E ta t) := by
  intro pins s σ H Q I h
  refine PySem.W.methodCall_KW (pl := pl) (thn (he pins s σ H _ I h) fun u s1 ⟨x, H1, I1, rx, a, dx, fs, ex, ea, l, q⟩ => ?_) ht
  subst ex
  obtain rfl : u = Value.ref a := rx
  refine getmeth_ok I1 ea c hm l ?_
  refine PySem.W.callWith_K (first := [.ref a]) (h₀ := X.base) I.ok.mod.kin hm.kp (thn (ha pos pins s1 σ H1 _ I1 q) fun us s2 ⟨vs, H2, I2, r, q2⟩ => ⟨I2.kIn, ?_⟩) hst hpl
  exact run_fn (us := .ref a :: us) (vs := .ref a :: vs) F hr hb hd hx I2 (.cons rfl r) q2
theorem pe_meth0 {pl : Sem Bool} (he : PE X o ta) (c : Cls X.K C) (hm : Meth X.K C m f) (F : FnOk X.prog X.w X.K X.mg X.base CX k f fd ps sp) (hr : Room k X.A) (hb : Binds X.K fd ps ds) (hd : Vals dvs ds) (hx : Passes CX X E)
    (ht : eval (.Call (.Attribute o m apos) [] [] pos) X.env = (do
      let ov ← eval o X.env
      standAt apos.atName
      let (f, first) ← holding [ov] (getMethod ov m pl)
      callWith pos f first (backTo pos (starEach [] X.env)) (backToKw pos (keywordEach [] X.env))) := by rfl) :
    PE X (.Call (.Attribute o m apos) [] [] pos) (tMeth C m sp dvs E ta tNil) := by
  intro pins s σ H Q I h
  refine PySem.W.methodCall_KW (pl := pl) (thn (he pins s σ H _ I h) fun u s1 ⟨x, H1, I1, rx, a, dx, fs, ex, ea, l, q⟩ => ?_) ht
  subst ex
  obtain rfl : u = Value.ref a := rx
  refine getmeth_ok I1 ea c hm l ?_
  exact PySem.W.callWith_K0 (first := [.ref a]) I1.kIn hm.kp (run_fn (us := [.ref a]) (vs := [.ref a]) F hr hb hd hx I1 (.cons rfl .nil) q)
structure Mk (K : PySem.W.Frag) (C f : Addr) : Prop where
  makes : PySem.W.makesIn K C = true
  init : PySem.W.findIn K (.ref C) "__init__" = some (some (.ref f))
  fn : PySem.W.isFn K (.ref f) = true
  kp : PySem.W.keepIn K (.ref C) = true
theorem run_make {pins : List (Addr × Obj)} {σ : St} {H : Hp} {s : Shared} {Q : VK} {us : List Value} {vs : List V} (M : Mk X.K C f) (F : FnOk X.prog X.w X.K X.mg X.base CX k f fd ps sp) (hr : Room (k + 1) X.A) (hb : Binds X.K fd ps ds) (hd : Vals dvs ds)
    (hx : Passes CX X E) (I : Inv X pins σ H s) (r : Vals vs us)
    (h : ∀ x dx, H x = none → H dx = none → dx ≠ x → sp (.ref x :: (vs ++ dvs)) (upd (upd H dx (.own x)) x (.ins C dx [])) (fun v H2 => v = .non ∧ Q (.ref x) H2) E) :
    wpAny (model X.prog X.w) X.A (call (.ref C) us) (EP X pins σ Q) X.xe s := by
  have hq := h (s.heap.objs.size + 1) s.heap.objs.size (I.hok.fresh (Nat.le_succ _)) (I.hok.fresh (Nat.le_refl _)) (Nat.ne_of_lt (Nat.lt_succ_self _))
  have I2 := Inv.made (C := C) I
  have r2 : Vals (V.ref (s.heap.objs.size + 1) :: (vs ++ dvs)) (Value.ref (s.heap.objs.size + 1) :: (us ++ ds)) := .cons rfl (r.append hd)
  have hl : (Value.ref (s.heap.objs.size + 1) :: us ++ ds).length = ps.length := by
    have e := r2.length
    rw [F.len _ _ _ _ hq] at e
    exact e.symm
  refine wpAny_call (make_map (f := f) I.kIn M.makes M.init (beq_iff_eq.mp M.fn) (codeAny_mono (F.run _ X.stack _ _ ⟨Value.ref (s.heap.objs.size + 1) :: us, []⟩ (Value.ref (s.heap.objs.size + 1) :: (us ++ ds)) _ _ E (hr.make C us [])
    (I2.env0.make C us []) (hb _ (Value.ref (s.heap.objs.size + 1) :: us) I2.kIn hl) r2 hq) fun r s' hq' => ?_))
  cases r with
  | error e => exact hx pins σ _ _ e s' I2 hq'
  | ok fl =>
    cases fl with
    | ret u =>
      obtain ⟨v, H', I3, rv, ev, q3⟩ := I2.after hq'
      subst ev
      exact ⟨rv, ⟨V.ref (s.heap.objs.size + 1), H', I3, rfl, q3⟩⟩
    | next => exact False.elim hq'
    | brk => exact False.elim hq'
    | cont => exact False.elim hq'
theorem pe_make (M : Mk X.K C f) (F : FnOk X.prog X.w X.K X.mg X.base CX k f fd ps sp) (hr : Room (k + 1) X.A) (hg : Gl X x) (hm : X.mg x = some (.ref C)) (hb : Binds X.K fd ps ds) (hd : Vals dvs ds) (hx : Passes CX X E)
    (ha : PA X (e :: es) t) (hdb : (x == ("__debug__" : Str)) = false := by decide) (he : starEach (e :: es) X.env = (false, eval e X.env) :: starEach es X.env := by rfl) (hpl : (backTo pos (starEach es X.env)).any (·.1) = false := by rfl) :
    PE X (.Call (.Name x p) (e :: es) [] pos) (tMake C sp dvs E t) := by
  intro pins s σ H Q I h
  refine wpAny_Call_Name_kw (ld_glob I hg hm ?_ hdb)
  refine PySem.W.callWith_K (h₀ := X.base) I.ok.mod.kin M.kp (thn (ha pos pins s σ H _ I h) fun us s1 ⟨vs, H1, I1, r, q⟩ => ⟨I1.kIn, ?_⟩) he hpl
  exact run_make M F hr hb hd hx I1 r q
theorem pe_make0 (M : Mk X.K C f) (F : FnOk X.prog X.w X.K X.mg X.base CX k f fd ps sp) (hr : Room (k + 1) X.A) (hg : Gl X x) (hm : X.mg x = some (.ref C)) (hb : Binds X.K fd ps ds) (hd : Vals dvs ds) (hx : Passes CX X E)
    (hdb : (x == ("__debug__" : Str)) = false := by decide) : PE X (.Call (.Name x p) [] [] pos) (tMake C sp dvs E tNil) := by
  intro pins s σ H Q I h
  refine wpAny_Call_Name_kw (ld_glob I hg hm ?_ hdb)
  exact PySem.W.callWith_K0 I.kIn M.kp (run_make (us := []) M F hr hb hd hx I .nil h)
end
/-! ### keywords -/
def PK (X : Cx) (kws : List Keyword) (t : TA) : Prop :=
  ∀ (pos : Pos) (pins : List (Addr × Obj)) (s : Shared) (σ : St) (H : Hp) (Q : List V → Hp → Prop), Inv X pins σ H s → t σ H Q → wpAny (model X.prog X.w) X.A (evalAll ((backToKw pos (keywordEach kws X.env)).map (·.2))) (AP X pins σ Q) X.xe s
section
variable {X : Cx} {CX : CXT} {k : Nat} {f C : Addr} {fd : FuncData} {ps ks : List Str} {sp : Sp} {E : XK} {x m : Str} {p pos apos kpos : Pos} {e o : Expr} {es : List Expr} {kws : List Keyword} {te ta : TE} {t tk : TA} {nm : Option Str}
theorem pk_nil : PK X [] tNil := fun _ _ _ _ H Q I h => wpAny_evalAll_nil ⟨[], H, I, .nil, h⟩
theorem pk_cons (ha : PE X e te) (hr : PK X kws t) : PK X (⟨nm, e, kpos⟩ :: kws) (tCons te t) := by
  intro pos pins s σ H Q I h
  show wpAny _ _ (evalAll ((do let v ← eval e X.env; standAt pos; pure v) :: (backToKw pos (keywordEach kws X.env)).map (·.2))) _ _ s
  refine wpAny_evalAll_cons (wpAny_bind (thn (ha pins s σ H _ I h) fun u s1 ⟨x, H1, I1, r1, q1⟩ => wpAny_bind (wpAny_standAt (wpAny_pure ?_))))
  exact thn (hr pos pins s1 σ H1 _ I1 q1) fun us s2 ⟨xs, H2, I2, r2, q2⟩ => ⟨x :: xs, H2, I2, .cons r1 r2, q2⟩
structure KBinds (K : PySem.W.Frag) (fd : FuncData) (ps ks : List Str) (g : List Value → List Value → List Value) (gV : List V → List V → List V) : Prop where
  to : ∀ (s : Shared) (us ws : List Value), K.In s.heap → (g us ws).length = ps.length → BindsTo s fd ⟨us, ks.zip ws⟩ (ps.zip (g us ws))
  rel : ∀ {vs : List V} {us : List Value} {zs : List V} {ws : List Value}, Vals vs us → Vals zs ws → Vals (gV vs zs) (g us ws)
def tCallK (sp : Sp) (gV : List V → List V → List V) (E : XK) (t tk : TA) : TE := fun σ H Q => t σ H fun vs H1 => tk σ H1 fun zs H2 => sp (gV vs zs) H2 Q E
variable {g : List Value → List Value → List Value} {gV : List V → List V → List V}
theorem run_fnk {pins : List (Addr × Obj)} {σ : St} {H : Hp} {s : Shared} {Q : VK} {us ws : List Value} {vs zs : List V} (F : FnOk X.prog X.w X.K X.mg X.base CX k f fd ps sp) (hr : Room k X.A) (hb : KBinds X.K fd ps ks g gV) (hx : Passes CX X E)
    (I : Inv X pins σ H s) (r : Vals vs us) (rz : Vals zs ws) (h : sp (gV vs zs) H Q E) : wpAny (model X.prog X.w) X.A (call (.ref f) us (ks.zip ws)) (EP X pins σ Q) X.xe s := by
  have r2 := hb.rel r rz
  have hl : (g us ws).length = ps.length := by rw [← r2.length]; exact F.len _ _ _ _ h
  refine wpAny_call (codeAny_mono (F.run X.A X.stack s H ⟨us, ks.zip ws⟩ (g us ws) (gV vs zs) Q E hr I.env0 (hb.to s us ws I.kIn hl) r2 h) fun r s' hq => ?_)
  cases r with
  | error e => exact hx pins σ H s e s' I hq
  | ok fl =>
    cases fl with
    | ret u => exact I.after hq
    | next => exact False.elim hq
    | brk => exact False.elim hq
    | cont => exact False.elim hq
theorem pe_callK (F : FnOk X.prog X.w X.K X.mg X.base CX k f fd ps sp) (hr : Room k X.A) (hg : Gl X x) (hm : X.mg x = some (.ref f)) (hk : PySem.W.keepIn X.K (.ref f) = true) (hb : KBinds X.K fd ps ks g gV) (hx : Passes CX X E)
    (ha : PA X (e :: es) t) (hkw : PK X kws tk) (hall : (backToKw pos (keywordEach kws X.env)).all (·.1.isSome) = true := by rfl) (hks : (backToKw pos (keywordEach kws X.env)).filterMap (·.1) = ks := by rfl)
    (hdb : (x == ("__debug__" : Str)) = false := by decide) (he : starEach (e :: es) X.env = (false, eval e X.env) :: starEach es X.env := by rfl)
    (hpl : ((backTo pos (starEach (e :: es) X.env)).any (·.1) || (backToKw pos (keywordEach kws X.env)).any (·.1.isNone)) = false := by rfl) :
    PE X (.Call (.Name x p) (e :: es) kws pos) (tCallK sp gV E t tk) := by
  intro pins s σ H Q I h
  refine wpAny_Call_Name_kw (ld_glob I hg hm ?_ hdb)
  refine PySem.W.callWith_KW (h₀ := X.base) I.ok.mod.kin hk hall (thn (ha pos pins s σ H _ I h) fun us s1 ⟨vs, H1, I1, r, q⟩ => ?_) hpl he
  refine thn (hkw pos pins s1 σ H1 _ I1 q) fun ws s2 ⟨zs, H2, I2, rz, q2⟩ => ⟨I2.kIn, ?_⟩
  rw [hks]
  exact run_fnk F hr hb hx I2 r rz q2
end
/-! ### a def's body keeps its promise -/
structure FnScope (N P : List Str) (sc : Scope) : Prop where
  kind : sc.kind = .function
  co : sc.isCoroutine = false
  gen : sc.isGenerator = false
  nd : N.Nodup
  pre : N.take P.length = P
  par : ∀ x ∈ P, sc.names.lookup x = some .local ∨ sc.names.lookup x = some .cell
  nofree : ∀ y ∈ sc.names, y.2 ≠ .free
theorem bindL_out {kindOf : Str → Option NameKind} {x : Str} : ∀ {binds : List (Str × Value)} {m : Str → Option Value}, (∀ v, (x, v) ∉ binds) → bindL kindOf binds m x = m x
  | [], _, _ => rfl
  | (n, v) :: r, m, h => by
    unfold bindL
    rw [bindL_out fun w hw => h w (List.mem_cons_of_mem _ hw)]
    split
    · have : x ≠ n := by rintro rfl; exact h v List.mem_cons_self
      simp [this]
    · rfl
theorem bindC_out {kindOf : Str → Option NameKind} {x : Str} : ∀ {binds : List (Str × Value)} {m : Str → Option Value}, (∀ v, (x, v) ∉ binds) → bindC kindOf binds m x = m x
  | [], _, _ => rfl
  | (n, v) :: r, m, h => by
    unfold bindC
    rw [bindC_out fun w hw => h w (List.mem_cons_of_mem _ hw)]
    split
    · rfl
    · have : x ≠ n := by rintro rfl; exact h v List.mem_cons_self
      simp [this]
theorem bindL_get {kindOf : Str → Option NameKind} {x : Str} {v : Value} : ∀ {P : List Str} {vs : List Value} {i : Nat} {m : Str → Option Value}, P.Nodup → P[i]? = some x → vs[i]? = some v → kindOf x = some .local →
    bindL kindOf (P.zip vs) m x = some v
  | [], _, _, _, _, h, _, _ => by simp at h
  | _ :: _, [], _, _, _, _, h, _ => by simp at h
  | p :: P, w :: vs, 0, m, nd, h1, h2, hk => by
    simp at h1 h2; subst h1; subst h2
    show bindL kindOf ((p, w) :: P.zip vs) m p = _
    unfold bindL
    rw [bindL_out fun v hv => (List.nodup_cons.mp nd).1 (List.of_mem_zip hv).1, if_pos hk]
    simp
  | p :: P, w :: vs, i + 1, m, nd, h1, h2, hk => by
    show bindL kindOf ((p, w) :: P.zip vs) m x = _
    unfold bindL
    exact bindL_get (i := i) (List.nodup_cons.mp nd).2 (by simpa using h1) (by simpa using h2) hk
theorem bindC_get {kindOf : Str → Option NameKind} {x : Str} {v : Value} : ∀ {P : List Str} {vs : List Value} {i : Nat} {m : Str → Option Value}, P.Nodup → P[i]? = some x → vs[i]? = some v → kindOf x ≠ some .local →
    bindC kindOf (P.zip vs) m x = some v
  | [], _, _, _, _, h, _, _ => by simp at h
  | _ :: _, [], _, _, _, _, h, _ => by simp at h
  | p :: P, w :: vs, 0, m, nd, h1, h2, hk => by
    simp at h1 h2; subst h1; subst h2
    show bindC kindOf ((p, w) :: P.zip vs) m p = _
    unfold bindC
    rw [bindC_out fun v hv => (List.nodup_cons.mp nd).1 (List.of_mem_zip hv).1, if_neg hk]
    simp
  | p :: P, w :: vs, i + 1, m, nd, h1, h2, hk => by
    show bindC kindOf ((p, w) :: P.zip vs) m x = _
    unfold bindC
    exact bindC_get (i := i) (List.nodup_cons.mp nd).2 (by simpa using h1) (by simpa using h2) hk
def start (N : List Str) (vs : List V) : St := vs.map some ++ List.replicate (N.length - vs.length) none
def cxOf (CX : CXT) (P : Program) (w : World) (K : PySem.W.Frag) (mg : Str → Option Value) (base : Heap) (N : List Str) (qual : Str) (scope : Scope) (f : Addr) (cd : Value) (A : Around) (outer : List Env) (s : Shared) (H : Hp) (E : XK) : Cx where
  prog := P
  w := w
  K := K
  mg := mg
  base := base
  A := A.deeper (envOfC qual scope s.heap.objs.size f cd)
  N := N
  s₀ := s
  H₀ := H
  env := envOfC qual scope s.heap.objs.size f cd
  outer := outer
  stack := envOfC qual scope s.heap.objs.size f cd :: outer
  ex := []
  calm := true
  fn := fun _ => true
  pn := []
  xe := fun e s' => wpAny (model P w) (A.deeper (envOfC qual scope s.heap.objs.size f cd)) (leaving (envOfC qual scope s.heap.objs.size f cd) e) (fun _ s'' => CX outer H s E e s'') (fun e' s'' => CX outer H s E e' s'') s'
theorem cell_has {sc : Scope} {n : Nat} {x : Str} (h : sc.names.lookup x = some .cell) : ∃ c, (cellsFrom n sc.names []).lookup x = some c := by
  have q := PySem.W.cellsFrom_some sc.names n [] (.inl h)
  exact Option.isSome_iff_exists.mp q
theorem inv_start {CX : CXT} {P : Program} {w : World} {K : PySem.W.Frag} {mg : Str → Option Value} {base : Heap} {N ps : List Str} {qual : Str} {scope : Scope} {f : Addr} {cd : Value} {A : Around} {outer : List Env} {s s1 : Shared} {H : Hp} {E : XK} {us : List Value} {vs : List V}
    (S : FnScope N ps scope) (hd : A.handled = none) (e0 : Env0 P w K mg base A outer s H) (hl : vs.length = ps.length) (r : Vals vs us)
    (x : InCallC s s.heap.objs.size (bindL (envOfC qual scope s.heap.objs.size f cd).kindOf (ps.zip us) fun _ => none) (cellsFrom (s.heap.objs.size + 1) scope.names []) (bindC (envOfC qual scope s.heap.objs.size f cd).kindOf (ps.zip us) fun _ => none) s1) :
    Inv (cxOf CX P w K mg base N qual scope f cd A outer s H E) [] (start N vs) H s1 := by
  have hpl : ps.length ≤ N.length := by have := congrArg List.length S.pre; rw [List.length_take] at this; omega
  obtain ⟨h1, tk, rfl, hk⟩ := x.done
  have noA : ∀ b : Addr, b ∉ (cxOf CX P w K mg base N qual scope f cd A outer s H E).ex := fun b z => absurd (show b ∈ ([] : List Addr) from z) (by simp)
  refine ⟨⟨e0.mod, S.kind, rfl, rfl, Nat.le_refl _, fun y z c h1 h2 => ?_, fun y hy => ?_, fun y c _ h => ?_, fun _ => hd, Around.frames_deeper e0.frames, .inr ⟨rfl, rfl⟩, fun b z => absurd z (noA b), e0.bs, e0.bsz, fun b _ _ => noA b, fun b z => absurd z (noA b), e0.funs, e0.frf⟩,
    rfl, e0.bare, Un.kept hk, ⟨_, x.toInCall.ns, fun i y v h1 h2 h3 => ?_⟩, fun y c h => ⟨_, x.cell y c h⟩, e0.hok.fresh (Nat.le_refl _), fun y c h => ?_, fun p hp => absurd (show p ∈ ([] : List (Addr × Obj)) from hp) (by simp), e0.hok.kept hk, ?_⟩
  · exact name_of_addr x.apart (PySem.mem_of_lookup h1) (PySem.mem_of_lookup h2)
  · have hy : scope.names.lookup y = some .cell ∨ scope.names.lookup y = some .free := hy
    rcases hy with hy | hy
    · exact cell_has hy
    · exact absurd rfl (S.nofree _ (PySem.mem_of_lookup hy))
  · exact Nat.le_of_lt (x.above y c (PySem.mem_of_lookup h))
  · have hi : i < vs.length := by
      unfold start at h2
      by_cases hi : i < vs.length
      · exact hi
      · rw [List.getElem?_append_right (by simpa using hi)] at h2
        rw [List.getElem?_replicate] at h2
        split at h2 <;> cases h2
    have ha : vs[i]? = some v := by
      unfold start at h2
      rw [List.getElem?_append_left (by simpa using hi), List.getElem?_map] at h2
      cases e : vs[i]? with
      | none => rw [e] at h2; cases h2
      | some a => rw [e] at h2; cases h2; rfl
    obtain ⟨u, hu, rv⟩ := r.get ha
    have hp : ps[i]? = some y := by
      rw [← S.pre, List.getElem?_take_of_lt (by omega)]; exact h1
    have ndP : ps.Nodup := by rw [← S.pre]; exact S.nd.sublist (List.take_sublist _ _)
    refine ⟨u, rv, ?_⟩
    rcases S.par y (List.mem_of_getElem? hp) with k | k
    · exact .inl ⟨k, bindL_get ndP hp hu k⟩
    · obtain ⟨c, e⟩ := cell_has (n := s.heap.objs.size + 1) k
      refine .inr ⟨.inl k, c, e, ?_⟩
      have q := x.cell y c e
      rw [bindC_get ndP hp hu (by show scope.names.lookup y ≠ _; rw [k]; decide)] at q
      exact q
  · exact e0.hok.fresh (Nat.le_of_lt (x.above y c (PySem.mem_of_lookup h)))
  · unfold start
    show _ = N.length
    rw [List.length_append, List.length_map, List.length_replicate]
    omega
theorem fn_of {CX : CXT} {P : Program} {w : World} {K : PySem.W.Frag} {mg : Str → Option Value} {base : Heap} {k : Nat} {f : Addr} {name qual : Str} {params : Arguments} {body : List Stmt} {scope : Scope} {dV kV doc pm cdv ct oc : Value} {an od : Option Addr}
    {osl : Array (Option Value)} {N ps : List Str} {sp : Sp} (lk : K.lookup f = some ⟨oc, od, .func (PySem.W.fnOf name qual params body scope dV kV doc pm an cdv ct), osl⟩) (hcd : PySem.W.codeIn K cdv qual = true) (S : FnScope N ps scope)
    (len : ∀ vs H Q E, sp vs H Q E → vs.length = ps.length)
    (hbody : ∀ (A : Around) (outer : List Env) (s : Shared) (H : Hp) (vs : List V) (Q : VK) (E : XK), Room k (A.deeper (envOfC qual scope s.heap.objs.size f cdv)) → sp vs H Q E →
      ∃ t, PSs (cxOf CX P w K mg base N qual scope f cdv A outer s H E) body t ∧ t { nx := fun _ H' => Q .non H', rt := Q } (start N vs) H) :
    FnOk P w K mg base CX (k + 1) f (PySem.W.fnOf name qual params body scope dV kV doc pm an cdv ct) ps sp := by
  refine ⟨len, fun A outer s H args us vs Q E hr e0 hb r hsp => ?_⟩
  have hl := len _ _ _ _ hsp
  have KX : K.In s.heap := e0.mod.kin.keeps fun b o e => (e0.bs b o e).1
  have lim : s.heap.NoLimit := e0.mod.nolimit.keeps fun b o e => (e0.bs b o e).1
  have hkind : ∀ y ∈ ps.zip us, scope.names.lookup y.1 = some .local ∨ (scope.names.lookup y.1 = some .cell ∧ ((cellsFrom (s.heap.objs.size + 1) scope.names []).lookup y.1).isSome = true) := fun ⟨n, v⟩ hy => by
    rcases S.par n (List.of_mem_zip hy).1 with q | q
    · exact .inl q
    · exact .inr ⟨q, PySem.W.cellsFrom_some _ _ _ (.inl q)⟩
  refine codeAny_call_function hr.depth (KX _ _ lk) rfl S.co S.gen rfl (PySem.W.codeRec_of KX hcd) (hb _ _ _ _ ?_)
  refine wpAny_newFunctionEnv_cells S.kind hkind fun env he s1 x => ?_
  subst he
  refine ⟨lim.keeps x.toInCall.keep, codeAny_func ?_⟩
  obtain ⟨t, ht, hq⟩ := hbody A outer s H vs Q E (hr.deeper _) hsp
  have I : Inv (cxOf CX P w K mg base N qual scope f cdv A outer s H E) [] (start N vs) H s1 := inv_start S hr.hd e0 hl r x
  refine wpAny_mono (ht [] s1 (start N vs) H _ I hq) (fun fl s' hs => ?_) fun e s' hs => hs
  have fin : ∀ {σ' : St} {H' : Hp} {v : V} {u : Value}, Inv (cxOf CX P w K mg base N qual scope f cdv A outer s H E) [] σ' H' s' → RelV v u → Q v H' → CE outer P w H s Q u s' :=
    fun {σ' H' v u} J rv q => ⟨v, H', J.os, J.bare, J.base, J.hok, rv, q⟩
  cases fl with
  | ret u =>
    obtain ⟨v, σ', H', J, rv, q⟩ := hs
    exact fin J rv q
  | next =>
    obtain ⟨σ', H', J, q⟩ := hs
    exact fin (v := V.non) (u := Value.none) J rfl q
  | brk =>
    obtain ⟨_, _, _, q⟩ := hs
    exact False.elim q
  | cont =>
    obtain ⟨_, _, _, q⟩ := hs
    exact False.elim q
end L2
namespace L2
open PySem PySem.Spec PyProof.Rows
section
variable {X : Cx} {x : Str} {p pos : Pos} {e : Expr} {es : List Expr} {t : TA} {id T : String} {r : List V → Hp → VK → Prop}
def tCB (r : List V → Hp → VK → Prop) (t : TA) : TE := fun σ H Q => t σ H fun vs H1 => r vs H1 Q
theorem pe_callB (hc : CallR X (.builtin id) r) (hg : Gl X x) (hm : X.mg x = none) (hv : bootBuiltins x = some (.builtin id)) (ha : PA X (e :: es) t) (hn : x ≠ "__name__" := by decide) (hdb : (x == ("__debug__" : Str)) = false := by decide)
    (he : starEach (e :: es) X.env = (false, eval e X.env) :: starEach es X.env := by rfl) (hpl : (backTo pos (starEach es X.env)).any (·.1) = false := by rfl) : PE X (.Call (.Name x p) (e :: es) [] pos) (tCB r t) := by
  intro pins s σ H Q I h
  refine wpAny_Call_Name_kw (ld_blt I hg hm hv ?_ hn hdb)
  exact PyProof.Rows.callWith_builtin1 (thn (ha pos pins s σ H _ I h) fun us s1 ⟨vs, H1, I1, r1, q1⟩ => hc pins s1 σ H1 vs us Q I1 r1 q1) he hpl
theorem pe_callTy (hc : CallR X (.type T) r) (hg : Gl X x) (hm : X.mg x = none) (hv : bootBuiltins x = some (.type T)) (ha : PA X (e :: es) t) (hn : x ≠ "__name__" := by decide) (hdb : (x == ("__debug__" : Str)) = false := by decide)
    (he : starEach (e :: es) X.env = (false, eval e X.env) :: starEach es X.env := by rfl) (hpl : (backTo pos (starEach es X.env)).any (·.1) = false := by rfl) : PE X (.Call (.Name x p) (e :: es) [] pos) (tCB r t) := by
  intro pins s σ H Q I h
  refine wpAny_Call_Name_kw (ld_blt I hg hm hv ?_ hn hdb)
  exact PyProof.Rows.callWith_type1 (thn (ha pos pins s σ H _ I h) fun us s1 ⟨vs, H1, I1, r1, q1⟩ => hc pins s1 σ H1 vs us Q I1 r1 q1) he hpl
theorem pe_callTy0 (hc : CallR X (.type T) r) (hg : Gl X x) (hm : X.mg x = none) (hv : bootBuiltins x = some (.type T)) (hn : x ≠ "__name__" := by decide) (hdb : (x == ("__debug__" : Str)) = false := by decide) :
    PE X (.Call (.Name x p) [] [] pos) (tCB r tNil) := by
  intro pins s σ H Q I h
  refine wpAny_Call_Name_kw (ld_blt I hg hm hv ?_ hn hdb)
  exact PyProof.Rows.callWith_type0 (hc pins s σ H [] [] Q I .nil h)
end
end L2
namespace HT
open PySem PyProof.Rows
def lexLt : List Int → List Int → Bool
  | [], [] => false
  | [], _ :: _ => true
  | _ :: _, [] => false
  | x :: xs, y :: ys => if x = y then lexLt xs ys else decide (x < y)
theorem lexLt_cons (x y : Int) (xs ys : List Int) : lexLt (x :: xs) (y :: ys) = if x = y then lexLt xs ys else decide (x < y) := rfl
theorem lexLt_nil_nil : lexLt [] [] = false := rfl
theorem lexLt_nil_cons (y : Int) (ys : List Int) : lexLt [] (y :: ys) = true := rfl
theorem lexLt_cons_nil (x : Int) (xs : List Int) : lexLt (x :: xs) [] = false := rfl
theorem eqAt_int (A : Around) (s : Shared) (a : Int) (t : Tok) (c : Int) (u : Tok) : ∃ e, SeqAt.EqAt A s (.int a t) (.int c u) e ∧ (e = true ↔ a = c) :=
  ⟨(a == c), SeqAt.EqAt.int_int a t c u, by simp⟩
theorem rcLt_int (A : Around) (s : Shared) (a : Int) (t : Tok) (c : Int) (u : Tok) (prog : Program) (w : World) (E : Value → Shared → Prop) (Q : Value → Shared → Prop) (h : Q (.bool (decide (a < c))) s) :
    wpAny (model prog w) A (richCompare .Lt (.int a t) (.int c u)) Q E s :=
  (PyProof.Rows.lt_int h : wpAny (model prog w) A (compareOp .Lt (.int a t) (.int c u)) Q E s)
section
open PySem.SeqAt
open PySem.AutoSeq1 (wpAny_loadPart')
open PySem.MeetsSeq PySem.MeetsSeq2 PySem.MeetsSeq3
theorem tuple_lt_ints (l b : Addr) (items items2 : Array Value) (n n2 : Nat) (dd dd2 : Option Addr) (sl sl2 : Array (Option Value)) (ns ms : List Int) (hi : IntsAre items.toList ns) (hj : IntsAre items2.toList ms) :
    Meets (Builtin.«tuple.__lt__» ⟨[.ref l, .ref b], []⟩)
      (fun _ R s => s.heap.get? l = some { cls := .type "tuple", dict := dd, data := .seq items n, slots := sl } ∧ s.heap.get? b = some { cls := .type "tuple", dict := dd2, data := .seq items2 n2, slots := sl2 } ∧
        R (.ok (.ret (.bool (lexLt ns ms)))) s) :=
  .of_wp fun prog w A R s h => by
    obtain ⟨hp, g, d, tk, os⟩ := s; obtain ⟨hl, hb, h⟩ := h
    have f2 := AutoSeq1.sub_tuple_tuple
    have z1 : items.size = ns.length := by rw [← hi.length]; simp
    have z2 : items2.size = ms.length := by rw [← hj.length]; simp
    wp_walk using wpAny_loadPart' hl, wpAny_loadPart' hb, wpAny_forIn_list _ (fun rest b s' => b.1 = none ∧ s' = ⟨hp, g, d, tk, os⟩ ∧ ∃ (vs ws : List Value) (ns' ms' : List Int), rest = vs.zip ws ∧
      IntsAre vs ns' ∧ IntsAre ws ms' ∧ ns'.length + items2.size = ms'.length + items.size ∧ R (.ok (.ret (.bool (lexLt ns' ms')))) ⟨hp, g, d, tk, os⟩) _
    case turn =>
      rintro ⟨y, x⟩ rest b s' ⟨hb', rfl, vs, ws, ns', ms', hz, hvi, hwi, hlen, hR⟩
      cases hvi with
      | nil => rw [List.zip_nil_left] at hz; cases hz
      | cons a t hvi' =>
        cases hwi with
        | nil => rw [List.zip_nil_right] at hz; cases hz
        | cons c u hwi' =>
          rw [List.zip_cons_cons] at hz
          injection hz with hyx hrest
          injection hyx with hy hx
          subst hy hx
          rw [lexLt_cons] at hR
          simp only [List.length_cons] at hlen
          obtain ⟨e, he, hiff⟩ := eqAt_int A.in1 ⟨hp, g, d, tk, os⟩ a t c u
          refine wpAny_bind (he prog w _ _ ?_)
          cases e with
          | true =>
            rw [if_pos (hiff.mp rfl)] at hR
            wp_walk
            exact ⟨rfl, rfl, _, _, _, _, hrest, hvi', hwi', by omega, hR⟩
          | false =>
            rw [if_neg (fun q => absurd (hiff.mpr q) Bool.false_ne_true)] at hR
            have hri := rcLt_int A.in1 ⟨hp, g, d, tk, os⟩ a t c u prog w
            wp_walk using hri
            exact ⟨_, rfl, by simpa using hR⟩
    case fin =>
      rintro ⟨b1, b2⟩ s' ⟨hb', rfl, vs, ws, ns', ms', hz, hvi, hwi, hlen, hR⟩
      simp only at hb'
      subst hb'
      have hv : lexLt ns' ms' = decide (items.size < items2.size) := by
        cases hvi with
        | nil =>
          cases hwi with
          | nil =>
            simp only [List.length_nil] at hlen
            rw [lexLt_nil_nil]
            exact (decide_eq_false (by omega)).symm
          | cons c u hw =>
            simp only [List.length_nil, List.length_cons] at hlen
            rw [lexLt_nil_cons]
            exact (decide_eq_true (by omega)).symm
        | cons a t hv =>
          cases hwi with
          | nil =>
            simp only [List.length_nil, List.length_cons] at hlen
            rw [lexLt_cons_nil]
            exact (decide_eq_false (by omega)).symm
          | cons c u hw =>
            rw [List.zip_cons_cons] at hz
            cases hz
      rw [hv] at hR
      wp_walk
      exact ⟨_, rfl, by simpa [Builtin.Tuple.tupleCompareSizes] using hR⟩
    case h =>
      exact ⟨rfl, rfl, items.toList, items2.toList, ns, ms, rfl, hi, hj, by omega, h⟩
end
section
variable {prog : Program} {w : World} {A : Around} {E : Value → Shared → Prop} {s : Shared}
theorem lt_tupInts {l b : Addr} {items items2 : Array Value} {ns ms : List Int} {Q : Value → Shared → Prop} (hl : IsTup s.heap l items) (hb : IsTup s.heap b items2) (hi : IntsAre items.toList ns) (hj : IntsAre items2.toList ms)
    (hu : A.units < cLine) (h : Q (.bool (lexLt ns ms)) s) : wpAny (model prog w) A (compareOp .Lt (.ref l) (.ref b)) Q E s := by
  obtain ⟨⟨cls, dd, data, sl⟩, ho, hc, n, hd⟩ := id hl
  obtain ⟨⟨cls2, dd2, data2, sl2⟩, ho2, hc2, n2, hd2⟩ := id hb
  simp only at hc hd hc2 hd2
  subst hc hd hc2 hd2
  exact richCompare_meets_room (op := .Lt) ⟨_, ho, rfl⟩ ⟨_, ho2, rfl⟩ PySem.F.slot_tuple_lt PySem.F.entry_tuple_lt (PySem.F.args_tuple_lt_2 _ _) (tuple_lt_ints l b items items2 n n2 dd dd2 sl sl2 ns ms hi hj)
    ⟨ho, ho2, show Value.bool (lexLt ns ms) ≠ Value.notImplemented ∧ Q (.bool (lexLt ns ms)) s from ⟨(fun x => nomatch x), h⟩⟩ hu
theorem cat_tup {t b : Addr} {vs ws : List Value} {Q : Value → Shared → Prop} (ht : IsTup s.heap t vs.toArray) (hb : IsTup s.heap b ws.toArray) (hv : vs ≠ [])
    (h1 : ws = [] → Q (.ref t) s) (h2 : ws ≠ [] → Q (.ref s.heap.objs.size) { s with heap := s.heap.push { cls := .type "tuple", data := .seq (vs ++ ws).toArray } })
    (hsz : vs.length + ws.length ≤ sizeLine) : wpAny (model prog w) A (binaryOp .Add (.ref t) (.ref b)) Q E s := by
  obtain ⟨⟨cls, dd, data, sl⟩, ho, hc, n, hd⟩ := id ht
  obtain ⟨⟨cls2, dd2, data2, sl2⟩, ho2, hc2, n2, hd2⟩ := id hb
  simp only at hc hd hc2 hd2
  subst hc hd hc2 hd2
  have e : vs.toArray ++ ws.toArray = (vs ++ ws).toArray := by simp
  by_cases hw : ws = []
  · exact concat_meets ⟨_, ho, rfl⟩ ⟨_, ho2, rfl⟩ noFill_tuple_add seq_tuple_add PySem.F.slot_tuple_add PySem.F.entry_tuple_add (PySem.F.args_tuple_add_2 _ _)
      (tuple_addW1 t b vs.toArray ws.toArray n n2 dd dd2 sl sl2 (by simpa using hv) (by simp [hw])) ⟨ho, ho2, h1 hw⟩
  · refine concat_meets ⟨_, ho, rfl⟩ ⟨_, ho2, rfl⟩ noFill_tuple_add seq_tuple_add PySem.F.slot_tuple_add PySem.F.entry_tuple_add (PySem.F.args_tuple_add_2 _ _)
      (tuple_addW2 t b vs.toArray ws.toArray n n2 dd dd2 sl sl2 (by simpa using hv) (by simpa using hw) (by rw [List.size_toArray, List.size_toArray]; exact hsz)) ⟨ho, ho2, ?_⟩
    rw [e]
    exact h2 hw
/-! ### t[a:b], not the whole -/
def sIx (n d : Nat) : Option Int → Nat
  | none => d
  | some v => if v < 0 then (v + (n : Int)).toNat else min v.toNat n
theorem sIx_none (n d : Nat) : sIx n d none = d := rfl
theorem sIx_nat (n d k : Nat) : sIx n d (some (k : Int)) = min k n := by
  show (if (k : Int) < 0 then ((k : Int) + (n : Int)).toNat else min (k : Int).toNat n) = min k n
  rw [if_neg (by omega), Int.toNat_natCast]
theorem sIx_le (n d : Nat) (hd : d ≤ n) (o : Option Int) : sIx n d o ≤ n := by
  cases o with
  | none => exact hd
  | some v =>
    show (if v < 0 then (v + (n : Int)).toNat else min v.toNat n) ≤ n
    by_cases hv : v < 0
    · rw [if_pos hv]; omega
    · rw [if_neg hv]; exact Nat.min_le_right _ _
theorem clip_eq (v : Int) (n d : Nat) : (if v < 0 then max (v + (n : Int)) 0 else min v (n : Int)) = ((sIx n d (some v) : Nat) : Int) := by
  show (if v < 0 then max (v + (n : Int)) 0 else min v (n : Int)) = (((if v < 0 then (v + (n : Int)).toNat else min v.toNat n) : Nat) : Int)
  by_cases hv : v < 0
  · simp only [if_pos hv]; omega
  · simp only [if_neg hv]; omega
theorem adjust_gen (lo hi : Option Int) (n : Nat) : Builtin.Slice.sliceAdjust lo hi 1 (n : Int) = (((sIx n 0 lo : Nat) : Int), ((sIx n n hi : Nat) : Int)) := by
  have h1 : ¬ ((1 : Int) < 0) := by omega
  unfold Builtin.Slice.sliceAdjust
  simp only [h1, if_false]
  refine Prod.ext ?_ ?_
  · cases lo with
    | none => rfl
    | some v => exact clip_eq v n 0
  · cases hi with
    | none => rfl
    | some v => exact clip_eq v n n
theorem places_gen (i j : Nat) : Builtin.Slice.slicePlaces (i : Int) (j : Int) 1 = j - i := by
  unfold Builtin.Slice.slicePlaces
  have h1 : (1 : Int) > 0 := by omega
  simp only [h1, if_true, Int.ediv_one]
  split <;> omega
theorem slicePart_ {v : Value} {o : Option Int} {Q : Option Int → Shared → Prop} (p : IsPart v o) (h : Q o s) : wpAny (model prog w) A (Builtin.Slice.slicePartIndex v) Q E s := by
  cases p with
  | none => exact slicePart_none h
  | int i t => exact slicePart_int h
theorem sliceApplied_gen {sl : Addr} {vl vu : Value} {lo hi : Option Int} {n : Nat} {Q : Int × Int × Nat → Shared → Prop} (hs : s.heap.IsSliceOf sl vl vu .none) (pl : IsPart vl lo) (pu : IsPart vu hi)
    (h : Q (((sIx n 0 lo : Nat) : Int), 1, sIx n n hi - sIx n 0 lo) s) : wpAny (model prog w) A (Builtin.Slice.sliceApplied (.ref sl) (pure (n : Int))) Q E s := by
  obtain ⟨os, hos, hcs, hds⟩ := id hs
  unfold Builtin.Slice.sliceApplied Builtin.Slice.sliceFields
  refine wpAny_bind (wpAny_bind (wpAny_field hos hds (x := vl) rfl (wpAny_bind (wpAny_field hos hds (x := vu) rfl (wpAny_bind (wpAny_field hos hds (x := .none) rfl (wpAny_pure ?_)))))))
  refine wpAny_bind (slicePart_none ?_)
  show wpAny _ _ (if ((1 : Int) == 0) = true then _ else _) _ _ s
  rw [if_neg (by decide)]
  refine wpAny_bind (slicePart_ pl (wpAny_bind (slicePart_ pu (wpAny_bind (wpAny_pure ?_)))))
  show wpAny _ _ (match Builtin.Slice.sliceAdjust lo hi 1 (n : Int) with | (lo, hi) => pure (lo, (1 : Int), Builtin.Slice.slicePlaces lo hi 1)) _ _ s
  rw [adjust_gen lo hi n]
  show wpAny _ _ (pure (((sIx n 0 lo : Nat) : Int), (1 : Int), Builtin.Slice.slicePlaces ((sIx n 0 lo : Nat) : Int) ((sIx n n hi : Nat) : Int) 1)) _ _ s
  rw [places_gen]
  exact wpAny_pure h
theorem pick_gen (xs : Array Value) (i k : Nat) : ((List.range k).filterMap fun (m : Nat) => xs[((i : Int) + (m : Int) * 1).toNat]?).toArray = ((xs.toList.drop i).take k).toArray := by
  have e : (fun (m : Nat) => xs[((i : Int) + (m : Int) * 1).toNat]?) = fun m => xs[i + m]? := by
    funext m
    have : ((i : Int) + (m : Int) * 1).toNat = i + m := by omega
    rw [this]
  rw [e]
  have := pick_run xs i k
  rw [List.filterMap_map] at this
  have e2 : ((fun x => xs[x]?) ∘ fun x => i + x) = fun m => xs[i + m]? := rfl
  rw [e2] at this
  rw [this]
theorem getItem_tuple_cut {t sl : Addr} {items : Array Value} {vl vu : Value} {lo hi : Option Int} {Q : Value → Shared → Prop} (ht : IsTup s.heap t items) (hs : s.heap.IsSliceOf sl vl vu .none) (pl : IsPart vl lo) (pu : IsPart vu hi)
    (hw : ¬ (sIx items.size 0 lo = 0 ∧ sIx items.size items.size hi = items.size))
    (h : Q (.ref s.heap.objs.size) { s with heap := s.heap.push { cls := .type "tuple", data := .seq ((items.toList.drop (sIx items.size 0 lo)).take (sIx items.size items.size hi - sIx items.size 0 lo)).toArray } })
    (hsz : items.size ≤ sizeLine) : wpAny (model prog w) A (getItem (.ref t) (.ref sl)) Q E s := by
  have htake : sizeOk (.seq ((items.toList.drop (sIx items.size 0 lo)).take (sIx items.size items.size hi - sIx items.size 0 lo)).toArray) := by
    show ((items.toList.drop (sIx items.size 0 lo)).take (sIx items.size items.size hi - sIx items.size 0 lo)).toArray.size ≤ sizeLine
    rw [List.size_toArray, List.length_take, List.length_drop, Array.length_toList]
    omega
  have hj : sIx items.size items.size hi ≤ items.size := sIx_le _ _ (Nat.le_refl _) hi
  obtain ⟨os, hos, hcs, hds⟩ := id hs
  have hTs : s.TypeIs (.ref sl) "slice" := ⟨os, hos, hcs⟩
  unfold getItem
  try with_reducible refine wpAny_holding ?_
  first | refine wpAny_bind (wpAny_pure ?_) | skip
  refine wpAny_bind (wpAny_sequenceKey ht.typeIs (by decide) ?_)
  refine wpAny_bind (wpAny_callSpecial?_slot (name := Str.ofString "__getitem__") ht.typeIs PyProof.Rows.slot_tuple_getitem
    (wpAny_call_entry PyProof.Rows.slot_tuple_getitem ht.typeIs entry_tuple_getitem ?_ (args_tuple_getitem _ _)))
  show wpAny _ _ (Builtin.Tuple.tupleItemsOf (.ref t) >>= _) _ _ s
  refine wpAny_bind (tupleItemsOf_ ht ?_)
  refine wpAny_bind (wpAny_typeOf hTs ?_)
  rw [if_pos (by decide)]
  refine wpAny_bind (sliceApplied_gen hs pl pu ?_)
  have hno : ¬ ((((sIx items.size 0 lo : Nat) : Int) == 0 && (1 : Int) == 1 && (sIx items.size items.size hi - sIx items.size 0 lo) == items.size) = true) := by
    intro q
    rw [Bool.and_eq_true, Bool.and_eq_true] at q
    have q1 : ((sIx items.size 0 lo : Nat) : Int) = 0 := eq_of_beq q.1.1
    have q2 : sIx items.size items.size hi - sIx items.size 0 lo = items.size := eq_of_beq q.2
    exact hw ⟨by omega, by omega⟩
  show wpAny _ _ (if (((sIx items.size 0 lo : Nat) : Int) == 0 && (1 : Int) == 1 && (sIx items.size items.size hi - sIx items.size 0 lo) == items.size) = true then _ else _) _ _ s
  rw [if_neg hno, pick_gen]
  first
    | exact wpAny_bind (m := Builtin.Tuple.tupleExact _) (wpAny_newObj_type (wpAny_pure ⟨_, rfl, wpAny_pure h⟩) htake)
    | exact wpAny_bind (m := Builtin.Tuple.tupleExact _) (wpAny_newObj_type (wpAny_bind (wpAny_pure (wpAny_pure ⟨_, rfl, wpAny_pure h⟩))) htake)
    | exact wpAny_bind (wpAny_bind (m := Builtin.Tuple.tupleExact _) (wpAny_newObj_type (wpAny_pure (wpAny_pure ⟨_, rfl, wpAny_pure h⟩)) htake))
    | exact wpAny_bind (wpAny_bind (m := Builtin.Tuple.tupleExact _) (wpAny_newObj_type (wpAny_pure ⟨_, rfl, wpAny_pure h⟩) htake))
end
end HT
namespace L2
open PySem PySem.Spec PyProof.Rows
/-! ### the parts of a slice -/
abbrev TO := St → Hp → (Option Int → Hp → Prop) → Prop
def PO (X : Cx) (e : Option Expr) (t : TO) : Prop :=
  ∀ (pins : List (Addr × Obj)) (s : Shared) (σ : St) (H : Hp) (Q : Option Int → Hp → Prop), Inv X pins σ H s → t σ H Q →
    wpAny (model X.prog X.w) X.A (evalPart e X.env) (fun u s' => ∃ o H', Inv X pins σ H' s' ∧ IsPart u o ∧ Q o H') X.xe s
def tNoPart : TO := fun _ H Q => Q none H
def tPart (t : TE) : TO := fun σ H Q => t σ H fun x H1 => ∃ i, x = .int i ∧ Q (some i) H1
theorem intsAre_of {ns : List Int} : ∀ {us : List Value}, Vals (ns.map V.int) us → IntsAre us ns := by
  induction ns with
  | nil => intro us r; rw [List.map_nil] at r; cases r; exact .nil
  | cons n ns ih =>
    intro us r
    rw [List.map_cons] at r
    cases r with
    | cons r1 r2 =>
      obtain ⟨t, e⟩ := r1
      subst e
      exact .cons n t (ih r2)
section
variable {X : Cx} {e : Expr} {te : TE} {lo hi : Option Expr} {tl th : TO} {pos p2 : Pos}
theorem po_none : PO X none tNoPart := by
  intro pins s σ H Q I h
  rw [evalPart_none]
  exact wpAny_pure ⟨none, H, I, .none, h⟩
theorem po_some (h : PE X e te) : PO X (some e) (tPart te) := by
  intro pins s σ H Q I hw
  rw [evalPart_some]
  refine thn (h pins s σ H _ I hw) fun u s1 ⟨x, H1, I1, r1, q1⟩ => ?_
  obtain ⟨i, rfl, q⟩ := q1
  obtain ⟨t, rfl⟩ := r1
  exact ⟨some i, H1, I1, .int i t, q⟩
def SlR (X : Cx) (r : V → Option Int → Option Int → Hp → VK → Prop) : Prop :=
  ∀ (pins : List (Addr × Obj)) (s : Shared) (σ : St) (H : Hp) (x : V) (v vl vu : Value) (lo hi : Option Int) (sl : Addr) (Q : VK), Inv X pins σ H s → RelV x v → s.heap.IsSliceOf sl vl vu .none → IsPart vl lo → IsPart vu hi → r x lo hi H Q →
    ∃ T id, typeLookup (.type T) "__getitem__" = pure (some (.builtin id)) ∧ s.TypeIs v T ∧ wpAny (model X.prog X.w) X.A (getItem v (.ref sl)) (EP X pins σ Q) X.xe s
theorem SlR.or {r r' : V → Option Int → Option Int → Hp → VK → Prop} (h : SlR X r) (h' : SlR X r') : SlR X (fun x lo hi H Q => r x lo hi H Q ∨ r' x lo hi H Q) := by
  intro pins s σ H x v vl vu lo hi sl Q I rx hs pl pu q
  rcases q with q | q
  · exact h pins s σ H x v vl vu lo hi sl Q I rx hs pl pu q
  · exact h' pins s σ H x v vl vu lo hi sl Q I rx hs pl pu q
def tSl (r : V → Option Int → Option Int → Hp → VK → Prop) (te : TE) (tl th : TO) : TE := fun σ H Q => te σ H fun x H1 => tl σ H1 fun l H2 => th σ H2 fun u H3 => r x l u H3 Q
theorem pe_slice {r : V → Option Int → Option Int → Hp → VK → Prop} (hr : SlR X r) (he : PE X e te) (hl : PO X lo tl) (hu : PO X hi th) : PE X (.Subscript e (.Slice lo hi none p2) pos) (tSl r te tl th) := by
  intro pins s σ H Q I h
  refine Subscript_ (thn (he pins s σ H _ I h) fun v s1 ⟨x, H1, I1, r1, q1⟩ => ?_)
  refine wpAny_Slice (thn (hl pins s1 σ H1 _ I1 q1) fun vl s2 ⟨l, H2, I2, pl, q2⟩ => thn (hu pins s2 σ H2 _ I2 q2) fun vu s3 ⟨u, H3, I3, pu, q3⟩ => ?_)
  rw [evalPart_none]
  refine wpAny_pure ?_
  have I4 : Inv X pins σ H3 { s3 with heap := s3.heap.push { cls := .type "slice", data := .fields #[vl, vu, .none] } } := I3.kept (t' := s3.toks) fun b ob q => Heap.get?_push_of_some _ q
  obtain ⟨T, id, hT, ht, hg⟩ := hr pins { s3 with heap := s3.heap.push { cls := .type "slice", data := .fields #[vl, vu, .none] } } σ H3 x v vl vu l u s3.heap.objs.size Q I4 r1 (Heap.IsSliceOf.new ..) pl pu q3
  show wpAny (model X.prog X.w) X.A (subscriptTail e (.Slice lo hi none p2) v (.ref s3.heap.objs.size)) (EP X pins σ Q) X.xe { s3 with heap := s3.heap.push { cls := .type "slice", data := .fields #[vl, vu, .none] } }
  exact tail_any (ops := [.ref s3.heap.objs.size, v]) ht hT hg (by with_unfolding_all rfl)
def cutV (xs : List V) (lo hi : Option Int) : List V := (xs.drop (HT.sIx xs.length 0 lo)).take (HT.sIx xs.length xs.length hi - HT.sIx xs.length 0 lo)
theorem cutV_length (xs : List V) (lo hi : Option Int) : (cutV xs lo hi).length ≤ xs.length := by
  unfold cutV
  rw [List.length_take, List.length_drop]
  omega
def rSlT (K : PySem.W.Frag) : V → Option Int → Option Int → Hp → VK → Prop := fun x lo hi H Q => ∃ a xs, x = .ref a ∧ SqT K H a xs ∧
  ¬ (HT.sIx xs.length 0 lo = 0 ∧ HT.sIx xs.length xs.length hi = xs.length) ∧ ∀ p, H p = none → Q (.ref p) (upd H p (.tup (cutV xs lo hi)))
theorem sl_tup : SlR X (rSlT X.K) := by
  intro pins s σ H x v vl vu lo hi sl Q I rx hs pl pu h
  obtain ⟨a, xs, rfl, hx, hw, q⟩ := h
  cases rx
  obtain ⟨its, r, ht, hz⟩ := I.tuple hx
  have hlen : its.toArray.size = xs.length := by rw [List.size_toArray]; exact r.length.symm
  refine ⟨"tuple", _, PyProof.Rows.slot_tuple_getitem.lookup, ht.typeIs, ?_⟩
  refine HT.getItem_tuple_cut ht hs pl pu (by rw [hlen]; exact hw) ?_ (by rw [hlen]; exact hz)
  rw [hlen]
  refine ⟨.ref s.heap.objs.size, _, I.laid (t' := s.toks) (o := .tup (cutV xs lo hi)) (fun b ob q => Heap.get?_push_of_some _ q) (Nat.le_refl _) ?_, rfl, q _ (I.hok.fresh (Nat.le_refl _))⟩
  exact ⟨Nat.le_trans (cutV_length xs lo hi) hz, _, (r.drop (HT.sIx xs.length 0 lo)).take (HT.sIx xs.length xs.length hi - HT.sIx xs.length 0 lo), IsTup.new _ _⟩
/-! ### t < u, t + u -/
def rLtT (K : PySem.W.Frag) : R2 := fun x y H Q => ∃ a b ns ms, x = .ref a ∧ y = .ref b ∧ SqT K H a (ns.map V.int) ∧ SqT K H b (ms.map V.int) ∧ Q (.bl (HT.lexLt ns ms)) H
theorem op_ltT (hu : X.A.units < cLine) : OpR X (compareOp .Lt) (rLtT X.K) := by
  intro pins s σ H x y v u Q I rx ry h
  obtain ⟨a, b, ns, ms, rfl, rfl, ha, hb, q⟩ := h
  cases rx
  cases ry
  obtain ⟨its, r1, p1, _⟩ := I.tuple ha
  obtain ⟨its2, r2, p2, _⟩ := I.tuple hb
  have i1 : IntsAre its.toArray.toList ns := intsAre_of r1
  have i2 : IntsAre its2.toArray.toList ms := intsAre_of r2
  exact HT.lt_tupInts p1 p2 i1 i2 hu ⟨.bl (HT.lexLt ns ms), H, I, rfl, q⟩
def rCatT (K : PySem.W.Frag) : R2 := fun x y H Q => ∃ a b xs ys, x = .ref a ∧ y = .ref b ∧ SqT K H a xs ∧ SqT K H b ys ∧ xs ≠ [] ∧ xs.length + ys.length ≤ sizeLine ∧
  (ys = [] → Q (.ref a) H) ∧ (ys ≠ [] → ∀ p, H p = none → Q (.ref p) (upd H p (.tup (xs ++ ys))))
theorem Vals.nil_iff {xs : List V} {us : List Value} (r : Vals xs us) : us = [] ↔ xs = [] := by
  cases r with
  | nil => simp
  | cons _ _ => simp
theorem op_catT : OpR X (binaryOp .Add) (rCatT X.K) := by
  intro pins s σ H x y v u Q I rx ry h
  obtain ⟨a, b, xs, ys, rfl, rfl, ha, hb, hx, hz, q1, q2⟩ := h
  cases rx
  cases ry
  obtain ⟨its, r1, p1, _⟩ := I.tuple ha
  obtain ⟨its2, r2, p2, _⟩ := I.tuple hb
  refine HT.cat_tup p1 p2 (fun z => hx (r1.nil_iff.mp z)) (fun z => ⟨.ref a, H, I, rfl, q1 (r2.nil_iff.mp z)⟩) (fun z => ?_) (by rw [← r1.length, ← r2.length]; exact hz)
  refine ⟨.ref s.heap.objs.size, _, I.laid (t' := s.toks) (o := .tup (xs ++ ys)) (fun b ob q => Heap.get?_push_of_some _ q) (Nat.le_refl _) ?_, rfl, q2 (fun w => z (r2.nil_iff.mpr w)) _ (I.hok.fresh (Nat.le_refl _))⟩
  exact ⟨by rw [List.length_append]; exact hz, _, r1.append r2, IsTup.new _ _⟩
theorem call_tupleT : CallR X (.type "tuple") (fun xs H Q => ∃ a ys, xs = [.ref a] ∧ SqT X.K H a ys ∧ Q (.ref a) H) := by
  intro pins s σ H xs us Q I r h
  obtain ⟨a, ys, rfl, ha, q⟩ := h
  obtain ⟨u, rfl, ru⟩ := vals1 r
  cases ru
  obtain ⟨its, _, p1, _⟩ := I.tuple ha
  exact call_tuple_same (items := its.toArray) p1 ⟨.ref a, H, I, rfl, q⟩
end
end L2
namespace L2
open PySem PySem.Spec PyProof.Rows
/-! ### places -/
def ixN (n : Nat) (i : Int) : Option Nat := if 0 ≤ i then (if i < n then some i.toNat else none) else if -(n : Int) ≤ i then some (i + n).toNat else none
def atI {α : Type} (xs : List α) (i : Int) : Option α := (ixN xs.length i).bind fun j => xs[j]?
theorem ixN_seq {n : Nat} {i : Int} {j : Nat} (h : ixN n i = some j) : seqIndex? i n = some j ∧ j < n ∧ -(n : Int) ≤ i ∧ i < n := by
  unfold ixN at h
  by_cases h0 : 0 ≤ i
  · rw [if_pos h0] at h
    by_cases h1 : i < n
    · rw [if_pos h1] at h
      have e : i.toNat = j := Option.some.inj h
      exact ⟨by rw [seqIndex_of h0 h1, e], by omega, by omega, h1⟩
    · rw [if_neg h1] at h; cases h
  · rw [if_neg h0] at h
    by_cases h1 : -(n : Int) ≤ i
    · rw [if_pos h1] at h
      have e : (i + n).toNat = j := Option.some.inj h
      exact ⟨by rw [seqIndex_neg (by omega) h1, e], by omega, h1, by omega⟩
    · rw [if_neg h1] at h; cases h
theorem atI_get {α : Type} {xs : List α} {i : Int} {v : α} (h : atI xs i = some v) : ∃ j, seqIndex? i xs.length = some j ∧ xs[j]? = some v ∧ j < xs.length ∧ -(xs.length : Int) ≤ i ∧ i < xs.length := by
  unfold atI at h
  cases e : ixN xs.length i with
  | none => rw [e] at h; cases h
  | some j =>
    rw [e] at h
    obtain ⟨h1, h2, h3, h4⟩ := ixN_seq e
    exact ⟨j, h1, h, h2, h3, h4⟩
theorem atI_nat {α : Type} {xs : List α} {j : Nat} {v : α} (h : xs[j]? = some v) : atI xs (j : Int) = some v := by
  have hj : j < xs.length := (List.getElem?_eq_some_iff.mp h).1
  have e : ixN xs.length (j : Int) = some j := by
    unfold ixN
    rw [if_pos (by omega), if_pos (by omega)]; simp
  unfold atI; rw [e]; exact h
theorem atI_last {α : Type} (xs : List α) (v : α) : atI (xs ++ [v]) (-1) = some v := by
  have hl : (xs ++ [v]).length = xs.length + 1 := by simp
  have e : ixN (xs ++ [v]).length (-1) = some xs.length := by
    unfold ixN
    rw [hl, if_neg (by decide), if_pos (by omega)]
    congr 1
    omega
  unfold atI
  rw [e]
  show (xs ++ [v])[xs.length]? = some v
  simp
/-! ### what may be subscripted -/
def PlainIx (b : Expr) : Prop := ∀ o i, subscripted b false o i = operate [o, i] (getItem o i)
def IxR (X : Cx) (r : R2) : Prop :=
  ∀ (value slice : Expr) (pins : List (Addr × Obj)) (s : Shared) (σ : St) (H : Hp) (x y : V) (v u : Value) (Q : VK), Inv X pins σ H s → RelV x v → RelV y u → r x y H Q →
    subscripted slice false v u = operate [v, u] (getItem v u) → wpAny (model X.prog X.w) X.A (subscriptTail value slice v u) (EP X pins σ Q) X.xe s
def MtR (X : Cx) (id : String) (r : V → List V → Hp → VK → Prop) : Prop :=
  ∀ (pins : List (Addr × Obj)) (s : Shared) (σ : St) (H : Hp) (x : V) (xs : List V) (v : Value) (us : List Value) (Q : VK), Inv X pins σ H s → RelV x v → Vals xs us → r x xs H Q →
    wpAny (model X.prog X.w) X.A (call (.builtin id) (v :: us)) (EP X pins σ Q) X.xe s
section
variable {X : Cx} {a b : Expr} {ta tb : TE} {pos : Pos}
theorem IxR.or {r r' : R2} (h : IxR X r) (h' : IxR X r') : IxR X (fun x y H Q => r x y H Q ∨ r' x y H Q) := by
  intro value slice pins s σ H x y v u Q I rx ry q hs
  rcases q with q | q
  · exact h value slice pins s σ H x y v u Q I rx ry q hs
  · exact h' value slice pins s σ H x y v u Q I rx ry q hs
theorem MtR.or {id : String} {r r' : V → List V → Hp → VK → Prop} (h : MtR X id r) (h' : MtR X id r') : MtR X id (fun x xs H Q => r x xs H Q ∨ r' x xs H Q) := by
  intro pins s σ H x xs v us Q I rx rs q
  rcases q with q | q
  · exact h pins s σ H x xs v us Q I rx rs q
  · exact h' pins s σ H x xs v us Q I rx rs q
theorem pe_ix {r : R2} (hr : IxR X r) (ha : PE X a ta) (hb : PE X b tb) (hs : PlainIx b) : PE X (.Subscript a b pos) (tOp r ta tb) := by
  intro pins s σ H Q I h
  exact Subscript_ (binT ha hb I h fun v u s2 x y H2 I2 rx ry q => hr a b pins s2 σ H2 x y v u Q I2 rx ry q (hs _ _))
def rIxL (K : PySem.W.Frag) : R2 := fun x y H Q => ∃ p xs i v, x = .ref p ∧ y = .int i ∧ SqL K H p xs ∧ atI xs i = some v ∧ Q v H
def rIxT (K : PySem.W.Frag) : R2 := fun x y H Q => ∃ p xs i v, x = .ref p ∧ y = .int i ∧ SqT K H p xs ∧ atI xs i = some v ∧ Q v H
def rIxS : R2 := fun x y H Q => ∃ z i c, x = .str z ∧ y = .int i ∧ z.length ≤ sizeLine ∧ atI z.cps.toList i = some c ∧ Q (.str ⟨#[c]⟩) H
theorem ix_list : IxR X (rIxL X.K) := by
  intro value slice pins s σ H x y v u Q I rx ry h hs
  obtain ⟨p, xs, i, z, rfl, rfl, hq, he, q⟩ := h
  cases rx
  obtain ⟨t, rfl⟩ := ry
  obtain ⟨its, r, pl, hz⟩ := I.list hq
  obtain ⟨j, h1, h2, h3, h4, h5⟩ := atI_get he
  obtain ⟨w, ew, rw'⟩ := r.get h2
  have hl := r.length
  have hn := line63
  have fin : EP X pins σ Q w s := ⟨z, H, I, rw', q⟩
  by_cases h0 : 0 ≤ i
  · have hj : i.toNat = j := by
      rw [seqIndex_of h0 h5] at h1
      exact Option.some.inj h1
    exact item_listR pl.isList h0 (by omega) (by rw [hj]; simpa using ew) fin hs
  · have hj : (i + (its.toArray.size : Int)).toNat = j := by
      rw [seqIndex_neg (by omega) h4] at h1
      rw [List.size_toArray, ← hl]
      exact Option.some.inj h1
    exact subscriptTail_builtinR (x := w) pl.isList.typeIs slot_list_getitem.lookup
      (wpAny_getItem_list_neg (Q := fun r s' => r = w ∧ EP X pins σ Q r s') pl.isList (by omega) (by rw [List.size_toArray] <;> omega) (by omega) (by rw [hj]; simpa using ew) ⟨rfl, fin⟩) hs
theorem ix_tup : IxR X (rIxT X.K) := by
  intro value slice pins s σ H x y v u Q I rx ry h hs
  obtain ⟨p, xs, i, z, rfl, rfl, hq, he, q⟩ := h
  cases rx
  obtain ⟨t, rfl⟩ := ry
  obtain ⟨its, r, pl, hz⟩ := I.tuple hq
  obtain ⟨j, h1, h2, h3, h4, h5⟩ := atI_get he
  obtain ⟨w, ew, rw'⟩ := r.get h2
  have hl := r.length
  have hn := line63
  have fin : EP X pins σ Q w s := ⟨z, H, I, rw', q⟩
  exact subscriptTail_builtinR (x := w) pl.typeIs slot_tuple_getitem.lookup
    (getItem_tuple (j := j) (Q := fun r s' => r = w ∧ EP X pins σ Q r s') pl (by omega) (by omega) (by rw [List.size_toArray, ← hl]; exact h1) (by simpa using ew) ⟨rfl, fin⟩) hs
theorem ix_str : IxR X rIxS := by
  intro value slice pins s σ H x y v u Q I rx ry h hs
  obtain ⟨z, i, c, rfl, rfl, hz, he, q⟩ := h
  obtain ⟨t, rfl⟩ := rx
  obtain ⟨t', rfl⟩ := ry
  obtain ⟨j, h1, h2, h3, h4, h5⟩ := atI_get he
  have hl : z.cps.toList.length = z.length := by simp [Str.length]
  rw [hl] at h1 h4 h5
  have hn := line63
  exact tail_any (typeIs_str s z t) slot_str_getitem.lookup (getItem_str (c := c) (by
    have e1 : decide (i < -(2 ^ 63 : Int)) = false := decide_eq_false (by omega)
    have e2 : decide (i ≥ 2 ^ 63) = false := decide_eq_false (by omega)
    rw [e1, e2, Bool.or_false]) (by rw [h1]; simpa using h2) ⟨.str ⟨#[c]⟩, H, I.tok _, ⟨_, rfl⟩, q⟩) hs
def rIx (K : PySem.W.Frag) : R2 := fun x y H Q => rIxL K x y H Q ∨ rIxT K x y H Q ∨ rIxS x y H Q
theorem ix_seq : IxR X (rIx X.K) := ix_list.or (ix_tup.or ix_str)
/-! ### xs[i] = v, any sign -/
theorem mapSeq_set (its : List Value) (n j : Nat) (u : Value) : Obj.mapSeq (·.setIfInBounds j u) { cls := .type "list", data := .seq its.toArray n } = { cls := .type "list", data := .seq (its.set j u).toArray n } := by
  simp [Obj.mapSeq]
theorem Inv.lst {pins : List (Addr × Obj)} {σ : St} {H : Hp} {s : Shared} {p : Addr} {xs : List V} (I : Inv X pins σ H s) (h : H p = some (.lst xs)) :
    ∃ (its : List Value) (n : Nat), Vals xs its ∧ s.heap.get? p = some { cls := .type "list", data := .seq its.toArray n } ∧ xs.length ≤ sizeLine := by
  obtain ⟨z, its, n, r, e⟩ := I.hok p _ h
  exact ⟨its, n, r, e, z⟩
theorem Inv.lstUpd {pins : List (Addr × Obj)} {σ : St} {H : Hp} {s : Shared} {p : Addr} {xs ys : List V} {its its' : List Value} {n n' : Nat} {f : Obj → Obj} (I : Inv X pins σ H s) (h : H p = some (.lst xs))
    (ho : s.heap.get? p = some { cls := .type "list", data := .seq its.toArray n }) (hf : f { cls := .type "list", data := .seq its.toArray n } = { cls := .type "list", data := .seq its'.toArray n' }) (r : Vals ys its') (hz : ys.length ≤ sizeLine) (t : Nat) :
    Inv X pins σ (upd H p (.lst ys)) { s with heap := s.heap.update p f, toks := t } := by
  have e : (s.heap.update p f).get? p = some { cls := .type "list", data := .seq its'.toArray n' } := by
    rw [Heap.get?_update_self f ho (by rw [hf] <;> rfl), hf]
  refine I.write (x := p) (e := p) (by rw [h]; trivial) (.inl rfl) (fun b u hb q => (Heap.get?_update_other _ _ (Ne.symm hb)).trans q) ⟨_, e⟩ ?_
  exact ⟨hz, its', n', r, e⟩
def rSetL : V → V → V → Hp → (Hp → Prop) → Prop := fun o i v H Q => ∃ p xs k j, o = .ref p ∧ i = .int k ∧ H p = some (.lst xs) ∧ ixN xs.length k = some j ∧ Q (upd H p (.lst (xs.set j v)))
theorem set_list : PSet X rSetL := by
  intro pins s σ H o i v ov iv u Q I ro ri rv h
  obtain ⟨p, xs, k, j, rfl, rfl, hp, hj, q⟩ := h
  cases ro
  obtain ⟨t, rfl⟩ := ri
  obtain ⟨its, n, r, ho, hz⟩ := I.lst hp
  obtain ⟨h1, h2, h3, h4⟩ := ixN_seq hj
  have hl := r.length
  have hn := line63
  have I' : Inv X pins σ (upd H p (.lst (xs.set j v))) { s with heap := s.heap.update p (Obj.mapSeq (·.setIfInBounds j u)) } :=
    I.lstUpd hp ho (mapSeq_set its n j u) (r.set rv j) (by rw [List.length_set]; exact hz) s.toks
  by_cases h0 : 0 ≤ k
  · have hk : k.toNat = j := by
      rw [seqIndex_of h0 h4] at h1
      exact Option.some.inj h1
    exact PySem.W.ki_setAt ho h0 (by omega) (by rw [List.size_toArray, ← hl]; exact h4) (by rw [hk]; exact ⟨_, I', q⟩)
  · have hk : (k + (its.toArray.size : Int)).toNat = j := by
      rw [seqIndex_neg (by omega) h3] at h1
      rw [List.size_toArray, ← hl]
      exact Option.some.inj h1
    exact PySem.W.ki_setBack ho (by omega) (by rw [List.size_toArray, ← hl]; exact h3) (by omega) (by rw [hk]; exact ⟨_, I', q⟩)
/-! ### slices -/
theorem slice_bounds (lo hi : Option Int) (n : Nat) : (sliceBounds lo hi none n).1 = ((HT.sIx n 0 lo : Nat) : Int) ∧ (sliceBounds lo hi none n).2.1 = ((HT.sIx n n hi : Nat) : Int) ∧ (sliceBounds lo hi none n).2.2 = 1 := by
  refine ⟨?_, ?_, rfl⟩
  · cases lo with
    | none => simp [sliceBounds, HT.sIx]
    | some i =>
      simp only [sliceBounds, HT.sIx, Option.getD_none, show (1 : Int) > 0 by decide, if_true]
      by_cases h : i < 0
      · simp only [h, if_true] <;> omega
      · simp only [h, if_false] <;> omega
  · cases hi with
    | none => simp [sliceBounds, HT.sIx]
    | some i =>
      simp only [sliceBounds, HT.sIx, Option.getD_none, show (1 : Int) > 0 by decide, if_true]
      by_cases h : i < 0
      · simp only [h, if_true] <;> omega
      · simp only [h, if_false] <;> omega
theorem slicePick_cut (its : List Value) (lo hi : Option Int) : slicePick its.toArray lo hi none = ((its.drop (HT.sIx its.length 0 lo)).take (HT.sIx its.length its.length hi - HT.sIx its.length 0 lo)).toArray := by
  obtain ⟨h1, h2, h3⟩ := slice_bounds lo hi its.toArray.size
  unfold slicePick
  rw [h1, h2, h3]
  simp only [sliceRange_one, pick_run, List.size_toArray] <;> rfl
def rSlL (K : PySem.W.Frag) : V → Option Int → Option Int → Hp → VK → Prop := fun x lo hi H Q => ∃ a xs, x = .ref a ∧ SqL K H a xs ∧ ∀ p, H p = none → Q (.ref p) (upd H p (.lst (cutV xs lo hi)))
theorem sl_list : SlR X (rSlL X.K) := by
  intro pins s σ H x v vl vu lo hi sl Q I rx hs pl pu h
  obtain ⟨a, xs, rfl, hx, q⟩ := h
  cases rx
  obtain ⟨its, r, ht, hz⟩ := I.list hx
  have hlen := r.length
  refine ⟨"list", _, slot_list_getitem.lookup, ht.isList.typeIs, ?_⟩
  refine wpAny_getItem_list_slice ht.isList hs pl pu .none (by simp) ?_ (by rw [List.size_toArray] <;> omega)
  rw [slicePick_cut, ← hlen]
  refine ⟨.ref s.heap.objs.size, _, I.laid (t' := s.toks) (o := .lst (cutV xs lo hi)) (fun b ob q => Heap.get?_push_of_some _ q) (Nat.le_refl _) ?_, rfl, q _ (I.hok.fresh (Nat.le_refl _))⟩
  exact ⟨Nat.le_trans (cutV_length xs lo hi) hz, _, 0, (r.drop (HT.sIx xs.length 0 lo)).take (HT.sIx xs.length xs.length hi - HT.sIx xs.length 0 lo), Heap.get?_push_size _ rfl⟩
/-! ### in, not in: flat items -/
def flatV : V → Bool
  | .non => true
  | .bl _ => true
  | .int _ => true
  | .str _ => true
  | _ => false
def eqV : V → V → Bool
  | .non, .non => true
  | .bl a, .bl b => a == b
  | .bl a, .int b => (if a then 1 else 0) == b
  | .int a, .bl b => a == (if b then 1 else 0)
  | .int a, .int b => a == b
  | .str a, .str b => a == b
  | _, _ => false
theorem eqAt_V {A : Around} {s : Shared} {y x : V} {u v : Value} (ry : RelV y u) (rx : RelV x v) (fy : flatV y = true) (fx : flatV x = true) : SeqAt.EqAt A s u v (eqV y x) := by
  cases y with
  | non =>
    cases ry
    cases x with
    | non => cases rx; exact SeqAt.EqAt.same _
    | bl b => cases rx; exact SeqAt.EqAt.none_bool b
    | int b => obtain ⟨t, rfl⟩ := rx; exact SeqAt.EqAt.none_int b t
    | str b => obtain ⟨t, rfl⟩ := rx; exact SeqAt.EqAt.none_str b t
    | _ => exact absurd (show false = true from fx) Bool.false_ne_true
  | bl a =>
    cases ry
    cases x with
    | non => cases rx; exact SeqAt.EqAt.bool_none a
    | bl b => cases rx; exact SeqAt.EqAt.bool_bool a b
    | int b => obtain ⟨t, rfl⟩ := rx; exact SeqAt.EqAt.bool_int a b t
    | str b => obtain ⟨t, rfl⟩ := rx; exact SeqAt.EqAt.bool_str a b t
    | _ => exact absurd (show false = true from fx) Bool.false_ne_true
  | int a =>
    obtain ⟨t', rfl⟩ := ry
    cases x with
    | non => cases rx; exact SeqAt.EqAt.int_none a t'
    | bl b => cases rx; exact SeqAt.EqAt.int_bool a t' b
    | int b => obtain ⟨t, rfl⟩ := rx; exact SeqAt.EqAt.int_int a t' b t
    | str b => obtain ⟨t, rfl⟩ := rx; exact SeqAt.EqAt.int_str a t' b t
    | _ => exact absurd (show false = true from fx) Bool.false_ne_true
  | str a =>
    obtain ⟨t', rfl⟩ := ry
    cases x with
    | non => cases rx; exact SeqAt.EqAt.str_none a t'
    | bl b => cases rx; exact SeqAt.EqAt.str_bool a t' b
    | int b => obtain ⟨t, rfl⟩ := rx; exact SeqAt.EqAt.str_int a t' b t
    | str b => obtain ⟨t, rfl⟩ := rx; exact SeqAt.EqAt.str_str a t' b t
    | _ => exact absurd (show false = true from fx) Bool.false_ne_true
  | _ => exact absurd (show false = true from fy) Bool.false_ne_true
def eqU (x : V) (u : Value) : Bool := match u with
  | .none => eqV .non x
  | .bool b => eqV (.bl b) x
  | .int i _ => eqV (.int i) x
  | .str z _ => eqV (.str z) x
  | _ => false
theorem eqU_of {x y : V} {u : Value} (r : RelV y u) (f : flatV y = true) : eqU x u = eqV y x := by
  cases y with
  | non => cases r; rfl
  | bl b => cases r; rfl
  | int i => obtain ⟨t, rfl⟩ := r; rfl
  | str z => obtain ⟨t, rfl⟩ := r; rfl
  | _ => exact absurd (show false = true from f) Bool.false_ne_true
theorem any_eqU {x : V} : ∀ {xs : List V} {us : List Value}, Vals xs us → xs.all flatV = true → us.any (eqU x) = xs.any fun y => eqV y x
  | _, _, .nil, _ => rfl
  | y :: xs, u :: us, .cons r t, f => by
    rw [List.all_cons, Bool.and_eq_true] at f
    rw [List.any_cons, List.any_cons, eqU_of r f.1, any_eqU t f.2]
theorem mem_eqAt {A : Around} {s : Shared} {x : V} {v : Value} (rx : RelV x v) (fx : flatV x = true) : ∀ {xs : List V} {us : List Value}, Vals xs us → xs.all flatV = true → ∀ u ∈ us, SeqAt.EqAt A s u v (eqU x u)
  | _, _, .nil, _ => fun u hu => by cases hu
  | y :: xs, u :: us, .cons r t, f => fun u' hu => by
    rw [List.all_cons, Bool.and_eq_true] at f
    rcases List.mem_cons.mp hu with rfl | hu
    · rw [eqU_of r f.1]; exact eqAt_V r rx f.1 fx
    · exact mem_eqAt rx fx t f.2 u' hu
def inV (x : V) (xs : List V) : Bool := xs.any fun y => eqV y x
def rIn (K : PySem.W.Frag) (neg : Bool) : R2 := fun x y H Q => ∃ p xs, y = .ref p ∧ (SqL K H p xs ∨ SqT K H p xs) ∧ flatV x = true ∧ xs.all flatV = true ∧ Q (.bl (if neg then !inV x xs else inV x xs)) H
theorem op_in_seq : OpR X (compareOp .In) (rIn X.K false) := by
  intro pins s σ H x y v u Q I rx ry h
  obtain ⟨p, xs, rfl, hq, fx, fs, q⟩ := h
  cases ry
  rcases hq with hq | hq
  · obtain ⟨its, r, pl, hz⟩ := I.list hq
    refine SeqAt.in_listAt (eqU x) pl.isList (fun w hw => mem_eqAt rx fx r fs w (by simpa using hw)) ⟨.bl _, H, I, rfl, ?_⟩
    rw [show its.toArray.any (eqU x) = its.any (eqU x) by simp, any_eqU r fs]
    exact q
  · obtain ⟨its, r, pl, hz⟩ := I.tuple hq
    refine SeqAt.in_tupleAt (eqU x) pl (fun w hw => mem_eqAt rx fx r fs w (by simpa using hw)) ⟨.bl _, H, I, rfl, ?_⟩
    rw [show its.toArray.any (eqU x) = its.any (eqU x) by simp, any_eqU r fs]
    exact q
theorem op_notIn_seq : OpR X (compareOp .NotIn) (rIn X.K true) := by
  intro pins s σ H x y v u Q I rx ry h
  obtain ⟨p, xs, rfl, hq, fx, fs, q⟩ := h
  cases ry
  rcases hq with hq | hq
  · obtain ⟨its, r, pl, hz⟩ := I.list hq
    refine SeqAt.notIn_listAt (eqU x) pl.isList (fun w hw => mem_eqAt rx fx r fs w (by simpa using hw)) ⟨.bl _, H, I, rfl, ?_⟩
    rw [show its.toArray.any (eqU x) = its.any (eqU x) by simp, any_eqU r fs]
    exact q
  · obtain ⟨its, r, pl, hz⟩ := I.tuple hq
    refine SeqAt.notIn_tupleAt (eqU x) pl (fun w hw => mem_eqAt rx fx r fs w (by simpa using hw)) ⟨.bl _, H, I, rfl, ?_⟩
    rw [show its.toArray.any (eqU x) = its.any (eqU x) by simp, any_eqU r fs]
    exact q
theorem op_notIn_str : OpR X (compareOp .NotIn) (fun x y H Q => ∃ i j, x = .str i ∧ y = .str j ∧ Q (.bl (!(!(Builtin.Str.occurrences j i 0 j.length 1).isEmpty))) H) := by
  intro pins s σ H x y v u Q I rx ry h
  obtain ⟨i, j, rfl, rfl, q⟩ := h
  obtain ⟨t, rfl⟩ := rx
  obtain ⟨t', rfl⟩ := ry
  exact notIn_str ⟨.bl _, H, I, rfl, q⟩
/-! ### len, list(x), tuple(x) of any list or tuple that is read -/
theorem call_len_seq : CallR X (.builtin "len") (fun xs H Q => ∃ p ys, xs = [.ref p] ∧ (SqL X.K H p ys ∨ SqT X.K H p ys) ∧ Q (.int ys.length) H) := by
  intro pins s σ H xs us Q I r h
  obtain ⟨p, ys, rfl, hq, q⟩ := h
  obtain ⟨u, rfl, rx⟩ := vals1 r
  cases rx
  have hn := line63
  rcases hq with hq | hq
  · obtain ⟨its, r', pl, hz⟩ := I.list hq
    have hlen := r'.length
    exact Calls.call_len_list pl.isList (by simp only [List.size_toArray] <;> omega) ⟨.int ys.length, H, I.tok _, ⟨s.toks + 1, by rw [List.size_toArray, hlen]⟩, q⟩
  · obtain ⟨its, r', pl, hz⟩ := I.tuple hq
    have hlen := r'.length
    exact len_tuple pl (by simp only [List.size_toArray] <;> omega) ⟨.int ys.length, H, I.tok _, ⟨s.toks + 1, by rw [List.size_toArray, hlen]⟩, q⟩
theorem call_len_str : CallR X (.builtin "len") (fun xs H Q => ∃ z, xs = [.str z] ∧ z.length ≤ sizeLine ∧ Q (.int z.length) H) := by
  intro pins s σ H xs us Q I r h
  obtain ⟨z, rfl, hz, q⟩ := h
  obtain ⟨u, rfl, t, rfl⟩ := vals1 r
  have hn := line63
  exact len_str (by omega) ⟨.int z.length, H, I.tok _, ⟨_, rfl⟩, q⟩
theorem CallR.or {f : Value} {r r' : List V → Hp → VK → Prop} (h : CallR X f r) (h' : CallR X f r') : CallR X f (fun xs H Q => r xs H Q ∨ r' xs H Q) := by
  intro pins s σ H xs us Q I rs q
  rcases q with q | q
  · exact h pins s σ H xs us Q I rs q
  · exact h' pins s σ H xs us Q I rs q
theorem call_list_of : CallR X (.type "list") (fun xs H Q => ∃ p ys, xs = [.ref p] ∧ (SqL X.K H p ys ∨ SqT X.K H p ys) ∧ ∀ l, H l = none → Q (.ref l) (upd H l (.lst ys))) := by
  intro pins s σ H xs us Q I r h
  obtain ⟨p, ys, rfl, hq, q⟩ := h
  obtain ⟨u, rfl, rx⟩ := vals1 r
  cases rx
  have fin : ∀ (its : List Value), Vals ys its → ys.length ≤ sizeLine → ∀ (h' : Heap) (c' : Nat), (∀ b o', s.heap.get? b = some o' → h'.get? b = some o') →
      h'.get? s.heap.objs.size = some { cls := .type "list", dict := none, data := .seq its.toArray c', slots := #[] } → EP X pins σ Q (.ref s.heap.objs.size) { s with heap := h' } := fun its r' hz h' c' kp e =>
    ⟨.ref s.heap.objs.size, _, I.laid (t' := s.toks) kp (Nat.le_refl _) (show ObjOk X.prog X.w _ h' _ (.lst ys) from ⟨hz, its, c', r', e⟩), rfl, q _ (I.hok.fresh (Nat.le_refl _))⟩
  rcases hq with hq | hq
  · obtain ⟨its, r', pl, hz⟩ := I.list hq
    have hlen := r'.length
    obtain ⟨o, ho, hc, n, hd⟩ := pl.isList
    exact call_list_seq p (.inl rfl) ho hc hd (fun h' c' kp e => fin its r' hz h' c' kp e) (by simp only [List.size_toArray] <;> omega)
  · obtain ⟨its, r', pl, hz⟩ := I.tuple hq
    have hlen := r'.length
    obtain ⟨o, ho, hc, n, hd⟩ := pl
    exact call_list_seq p (.inr rfl) ho hc hd (fun h' c' kp e => fin its r' hz h' c' kp e) (by simp only [List.size_toArray] <;> omega)
theorem call_tuple_of : CallR X (.type "tuple") (fun xs H Q => ∃ p ys, xs = [.ref p] ∧ ((SqL X.K H p ys ∧ ∀ l, H l = none → Q (.ref l) (upd H l (.tup ys))) ∨ (SqT X.K H p ys ∧ Q (.ref p) H))) := by
  intro pins s σ H xs us Q I r h
  obtain ⟨p, ys, rfl, h⟩ := h
  obtain ⟨u, rfl, rx⟩ := vals1 r
  cases rx
  rcases h with ⟨hq, q⟩ | ⟨hq, q⟩
  · obtain ⟨its, r', pl, hz⟩ := I.list hq
    have hlen := r'.length
    refine call_tuple_list pl.isList (fun h' kp => ?_) (by simp only [List.size_toArray] <;> omega)
    have I1 : Inv X pins σ H { s with heap := h' } := I.kept (t' := s.toks) kp
    have I2 : Inv X pins σ (upd H h'.objs.size (.tup ys)) { s with heap := h'.push { cls := .type "tuple", data := .seq its.toArray } } :=
      I1.laid (t' := s.toks) (fun b o e => Heap.get?_push_of_some _ e) (Nat.le_refl _) (show ObjOk X.prog X.w _ _ _ (.tup ys) from ⟨hz, its, r', IsTup.new _ _⟩)
    exact ⟨.ref h'.objs.size, _, I2, rfl, q _ (I1.hok.fresh (Nat.le_refl _))⟩
  · obtain ⟨its, r', pl, hz⟩ := I.tuple hq
    exact call_tuple_same pl ⟨.ref p, H, I, rfl, q⟩
/-! ### the call of a builtin's method: o.m(..) -/
def tyV (K : PySem.W.Frag) (T : String) (x : V) (H : Hp) : Prop := match x with
  | .str _ => T = "str"
  | .int _ => T = "int"
  | .ref p => (T = "list" ∧ ∃ xs, SqL K H p xs) ∨ (T = "tuple" ∧ ∃ o, K.lookup p = some o ∧ o.cls = .type "tuple" ∧ o.dict = none) ∨
      (T = "dict" ∧ ((∃ kvs, H p = some (.dK kvs)) ∨ ∃ kvs, H p = some (.dT kvs))) ∨ (T = "set" ∧ ∃ S n, H p = some (.set S n))
  | _ => False
theorem tyV_is {pins : List (Addr × Obj)} {σ : St} {H : Hp} {s : Shared} {T : String} {x : V} {v : Value} (I : Inv X pins σ H s) (r : RelV x v) (ty : tyV X.K T x H) :
    s.TypeIs v T ∧ ∀ a, v = .ref a → ∃ ob, s.heap.get? a = some ob ∧ ob.dict = none := by
  cases x with
  | str z =>
    obtain ⟨t, rfl⟩ := r
    cases (show T = "str" from ty)
    exact ⟨typeIs_str s z t, fun _ e => nomatch e⟩
  | int i =>
    obtain ⟨t, rfl⟩ := r
    cases (show T = "int" from ty)
    exact ⟨typeIs_int s i t, fun _ e => nomatch e⟩
  | ref p =>
    cases r
    rcases ty with ⟨rfl, xs, hq⟩ | ⟨rfl, o, hk, hc, hd⟩ | ⟨rfl, hk⟩ | ⟨rfl, S, n, hk⟩
    · obtain ⟨its, _, pl, _⟩ := I.list hq
      refine ⟨pl.isList.typeIs, fun a e => ?_⟩
      cases e
      obtain ⟨o, n, e, c, hd, _⟩ := pl
      exact ⟨o, e, hd⟩
    · refine ⟨⟨o, I.kIn p o hk, hc⟩, fun a e => ?_⟩
      cases e
      exact ⟨o, I.kIn _ o hk, hd⟩
    · have z : ∃ o, s.heap.get? p = some o ∧ o.ExactDict := by
        rcases hk with ⟨kvs, hk⟩ | ⟨kvs, hk⟩
        · obtain ⟨_, _, _, _, o, _, _, e, ex, _⟩ := I.hok p _ hk
          exact ⟨o, e, ex⟩
        · obtain ⟨_, _, _, _, o, _, _, e, ex, _⟩ := I.hok p _ hk
          exact ⟨o, e, ex⟩
      obtain ⟨o, e, ex⟩ := z
      refine ⟨⟨o, e, ex.1⟩, fun a e2 => ?_⟩
      cases e2
      exact ⟨o, e, ex.2.1⟩
    · obtain ⟨o, _, _, _, e, ex, _⟩ := I.hok p _ hk
      refine ⟨⟨o, e, ex.1⟩, fun a e2 => ?_⟩
      cases e2
      exact ⟨o, e, ex.2.1⟩
  | _ => exact False.elim ty
def tBM0 (K : PySem.W.Frag) (T : String) (r : V → List V → Hp → VK → Prop) (to : TE) : TE := fun σ H Q => to σ H fun x H1 => tyV K T x H1 ∧ r x [] H1 Q
def tBM (K : PySem.W.Frag) (T : String) (r : V → List V → Hp → VK → Prop) (to : TE) (t : TA) : TE := fun σ H Q => to σ H fun x H1 => tyV K T x H1 ∧ t σ H1 fun xs H2 => r x xs H2 Q
variable {o e : Expr} {es : List Expr} {to : TE} {t : TA} {name : Str} {apos cpos : Pos} {T id : String} {r : V → List V → Hp → VK → Prop}
theorem pe_bm0 (pa : PlainAttrs T) (slot : Slot T name id) (hty : typeOf (.builtin id) = pure (.type "method_descriptor")) (hm : MtR X id r) (ho : PE X o to)
    (hbase : attributeBase o name X.env (eval o X.env) = eval o X.env := by rfl) (hline : (apos.endLine == cpos.line) = true := by rfl) : PE X (.Call (.Attribute o name apos) [] [] cpos) (tBM0 X.K T r to) := by
  intro pins s σ H Q I h
  refine wpAny_Call_method0_late hbase hline (thn (ho pins s σ H _ I h) fun v s1 ⟨x, H1, I1, r1, ty, q1⟩ => ?_)
  obtain ⟨h1, h2⟩ := tyV_is I1 r1 ty
  exact ⟨T, id, pa, slot, hty, h1, h2, Calls.callWith_builtin rfl (PySem.evalArgs_none (hm pins s1 σ H1 x [] v [] Q I1 r1 .nil q1))⟩
theorem pe_bm (pa : PlainAttrs T) (slot : Slot T name id) (hty : typeOf (.builtin id) = pure (.type "method_descriptor")) (hm : MtR X id r) (ho : PE X o to) (ha : PA X (e :: es) t)
    (hbase : attributeBase o name X.env (eval o X.env) = eval o X.env := by rfl)
    (hfew : ((backTo cpos (starEach (e :: es) X.env)).all (fun x => !x.1) && (backToKw cpos (keywordEach [] X.env)).all (fun x => x.1.isSome)
      && decide ((e :: es).length + ([] : List Keyword).length + (if ([] : List Keyword).isEmpty then 0 else 1) < 30)) = true := by rfl)
    (hline : (apos.endLine == cpos.line) = true := by rfl) (hs : starEach (e :: es) X.env = (false, eval e X.env) :: starEach es X.env := by rfl) (hplain : (backTo cpos (starEach es X.env)).any (·.1) = false := by rfl) :
    PE X (.Call (.Attribute o name apos) (e :: es) [] cpos) (tBM X.K T r to t) := by
  intro pins s σ H Q I h
  refine wpAny_Call_method_late hbase hfew hline rfl (thn (ho pins s σ H _ I h) fun v s1 ⟨x, H1, I1, r1, ty, q1⟩ => ?_)
  obtain ⟨h1, h2⟩ := tyV_is I1 r1 ty
  refine ⟨T, id, pa, slot, hty, h1, h2, ?_⟩
  have hA := ha cpos pins s1 σ H1 _ I1 q1
  rw [hs] at hA ⊢
  refine Calls.callWith_builtin (by show (false || (backTo cpos (starEach es X.env)).any (·.1)) = false; rw [hplain] <;> rfl) (Calls.evalArgs_plain ?_)
  exact thn hA fun us s2 ⟨vs, H2, I2, r2, q2⟩ => hm pins s2 σ H2 x vs v us Q I2 r1 r2 q2
/- xs.append(e), list.index on a module's tuple .. are MtR facts of 06m -/
end
end L2
namespace L2
open PySem PySem.Spec PyProof.Rows
def MtM (X : Cx) (id : String) (r : V → List V → Hp → VK → Prop) : Prop :=
  ∀ (pins : List (Addr × Obj)) (s : Shared) (σ : St) (H : Hp) (x : V) (xs : List V) (v : Value) (us : List Value) (Q : VK), Inv X pins σ H s → RelV x v → Vals xs us → r x xs H Q →
    wpAny (model X.prog X.w) X.A (call (.builtin id) (v :: us)) (EP X pins σ Q) X.xe s
/-! ### lists of values -/
theorem Vals.one : ∀ {x : V} {us : List Value}, Vals [x] us → ∃ u, us = [u] ∧ RelV x u
  | _, _, .cons r .nil => ⟨_, rfl, r⟩
theorem Vals.two : ∀ {x y : V} {us : List Value}, Vals [x, y] us → ∃ u v, us = [u, v] ∧ RelV x u ∧ RelV y v
  | _, _, _, .cons r (.cons q .nil) => ⟨_, _, rfl, r, q⟩
theorem Vals.zero : ∀ {us : List Value}, Vals [] us → us = []
  | _, .nil => rfl
theorem Vals.dropLast {xs : List V} {us : List Value} (h : Vals xs us) : Vals xs.dropLast us.dropLast := by
  induction h with
  | nil => exact .nil
  | cons r t ih =>
    cases t with
    | nil => exact .nil
    | cons q t' => exact .cons r ih
theorem Vals.eraseIdx : ∀ {xs : List V} {us : List Value} (i : Nat), Vals xs us → Vals (xs.eraseIdx i) (us.eraseIdx i)
  | _, _, _, .nil => .nil
  | _, _, 0, .cons _ t => t
  | _, _, i + 1, .cons r t => .cons r (Vals.eraseIdx i t)
theorem Vals.reverse {xs : List V} {us : List Value} (h : Vals xs us) : Vals xs.reverse us.reverse := by
  induction h with
  | nil => exact .nil
  | cons r t ih => rw [List.reverse_cons, List.reverse_cons]; exact Vals.append ih (.cons r .nil)
theorem Vals.rep {xs : List V} {us : List Value} (h : Vals xs us) : ∀ k : Nat, Vals (List.replicate k xs).flatten (List.replicate k us).flatten
  | 0 => .nil
  | k + 1 => by
    rw [List.replicate_succ, List.replicate_succ, List.flatten_cons, List.flatten_cons]
    exact Vals.append h (Vals.rep h k)
theorem erase_last {α : Type} (l : List α) : l.eraseIdx (l.length - 1) = l.dropLast := by
  induction l with
  | nil => rfl
  | cons a r ih =>
    cases r with
    | nil => rfl
    | cons b r =>
      have e : (a :: b :: r).length - 1 = ((b :: r).length - 1) + 1 := by
        have h1 : (a :: b :: r).length = r.length + 2 := rfl
        have h2 : (b :: r).length = r.length + 1 := rfl
        omega
      rw [e, List.eraseIdx_cons_succ, ih]
      all_goals rfl
theorem len_erase {α : Type} : ∀ (l : List α) (i : Nat), (l.eraseIdx i).length ≤ l.length
  | [], _ => Nat.le_refl _
  | _ :: _, 0 => Nat.le_succ _
  | _ :: r, i + 1 => Nat.succ_le_succ (len_erase r i)
theorem foldl_rep (its : List Value) : ∀ (k : Nat) (acc : List Value),
    List.foldl (fun x1 x2 => x1 ++ x2) acc.toArray (List.replicate k its.toArray) = (acc ++ (List.replicate k its).flatten).toArray
  | 0, acc => by simp
  | k + 1, acc => by
    have e : acc.toArray ++ its.toArray = (acc ++ its).toArray := by simp
    have e2 : (acc ++ its) ++ (List.replicate k its).flatten = acc ++ (List.replicate (k + 1) its).flatten := by
      rw [List.replicate_succ, List.flatten_cons, List.append_assoc]
    rw [← e2, ← foldl_rep its k (acc ++ its), ← e, List.replicate_succ, List.foldl_cons]
section
variable {X : Cx} {pins : List (Addr × Obj)} {σ : St} {H : Hp} {s : Shared} {l b : Addr} {xs ys zs : List V}
/-! ### the two steps: a tracked list is rewritten, a new list is laid -/
theorem Inv.lset {its its' : List Value} {n : Nat} {f : Array Value → Array Value} {t' : Nat} (I : Inv X pins σ H s) (hH : H l = some (.lst xs))
    (e : s.heap.get? l = some { cls := .type "list", data := .seq its.toArray n }) (hf : f its.toArray = its'.toArray) (hv : Vals ys its') (hz : ys.length ≤ sizeLine) :
    Inv X pins σ (upd H l (.lst ys)) { s with heap := s.heap.update l (Obj.mapSeq f), toks := t' } := by
  have q := PySem.IsL.update e f
  rw [hf] at q
  refine I.write (x := l) (e := l) (by rw [hH]; exact trivial) (.inl rfl) (fun b' u hb hu => (Heap.get?_update_other s.heap (Obj.mapSeq f) (Ne.symm hb)).trans hu) ⟨_, q⟩ ?_
  exact ⟨hz, its', _, hv, q⟩
theorem Inv.lnew {its : List Value} {t' : Nat} (I : Inv X pins σ H s) (hv : Vals ys its) (hz : ys.length ≤ sizeLine) :
    Inv X pins σ (upd H s.heap.objs.size (.lst ys)) { s with heap := s.heap.push { cls := .type "list", data := .seq its.toArray }, toks := t' } :=
  I.laid (fun _ _ q => Heap.get?_push_of_some _ q) (Nat.le_refl _) ⟨hz, its, 0, hv, Heap.get?_push_size _ rfl⟩
theorem Inv.fresh (I : Inv X pins σ H s) : H s.heap.objs.size = none := I.hok.fresh (Nat.le_refl _)
theorem Inv.lstM (I : Inv X pins σ H s) (hH : H l = some (.lst xs)) : xs.length ≤ sizeLine ∧ ∃ (its : List Value) (n : Nat), Vals xs its ∧ xs.length = its.length ∧ s.heap.get? l = some { cls := .type "list", data := .seq its.toArray n } := by
  obtain ⟨z, its, n, r, e⟩ := I.hok l _ hH
  exact ⟨z, its, n, r, r.length, e⟩
theorem notLongL {n : Nat} (h : n ≤ sizeLine) : Builtin.List.listTooLong n = false := by
  unfold Builtin.List.listTooLong
  exact decide_eq_false (by omega)
end
section
variable {X : Cx}
/-! ### methods -/
def rAppend : V → List V → Hp → VK → Prop := fun x vs H Q => ∃ l xs y, x = .ref l ∧ vs = [y] ∧ H l = some (.lst xs) ∧ xs.length < sizeLine ∧ Q .non (upd H l (.lst (xs ++ [y])))
theorem mt_append : MtM X "list.append" rAppend := by
  intro pins s σ H x vs v us Q I rx rv h
  obtain ⟨l, xs, y, rfl, rfl, hH, hz, q⟩ := h
  cases rx
  obtain ⟨u, rfl, ru⟩ := rv.one
  obtain ⟨z, its, n, r, hl, e⟩ := I.lstM hH
  refine call_meets F.slot_list_append ⟨_, e, rfl⟩ F.entry_list_append (F.args_list_append_2 _ _) (PySem.list_append l its.toArray n u (by rw [List.size_toArray]; omega)) ⟨e, ?_⟩
  refine ⟨.non, _, I.lset (its' := its ++ [u]) hH e (by simp) (r.append (.cons ru .nil)) ?_, rfl, q⟩
  rw [List.length_append, List.length_singleton]
  omega
def rExtend : V → List V → Hp → VK → Prop := fun x vs H Q => ∃ l b xs zs, x = .ref l ∧ vs = [.ref b] ∧ H l = some (.lst xs) ∧ H b = some (.lst zs) ∧ xs.length + zs.length ≤ sizeLine ∧ Q .non (upd H l (.lst (xs ++ zs)))
theorem mt_extend : MtM X "list.extend" rExtend := by
  intro pins s σ H x vs v us Q I rx rv h
  obtain ⟨l, b, xs, zs, rfl, rfl, hH, hB, hz, q⟩ := h
  cases rx
  obtain ⟨u, rfl, ru⟩ := rv.one
  cases ru
  obtain ⟨z, its, n, r, hl, e⟩ := I.lstM hH
  obtain ⟨z2, its2, n2, r2, hl2, e2⟩ := I.lstM hB
  have hsz : its.toArray.size + its2.toArray.size ≤ sizeLine := by rw [List.size_toArray, List.size_toArray]; omega
  have hlong : ¬ (!its.toArray.isEmpty && Builtin.List.listTooLong (its.toArray.size + its2.toArray.size)) = true := by
    rw [notLongL hsz, Bool.and_false]
    exact Bool.false_ne_true
  refine call_meets F.slot_list_extend ⟨_, e, rfl⟩ F.entry_list_extend (F.args_list_extend_2 _ _)
    (AutoSeq1.list_extend_list_list_0 l its.toArray n b its2.toArray n2 hlong (by rw [List.size_toArray]; omega) (by omega)) ⟨e, e2, ?_⟩
  refine ⟨.non, _, I.lset (its' := its ++ its2) hH e (by simp) (r.append r2) ?_, rfl, q⟩
  rw [List.length_append]
  omega
def rPop : V → List V → Hp → VK → Prop := fun x vs H Q => ∃ l xs y, x = .ref l ∧ vs = [] ∧ H l = some (.lst xs) ∧ xs[xs.length - 1]? = some y ∧ Q y (upd H l (.lst xs.dropLast))
theorem mt_pop : MtM X "list.pop" rPop := by
  intro pins s σ H x vs v us Q I rx rv h
  obtain ⟨l, xs, y, rfl, rfl, hH, hy, q⟩ := h
  cases rx
  have hus := rv.zero
  subst hus
  obtain ⟨z, its, n, r, hl, e⟩ := I.lstM hH
  obtain ⟨u, hu, ru⟩ := r.get hy
  have hy' : its.toArray[its.toArray.size - 1]? = some u := by
    show its.toArray[its.length - 1]? = some u
    rw [← Array.getElem?_toList, ← hl]
    exact hu
  refine call_meets F.slot_list_pop ⟨_, e, rfl⟩ F.entry_list_pop (F.args_list_pop_1 _) (MeetsSeq.list_pop_last l its.toArray n u hy' (by rw [List.size_toArray]; omega)) ⟨e, ?_⟩
  refine ⟨y, _, I.lset (its' := its.dropLast) hH e ?_ r.dropLast ?_, ru, q⟩
  · show its.toArray.eraseIdxIfInBounds (its.toArray.size - 1) = its.dropLast.toArray
    rw [List.size_toArray, List.eraseIdxIfInBounds_toArray, erase_last]
  · rw [List.length_dropLast]
    omega
def rPopAt : V → List V → Hp → VK → Prop := fun x vs H Q => ∃ l xs i k y, x = .ref l ∧ vs = [.int i] ∧ H l = some (.lst xs) ∧ -(2 ^ 63) ≤ i ∧ i < 2 ^ 63 ∧ seqIndex? i xs.length = some k ∧ xs[k]? = some y ∧ Q y (upd H l (.lst (xs.eraseIdx k)))
theorem mt_popAt : MtM X "list.pop" rPopAt := by
  intro pins s σ H x vs v us Q I rx rv h
  obtain ⟨l, xs, i, k, y, rfl, rfl, hH, h1, h2, hk, hy, q⟩ := h
  cases rx
  obtain ⟨u, rfl, ru⟩ := rv.one
  obtain ⟨t, rfl⟩ := ru
  obtain ⟨z, its, n, r, hl, e⟩ := I.lstM hH
  obtain ⟨w, hw, rw'⟩ := r.get hy
  refine call_meets F.slot_list_pop ⟨_, e, rfl⟩ F.entry_list_pop (F.args_list_pop_2 _ _)
    (MeetsSeq.list_pop_at l its.toArray n i t k w (fitsIndex_both h1 h2) (by rw [List.size_toArray, ← hl]; exact hk) (by rw [← Array.getElem?_toList]; exact hw) (by rw [List.size_toArray]; omega)) ⟨e, ?_⟩
  refine ⟨y, _, I.lset (its' := its.eraseIdx k) hH e ?_ (r.eraseIdx k) ?_, rw', q⟩
  · show its.toArray.eraseIdxIfInBounds k = (its.eraseIdx k).toArray
    rw [List.eraseIdxIfInBounds_toArray]
  · have := len_erase xs k
    omega
def rReverse : V → List V → Hp → VK → Prop := fun x vs H Q => ∃ l xs, x = .ref l ∧ vs = [] ∧ H l = some (.lst xs) ∧ Q .non (upd H l (.lst xs.reverse))
theorem mt_reverse : MtM X "list.reverse" rReverse := by
  intro pins s σ H x vs v us Q I rx rv h
  obtain ⟨l, xs, rfl, rfl, hH, q⟩ := h
  cases rx
  have hus := rv.zero
  subst hus
  obtain ⟨z, its, n, r, hl, e⟩ := I.lstM hH
  refine call_meets F.slot_list_reverse ⟨_, e, rfl⟩ F.entry_list_reverse (F.args_list_reverse_1 _) (AutoSeq1.list_reverse_list_0 l its.toArray n (by rw [List.size_toArray]; omega)) ⟨e, ?_⟩
  refine ⟨.non, _, I.lset (its' := its.reverse) hH e (by simp) r.reverse ?_, rfl, q⟩
  rw [List.length_reverse]
  omega
def rClear : V → List V → Hp → VK → Prop := fun x vs H Q => ∃ l xs, x = .ref l ∧ vs = [] ∧ H l = some (.lst xs) ∧ Q .non (upd H l (.lst []))
theorem mt_clear : MtM X "list.clear" rClear := by
  intro pins s σ H x vs v us Q I rx rv h
  obtain ⟨l, xs, rfl, rfl, hH, q⟩ := h
  cases rx
  have hus := rv.zero
  subst hus
  obtain ⟨z, its, n, r, hl, e⟩ := I.lstM hH
  refine call_meets F.slot_list_clear ⟨_, e, rfl⟩ F.entry_list_clear (F.args_list_clear_1 _) (AutoSeq1.list_clear_list_0 l its.toArray n (by rw [List.size_toArray]; omega)) ⟨e, ?_⟩
  exact ⟨.non, _, I.lset (its' := []) (ys := []) hH e rfl .nil (Nat.zero_le _), rfl, q⟩
/-! ### list + list, list += list, list * int -/
def rCat : R2 := fun x y H Q => ∃ l b xs zs, x = .ref l ∧ y = .ref b ∧ H l = some (.lst xs) ∧ H b = some (.lst zs) ∧ xs.length + zs.length ≤ sizeLine ∧ ∀ p, H p = none → Q (.ref p) (upd H p (.lst (xs ++ zs)))
theorem op_cat : OpR X (binaryOp .Add) rCat := by
  intro pins s σ H x y v u Q I rx ry h
  obtain ⟨l, b, xs, zs, rfl, rfl, hH, hB, hz, q⟩ := h
  cases rx
  cases ry
  obtain ⟨z, its, n, r, hl, e⟩ := I.lstM hH
  obtain ⟨z2, its2, n2, r2, hl2, e2⟩ := I.lstM hB
  refine PySem.P.add_list e e2 ?_ (by rw [List.size_toArray, List.size_toArray]; omega)
  have ea : its.toArray ++ its2.toArray = (its ++ its2).toArray := by simp
  rw [ea]
  exact ⟨.ref _, _, I.lnew (t' := s.toks) (r.append r2) (by rw [List.length_append]; omega), rfl, q _ I.fresh⟩
def rRep : R2 := fun x y H Q => ∃ l k xs, x = .ref l ∧ y = .int k ∧ H l = some (.lst xs) ∧ -(2 ^ 63) ≤ k ∧ k < 2 ^ 63 ∧ xs.length * k.toNat ≤ sizeLine ∧
  ∀ p, H p = none → Q (.ref p) (upd H p (.lst (List.replicate k.toNat xs).flatten))
theorem len_rep {α : Type} (xs : List α) (k : Nat) : (List.replicate k xs).flatten.length = k * xs.length := by
  induction k with
  | zero => simp
  | succ k ih => rw [List.replicate_succ, List.flatten_cons, List.length_append, ih, Nat.succ_mul, Nat.add_comm]
theorem op_rep : OpR X (binaryOp .Mult) rRep := by
  intro pins s σ H x y v u Q I rx ry h
  obtain ⟨l, k, xs, rfl, rfl, hH, h1, h2, hz, q⟩ := h
  cases rx
  obtain ⟨t, rfl⟩ := ry
  obtain ⟨z, its, n, r, hl, e⟩ := I.lstM hH
  have hlen : its.toArray.size * k.toNat ≤ sizeLine := by rw [List.size_toArray, ← hl]; exact hz
  have hcap : ¬ its.toArray.size * k.toNat > (2 ^ 63 - 1) / 8 := by
    have : (sizeLine : Nat) ≤ (2 ^ 63 - 1) / 8 := by decide
    omega
  have hfit : ¬ (!Builtin.List.listFitsIndex k) = true := by
    rw [fitsIndex_both h1 h2]
    exact Bool.false_ne_true
  have hlong : ¬ Builtin.List.listTooLong (its.toArray.size * k.toNat) = true := by
    rw [notLongL hlen]
    exact Bool.false_ne_true
  have hnew : List.foldl (fun x1 x2 => x1 ++ x2) #[] (List.replicate (if its.toArray.isEmpty = true then 0 else k.toNat) its.toArray) = (List.replicate k.toNat its).flatten.toArray := by
    have f0 : ∀ m : Nat, List.foldl (fun x1 x2 => x1 ++ x2) #[] (List.replicate m its.toArray) = (List.replicate m its).flatten.toArray := fun m => by
      have := foldl_rep its m []
      rw [List.nil_append] at this
      exact this
    rw [f0]
    cases its with
    | nil => simp
    | cons a r' => rw [if_neg (by simp)]
  refine wpAny_binaryOp_repeat_ref (T := "list") (U := "int") (by decide) ⟨_, e, rfl⟩ (fun s' => typeIs_int s' k t) noFill_list_mul F.fills_int_mul F.slot_int_rmul repeat_list F.slot_int_index.lookup
    (call_meets F.slot_int_rmul (typeIs_int s k t) F.entry_int_rmul (F.args_int_rmul_2 _ _) (int___rmul___int_list k t l its.toArray n)
      ⟨e, rfl, ⟨_, e, rfl⟩, call_meets F.slot_list_mul ⟨_, e, rfl⟩ F.entry_list_mul (F.args_list_mul_2 _ _) (AutoListH.list___mul___list_int_3 l its.toArray n k t hfit hcap hlong) ⟨e, ?_⟩⟩)
  rw [hnew]
  exact ⟨.ref _, _, I.lnew (t' := s.toks) (r.rep k.toNat) (by rw [len_rep, Nat.mul_comm]; exact hz), rfl, q _ I.fresh⟩
/-! ### del xs[i] -/
theorem del_list {pins : List (Addr × Obj)} {s : Shared} {σ : St} {H : Hp} {l : Addr} {xs : List V} {i : Int} {t : Tok} {k : Nat} {Q : Unit → Shared → Prop} (I : Inv X pins σ H s) (hH : H l = some (.lst xs))
    (h1 : -(2 ^ 63) ≤ i) (h2 : i < 2 ^ 63) (hk : seqIndex? i xs.length = some k) (h : ∀ s', Inv X pins σ (upd H l (.lst (xs.eraseIdx k))) s' → Q () s') :
    wpAny (model X.prog X.w) X.A (delItem (.ref l) (.int i t)) Q X.xe s := by
  obtain ⟨z, its, n, r, hl, e⟩ := I.lstM hH
  refine PySem.P.delItem_list (k := k) e (fitsIndex_both h1 h2) (by rw [List.size_toArray, ← hl]; exact hk) (h _ ?_) (by rw [List.size_toArray]; omega)
  refine I.lset (its' := its.eraseIdx k) (t' := s.toks) hH e ?_ (r.eraseIdx k) ?_
  · show its.toArray.eraseIdxIfInBounds k = (its.eraseIdx k).toArray
    rw [List.eraseIdxIfInBounds_toArray]
  · have := len_erase xs k
    omega
end
/-! ### xs[a:b] = ys -/
section
variable {prog : Program} {w : World} {A : Around} {E : Value → Shared → Prop} {s : Shared}
theorem splice_eq (its its2 : List Value) (a c : Nat) : its.toArray.extract 0 a ++ its2.toArray ++ its.toArray.extract c its.toArray.size = (its.take a ++ its2 ++ its.drop c).toArray := by
  apply Array.toList_inj.mp
  first
    | (simp
       exact List.take_of_length_le (by simp))
    | simp [List.take_of_length_le]
    | simp
theorem bounds_run {a c n : Nat} (hac : a ≤ c) (hc : c ≤ n) : sliceBounds (some (a : Int)) (some (c : Int)) none n = ((a : Int), (c : Int), 1) := by
  simp only [sliceBounds, Option.getD_none]
  have h1 : ¬ ((a : Int) < 0) := by omega
  have h2 : ¬ ((c : Int) < 0) := by omega
  simp only [h1, h2, if_false, show (1 : Int) > 0 by decide, if_true]
  congr 1
  · omega
  · congr 1; omega
set_option maxRecDepth 100000 in
theorem setItem_slice {l b sl : Addr} {items new : Array Value} {n n2 : Nat} {vl vu : Value} {a c : Nat} {Q : Unit → Shared → Prop}
    (e : s.heap.get? l = some { cls := .type "list", data := .seq items n }) (e2 : s.heap.get? b = some { cls := .type "list", data := .seq new n2 }) (hne : l ≠ b)
    (hs : s.heap.IsSliceOf sl vl vu .none) (pl : IsPart vl (some (a : Int))) (pu : IsPart vu (some (c : Int))) (hac : a ≤ c) (hc : c ≤ items.size)
    (hsz : items.size + new.size ≤ sizeLine) (h : Q () { s with heap := s.heap.update l (Obj.mapSeq fun xs => xs.extract 0 a ++ new ++ xs.extract c xs.size) }) :
    wpAny (model prog w) A (setItem (.ref l) (.ref sl) (.ref b)) Q E s := by
  have hl : s.heap.IsList l items := PySem.IsL.isList e
  have hb : s.heap.IsList b new := PySem.IsL.isList e2
  obtain ⟨os, hos, hcs, hds⟩ := id hs
  have hTs : s.TypeIs (.ref sl) "slice" := ⟨os, hos, hcs⟩
  have hstep : ¬ ((rawPart none == rawInt 0) = true) := Bool.false_ne_true
  have hsame : Builtin.List.listSameRef (.ref l) (.ref b) = false := by
    unfold Builtin.List.listSameRef
    exact beq_eq_false_iff_ne.mpr hne
  have hmax : (max (a : Int) (c : Int)).toNat = c := by omega
  have hz' : ((fun xs : Array Value => xs.extract 0 a ++ new ++ xs.extract c xs.size) items).size ≤ sizeLine + 1 := by
    simp only [Array.size_append, Array.size_extract]
    omega
  unfold setItem
  try with_reducible refine wpAny_holding ?_
  first | refine wpAny_bind (wpAny_pure ?_) | skip
  refine wpAny_bind (wpAny_sequenceKey hl.typeIs (by decide) ?_)
  refine wpAny_bind (wpAny_callSpecial?_slot (name := Str.ofString "__setitem__") hl.typeIs slot_list_setitem
    (wpAny_call_entry slot_list_setitem hl.typeIs entry_list_setitem ?_ (args_list_setitem _ _ _)))
  show wpAny _ _ (Builtin.List.listSubscript? (.ref sl) >>= _) _ _ s
  refine wpAny_bind ?_
  unfold Builtin.List.listSubscript?
  refine wpAny_bind (wpAny_specialOf hTs slice_no_index ?_)
  simp only [Option.isNone_none, if_true]
  refine wpAny_pure ?_
  show wpAny _ _ (typeOf (.ref sl) >>= _) _ _ s
  refine wpAny_bind (wpAny_typeOf hTs ?_)
  first
    | rw [if_neg (by decide)]
    | refine PySem.W.KFB.if_not (by decide) ?_
  rw [listSliceParts_eq]
  refine wpAny_bind (wpAny_bind (wpAny_field hos hds (x := .none) rfl (wpAny_bind (wpAny_listPart .none ?_))))
  rw [if_neg hstep]
  refine wpAny_bind (wpAny_field hos hds (x := vl) rfl (wpAny_bind (wpAny_listPart pl ?_)))
  refine wpAny_bind (wpAny_field hos hds (x := vu) rfl (wpAny_bind (wpAny_listPart pu (wpAny_pure ?_))))
  first
    | simp only [hsame, Bool.false_eq_true, if_false]
    | refine PySem.W.KFB.if_not hsame ?_
    | (dsimp only
       rw [if_neg (by rw [hsame]; exact Bool.false_ne_true)])
  refine wpAny_bind (m := Builtin.List.listAllItems (.ref b) "must assign iterable to extended slice") ?_
  unfold Builtin.List.listAllItems
  refine wpAny_bind (wpAny_typeOf hb.typeIs ?_)
  first
    | refine PySem.W.KFB.if_so (by decide) ?_
    | rw [if_pos (by decide)]
    | simp only [beq_self_eq_true, Bool.true_or, if_true]
  unfold Builtin.List.listItems
  refine wpAny_bind (wpAny_seqItems e2 rfl (wpAny_pure ?_))
  refine wpAny_bind (wpAny_bind (wpAny_seqItems e rfl (wpAny_pure ?_)))
  refine wpAny_bind (wpAny_of_eq ((sliceIndices_raw (some (a : Int)) (some (c : Int)) none items.size (by simp)).trans (congrArg (pure : Int × Int × Int → Sem (Int × Int × Int)) (bounds_run hac hc))) ?_)
  show wpAny _ _ (if ((1 : Int) == 1) = true then _ else _) _ _ s
  rw [if_pos (by decide)]
  refine wpAny_bind (wpAny_rule ?_)
  first
    | simp only [notLongL hsz, Bool.false_eq_true, if_false]
    | refine PySem.W.KFB.if_not (notLongL hsz) ?_
  first | refine wpAny_bind (wpAny_pure ?_) | skip
  show wpAny _ _ (updateSeq l (fun xs => xs.extract 0 ((a : Int)).toNat ++ new ++ xs.extract (max (a : Int) (c : Int)).toNat xs.size) >>= _) _ _ s
  rw [hmax, Int.toNat_natCast]
  refine wpAny_bind (wpAny_updateSeq (hz := Nat.le_trans (Nat.le_add_right _ _) hsz) (_hz' := hz') e rfl ?_)
  refine wpAny_bind (wpAny_letGo ?_)
  first
    | exact wpAny_bind (wpAny_pure (wpAny_pure ⟨.none, rfl, wpAny_pure h⟩))
    | exact wpAny_pure ⟨.none, rfl, wpAny_pure h⟩
end
section
variable {X : Cx}
theorem set_slice {pins : List (Addr × Obj)} {s : Shared} {σ : St} {H : Hp} {l b sl : Addr} {xs ys : List V} {a c : Int} {vl vu : Value} {Q : Unit → Shared → Prop} (I : Inv X pins σ H s)
    (hH : H l = some (.lst xs)) (hB : H b = some (.lst ys)) (hne : l ≠ b) (hs : s.heap.IsSliceOf sl vl vu .none) (ra : RelV (.int a) vl) (rc : RelV (.int c) vu) (h0 : 0 ≤ a) (hac : a ≤ c) (hc : c ≤ xs.length)
    (hz : xs.length + ys.length ≤ sizeLine) (h : ∀ s', Inv X pins σ (upd H l (.lst (xs.take a.toNat ++ ys ++ xs.drop c.toNat))) s' → Q () s') :
    wpAny (model X.prog X.w) X.A (setItem (.ref l) (.ref sl) (.ref b)) Q X.xe s := by
  obtain ⟨ta, rfl⟩ := ra
  obtain ⟨tc, rfl⟩ := rc
  obtain ⟨z, its, n, r, hl, e⟩ := I.lstM hH
  obtain ⟨z2, its2, n2, r2, hl2, e2⟩ := I.lstM hB
  obtain ⟨a', rfl⟩ := Int.eq_ofNat_of_zero_le h0
  obtain ⟨c', rfl⟩ := Int.eq_ofNat_of_zero_le (Int.le_trans h0 hac)
  simp only [Int.toNat_natCast] at h
  refine setItem_slice (a := a') (c := c') e e2 hne hs (.int _ _) (.int _ _) (by omega) (by rw [List.size_toArray]; omega) (by rw [List.size_toArray, List.size_toArray]; omega) (h _ ?_)
  refine I.lset (its' := its.take a' ++ its2 ++ its.drop c') (t' := s.toks) hH e ?_ (Vals.append (Vals.append (r.take _) r2) (r.drop _)) ?_
  · exact splice_eq its its2 a' c'
  · rw [List.length_append, List.length_append, List.length_take, List.length_drop]
    omega
end
end L2
namespace L2
open PySem PySem.Spec PyProof.Rows
/-! ### lists of pairs as tables -/
section
variable {κ : Type} [DecidableEq κ]
def valV (kvs : List (κ × V)) (k : κ) : Option V := (kvs.find? fun kv => decide (kv.1 = k)).map (·.2)
def putK (kvs : List (κ × V)) (k : κ) (v : V) : List (κ × V) :=
  if (kvs.any fun kv => decide (kv.1 = k)) = true then kvs.map (fun kv => if kv.1 = k then (kv.1, v) else kv) else kvs ++ [(k, v)]
def dropK (kvs : List (κ × V)) (k : κ) : List (κ × V) := kvs.filter fun kv => decide (kv.1 ≠ k)
theorem valV_nil {k : κ} : valV ([] : List (κ × V)) k = none := rfl
theorem valV_pos {p : κ × V} {r : List (κ × V)} {k : κ} (e : p.1 = k) : valV (p :: r) k = some p.2 := by simp [valV, List.find?_cons, e]
theorem valV_neg {p : κ × V} {r : List (κ × V)} {k : κ} (e : ¬ p.1 = k) : valV (p :: r) k = valV r k := by simp [valV, List.find?_cons, e]
theorem valV_any (k : κ) : ∀ kvs : List (κ × V), (kvs.any fun kv => decide (kv.1 = k)) = (valV kvs k).isSome
  | [] => rfl
  | p :: r => by
    rw [List.any_cons]
    by_cases e : p.1 = k
    · simp only [valV_pos e, decide_eq_true e, Bool.true_or, Option.isSome_some]
    · rw [valV_neg e, decide_eq_false e, Bool.false_or]; exact valV_any k r
theorem valV_map (k j : κ) (y : V) : ∀ kvs : List (κ × V), valV (kvs.map fun kv => if kv.1 = k then (kv.1, y) else kv) j = (valV kvs j).map fun x => if j = k then y else x
  | [] => rfl
  | p :: r => by
    have ih := valV_map k j y r
    rw [List.map_cons]
    by_cases h : p.1 = k
    · rw [if_pos h]
      by_cases e : p.1 = j
      · rw [valV_pos (p := (p.1, y)) e, valV_pos e, Option.map_some, if_pos (e.symm.trans h)]
      · rw [valV_neg (p := (p.1, y)) e, valV_neg e, ih]
    · rw [if_neg h]
      by_cases e : p.1 = j
      · rw [valV_pos (p := p) e, valV_pos e, Option.map_some, if_neg (fun z => h (e.trans z))]
      · rw [valV_neg (p := p) e, valV_neg e, ih]
theorem valV_snoc (k j : κ) (y : V) : ∀ kvs : List (κ × V), valV kvs k = none → valV (kvs ++ [(k, y)]) j = if j = k then some y else valV kvs j
  | [], _ => by
    by_cases e : k = j
    · rw [if_pos e.symm]; exact valV_pos (p := (k, y)) e
    · rw [if_neg (fun z => e z.symm)]; exact valV_neg (p := (k, y)) e
  | p :: r, hn => by
    rw [List.cons_append]
    have hk : ¬ p.1 = k := fun z => by rw [valV_pos z] at hn; cases hn
    rw [valV_neg hk] at hn
    have ih := valV_snoc k j y r hn
    by_cases e : p.1 = j
    · rw [valV_pos e, valV_pos e, if_neg (fun z => hk (e.trans z))]
    · rw [valV_neg e, valV_neg e, ih]
theorem valV_put (kvs : List (κ × V)) (k j : κ) (y : V) : valV (putK kvs k y) j = if j = k then some y else valV kvs j := by
  unfold putK
  by_cases a : (kvs.any fun kv => decide (kv.1 = k)) = true
  · rw [if_pos a, valV_map]
    rw [valV_any] at a
    by_cases e : j = k
    · obtain ⟨x, hx⟩ := Option.isSome_iff_exists.mp a
      rw [if_pos e, e, hx, Option.map_some, if_pos rfl]
    · rw [if_neg e]
      cases valV kvs j with
      | none => rfl
      | some x => rw [Option.map_some, if_neg e]
  · rw [if_neg a]
    refine valV_snoc k j y kvs ?_
    rw [valV_any] at a
    cases q : valV kvs k with
    | none => rfl
    | some x => rw [q] at a; exact (a rfl).elim
theorem length_putK (kvs : List (κ × V)) (k : κ) (v : V) : (putK kvs k v).length ≤ kvs.length + 1 := by
  unfold putK
  split
  · rw [List.length_map]; omega
  · rw [List.length_append, List.length_cons, List.length_nil]; omega
theorem putK_new {kvs : List (κ × V)} {k : κ} (v : V) (h : valV kvs k = none) : putK kvs k v = kvs ++ [(k, v)] := by
  unfold putK
  rw [valV_any, h]
  exact if_neg (by decide)
theorem RelO.isSome_eq {o : Option V} {u : Option Value} (r : RelO o u) : o.isSome = u.isSome := by
  cases o with
  | none => cases u with
    | none => rfl
    | some _ => exact (show False from r).elim
  | some _ => cases u with
    | none => exact (show False from r).elim
    | some _ => rfl
theorem RelO.getD {o : Option V} {u : Option Value} {d : V} {d' : Value} (r : RelO o u) (rd : RelV d d') : RelV (o.getD d) (u.getD d') := by
  cases o with
  | none => cases u with
    | none => exact rd
    | some _ => exact (show False from r).elim
  | some _ => cases u with
    | none => exact (show False from r).elim
    | some _ => exact r
theorem KV.val {kvs : List (κ × V)} {vs : List (κ × Value)} (r : KV kvs vs) (k : κ) : RelO (valV kvs k) (valueAt vs k) := by
  unfold KV at r
  induction r with
  | nil => exact True.intro
  | @cons p q ps qs h t ih =>
    obtain ⟨h1, h2⟩ := h
    by_cases e : p.1 = k
    · have e' : q.1 = k := h1.symm.trans e
      have b : valueAt (q :: qs) k = some q.2 := by simp [valueAt, List.find?_cons, e']
      rw [valV_pos e, b]; exact h2
    · have e' : ¬ q.1 = k := fun z => e (h1.trans z)
      have b : valueAt (q :: qs) k = valueAt qs k := by simp [valueAt, List.find?_cons, e']
      rw [valV_neg e, b]; exact ih
theorem KV.any {kvs : List (κ × V)} {vs : List (κ × Value)} (r : KV kvs vs) (k : κ) : (kvs.any fun kv => decide (kv.1 = k)) = vs.any fun kv => decide (kv.1 = k) := by
  unfold KV at r
  induction r with
  | nil => rfl
  | cons h t ih => rw [List.any_cons, List.any_cons, ih, h.1]
theorem KV.repl {kvs : List (κ × V)} {vs : List (κ × Value)} (r : KV kvs vs) (k : κ) {y : V} {u : Value} (ry : RelV y u) :
    KV (kvs.map fun kv => if kv.1 = k then (kv.1, y) else kv) (vs.map fun kv => if kv.1 = k then (kv.1, u) else kv) := by
  unfold KV at r ⊢
  induction r with
  | nil => exact .nil
  | @cons p q ps qs h t ih =>
    rw [List.map_cons, List.map_cons]
    refine .cons ?_ ih
    obtain ⟨h1, h2⟩ := h
    by_cases e : p.1 = k
    · rw [if_pos e, if_pos (h1.symm.trans e)]; exact ⟨h1, ry⟩
    · rw [if_neg e, if_neg (fun z => e (h1.trans z))]; exact ⟨h1, h2⟩
theorem KV.put {kvs : List (κ × V)} {vs : List (κ × Value)} (r : KV kvs vs) (k : κ) {y : V} {u : Value} (ry : RelV y u) : KV (putK kvs k y) (stored vs k u) := by
  unfold putK stored
  rw [r.any k]
  by_cases e : (vs.any fun kv => decide (kv.1 = k)) = true
  · rw [if_pos e, if_pos e]; exact r.repl k ry
  · rw [if_neg e, if_neg e]; exact Paired.snoc r ⟨rfl, ry⟩
theorem KV.drop {kvs : List (κ × V)} {vs : List (κ × Value)} (r : KV kvs vs) (k : κ) : KV (dropK kvs k) (without vs k) := by
  unfold KV at r ⊢
  unfold dropK without
  induction r with
  | nil => exact .nil
  | @cons p q ps qs h t ih =>
    obtain ⟨h1, h2⟩ := h
    rw [List.filter_cons, List.filter_cons]
    by_cases e : p.1 = k
    · have a : ¬ decide (p.1 ≠ k) = true := by simp [e]
      have b : ¬ decide (q.1 ≠ k) = true := by simp [h1.symm.trans e]
      rw [if_neg a, if_neg b]; exact ih
    · have e' : ¬ q.1 = k := fun z => e (h1.trans z)
      have a : decide (p.1 ≠ k) = true := by simp [e]
      have b : decide (q.1 ≠ k) = true := by simp [e']
      rw [if_pos a, if_pos b]; exact .cons ⟨h1, h2⟩ ih
theorem KV.keys {kvs : List (κ × V)} {vs : List (κ × Value)} (r : KV kvs vs) : kvs.map (·.1) = vs.map (·.1) := by
  unfold KV at r
  induction r with
  | nil => rfl
  | cons h t ih => rw [List.map_cons, List.map_cons, ih, h.1]
theorem KV.length {kvs : List (κ × V)} {vs : List (κ × Value)} (r : KV kvs vs) : kvs.length = vs.length := Paired.length r
theorem dropK_le (kvs : List (κ × V)) (k : κ) : (dropK kvs k).length ≤ kvs.length := List.length_filter_le _ _
end
/-! ### a tracked dict, its keys ints and texts or tuples of these -/
theorem kV_is {P : Program} {w : World} {k : Key} {u : Value} (r : RelV (kV k) u) : (mixKind P w).is k u = true := by
  cases k with
  | inl i => obtain ⟨t, e⟩ := (show ∃ t, u = Value.int i t from r); subst e; exact mixKind_int P w i t
  | inr x => obtain ⟨t, e⟩ := (show ∃ t, u = Value.str x t from r); subst e; exact mixKind_str P w x t
theorem kV_inj {a b : Key} (e : kV a = kV b) : a = b := by
  cases a with
  | inl i => cases b with
    | inl j => have e' : V.int i = V.int j := e; injection e' with e'; rw [e']
    | inr y => exact nomatch (show V.int i = V.str y from e)
  | inr x => cases b with
    | inl j => exact nomatch (show V.str x = V.int j from e)
    | inr y => have e' : V.str x = V.str y := e; injection e' with e'; rw [e']
theorem kVs_inj : ∀ {a b : List Key}, a.map kV = b.map kV → a = b
  | [], [], _ => rfl
  | [], _ :: _, e => by simp at e
  | _ :: _, [], e => by simp at e
  | x :: xs, y :: ys, e => by
    rw [List.map_cons, List.map_cons] at e
    injection e with e1 e2
    rw [kV_inj e1, kVs_inj e2]
theorem items_are {P : Program} {w : World} : ∀ {ks : List Key} {us : List Value}, Vals (ks.map kV) us → ItemsAre (mixKind P w) ks us
  | [], _, r => by rw [List.map_nil] at r; cases r; exact .nil
  | k :: ks, _, r => by
    rw [List.map_cons] at r
    cases r with
    | cons h t => exact .cons (kV_is h) (items_are t)
abbrev KT (H : Hp) : List (List Key × V) → List (List Key × Addr × Value) → Prop := Paired fun p q => p.1 = q.1 ∧ H q.2.1 = some (.tup (p.1.map kV)) ∧ RelV p.2 q.2.2
theorem KT.val {H : Hp} {kvs : List (List Key × V)} {xs : List (List Key × Addr × Value)} (r : KT H kvs xs) (k : List Key) : RelO (valV kvs k) ((atKey xs k).map (·.2)) := by
  induction r with
  | nil => exact True.intro
  | @cons p q ps qs h t ih =>
    obtain ⟨h1, _, h2⟩ := h
    by_cases e : p.1 = k
    · have e' : q.1 = k := h1.symm.trans e
      have b : atKey (q :: qs) k = some q.2 := by simp [atKey, List.find?_cons, e']
      rw [valV_pos e, b]; exact h2
    · have e' : ¬ q.1 = k := fun z => e (h1.trans z)
      have b : atKey (q :: qs) k = atKey qs k := by simp [atKey, List.find?_cons, e']
      rw [valV_neg e, b]; exact ih
theorem KT.repl {H : Hp} {kvs : List (List Key × V)} {xs : List (List Key × Addr × Value)} (r : KT H kvs xs) (k : List Key) {y : V} {u : Value} (ry : RelV y u) :
    KT H (kvs.map fun kv => if kv.1 = k then (kv.1, y) else kv) (xs.map (putAt k u)) := by
  induction r with
  | nil => exact .nil
  | @cons p q ps qs h t ih =>
    rw [List.map_cons, List.map_cons]
    refine .cons ?_ ih
    obtain ⟨h1, h2, h3⟩ := h
    unfold putAt
    by_cases e : p.1 = k
    · rw [if_pos e, if_pos (h1.symm.trans e)]; exact ⟨h1, h2, ry⟩
    · rw [if_neg e, if_neg (fun z => e (h1.trans z))]; exact ⟨h1, h2, h3⟩
theorem KT.put {H : Hp} {kvs : List (List Key × V)} {xs : List (List Key × Addr × Value)} (r : KT H kvs xs) (k : List Key) {b : Addr} {y : V} {u : Value} (hb : H b = some (.tup (k.map kV))) (ry : RelV y u) :
    KT H (putK kvs k y) (storedH xs k b u) := by
  have e : (kvs.any fun kv => decide (kv.1 = k)) = (atKey xs k).isSome := by
    rw [valV_any, (r.val k).isSome_eq, Option.isSome_map]
  unfold putK storedH
  rw [e]
  by_cases q : (atKey xs k).isSome = true
  · rw [if_pos q, if_pos q]; exact r.repl k ry
  · rw [if_neg q, if_neg q]; exact Paired.snoc r ⟨rfl, hb, ry⟩
theorem KT.keeps {H H' : Hp} {kvs : List (List Key × V)} {xs : List (List Key × Addr × Value)} (r : KT H kvs xs) (ht : ∀ b ys, H b = some (.tup ys) → H' b = some (.tup ys)) : KT H' kvs xs :=
  Paired.mapP r fun _ _ z => ⟨z.1, ht _ _ z.2.1, z.2.2⟩
section
variable {P : Program} {w : World} {H : Hp} {h : Heap} {a : Addr}
theorem rd_of {u : HO} (ok : HOk P w H h) (e : Rd H a u) : ObjOk P w H h a u := e.ok ok
theorem dk_rd {kvs : List (Key × V)} (ok : HOk P w H h) (e : Rd H a (.dK kvs)) : kvs.length ≤ sizeLine ∧ (a == sysModules) = false ∧ ∃ vs, KV kvs vs ∧ h.DictOf (mixKind P w) a vs :=
  show ObjOk P w H h a (.dK kvs) from rd_of ok e
theorem dk_of {kvs : List (Key × V)} (ok : HOk P w H h) (e : H a = some (.dK kvs)) : kvs.length ≤ sizeLine ∧ (a == sysModules) = false ∧ ∃ vs, KV kvs vs ∧ h.DictOf (mixKind P w) a vs := dk_rd ok (.inl e)
theorem key_of {ks : List Key} (ok : HOk P w H h) (e : H a = some (.tup (ks.map kV))) : (tupleKind (mixKind P w)).is h ks a := by
  obtain ⟨_, its, r, o, h1, h2, n, h3⟩ := (show ObjOk P w H h a (.tup (ks.map kV)) from ok a _ e)
  exact ⟨o, its.toArray, n, h1, h2, h3, by simpa using items_are r⟩
theorem dt_rd {kvs : List (List Key × V)} (ok : HOk P w H h) (e : Rd H a (.dT kvs)) : kvs.length ≤ sizeLine ∧ (a == sysModules) = false ∧
    ∃ xs, KT H kvs xs ∧ h.DictOfH (tupleKind (mixKind P w)) a xs := by
  obtain ⟨z, y, xs, r, o, es, ep, h1, h2, h3, h4, h5⟩ := (show ObjOk P w H h a (.dT kvs) from rd_of ok e)
  refine ⟨z, y, xs, r, o, es, ep, h1, h2, h3, h4, fun x hx => ?_, h5⟩
  have all : ∀ {l : List (List Key × V)} {m : List (List Key × Addr × Value)}, KT H l m → ∀ x ∈ m, (tupleKind (mixKind P w)).is h x.1 x.2.1 := by
    intro l m q
    induction q with
    | nil => intro x hx; exact nomatch hx
    | @cons p q ps qs hq t ih =>
      intro x hx
      rcases List.mem_cons.mp hx with e | hx
      · subst e
        exact key_of ok (by rw [← hq.1]; exact hq.2.1)
      · exact ih x hx
  exact all r x hx
theorem dt_of {kvs : List (List Key × V)} (ok : HOk P w H h) (e : H a = some (.dT kvs)) : kvs.length ≤ sizeLine ∧ (a == sysModules) = false ∧
    ∃ xs, KT H kvs xs ∧ h.DictOfH (tupleKind (mixKind P w)) a xs := dt_rd ok (.inl e)
end
def DGet (H : Hp) (a : Addr) (y : V) (r : Option V) : Prop :=
  (∃ kvs k, Rd H a (.dK kvs) ∧ y = kV k ∧ r = valV kvs k) ∨ ∃ kvs k b, Rd H a (.dT kvs) ∧ y = .ref b ∧ H b = some (.tup (k.map kV)) ∧ r = valV kvs k
def DPut (H : Hp) (a : Addr) (y v : V) (H' : Hp) : Prop :=
  (∃ kvs k, H a = some (.dK kvs) ∧ y = kV k ∧ kvs.length < sizeLine ∧ H' = upd H a (.dK (putK kvs k v))) ∨
  ∃ kvs k b, H a = some (.dT kvs) ∧ y = .ref b ∧ H b = some (.tup (k.map kV)) ∧ kvs.length < sizeLine ∧ H' = upd H a (.dT (putK kvs k v))
theorem DGet.k {H : Hp} {a : Addr} {kvs : List (Key × V)} {k : Key} (e : H a = some (.dK kvs)) : DGet H a (kV k) (valV kvs k) := .inl ⟨kvs, k, .inl e, rfl, rfl⟩
theorem DGet.t {H : Hp} {a b : Addr} {kvs : List (List Key × V)} {k : List Key} (e : H a = some (.dT kvs)) (eb : H b = some (.tup (k.map kV))) : DGet H a (.ref b) (valV kvs k) := .inr ⟨kvs, k, b, .inl e, rfl, eb, rfl⟩
theorem DPut.k {H : Hp} {a : Addr} {kvs : List (Key × V)} {k : Key} {v : V} (e : H a = some (.dK kvs)) (hl : kvs.length < sizeLine) : DPut H a (kV k) v (upd H a (.dK (putK kvs k v))) := .inl ⟨kvs, k, e, rfl, hl, rfl⟩
theorem DPut.t {H : Hp} {a b : Addr} {kvs : List (List Key × V)} {k : List Key} {v : V} (e : H a = some (.dT kvs)) (eb : H b = some (.tup (k.map kV))) (hl : kvs.length < sizeLine) :
    DPut H a (.ref b) v (upd H a (.dT (putK kvs k v))) := .inr ⟨kvs, k, b, e, rfl, eb, hl, rfl⟩
section
variable {X : Cx} {pins : List (Addr × Obj)} {σ : St} {H : Hp} {s : Shared} {a : Addr} {y v : V} {u r : Value} {o : Option V} {A : Around} {E : Value → Shared → Prop}
theorem Inv.big (I : Inv X pins σ H s) : sysModules < s.heap.objs.size := by
  have h : mainGlobals < s.heap.objs.size := (I.mod.glob.keeps I.bk).lt
  exact Nat.lt_trans (by decide) h
theorem d_getItem {Q : Value → Shared → Prop} (hu : A.units + 1 < cLine) (I : Inv X pins σ H s) (g : DGet H a y (some v)) (ry : RelV y u) (h : ∀ w' s', Inv X pins σ H s' → RelV v w' → Q w' s') :
    wpAny (model X.prog X.w) A (getItem (.ref a) u) Q E s := by
  rcases g with ⟨kvs, k, e, ey, l⟩ | ⟨kvs, k, b, e, ey, eb, l⟩
  · subst ey
    obtain ⟨z, hd, vs, rel, dd⟩ := dk_rd I.hok e
    obtain ⟨w', hw, rw'⟩ := RelO.some_of (v := v) (o := valueAt vs k) (by rw [l]; exact rel.val k)
    exact wpAny_getItem_of (kV_is ry) dd.mapOf hw (h w' _ (I.tok _) rw')
  · subst ey
    cases (show u = Value.ref b from ry)
    obtain ⟨z, hd, xs, rel, dd⟩ := dt_rd I.hok e
    obtain ⟨w', hw, rw'⟩ := RelO.some_of (v := v) (o := (atKey xs k).map (·.2)) (by rw [l]; exact rel.val k)
    obtain ⟨p, hp, hp2⟩ := Option.map_eq_some_iff.mp hw
    refine wpAny_getItem_heap (tupleKind_room_in1 hu) (key_of I.hok eb) dd hp ?_
    rw [hp2]
    exact h w' _ (I.tok _) rw'
theorem d_in {Q : Value → Shared → Prop} (hu : A.units + 1 < cLine) (I : Inv X pins σ H s) (g : DGet H a y o) (ry : RelV y u) (h : ∀ s', Inv X pins σ H s' → Q (.bool o.isSome) s') :
    wpAny (model X.prog X.w) A (compareOp .In u (.ref a)) Q E s := by
  rcases g with ⟨kvs, k, e, ey, l⟩ | ⟨kvs, k, b, e, ey, eb, l⟩
  · subst ey
    obtain ⟨z, hd, vs, rel, dd⟩ := dk_rd I.hok e
    refine wpAny_in_of (kV_is ry) hd dd.mapOf ?_
    rw [← (rel.val k).isSome_eq, ← l]
    exact h _ (I.tok _)
  · subst ey
    cases (show u = Value.ref b from ry)
    obtain ⟨z, hd, xs, rel, dd⟩ := dt_rd I.hok e
    refine wpAny_in_heap (tupleKind_room_in1 hu) (key_of I.hok eb) hd dd ?_
    have q := (rel.val k).isSome_eq
    rw [Option.isSome_map] at q
    rw [← q, ← l]
    exact h _ (I.tok _)
theorem d_notIn {Q : Value → Shared → Prop} (hu : A.units + 1 < cLine) (I : Inv X pins σ H s) (g : DGet H a y o) (ry : RelV y u) (h : ∀ s', Inv X pins σ H s' → Q (.bool (!o.isSome)) s') :
    wpAny (model X.prog X.w) A (compareOp .NotIn u (.ref a)) Q E s := by
  rcases g with ⟨kvs, k, e, ey, l⟩ | ⟨kvs, k, b, e, ey, eb, l⟩
  · subst ey
    obtain ⟨z, hd, vs, rel, dd⟩ := dk_rd I.hok e
    refine wpAny_notIn_of (kV_is ry) hd dd.mapOf ?_
    rw [← (rel.val k).isSome_eq, ← l]
    exact h _ (I.tok _)
  · subst ey
    cases (show u = Value.ref b from ry)
    obtain ⟨z, hd, xs, rel, dd⟩ := dt_rd I.hok e
    refine wpAny_notIn_heap (tupleKind_room_in1 hu) (key_of I.hok eb) hd dd ?_
    have q := (rel.val k).isSome_eq
    rw [Option.isSome_map] at q
    rw [← q, ← l]
    exact h _ (I.tok _)
theorem d_write {h' : Heap} {t' : Nat} {ob : HO} (I : Inv X pins σ H s) (mu : Mut (H a)) (hs : Heap.SameBut a s.heap h') (he : ∃ q, h'.get? a = some q) (new : ObjOk X.prog X.w (upd H a ob) h' a ob) :
    Inv X pins σ (upd H a ob) { s with heap := h', toks := t' } :=
  I.write (x := a) (e := a) mu (.inl rfl) (fun b q hb z => (hs.2 b hb).trans z) he new
theorem dk_new {P : Program} {w : World} {H' : Hp} {h' : Heap} {kvs : List (Key × V)} {vs : List (Key × Value)} (z : kvs.length ≤ sizeLine) (hd : (a == sysModules) = false) (rel : KV kvs vs) (dd : h'.DictOf (mixKind P w) a vs) :
    ObjOk P w H' h' a (.dK kvs) := ⟨z, hd, vs, rel, dd⟩
theorem d_setItem {H' : Hp} {Q : Unit → Shared → Prop} (hu : A.units + 1 < cLine) (I : Inv X pins σ H s) (g : DPut H a y v H') (ry : RelV y u) (rv : RelV v r) (h : ∀ s', Inv X pins σ H' s' → Q () s') :
    wpAny (model X.prog X.w) A (setItem (.ref a) u r) Q E s := by
  rcases g with ⟨kvs, k, e, ey, l, eH⟩ | ⟨kvs, k, b, e, ey, eb, l, eH⟩
  · subst ey eH
    obtain ⟨z, hd, vs, rel, dd⟩ := dk_of I.hok e
    have hz : vs.length ≤ sizeLine := by rw [← rel.length]; exact z
    have hl : (putK kvs k v).length ≤ sizeLine := by have := length_putK kvs k v; omega
    refine wpAny_setItem_pairs (hsz := hz) (kV_is ry) dd fun h' dd' hs => h _ ?_
    have he : ∃ q, h'.get? a = some q := let ⟨q, _, _, hq, _⟩ := dd'; ⟨q, hq⟩
    exact d_write I (by rw [e]; exact True.intro) hs he (dk_new hl hd (rel.put k rv) dd')
  · subst ey eH
    cases (show u = Value.ref b from ry)
    obtain ⟨z, hd, xs, rel, dd⟩ := dt_of I.hok e
    have hz : xs.length ≤ sizeLine := by rw [← Paired.length rel]; exact z
    have hl : (putK kvs k v).length ≤ sizeLine := by have := length_putK kvs k v; omega
    refine wpAny_setItem_heap (hsz := hz) (tupleKind_room_in1 hu) (key_of I.hok eb) dd fun h' dd' hs => h _ ?_
    obtain ⟨q, es, ep, hq, h2, h3, h4, _, h5⟩ := dd'
    refine d_write I (by rw [e]; exact True.intro) hs ⟨q, hq⟩ ⟨hl, hd, _, (rel.put k eb rv).keeps fun c ys ec => ?_, q, es, ep, hq, h2, h3, h4, h5⟩
    rw [upd_ne (ne_of ec e (fun z => nomatch z))]
    exact ec
end
section
variable {X : Cx} {pins : List (Addr × Obj)} {σ : St} {H : Hp} {s : Shared} {a : Addr} {kvs : List (Key × V)} {k : Key} {u : Value} {A : Around} {E : Value → Shared → Prop}
theorem d_delItem {Q : Unit → Shared → Prop} (I : Inv X pins σ H s) (e : H a = some (.dK kvs)) (ry : RelV (kV k) u) (l : (valV kvs k).isSome = true) (h : ∀ s', Inv X pins σ (upd H a (.dK (dropK kvs k))) s' → Q () s') :
    wpAny (model X.prog X.w) A (delItem (.ref a) u) Q E s := by
  obtain ⟨z, hd, vs, rel, dd⟩ := dk_of I.hok e
  refine wpAny_delItem_slot dd.typeIs (by decide) PySem.F.slot_dict_delitem
    (call_meetsIn PySem.F.slot_dict_delitem dd.typeIs PySem.F.entry_dict_delitem (PySem.F.args_dict_delitem_2 _ _) (meets_dict_delitem_pairs (mixKind X.prog X.w) a (kV_is ry)) ⟨vs, dd, by rw [← rel.length]; exact z, by rw [← (rel.val k).isSome_eq]; exact l, fun h' dd' hs => h _ ?_⟩)
  have he : ∃ q, h'.get? a = some q := let ⟨q, _, _, hq, _⟩ := dd'; ⟨q, hq⟩
  exact d_write I (by rw [e]; exact True.intro) hs he (dk_new (Nat.le_trans (dropK_le kvs k) z) hd (rel.drop k) dd')
theorem d_pop {v : V} {more : List Value} {Q : Value → Shared → Prop} (I : Inv X pins σ H s) (e : H a = some (.dK kvs)) (ry : RelV (kV k) u) (l : valV kvs k = some v) (hm : more = [] ∨ ∃ x, more = [x])
    (h : ∀ w' s', Inv X pins σ (upd H a (.dK (dropK kvs k))) s' → RelV v w' → Q w' s') : wpAny (model X.prog X.w) A (call (.builtin "dict.pop") (.ref a :: u :: more)) Q E s := by
  obtain ⟨z, hd, vs, rel, dd⟩ := dk_of I.hok e
  obtain ⟨w', hw, rw'⟩ := RelO.some_of (v := v) (o := valueAt vs k) (by rw [← l]; exact rel.val k)
  have hp : (keyPart u).isSome = true := by
    cases k with
    | inl i => obtain ⟨t, q⟩ := (show ∃ t, u = Value.int i t from ry); subst q; rfl
    | inr x => obtain ⟨t, q⟩ := (show ∃ t, u = Value.str x t from ry); subst q; rfl
  have ha : argsOk "dict.pop" ⟨.ref a :: u :: more, []⟩ := by
    rcases hm with q | ⟨x, q⟩
    · subst q; exact PySem.F.args_dict_pop_2 _ _
    · subst q; exact PySem.F.args_dict_pop_3 _ _ _
  refine call_meetsIn PySem.F.slot_dict_pop dd.typeIs PySem.F.entry_dict_pop ha (meets_dict_pop_there (mixKind X.prog X.w) a (kV_is ry) more hm hp)
    ⟨vs, w', dd, by rw [← rel.length]; exact z, hw, fun h' dd' hs => h w' _ ?_ rw'⟩
  have he : ∃ q, h'.get? a = some q := let ⟨q, _, _, hq, _⟩ := dd'; ⟨q, hq⟩
  exact d_write I (by rw [e]; exact True.intro) hs he (dk_new (Nat.le_trans (dropK_le kvs k) z) hd (rel.drop k) dd')
theorem d_popD {r : Value} {Q : Value → Shared → Prop} (I : Inv X pins σ H s) (e : H a = some (.dK kvs)) (ry : RelV (kV k) u) (l : valV kvs k = none) (h : ∀ s', Inv X pins σ H s' → Q r s') :
    wpAny (model X.prog X.w) A (call (.builtin "dict.pop") [.ref a, u, r]) Q E s := by
  obtain ⟨z, hd, vs, rel, dd⟩ := dk_of I.hok e
  have hn : valueAt vs k = none := RelO.none_of (by rw [← l]; exact rel.val k)
  have hp : (keyPart u).isSome = true := by
    cases k with
    | inl i => obtain ⟨t, q⟩ := (show ∃ t, u = Value.int i t from ry); subst q; rfl
    | inr x => obtain ⟨t, q⟩ := (show ∃ t, u = Value.str x t from ry); subst q; rfl
  exact call_meetsIn PySem.F.slot_dict_pop dd.typeIs PySem.F.entry_dict_pop (PySem.F.args_dict_pop_3 _ _ _) (meets_dict_pop_default (mixKind X.prog X.w) a (kV_is ry) hd hp r) ⟨vs, dd, hn, h _ (I.tok _)⟩
theorem d_clear {Q : Value → Shared → Prop} (I : Inv X pins σ H s) (e : H a = some (.dK kvs)) (h : ∀ s', Inv X pins σ (upd H a (.dK [])) s' → Q .none s') : wpAny (model X.prog X.w) A (call (.builtin "dict.clear") [.ref a]) Q E s := by
  obtain ⟨z, hd, vs, rel, dd⟩ := dk_of I.hok e
  refine call_meetsIn PySem.F.slot_dict_clear dd.typeIs PySem.F.entry_dict_clear (PySem.F.args_dict_clear_1 _) (meets_dict_clear (mixKind X.prog X.w) a) ⟨vs, dd, by rw [← rel.length]; exact z, fun h' dd' hs => h _ ?_⟩
  have he : ∃ q, h'.get? a = some q := let ⟨q, _, _, hq, _⟩ := dd'; ⟨q, hq⟩
  exact d_write (t' := s.toks) I (by rw [e]; exact True.intro) hs he (dk_new (Nat.zero_le _) hd .nil dd')
theorem d_len {Q : Value → Shared → Prop} (I : Inv X pins σ H s) (e : Rd H a (.dK kvs)) (h : ∀ t s', Inv X pins σ H s' → Q (.int kvs.length t) s') : wpAny (model X.prog X.w) A (call (.builtin "len") [.ref a]) Q E s := by
  obtain ⟨z, hd, vs, rel, dd⟩ := dk_rd I.hok e
  refine call_len_dict hd dd (by rw [← rel.length]; rw [sizeLine_eq] at z; omega) ?_
  rw [← rel.length]
  exact h _ _ (I.tok _)
theorem d_truth {Q : Bool → Shared → Prop} (I : Inv X pins σ H s) (e : Rd H a (.dK kvs)) (h : ∀ s', Inv X pins σ H s' → Q (!kvs.isEmpty) s') : wpAny (model X.prog X.w) A (truthy (.ref a)) Q E s := by
  obtain ⟨z, hd, vs, rel, dd⟩ := dk_rd I.hok e
  refine wpAny_truthy_dict hd dd (by rw [← rel.length]; rw [sizeLine_eq] at z; omega) ?_
  have q : kvs.isEmpty = vs.isEmpty := by cases rel <;> rfl
  rw [← q]
  exact h _ (I.tok _)
end
/-! ### readings and rules -/
def NoSl (i : Expr) : Prop := ∀ ov iv, subscripted i false ov iv = operate [ov, iv] (getItem ov iv)
theorem subD_of {prog : Program} {w : World} {A : Around} {E : Value → Shared → Prop} {s : Shared} {env : Env} {value slice : Expr} {pos : Pos} {T id : String} {Q : Value → Shared → Prop}
    (hl : typeLookup (.type T) "__getitem__" = pure (some (.builtin id))) (hs : NoSl slice)
    (h : wpAny (model prog w) A (eval value env) (fun o s₁ => wpAny (model prog w) A (eval slice env) (fun i s₂ => s₂.TypeIs o T ∧ wpAny (model prog w) A (getItem o i) Q E s₂) E s₁) E s) :
    wpAny (model prog w) A (eval (.Subscript value slice pos) env) Q E s := by
  refine Subscript_ (wpAny_mono h (fun o s₁ h₁ => wpAny_mono h₁ (fun i s₂ h₂ => ?_) fun _ _ x => x) fun _ _ x => x)
  obtain ⟨hT, h₂⟩ := h₂
  unfold subscriptTail
  refine wpAny_bind ?_
  rw [getitemInPython_of_ne hT.not_modules]
  refine wpAny_bind (wpAny_specialOf hT hl ?_)
  have fin : wpAny (model prog w) A (subscripted slice false o i) (fun r s₃ => wpAny (model prog w) A (letTemporaryGo value o r >>= fun _ => pure r) Q E s₃) E s₂ := by
    rw [hs o i]
    exact wpAny_operating (wpAny_mono h₂ (fun r s₃ h₃ => wpAny_bind (wpAny_letTemporaryGo (wpAny_pure h₃))) fun _ _ x => x)
  first
    | exact wpAny_pure (wpAny_bind fin)
    | exact wpAny_bind (wpAny_pure (wpAny_bind fin))
    | exact wpAny_bind fin
theorem dict_typeIs {X : Cx} {pins : List (Addr × Obj)} {σ : St} {H : Hp} {s : Shared} {a : Addr} {y : V} {o : Option V} (I : Inv X pins σ H s) (g : DGet H a y o) : s.TypeIs (.ref a) "dict" := by
  rcases g with ⟨kvs, k, e, _, _⟩ | ⟨kvs, k, b, e, _, _, _⟩
  · obtain ⟨_, _, vs, _, dd⟩ := dk_rd I.hok e
    exact dd.typeIs
  · obtain ⟨_, _, xs, _, dd⟩ := dt_rd I.hok e
    exact dd.typeIs
theorem dict_noDict {X : Cx} {pins : List (Addr × Obj)} {σ : St} {H : Hp} {s : Shared} {a : Addr} {y : V} {o : Option V} (I : Inv X pins σ H s) (g : DGet H a y o) :
    ∀ b, Value.ref a = .ref b → ∃ ob, s.heap.get? b = some ob ∧ ob.dict = none := fun b q => by
  cases q
  rcases g with ⟨kvs, k, e, _, _⟩ | ⟨kvs, k, b, e, _, _, _⟩
  · obtain ⟨_, _, vs, _, ob, _, _, h1, h2, _⟩ := dk_rd I.hok e
    exact ⟨ob, h1, h2.2.1⟩
  · obtain ⟨_, _, xs, _, ob, _, _, h1, h2, _⟩ := dt_rd I.hok e
    exact ⟨ob, h1, h2.2.1⟩
def tDGet (td ty : TE) : TE := fun σ H Q => td σ H fun x H1 => ty σ H1 fun y H2 => ∃ a v, x = .ref a ∧ DGet H2 a y (some v) ∧ Q v H2
def tDIn (ty td : TE) : TE := fun σ H Q => ty σ H fun y H1 => td σ H1 fun x H2 => ∃ a o, x = .ref a ∧ DGet H2 a y o ∧ Q (.bl o.isSome) H2
def tDNotIn (ty td : TE) : TE := fun σ H Q => ty σ H fun y H1 => td σ H1 fun x H2 => ∃ a o, x = .ref a ∧ DGet H2 a y o ∧ Q (.bl (!o.isSome)) H2
def sDPut (td ty tv : TE) : TS := fun D σ H => tv σ H fun v H1 => td σ H1 fun x H2 => ty σ H2 fun y H3 => ∃ a H4, x = .ref a ∧ DPut H3 a y v H4 ∧ D.nx σ H4
def sDAug (td ty tv : TE) (rd : V → V → Hp → VK → Prop) : TS := fun D σ H => td σ H fun x H1 => ty σ H1 fun y H2 => ∃ a v, x = .ref a ∧ DGet H2 a y (some v) ∧
  tv σ H2 fun y2 H3 => rd v y2 H3 fun z H4 => ∃ H5, DPut H4 a y z H5 ∧ D.nx σ H5
def sDDel (td ty : TE) : TS := fun D σ H => td σ H fun x H1 => ty σ H1 fun y H2 => ∃ a kvs k, x = .ref a ∧ H2 a = some (.dK kvs) ∧ y = kV k ∧ (valV kvs k).isSome = true ∧ D.nx σ (upd H2 a (.dK (dropK kvs k)))
section
variable {X : Cx} {o i e value : Expr} {pos pos' tpos : Pos} {td ty tv : TE}
theorem pe_dget (hu : X.A.units + 1 < cLine) (ho : PE X o td) (hi : PE X i ty) (hs : NoSl i) : PE X (.Subscript o i pos) (tDGet td ty) := by
  intro pins s σ H Q I h
  refine subD_of PySem.F.slot_dict_getitem.lookup hs (thn (ho pins s σ H _ I h) fun u s1 ⟨x, H1, I1, rx, q1⟩ => thn (hi pins s1 σ H1 _ I1 q1) fun iv s2 ⟨y, H2, I2, ry, a, v, ex, g, q2⟩ => ?_)
  subst ex
  obtain rfl : u = Value.ref a := rx
  exact ⟨dict_typeIs I2 g, d_getItem hu I2 g ry fun w' s3 I3 rw' => ⟨v, H2, I3, rw', q2⟩⟩
theorem pc_din (hu : X.A.units + 1 < cLine) (hi : PE X i ty) (ho : PE X o td) : PC X .In i o (tDIn ty td) := by
  intro pins s σ H Q I h
  refine thn (hi pins s σ H _ I h) fun iv s1 ⟨y, H1, I1, ry, q1⟩ => thn (ho pins s1 σ H1 _ I1 q1) fun u s2 ⟨x, H2, I2, rx, a, ov, ex, g, q2⟩ => ?_
  subst ex
  obtain rfl : u = Value.ref a := rx
  exact d_in hu I2 g ry fun s3 I3 => ⟨.bl ov.isSome, H2, I3, rfl, q2⟩
theorem pc_dnotin (hu : X.A.units + 1 < cLine) (hi : PE X i ty) (ho : PE X o td) : PC X .NotIn i o (tDNotIn ty td) := by
  intro pins s σ H Q I h
  refine thn (hi pins s σ H _ I h) fun iv s1 ⟨y, H1, I1, ry, q1⟩ => thn (ho pins s1 σ H1 _ I1 q1) fun u s2 ⟨x, H2, I2, rx, a, ov, ex, g, q2⟩ => ?_
  subst ex
  obtain rfl : u = Value.ref a := rx
  exact d_notIn hu I2 g ry fun s3 I3 => ⟨.bl (!ov.isSome), H2, I3, rfl, q2⟩
theorem ps_dput (hu : X.A.units + 1 < cLine) (ho : PE X o td) (hi : PE X i ty) (hv : PE X value tv) (hs : swapsWith value (some (.Subscript o i pos')) pos.line X.env = pure false) :
    PS X (.Assign [.Subscript o i pos'] value pos) (sDPut td ty tv) := by
  intro pins s σ H D I h
  refine wpAny_Assign_Subscript (thn (hv pins s σ H _ I h) fun r s1 ⟨v, H1, I1, rv, q1⟩ => thn (ho pins s1 σ H1 _ I1 q1) fun u s2 ⟨x, H2, I2, rx, q2⟩ => thn (hi pins s2 σ H2 _ I2 q2) fun iv s3 ⟨y, H3, I3, ry, a, H4, ex, g, q3⟩ => ?_) hs
  subst ex
  obtain rfl : u = Value.ref a := rx
  exact d_setItem hu I3 g ry rv fun s4 I4 => ⟨σ, H4, I4, q3⟩
theorem ps_daug {op : Operator} {rd : V → V → Hp → VK → Prop} (hu : X.A.units + 1 < cLine) (ho : PE X o td) (hi : PE X i ty) (hv : PE X value tv) (hop : InOp X op rd)
    (ha : ∀ ov iv new, augStore i ov iv new = (do holding [new, ov, iv] (setItem ov iv new); release [new, ov, iv] []; pure .next)) : PS X (.AugAssign (.Subscript o i tpos) op value pos) (sDAug td ty tv rd) := by
  intro pins s σ H D I h
  refine wpAny_AugAssign_SubscriptAny (thn (ho pins s σ H _ I h) fun u s1 ⟨x, H1, I1, rx, q1⟩ => thn (hi pins s1 σ H1 _ I1 q1) fun iv s2 ⟨y, H2, I2, ry, a, v, ex, g, q2⟩ => ?_) ha
  subst ex
  obtain rfl : u = Value.ref a := rx
  refine d_getItem hu I2 g ry fun w' s3 I3 rw' => thn (hv pins s3 σ H2 _ I3 q2) fun w2 s4 ⟨y2, H3, I4, ry2, q3⟩ => thn (hop pins s4 σ H3 v y2 w' w2 _ I4 rw' ry2 q3) fun w3 s5 ⟨z, H4, I5, rz, H5, g5, q4⟩ => ?_
  exact d_setItem hu I5 g5 ry rz fun s6 I6 => ⟨σ, H5, I6, q4⟩
theorem ps_ddel (ho : PE X o td) (hi : PE X i ty) : PS X (.Delete [.Subscript o i tpos] pos) (sDDel td ty) := by
  intro pins s σ H D I h
  refine wpAny_Delete (wpAny_deleteEach_cons (wpAny_delete_Subscript (thn (ho pins s σ H _ I h) fun u s1 ⟨x, H1, I1, rx, q1⟩ => thn (hi pins s1 σ H1 _ I1 q1) fun iv s2 ⟨y, H2, I2, ry, a, kvs, k, ex, e, ey, l, q2⟩ => ?_)))
  subst ex ey
  obtain rfl : u = Value.ref a := rx
  exact d_delItem I2 e ry l fun s3 I3 => wpAny_deleteEach_nil ⟨σ, _, I3, q2⟩
end
/-! ### displays -/
theorem dk_empty {P : Program} {w : World} {H : Hp} (h : Heap) (hb : sysModules < h.objs.size) : ObjOk P w H (h.push { cls := .type "dict", data := .dict #[] }) h.objs.size (.dK []) :=
  ⟨Nat.zero_le _, beq_eq_false_iff_ne.mpr (Ne.symm (Nat.ne_of_lt hb)), [], .nil, Heap.DictOf.new h⟩
theorem dt_empty {P : Program} {w : World} {H : Hp} (h : Heap) (hb : sysModules < h.objs.size) : ObjOk P w H (h.push { cls := .type "dict", data := .dict #[] }) h.objs.size (.dT []) :=
  ⟨Nat.zero_le _, beq_eq_false_iff_ne.mpr (Ne.symm (Nat.ne_of_lt hb)), [], .nil, _, #[], 0, Heap.get?_push_size _ rfl, ⟨rfl, rfl, rfl⟩, rfl, rfl, List.nodup_nil⟩
def tDNewK : TE := fun _ H Q => ∀ p, H p = none → Q (.ref p) (upd H p (.dK []))
def tDNewT : TE := fun _ H Q => ∀ p, H p = none → Q (.ref p) (upd H p (.dT []))
section
variable {X : Cx} {pos : Pos}
theorem pe_dnewK : PE X (.Dict [] [] pos) tDNewK := fun pins s σ H Q I h =>
  wpAny_Dict_empty ⟨.ref s.heap.objs.size, _, I.laid (a := s.heap.objs.size) (o := .dK []) (t' := s.toks) (fun _ _ q => Heap.get?_push_of_some _ q) (Nat.le_refl _) (dk_empty s.heap I.big), rfl, h _ (I.hok.fresh (Nat.le_refl _))⟩
theorem pe_dnewT : PE X (.Dict [] [] pos) tDNewT := fun pins s σ H Q I h =>
  wpAny_Dict_empty ⟨.ref s.heap.objs.size, _, I.laid (a := s.heap.objs.size) (o := .dT []) (t' := s.toks) (fun _ _ q => Heap.get?_push_of_some _ q) (Nat.le_refl _) (dt_empty s.heap I.big), rfl, h _ (I.hok.fresh (Nat.le_refl _))⟩
end
def tPairs : List (TE × TE) → St → Hp → (List (V × V) → Hp → Prop) → Prop
  | [], _, H, Q => Q [] H
  | (tk, tv) :: r, σ, H, Q => tk σ H fun x H1 => tv σ H1 fun y H2 => tPairs r σ H2 fun ps H3 => Q ((x, y) :: ps) H3
abbrev VV : List (V × V) → List (Value × Value) → Prop := Paired fun p q => RelV p.1 q.1 ∧ RelV p.2 q.2
def PPs (X : Cx) (pos : Pos) (keys : List (Option Expr)) (values : List Expr) (trs : List (TE × TE)) : Prop :=
  ∀ (pins : List (Addr × Obj)) (s : Shared) (σ : St) (H : Hp) (Q : List (V × V) → Hp → Prop), Inv X pins σ H s → tPairs trs σ H Q →
    wpAny (model X.prog X.w) X.A (evalPairs (pairTrees keys values X.env pos)) (fun vs s' => ∃ ps H', Inv X pins σ H' s' ∧ VV ps vs ∧ Q ps H') X.xe s
theorem pps_nil {X : Cx} {pos : Pos} : PPs X pos [] [] [] := fun pins s σ H Q I h => pairTrees_nil_walk ⟨[], H, I, .nil, h⟩
theorem pps_cons {X : Cx} {pos : Pos} {k v : Expr} {ks : List (Option Expr)} {vs : List Expr} {tk tv : TE} {trs : List (TE × TE)} (hk : PE X k tk) (hv : PE X v tv) (hr : PPs X pos ks vs trs) :
    PPs X pos (some k :: ks) (v :: vs) ((tk, tv) :: trs) := fun pins s σ H Q I h =>
  pairTrees_cons_walk (thn (hk pins s σ H _ I h) fun u s1 ⟨x, H1, I1, rx, q1⟩ => thn (hv pins s1 σ H1 _ I1 q1) fun w2 s2 ⟨y, H2, I2, ry, q2⟩ =>
    thn (hr pins s2 σ H2 _ I2 q2) fun ws s3 ⟨ps, H3, I3, rel, q3⟩ => ⟨(x, y) :: ps, H3, I3, .cons ⟨rx, ry⟩ rel, q3⟩)
def mergeK (kvs more : List (Key × V)) : List (Key × V) := more.foldl (fun acc kv => putK acc kv.1 kv.2) kvs
theorem KV.merge : ∀ {more : List (Key × V)} {rs : List (Key × Value)} {kvs : List (Key × V)} {vs : List (Key × Value)}, KV more rs → KV kvs vs → KV (mergeK kvs more) (merged vs rs) := by
  intro more rs kvs vs r
  unfold KV at r
  induction r generalizing kvs vs with
  | nil => intro q; exact q
  | @cons p q ps qs h t ih =>
    intro r0
    have e : KV (putK kvs p.1 p.2) (stored vs q.1 q.2) := by
      have := r0.put p.1 h.2
      rw [← h.1]; exact this
    exact ih e
theorem length_mergeK : ∀ (more kvs : List (Key × V)), (mergeK kvs more).length ≤ kvs.length + more.length
  | [], kvs => by show kvs.length ≤ kvs.length + 0; omega
  | p :: r, kvs => by
    have h1 := length_mergeK r (putK kvs p.1 p.2)
    have h2 := length_putK kvs p.1 p.2
    show (mergeK (putK kvs p.1 p.2) r).length ≤ _
    rw [List.length_cons]; omega
theorem carries_of {P : Program} {w : World} : ∀ {kvs : List (Key × V)} {ws : List (Value × Value)}, VV (kvs.map fun kv => (kV kv.1, kv.2)) ws → ∃ rs, Carries (mixKind P w) ws rs ∧ KV kvs rs
  | [], _, r => by rw [List.map_nil] at r; cases r; exact ⟨[], True.intro, .nil⟩
  | p :: kvs, _, r => by
    rw [List.map_cons] at r
    cases r with
    | @cons a b as bs h t =>
      obtain ⟨rs, c, q⟩ := carries_of (P := P) (w := w) t
      obtain ⟨b1, b2⟩ := b
      exact ⟨(p.1, b2) :: rs, ⟨kV_is h.1, rfl, c⟩, .cons ⟨rfl, h.2⟩ q⟩
def tDisp (trs : List (TE × TE)) : TE := fun σ H Q => ∀ p, H p = none → tPairs trs σ (upd H p (.dK [])) fun ps H2 => H2 p = some (.dK []) ∧ ∃ kvs : List (Key × V), ps = kvs.map (fun kv => (kV kv.1, kv.2)) ∧ kvs.length ≤ 15 ∧ Q (.ref p) (upd H2 p (.dK (mergeK [] kvs)))
theorem pe_disp {X : Cx} {pos : Pos} {keys : List (Option Expr)} {values : List Expr} {trs : List (TE × TE)} (h : PPs X pos keys values trs) (hall : keys.all (·.isSome) = true) (hl : keys.length = values.length) (h0 : keys ≠ [])
    (h15 : keys.length ≤ 15) : PE X (.Dict keys values pos) (tDisp trs) := by
  intro pins s σ H Q I q
  have hn := I.hok.fresh (Nat.le_refl s.heap.objs.size)
  have I1 := I.laid (a := s.heap.objs.size) (o := .dK []) (h' := s.heap.push { cls := .type "dict", data := .dict #[] }) (t' := s.toks) (fun _ _ q => Heap.get?_push_of_some _ q) (Nat.le_refl _) (dk_empty s.heap I.big)
  refine wpAny_Dict_walk (knd := mixKind X.prog X.w) hall hl h0 h15 (thn (h pins _ σ _ _ I1 (q _ hn)) fun ws s2 ⟨ps, H2, I2, rel, e, kvs, ep, lk, q2⟩ => ?_)
  subst ep
  obtain ⟨rs, c, rk⟩ := carries_of (P := X.prog) (w := X.w) rel
  obtain ⟨z, hd, vs0, r0, dd⟩ := dk_of I2.hok e
  cases r0
  refine ⟨rs, c, dd, fun h' dd' hs => ⟨.ref s.heap.objs.size, _, ?_, rfl, q2⟩⟩
  have hz : (mergeK [] kvs).length ≤ sizeLine := by
    have h1 := length_mergeK kvs []
    rw [List.length_nil] at h1
    rw [sizeLine_eq]; omega
  have he : ∃ q, h'.get? s.heap.objs.size = some q := let ⟨q, _, _, hq, _⟩ := dd'; ⟨q, hq⟩
  exact d_write I2 (by rw [e]; exact True.intro) hs he (dk_new hz hd (rk.merge .nil) dd')
/-! ### methods -/
structure M1 (X : Cx) (o : Expr) (m : Str) (apos : Pos) (e : Expr) (cpos : Pos) : Prop where
  base : attributeBase o m X.env (eval o X.env) = eval o X.env
  few : ((backTo cpos (starEach [e] X.env)).all (fun x => !x.1) && (backToKw cpos (keywordEach [] X.env)).all (fun x => x.1.isSome)
    && decide (([e] : List Expr).length + ([] : List Keyword).length + (if ([] : List Keyword).isEmpty then 0 else 1) < 30)) = true
  line : (apos.endLine == cpos.line) = true
  trees : backTo cpos (starEach [e] X.env) = [(false, eval e X.env)]
structure M2 (X : Cx) (o : Expr) (m : Str) (apos : Pos) (e f : Expr) (cpos : Pos) : Prop where
  base : attributeBase o m X.env (eval o X.env) = eval o X.env
  few : ((backTo cpos (starEach [e, f] X.env)).all (fun x => !x.1) && (backToKw cpos (keywordEach [] X.env)).all (fun x => x.1.isSome)
    && decide (([e, f] : List Expr).length + ([] : List Keyword).length + (if ([] : List Keyword).isEmpty then 0 else 1) < 30)) = true
  line : (apos.endLine == cpos.line) = true
  trees : backTo cpos (starEach [e, f] X.env) = [(false, eval e X.env), (false, eval f X.env)]
def IsD (H : Hp) (a : Addr) : Prop := (∃ kvs, Rd H a (.dK kvs)) ∨ ∃ kvs, Rd H a (.dT kvs)
theorem isD_at {X : Cx} {pins : List (Addr × Obj)} {σ : St} {H : Hp} {s : Shared} {a : Addr} (I : Inv X pins σ H s) (d : IsD H a) :
    s.TypeIs (.ref a) "dict" ∧ (∀ b, Value.ref a = .ref b → ∃ ob, s.heap.get? b = some ob ∧ ob.dict = none) ∧ (a == sysModules) = false := by
  rcases d with ⟨kvs, e⟩ | ⟨kvs, e⟩
  · obtain ⟨_, hd, vs, _, dd⟩ := dk_rd I.hok e
    refine ⟨dd.typeIs, fun b q => ?_, hd⟩
    cases q
    obtain ⟨ob, _, _, h1, h2, _⟩ := dd
    exact ⟨ob, h1, h2.2.1⟩
  · obtain ⟨_, hd, xs, _, dd⟩ := dt_rd I.hok e
    refine ⟨dd.typeIs, fun b q => ?_, hd⟩
    cases q
    obtain ⟨ob, _, _, h1, h2, _⟩ := dd
    exact ⟨ob, h1, h2.2.1⟩
section
variable {X : Cx} {pins : List (Addr × Obj)} {σ : St} {H : Hp} {s : Shared} {a : Addr} {y d : V} {u r : Value} {o : Option V} {A : Around} {E : Value → Shared → Prop}
theorem d_get1 {Q : Value → Shared → Prop} (hu : A.units + 1 < cLine) (I : Inv X pins σ H s) (g : DGet H a y o) (ry : RelV y u) (h : ∀ w' s', Inv X pins σ H s' → RelV (o.getD .non) w' → Q w' s') :
    wpAny (model X.prog X.w) A (call (.builtin "dict.get") [.ref a, u]) Q E s := by
  rcases g with ⟨kvs, k, e, ey, l⟩ | ⟨kvs, k, b, e, ey, eb, l⟩
  · subst ey
    obtain ⟨z, hd, vs, rel, dd⟩ := dk_rd I.hok e
    refine call_meetsIn PySem.F.slot_dict_get dd.typeIs PySem.F.entry_dict_get (PySem.F.args_dict_get_2 _ _) (meets_dict_get (mixKind X.prog X.w) a (kV_is ry) hd) ⟨_, dd.mapOf, h _ _ (I.tok _) ?_⟩
    rw [l]
    exact (rel.val k).getD rfl
  · subst ey
    cases (show u = Value.ref b from ry)
    obtain ⟨z, hd, xs, rel, dd⟩ := dt_rd I.hok e
    refine call_meetsIn PySem.F.slot_dict_get dd.typeIs PySem.F.entry_dict_get (PySem.F.args_dict_get_2 _ _) (meetsH_dict_get (tupleKind (mixKind X.prog X.w)) a b hd) ⟨tupleKind_room_in1 hu, k, xs, key_of I.hok eb, dd, h _ _ (I.tok _) ?_⟩
    rw [l]
    exact (rel.val k).getD rfl
theorem d_get2 {Q : Value → Shared → Prop} (hu : A.units + 1 < cLine) (I : Inv X pins σ H s) (g : DGet H a y o) (ry : RelV y u) (rd : RelV d r) (h : ∀ w' s', Inv X pins σ H s' → RelV (o.getD d) w' → Q w' s') :
    wpAny (model X.prog X.w) A (call (.builtin "dict.get") [.ref a, u, r]) Q E s := by
  rcases g with ⟨kvs, k, e, ey, l⟩ | ⟨kvs, k, b, e, ey, eb, l⟩
  · subst ey
    obtain ⟨z, hd, vs, rel, dd⟩ := dk_rd I.hok e
    refine call_meetsIn PySem.F.slot_dict_get dd.typeIs PySem.F.entry_dict_get (PySem.F.args_dict_get_3 _ _ _) (meets_dict_get_default (mixKind X.prog X.w) a (kV_is ry) hd r) ⟨_, dd.mapOf, h _ _ (I.tok _) ?_⟩
    rw [l]
    exact (rel.val k).getD rd
  · subst ey
    cases (show u = Value.ref b from ry)
    obtain ⟨z, hd, xs, rel, dd⟩ := dt_rd I.hok e
    refine call_meetsIn PySem.F.slot_dict_get dd.typeIs PySem.F.entry_dict_get (PySem.F.args_dict_get_3 _ _ _) (meetsH_dict_get_default (tupleKind (mixKind X.prog X.w)) a b hd r) ⟨tupleKind_room_in1 hu, k, xs, key_of I.hok eb, dd, h _ _ (I.tok _) ?_⟩
    rw [l]
    exact (rel.val k).getD rd
end
def tDGet1 (td ty : TE) : TE := fun σ H Q => td σ H fun x H1 => ∃ a, x = .ref a ∧ IsD H1 a ∧ ty σ H1 fun y H2 => ∃ o, DGet H2 a y o ∧ Q (o.getD .non) H2
def tDGet2 (td ty tx : TE) : TE := fun σ H Q => td σ H fun x H1 => ∃ a, x = .ref a ∧ IsD H1 a ∧ ty σ H1 fun y H2 => tx σ H2 fun z H3 => ∃ o, DGet H3 a y o ∧ Q (o.getD z) H3
def tDPop1 (td ty : TE) : TE := fun σ H Q => td σ H fun x H1 => ∃ a, x = .ref a ∧ IsD H1 a ∧ ty σ H1 fun y H2 => ∃ kvs k v, H2 a = some (.dK kvs) ∧ y = kV k ∧ valV kvs k = some v ∧ Q v (upd H2 a (.dK (dropK kvs k)))
def tDPop2 (td ty tx : TE) : TE := fun σ H Q => td σ H fun x H1 => ∃ a, x = .ref a ∧ IsD H1 a ∧ ty σ H1 fun y H2 => tx σ H2 fun z H3 => ∃ kvs k, H3 a = some (.dK kvs) ∧ y = kV k ∧
  (∀ v, valV kvs k = some v → Q v (upd H3 a (.dK (dropK kvs k)))) ∧ (valV kvs k = none → Q z H3)
section
variable {X : Cx} {o e f : Expr} {apos cpos : Pos} {td ty tx : TE}
theorem pe_dget1 (hu : X.A.units + 1 < cLine) (ho : PE X o td) (he : PE X e ty) (m : M1 X o "get" apos e cpos) : PE X (.Call (.Attribute o "get" apos) [e] [] cpos) (tDGet1 td ty) := by
  intro pins s σ H Q I h
  refine wpAny_Call_method m.base m.few m.line PySem.F.plainAttrs_dict PySem.F.slot_dict_get PySem.F.type_dict_get (thn (ho pins s σ H _ I h) fun u s1 ⟨x, H1, I1, rx, a, ex, d, q1⟩ => ?_)
  subst ex
  obtain rfl : u = Value.ref a := rx
  obtain ⟨t1, t2, _⟩ := isD_at I1 d
  refine ⟨t1, t2, ?_⟩
  rw [m.trees]
  refine Calls.callWith_builtin rfl (Calls.evalArgs_plain (Calls.spliced_cons (thn (he pins s1 σ H1 _ I1 q1) fun iv s2 ⟨y, H2, I2, ry, ov, g, q2⟩ => Calls.spliced_nil ?_)))
  exact d_get1 hu I2 g ry fun w' s3 I3 rw' => ⟨_, H2, I3, rw', q2⟩
theorem pe_dget2 (hu : X.A.units + 1 < cLine) (ho : PE X o td) (he : PE X e ty) (hf : PE X f tx) (m : M2 X o "get" apos e f cpos) : PE X (.Call (.Attribute o "get" apos) [e, f] [] cpos) (tDGet2 td ty tx) := by
  intro pins s σ H Q I h
  refine wpAny_Call_method m.base m.few m.line PySem.F.plainAttrs_dict PySem.F.slot_dict_get PySem.F.type_dict_get (thn (ho pins s σ H _ I h) fun u s1 ⟨x, H1, I1, rx, a, ex, d, q1⟩ => ?_)
  subst ex
  obtain rfl : u = Value.ref a := rx
  obtain ⟨t1, t2, _⟩ := isD_at I1 d
  refine ⟨t1, t2, ?_⟩
  rw [m.trees]
  refine Calls.callWith_builtin rfl (Calls.evalArgs_plain (Calls.spliced_cons (thn (he pins s1 σ H1 _ I1 q1) fun iv s2 ⟨y, H2, I2, ry, q2⟩ =>
    Calls.spliced_cons (thn (hf pins s2 σ H2 _ I2 q2) fun fv s3 ⟨z, H3, I3, rz, ov, g, q3⟩ => Calls.spliced_nil ?_))))
  exact d_get2 hu I3 g ry rz fun w' s4 I4 rw' => ⟨_, H3, I4, rw', q3⟩
theorem pe_dpop1 (ho : PE X o td) (he : PE X e ty) (m : M1 X o "pop" apos e cpos) : PE X (.Call (.Attribute o "pop" apos) [e] [] cpos) (tDPop1 td ty) := by
  intro pins s σ H Q I h
  refine wpAny_Call_method m.base m.few m.line PySem.F.plainAttrs_dict PySem.F.slot_dict_pop PySem.F.type_dict_pop (thn (ho pins s σ H _ I h) fun u s1 ⟨x, H1, I1, rx, a, ex, d, q1⟩ => ?_)
  subst ex
  obtain rfl : u = Value.ref a := rx
  obtain ⟨t1, t2, _⟩ := isD_at I1 d
  refine ⟨t1, t2, ?_⟩
  rw [m.trees]
  refine Calls.callWith_builtin rfl (Calls.evalArgs_plain (Calls.spliced_cons (thn (he pins s1 σ H1 _ I1 q1) fun iv s2 ⟨y, H2, I2, ry, kvs, k, v, ea, ey, l, q2⟩ => Calls.spliced_nil ?_)))
  subst ey
  exact d_pop I2 ea ry l (.inl rfl) fun w' s3 I3 rw' => ⟨v, _, I3, rw', q2⟩
theorem pe_dpop2 (ho : PE X o td) (he : PE X e ty) (hf : PE X f tx) (m : M2 X o "pop" apos e f cpos) : PE X (.Call (.Attribute o "pop" apos) [e, f] [] cpos) (tDPop2 td ty tx) := by
  intro pins s σ H Q I h
  refine wpAny_Call_method m.base m.few m.line PySem.F.plainAttrs_dict PySem.F.slot_dict_pop PySem.F.type_dict_pop (thn (ho pins s σ H _ I h) fun u s1 ⟨x, H1, I1, rx, a, ex, d, q1⟩ => ?_)
  subst ex
  obtain rfl : u = Value.ref a := rx
  obtain ⟨t1, t2, _⟩ := isD_at I1 d
  refine ⟨t1, t2, ?_⟩
  rw [m.trees]
  refine Calls.callWith_builtin rfl (Calls.evalArgs_plain (Calls.spliced_cons (thn (he pins s1 σ H1 _ I1 q1) fun iv s2 ⟨y, H2, I2, ry, q2⟩ =>
    Calls.spliced_cons (thn (hf pins s2 σ H2 _ I2 q2) fun fv s3 ⟨z, H3, I3, rz, kvs, k, ea, ey, q3, q4⟩ => Calls.spliced_nil ?_))))
  subst ey
  cases l : valV kvs k with
  | some v => exact d_pop I3 ea ry l (.inr ⟨fv, rfl⟩) fun w' s4 I4 rw' => ⟨v, _, I4, rw', q3 v l⟩
  | none => exact d_popD I3 ea ry l fun s4 I4 => ⟨z, H3, I4, rz, q4 l⟩
end
/-! ### dict(d): a copy -/
section
variable {X : Cx} {pins : List (Addr × Obj)} {σ : St} {H : Hp} {s : Shared} {a : Addr} {kvs : List (Key × V)} {A : Around} {E : Value → Shared → Prop}
theorem d_copyOf {Q : Value → Shared → Prop} (I : Inv X pins σ H s) (e : Rd H a (.dK kvs)) (h : ∀ p s', H p = none → Inv X pins σ (upd H p (.dK kvs)) s' → Q (.ref p) s') : wpAny (model X.prog X.w) A (call (.type "dict") [.ref a]) Q E s := by
  obtain ⟨z, hd, vs, rel, dd⟩ := dk_rd I.hok e
  refine kt_call_dict hd dd (by rw [← rel.length]; exact z) fun h' dd' hs => ?_
  refine h _ _ (I.hok.fresh (Nat.le_refl _)) (I.laid (a := s.heap.objs.size) (o := .dK kvs) (t' := s.toks) (fun b q hq => ?_) (Nat.le_refl _) (dk_new z (beq_eq_false_iff_ne.mpr (Ne.symm (Nat.ne_of_lt I.big))) rel dd'))
  exact (hs.2 b (Nat.ne_of_lt (Heap.lt_size hq))).trans (Heap.get?_push_of_some _ hq)
end
section
variable {X : Cx} {pins : List (Addr × Obj)} {σ : St} {H : Hp} {s : Shared} {a : Addr} {y : V} {u : Value} {A : Around} {E : Value → Shared → Prop}
theorem d_missing {Q : Value → Shared → Prop} (hu : A.units + 1 < cLine) (hh : A.handled = none) (I : Inv X pins σ H s) (g : DGet H a y none) (ry : RelV y u)
    (h : ∀ h' e t', Heap.NewExc s.heap h' e "KeyError" → E (.ref e) { s with heap := h', toks := t' }) : wpAny (model X.prog X.w) A (getItem (.ref a) u) Q E s := by
  rcases g with ⟨kvs, k, e, ey, l⟩ | ⟨kvs, k, b, e, ey, eb, l⟩
  · subst ey
    obtain ⟨z, hd, vs, rel, dd⟩ := dk_rd I.hok e
    have hn : valueAt vs k = none := RelO.none_of (by rw [l]; exact rel.val k)
    exact wpAny_getItem_missing_of (kV_is ry) hd hh dd.mapOf hn fun h' ex ne => h h' ex _ ne
  · subst ey
    cases (show u = Value.ref b from ry)
    obtain ⟨z, hd, xs, rel, dd⟩ := dt_rd I.hok e
    have hn : (atKey xs k).map (·.2) = none := RelO.none_of (by rw [l]; exact rel.val k)
    exact wpAny_getItem_missing_heap (tupleKind_room_in1 hu) (key_of I.hok eb) hd hh dd (Option.map_eq_none_iff.mp hn) fun h' ex ne => h h' ex _ ne
end
end L2
namespace Att
open PySem PySem.W PySem.Calls PyProof.Rows
/-! ### the script -/
theorem ints_of_wellAll {P : Params} {h : Heap} : ∀ (ns : List Int) (vs : List Value), WellAll P h vs (ns.map WData.int) → IntsAre vs ns := by
  intro ns
  induction ns with
  | nil =>
    intro vs w
    rw [List.map_nil] at w
    cases w
    exact .nil
  | cons n ns ih =>
    intro vs w
    rw [List.map_cons] at w
    cases w with
    | cons a b =>
      cases a
      exact .cons _ _ (ih _ b)
theorem script_of {l : OpenLaw} {n : Nat} (hn : l.most = some n) {P : Params} {h : Heap} {args : List WData} {vals : List Value}
    (hpre : l.row.toRowW.claim.pre args = true) (hwl : WellAll P h vals args) :
    ∃ a vs ns, vals = [Value.ref a] ∧ args = [WData.list (ns.map WData.int)] ∧ h.get? a = some { cls := .type "list", data := .seq vs.toArray } ∧ IntsAre vs ns ∧ ns.length ≤ n := by
  have hsh : WShape.hasAll [] args [.list .int] = true := (pre_splitW hpre).1
  have hc : l.pre.holds [] { args := args } = true := (pre_splitW hpre).2
  obtain ⟨d, r, rfl, h1, h2⟩ := hasAllW_cons hsh
  obtain rfl := hasAllW_nil h2
  obtain ⟨xs, rfl, h3⟩ := hasW_list h1
  obtain ⟨ns, rfl⟩ := items_int h3
  have hlen : ns.length ≤ n := by
    unfold OpenLaw.pre at hc
    have h4 : (WTm.not (.lt (.lit (.int (n : Int))) (.len (.arg 0)))).holds [] { args := [.list (ns.map .int)] } = true := by
      have h4 := (holds_andW hc).1
      rw [hn] at h4
      exact h4
    have h5 := condW_of h4 (w_not (w_lt w_lit (w_len_list (w_arg rfl))))
    rw [List.length_map] at h5
    refine Nat.le_of_not_lt fun q => ?_
    have q' : (n : Int) < ((ns.length : Nat) : Int) := by omega
    first
      | (rw [decide_eq_true q'] at h5; exact absurd h5 (by decide))
      | (simp at h5; omega)
  cases hwl with
  | cons w1 w2 =>
    cases w2
    cases w1 with
    | list ho hall => exact ⟨_, _, ns, rfl, rfl, ho, ints_of_wellAll ns _ hall, hlen⟩
theorem post_true (l : OpenLaw) (args : List WData) : l.row.toRowW.claim.post args (.bool true) args = true :=
  postW_of (r := l.row.toRowW) (X := (true == true))
    (show WShape.has [] (.bool true) .bool = true by first | rfl | decide | simp [WShape.has, WShape.arms, WShape.armsAll])
    (show (WTm.eq .res (.lit (.bool true))).value [] { args := args, res := some (.bool true), after := args } = some (.bool (true == true)) from w_eq_bool (w_res rfl) w_lit) rfl
/-! ### the attachment: holds_open's last premise (the goal 'hc' behind k_head) from a wpAny of the law's body -/
theorem attach {l : OpenLaw} {n : Nat} {q : Program} {loose : List Str} {XP : (Str → Option Value) → Heap → Prop} {YP : World → Heap → Prop} {d : DefRec} {x : Str}
    (hn : l.most = some n) (hdf : d.params.defaults = [])
    (hbind : ∀ pm cd doc v : Value, bindArgs (docDef d.name d.params d.body d.scope pm cd doc) ⟨[v], []⟩ = pure [(x, v)])
    (hx : d.scope.names.lookup x = some .local ∨ d.scope.names.lookup x = some .cell)
    (hk : d.scope.kind = .function) (hco : d.scope.isCoroutine = false) (hgen : d.scope.isGenerator = false)
    (body : ∀ (w : World) (s₀ s₁ s : Shared) (mg mb : Str → Option Value) (fa : Addr) (o : Obj) (pm cd doc : Value) (a : Addr) (vs : List Value) (ns : List Int),
      Ground q loose [] XP w s₀ mg mb s₁.heap → YP w s₁.heap →
      s₁.heap.get? fa = some o → o.data = .func (docDef d.name d.params d.body d.scope pm cd doc) → s₁.heap.CodeRec cd d.name → mg d.name = some (.ref fa) →
      s₁.heap.get? a = some { cls := .type "list", data := .seq vs.toArray } → IntsAre vs ns → ns.length ≤ n →
      s.gens = #[] → s.os = s₁.os →
      Fr s₁.heap s₁.heap.objs.size s.heap (bindL (envOfC d.name d.scope s₁.heap.objs.size fa cd).kindOf [(x, .ref a)] fun _ => none) →
      Cl s₁.heap.objs.size (cellsFrom (s₁.heap.objs.size + 1) d.scope.names []) s.heap (bindC (envOfC d.name d.scope s₁.heap.objs.size fa cd).kindOf [(x, .ref a)] fun _ => none) →
      wpAny (model l.prog w) (callerA.deeper (envOfC d.name d.scope s₁.heap.objs.size fa cd)) (execs d.body (envOfC d.name d.scope s₁.heap.objs.size fa cd))
        (fun f s' => f = .ret (.bool true) ∧ OldK s₁.heap s'.heap ∧ s'.os = s₁.os ∧ AllBare s'.gens) (fun _ _ => False) s) :
    WalkO q loose XP YP l.row.toRowW d [] (fun f vs => PySem.call f vs) := by
  intro w s₀ s₁ mg mb G Y fa o pm cd doc dV kV ho hd hcd hD hmg hg args vals as hpre hlay hrd hwl hlo
  obtain rfl : dV = .none := Dflts.none hD hdf
  obtain rfl : kV = .none := Dflts.noKw hD
  obtain ⟨a, vs, ns, rfl, rfl, hobj, hints, hlen⟩ := script_of hn hpre hwl
  refine enter_call ?_
  refine call_cells_ret (o := o) (by rw [depth_caller]; decide) ho (fd_plain hd) G.T.nolimit hcd (hbind pm cd doc (.ref a)) (fun y hy => ?_) (fun h₁ tk F X => ?_) hco hgen hk
  · obtain rfl : y = (x, Value.ref a) := List.mem_singleton.mp hy
    rcases hx with e | e
    · exact .inl e
    · exact .inr ⟨e, cellsFrom_some _ _ _ (.inl e)⟩
  · refine wpAny_mono (body w s₀ s₁ { s₁ with heap := h₁, toks := tk } mg mb fa o pm cd doc a vs ns G Y ho (fd_plain hd) hcd hmg hobj hints hlen hg rfl F X) (fun f s' hq => ?_) (fun _ _ hq => hq)
    obtain ⟨rfl, h2, h3, h4⟩ := hq
    exact ⟨.inl ⟨.bool true, .bool true, [], rfl, fun _ => rfl, .bool true, post_true l _, fun _ => ⟨List.Pairwise.nil, fun _ hm => (nomatch hm)⟩⟩, h2, h3, h4⟩
theorem attach_call {l : OpenLaw} {n : Nat} {q : Program} {loose : List Str} {XP : (Str → Option Value) → Heap → Prop} {YP : World → Heap → Prop} {d : DefRec}
    (hn : l.most = some n) (hdf : d.params.defaults = [])
    (call : ∀ (w : World) (s₀ s₁ : Shared) (mg mb : Str → Option Value) (fa : Addr) (o : Obj) (pm cd doc : Value) (a : Addr) (vs : List Value) (ns : List Int),
      Ground q loose [] XP w s₀ mg mb s₁.heap → YP w s₁.heap →
      s₁.heap.get? fa = some o → o.data = .func (docDef d.name d.params d.body d.scope pm cd doc) → s₁.heap.CodeRec cd d.name → mg d.name = some (.ref fa) →
      s₁.heap.get? a = some { cls := .type "list", data := .seq vs.toArray } → IntsAre vs ns → ns.length ≤ n → s₁.gens = #[] →
      codeAny (model l.prog w) callerA (.call (.ref fa) ⟨[.ref a], []⟩) (fun r s' => r = .ok (.ret (.bool true)) ∧ OldK s₁.heap s'.heap ∧ s'.os = s₁.os ∧ AllBare s'.gens) s₁) :
    WalkO q loose XP YP l.row.toRowW d [] (fun f vs => PySem.call f vs) := by
  intro w s₀ s₁ mg mb G Y fa o pm cd doc dV kV ho hd hcd hD hmg hg args vals as hpre hlay hrd hwl hlo
  obtain rfl : dV = .none := Dflts.none hD hdf
  obtain rfl : kV = .none := Dflts.noKw hD
  obtain ⟨a, vs, ns, rfl, rfl, hobj, hints, hlen⟩ := script_of hn hpre hwl
  refine enter_call (codeAny_mono (call w s₀ s₁ mg mb fa o pm cd doc a vs ns G Y ho (fd_plain hd) hcd hmg hobj hints hlen hg) fun r s' hq => ?_)
  obtain ⟨rfl, h2, h3, h4⟩ := hq
  exact ⟨.inl ⟨.bool true, .bool true, [], rfl, fun _ => rfl, .bool true, post_true l _, fun _ => ⟨List.Pairwise.nil, fun _ hm => (nomatch hm)⟩⟩, h2, h3, h4⟩
theorem attachN {l : OpenLaw} {n : Nat} {q : Program} {loose : List Str} {XP : (Str → Option Value) → Heap → Prop} {YP : World → Heap → Prop} {d : DefRec} {x : Str}
    (hn : l.most = some n) (hdf : d.params.defaults = [])
    (hbind : ∀ pm cd doc v : Value, bindArgs (docDef d.name d.params d.body d.scope pm cd doc) ⟨[v], []⟩ = pure [(x, v)])
    (hx : d.scope.names.lookup x = some .local ∨ d.scope.names.lookup x = some .cell)
    (hk : d.scope.kind = .function) (hco : d.scope.isCoroutine = false) (hgen : d.scope.isGenerator = false)
    (body : ∀ (w : World) (s₀ s₁ s : Shared) (mg mb : Str → Option Value) (fa : Addr) (o : Obj) (pm cd doc : Value) (a : Addr) (vs : List Value) (ns : List Int),
      Ground q loose [] XP w s₀ mg mb s₁.heap → YP w s₁.heap →
      s₁.heap.get? fa = some o → o.data = .func (docDef d.name d.params d.body d.scope pm cd doc) → s₁.heap.CodeRec cd d.name → mg d.name = some (.ref fa) →
      s₁.heap.get? a = some { cls := .type "list", data := .seq vs.toArray } → IntsAre vs ns → ns.length ≤ n →
      s.gens = #[] → s.os = s₁.os →
      Fr s₁.heap s₁.heap.objs.size s.heap (bindL (envOfC d.name d.scope s₁.heap.objs.size fa cd).kindOf [(x, .ref a)] fun _ => none) →
      Cl s₁.heap.objs.size (cellsFrom (s₁.heap.objs.size + 1) d.scope.names []) s.heap (bindC (envOfC d.name d.scope s₁.heap.objs.size fa cd).kindOf [(x, .ref a)] fun _ => none) →
      wpAny (model l.prog w) (callerA.deeper (envOfC d.name d.scope s₁.heap.objs.size fa cd)) (execs d.body (envOfC d.name d.scope s₁.heap.objs.size fa cd))
        (fun f s' => f = .ret (.bool true) ∧ (∀ b o, s₁.heap.get? b = some o → s'.heap.get? b = some o) ∧ s'.os = s₁.os ∧ s'.gens = #[]) (fun _ _ => False) s) :
    WalkN q loose XP YP l.row.toRowW d [] (fun f vs => PySem.call f vs) := by
  intro w s₀ s₁ mg mb G Y fa o pm cd doc dV kV ho hd hcd hD hmg hg args vals as hpre hlay hrd hwl hlo
  obtain rfl : dV = .none := Dflts.none hD hdf
  obtain rfl : kV = .none := Dflts.noKw hD
  obtain ⟨a, vs, ns, rfl, rfl, hobj, hints, hlen⟩ := script_of hn hpre hwl
  refine enter_callW ?_
  refine call_cells_ret (o := o) (by rw [depth_caller]; decide) ho (fd_plain hd) G.T.nolimit hcd (hbind pm cd doc (.ref a)) (fun y hy => ?_) (fun h₁ tk F X => ?_) hco hgen hk
  · obtain rfl : y = (x, Value.ref a) := List.mem_singleton.mp hy
    rcases hx with e | e
    · exact .inl e
    · exact .inr ⟨e, cellsFrom_some _ _ _ (.inl e)⟩
  · refine wpAny_mono (body w s₀ s₁ { s₁ with heap := h₁, toks := tk } mg mb fa o pm cd doc a vs ns G Y ho (fd_plain hd) hcd hmg hobj hints hlen hg rfl F X) (fun f s' hq => ?_) (fun _ _ hq => hq)
    obtain ⟨rfl, h2, h3, h4⟩ := hq
    exact ⟨.inl ⟨.bool true, .bool true, [], rfl, fun _ => rfl, .bool true, post_true l _, fun _ => ⟨List.Pairwise.nil, fun _ hm => (nomatch hm)⟩⟩, h2, h3, h4⟩
/-! ### rules over ANY heap (no ledger) from facts about the written part K: the library's own take a ledger (News) for what they write -/
section
variable {prog : Program} {w : World} {A : Around} {E : Value → Shared → Prop} {s : Shared} {K : Frag}
theorem call_fn {R : Result → Shared → Prop} {name qual : Str} {params : Arguments} {body : List Stmt} {scope : Scope} {dV kV doc pm cdv ct oc : Value} {an od : Option Addr} {osl : Array (Option Value)} {f : Addr} {args : Args} {binds : List (Str × Value)}
    (X : K.In s.heap) (hlim : s.heap.NoLimit) (ho : K.lookup f = some ⟨oc, od, .func (fnOf name qual params body scope dV kV doc pm an cdv ct), osl⟩) (hcd : codeIn K cdv qual = true) (hroom : A.depth < recursionLimit)
    (hbind : BindsTo s (fnOf name qual params body scope dV kV doc pm an cdv ct) args binds)
    (hkind : (binds.all fun y => scope.names.lookup y.1 == some .local || scope.names.lookup y.1 == some .cell) = true)
    (h : ∀ s₁, InCallC s s.heap.objs.size (bindL (envOfC qual scope s.heap.objs.size f cdv).kindOf binds fun _ => none) (cellsFrom (s.heap.objs.size + 1) scope.names [])
        (bindC (envOfC qual scope s.heap.objs.size f cdv).kindOf binds fun _ => none) s₁ →
      wpAny (model prog w) (A.deeper (envOfC qual scope s.heap.objs.size f cdv)) (execs body (envOfC qual scope s.heap.objs.size f cdv))
        (fun fl s' => R (.ok (.ret (match fl with | .ret v => v | _ => .none))) s')
        (fun e s' => wpAny (model prog w) (A.deeper (envOfC qual scope s.heap.objs.size f cdv)) (leaving (envOfC qual scope s.heap.objs.size f cdv) e) (fun _ s'' => R (.error e) s'') (fun e' s'' => R (.error e') s'') s') s₁)
    (hco : scope.isCoroutine = false) (hgen : scope.isGenerator = false) (hk : scope.kind = .function) : codeAny (model prog w) A (.call (.ref f) args) R s := by
  refine codeAny_call_function hroom (X _ _ ho) rfl hco hgen rfl (codeRec_of X hcd) (hbind _ _ _ _ ?_)
  refine wpAny_newFunctionEnv_cells hk (kindsX hkind _) fun env he s₁ x => ?_
  subst he
  exact ⟨hlim.keeps x.toInCall.keep, codeAny_func (h s₁ x)⟩
theorem make_obj {R : Result → Shared → Prop} {C fI : Addr} {rest : List Value} {kw : List (Str × Value)}
    (X : K.In s.heap) (hm : makesIn K C = true) (hi : findIn K (.ref C) "__init__" = some (some (.ref fI))) (hf : isFn K (.ref fI) = true)
    (h : codeAny (model prog w) (A.under (.builtin "type.__call__" ⟨.ref C :: rest, kw⟩)) (.call (.ref fI) ⟨.ref (s.heap.objs.size + 1) :: rest, kw⟩) (InitBack (s.heap.objs.size + 1) R)
      { s with heap := (s.heap.push emptyDict).push (instObj C s.heap.objs.size) }) : codeAny (model prog w) A (.call (.ref C) ⟨rest, kw⟩) R s := by
  obtain ⟨hh, g, d, t, os⟩ := s
  exact make_core (makes_of X hm) (looks_findIn X hi) (fun self => bind_fn X self (beq_iff_eq.mp hf)) (.inl rfl) h
theorem get_field {x C : Addr} {ox : Obj} {es : List DictEntry} {n : Nat} {name : Str} {expr : Bool} {v : Value} {Q : Value → Shared → Prop}
    (X : K.In s.heap) (I : PySem.W.InstAt s.heap x ox C (some (dictOf es n))) (hg : plainGet K C name = true) (hh : hasDictIn K C = true) (ha : findIn K (.ref C) name = some none)
    (hl : getL name es = some (some v)) (hv : handedIn v = true) (h : Q v { s with toks := s.toks + 1 }) : wpAny (model prog w) A (getAttr (.ref x) name expr) Q E s :=
  get_value X I (plainGet_of hg).1 (findObj_own hh ha rfl hl) hv h
theorem get_method {x C f : Addr} {ox : Obj} {es : List DictEntry} {n : Nat} {name : Str} {pl : Sem Bool} {Q : Value × List Value → Shared → Prop}
    (X : K.In s.heap) (I : PySem.W.InstAt s.heap x ox C (some (dictOf es n))) (hg : plainGet K C name = true) (hf : findIn K (.ref C) name = some (some (.ref f))) (ht : isFn K (.ref f) = true)
    (hl : getL name es = some none) (h : Q (.ref f, [.ref x]) s) : wpAny (model prog w) A (getMethod (.ref x) name pl) Q E s :=
  method_fn X I (plainGet_of hg).1 (plainGet_of hg).2 hf (beq_iff_eq.mp ht) (by show (lookIn name (dictOf es n)).map _ = _; rw [lookIn_dict, hl]; rfl) h
/-! the whole heap as the ledger: makes every rule that writes through a ledger a rule over any heap -/
def noObjs (h : Heap) : Heap := { h with objs := #[] }
theorem noObjs_get (h : Heap) (b : Addr) : (noObjs h).get? b = none := by
  cases e : (noObjs h).get? b with
  | none => rfl
  | some o => exact absurd (Heap.lt_size e) (Nat.not_lt_zero _)
def ledger (h : Heap) (L d : Addr) : List (Addr × Obj) := (List.range h.objs.size).filterMap fun a => if a = L ∨ a = d then none else (h.get? a).map fun o => (a, o)
theorem mem_ledger {h : Heap} {L d a : Addr} {o : Obj} : (a, o) ∈ ledger h L d ↔ a ≠ L ∧ a ≠ d ∧ h.get? a = some o := by
  unfold ledger
  rw [List.mem_filterMap]
  constructor
  · rintro ⟨b, _, e⟩
    split at e
    · cases e
    · rename_i hb
      obtain ⟨o', ho, e'⟩ := Option.map_eq_some_iff.mp e
      cases e'
      exact ⟨fun q => hb (.inl q), fun q => hb (.inr q), ho⟩
  · rintro ⟨n1, n2, ho⟩
    refine ⟨a, List.mem_range.mpr (Heap.lt_size ho), ?_⟩
    rw [if_neg (show ¬ (a = L ∨ a = d) from fun q => q.elim n1 n2), ho] <;> rfl
theorem news_ledger {h : Heap} {L d : Addr} {od : Obj} (hne : d ≠ L) (ho : h.get? d = some od) : News (noObjs h) L h ([] ++ (d, od) :: ledger h L d) := by
  rintro ⟨a, o⟩ hp
  rcases List.mem_cons.mp hp with e | hp
  · cases e
    exact ⟨ho, hne, noObjs_get _ _⟩
  · obtain ⟨n1, n2, e⟩ := mem_ledger.mp hp
    exact ⟨e, n1, noObjs_get _ _⟩
theorem fr_all {h : Heap} {L : Addr} {m : Str → Option Value} (n : h.Ns L m) : Fr (noObjs h) L h m :=
  ⟨n, fun b o e => (by rw [noObjs_get] at e; cases e), Nat.zero_le _⟩
theorem upd_ledger {h : Heap} {L d : Addr} {o o' : Obj} : Upd d o o' ((d, o) :: ledger h L d) ((d, o') :: ledger h L d) :=
  .head fun ⟨_, _⟩ hp => (mem_ledger.mp hp).2.1
theorem set_field {x C dx L : Addr} {ox : Obj} {m : Str → Option Value} {es es' : List DictEntry} {n n' : Nat} {name : Str} {v : Value} {Q : Unit → Shared → Prop}
    (X : K.In s.heap) (I : PySem.W.InstAt s.heap x ox C (some (dictOf es n))) (hd : ox.dict = some dx) (hL : s.heap.Ns L m) (hne : dx ≠ L)
    (hs : findIn K (.ref C) "__setattr__" = some (some (.builtin "object.__setattr__"))) (hp : plainOver K C = true) (ht : takerIn K C name = some none) (hh : hasDictIn K C = true) (hl : (getL name es).isSome = true)
    (e : (putL name (PyData.keyHash w.params name) (.str name (s.toks + 1)) v es, putN name es n) = (es', n')) (hz : es'.length ≤ 1000)
    (h : ∀ h' : Heap, h'.Ns L m → h'.get? dx = some (dictOf es' n') → (∀ b o, b ≠ dx → b ≠ L → s.heap.get? b = some o → h'.get? b = some o) → Q () { s with heap := h', toks := s.toks + 2 }) :
    wpAny (model prog w) A (setAttr (.ref x) name v) Q E s := by
  obtain ⟨e1, e2⟩ := Prod.mk.inj e
  have hdx : s.heap.get? dx = some (dictOf es n) := by
    have := I.dict
    rw [hd] at this
    exact this
  refine set_plain X I hs (osa_dict (s := { s with toks := s.toks + 1 }) (h₀ := noObjs s.heap) (L := L) (m := m) (od := dictOf es n) (od' := dictOf es' n') (es := es') (n := n') (pre := []) (post := ledger s.heap L dx)
    (fr_all hL) (news_ledger hne hdx) X I hd hp ht hh hl (fun _ q => nomatch q) (fun ⟨_, _⟩ q => (mem_ledger.mp q).2.1) (by rw [putName_dict, e1, e2]) rfl hz fun h' F' N' => ?_)
  exact h h' F'.ns (N'.get (List.Mem.head _)) fun b o n1 n2 ho => N'.get (List.Mem.tail _ (mem_ledger.mpr ⟨n2, n1, ho⟩))
end
end Att
namespace L2
open PySem PySem.Spec PyProof.Rows
theorem vals_ints : ∀ {vs : List Value} {ns : List Int}, IntsAre vs ns → Vals (ns.map V.int) vs
  | _, _, .nil => .nil
  | _, _, .cons n t h => .cons ⟨t, rfl⟩ (vals_ints h)
def Only (H : Hp) : Prop := ∀ b, H b = none ∨ ∃ o xs, H b = some (.frz o (.lst xs))
theorem law_call {P : Program} {w : World} {K : PySem.W.Frag} {mg mb : Str → Option Value} {CX : CXT} {k : Nat} {fa a : Addr} {fd : FuncData} {x : Str} {sp : Sp} {s₁ : Shared} {vs : List Value} {ns : List Int}
    (KX : K.In s₁.heap) (hns : s₁.heap.Ns mainGlobals mg) (hb : s₁.heap.Ns builtinsNs mb) (hbb : ∀ x : Str, x ≠ "__name__" → mb x = bootBuiltins x) (hlim : s₁.heap.NoLimit) (hg : s₁.gens = #[])
    (ha : s₁.heap.get? a = some { cls := .type "list", data := .seq vs.toArray }) (hi : IntsAre vs ns) (hl : ns.length ≤ sizeLine) (hr : Room k callerA)
    (F : ∀ base : Heap, K.In base → base.Ns mainGlobals mg → FnOk P w K mg base CX k fa fd [x] sp) (hbind : ∀ (s : Shared) (u : Value), BindsTo s fd ⟨[u], []⟩ [(x, u)])
    (hsp : ∀ H : Hp, Only H → SqL K H a (ns.map V.int) → sp [.ref a] H (fun v _ => v = .bl true) fun _ _ _ => False)
    (hCX : ∀ H e s', CX [] H s₁ (fun _ _ _ => False) e s' → False) :
    codeAny (model P w) callerA (.call (.ref fa) ⟨[.ref a], []⟩) (fun r s' => r = .ok (.ret (.bool true)) ∧ OldK s₁.heap s'.heap ∧ s'.os = s₁.os ∧ AllBare s'.gens) s₁ := by
  have rv := vals_ints hi
  have lenV := hi.length
  -- from an abstract heap in which nothing but the script may be tracked
  have core : ∀ H : Hp, Only H → SqL K H a (ns.map V.int) → HOk P w H s₁.heap → (∀ b, H b ≠ none → b = a) → (H a ≠ none → K.lookup a = none) →
      codeAny (model P w) callerA (.call (.ref fa) ⟨[.ref a], []⟩) (fun r s' => r = .ok (.ret (.bool true)) ∧ OldK s₁.heap s'.heap ∧ s'.os = s₁.os ∧ AllBare s'.gens) s₁ := by
    intro H hO hS hok hA hK
    have base_of : ∀ {b : Addr} {o : Obj}, s₁.heap.get? b = some o → H b = none → (hidT s₁.heap H).get? b = some o := fun e n => hidT_get e n
    have noA : ∀ {b : Addr} {o : Obj} {es : Array DictEntry} {ep : Nat}, s₁.heap.get? b = some o → o.data = .dict es ep → H b = none := fun {b o es ep} e d => by
      cases q : H b with
      | none => rfl
      | some u =>
        have e' : b = a := hA b (by rw [q]; simp)
        subst e'
        rw [ha] at e; cases e
        have d' : Data.seq vs.toArray _ = Data.dict es ep := d
        cases d'
    have nsK : ∀ {b : Addr} {m : Str → Option Value}, s₁.heap.Ns b m → (hidT s₁.heap H).Ns b m := fun {b m} ⟨o, es, ep, e, d, r⟩ => ⟨o, es, ep, base_of e (noA e d), d, r⟩
    have hKb : K.In (hidT s₁.heap H) := fun b o e => base_of (KX b o e) (by
      cases q : H b with
      | none => rfl
      | some u =>
        have e' : b = a := hA b (by rw [q]; simp)
        subst e'
        rw [hK (by rw [q]; simp)] at e; cases e)
    have hM : Mod K mg (hidT s₁.heap H) := ⟨hKb, nsK hns, ⟨mb, nsK hb, hbb⟩, let ⟨mc, h1, h2⟩ := hlim; ⟨mc, nsK h1, h2⟩⟩
    have e0 : Env0 P w K mg (hidT s₁.heap H) callerA [] s₁ H := ⟨rfl, hM, fun b o e => of_hidT e, Nat.le_of_eq (hidT_size _ _), trivial, fun b hb => absurd (show b ∈ ([] : List Addr) from hb) (by simp), hok, .of_eq hg⟩
    refine codeAny_mono ((F _ hKb (nsK hns)).run callerA [] s₁ H ⟨[.ref a], []⟩ [.ref a] [.ref a] _ _ hr e0 (hbind s₁ (.ref a)) (.cons rfl .nil) (hsp H hO hS)) fun r s' h => ?_
    cases r with
    | error e => exact (hCX H e s' h).elim
    | ok fl =>
      cases fl with
      | next => exact False.elim h
      | brk => exact False.elim h
      | cont => exact False.elim h
      | ret u =>
        obtain ⟨v, H', os, bare, un, hok', r', q⟩ := h
        have q' : v = .bl true := q
        subst q'
        obtain rfl : u = Value.bool true := r'
        refine ⟨rfl, OldK.of_keep fun b o e => ?_, os, bare⟩
        cases q : H b with
        | none => exact un.keep b o e q (by intro z; exact absurd (show b ∈ ([] : List Addr) from z) (by simp)) (by simp)
        | some u =>
          rcases hO b with z | ⟨ob, xs, z⟩
          · rw [q] at z; cases z
          · have z2 := un.frzs b ob _ z
            obtain ⟨e1, _⟩ := hok b _ z
            obtain ⟨e2, _⟩ := hok' b _ z2
            rw [e] at e1; cases e1
            exact e2
  cases hk : K.lookup a with
  | some o =>
    -- the script is one of the module's own objects
    have e := KX a o hk
    rw [ha] at e
    cases e
    refine core (fun _ => none) (fun _ => .inl rfl) (.inr ⟨_, vs.toArray, _, hk, rfl, rfl, rfl, by rw [List.size_toArray, lenV]; exact hl, by simpa using rv⟩) (fun b u z => by have z' : (none : Option HO) = some u := z; cases z') (fun b z => absurd rfl z) fun z => absurd rfl z
  | none =>
    refine core (fun b => if b = a then some (.frz { cls := .type "list", data := .seq vs.toArray } (.lst (ns.map V.int))) else none) (fun b => ?_) (.inl (.inr ⟨{ cls := .type "list", data := .seq vs.toArray }, if_pos rfl⟩)) (fun b u z => ?_) (fun b z => ?_) fun _ => hk
    · by_cases hb : b = a
      · exact .inr ⟨_, _, if_pos hb⟩
      · exact .inl (if_neg hb)
    · by_cases hb : b = a
      · have z' := (if_pos hb).symm.trans z
        cases z'
        subst hb
        exact ⟨ha, by rw [List.length_map]; exact hl, vs, _, rv, ha⟩
      · have z' := (if_neg hb).symm.trans z
        cases z'
    · by_cases hb : b = a
      · exact hb
      · exact absurd (if_neg hb) z
end L2
namespace L2
open PySem PySem.Spec PyProof.Rows
abbrev KOf {K : PySem.W.Frag} {h : Heap} (_ : K.In h) : PySem.W.Frag := K
theorem walk_of {l : PySem.W.OpenLaw} {n k : Nat} {q : Program} {loose : List Str} {XP : (Str → Option Value) → Heap → Prop} {YP : World → Heap → Prop} {d : DefRec} {K : Params → PySem.W.Frag} {CX : World → CXT} {sp : World → Sp} {x : Str}
    (hn : l.most = some n) (hn2 : n ≤ sizeLine) (hdf : d.params.defaults = []) (hr : Room k callerA)
    (hY : ∀ (w : World) (h : Heap), YP w h → (K w.params).In h)
    (F : ∀ (w : World) (mg : Str → Option Value) (fa : Addr) (h : Heap), (K w.params).In h → h.Ns mainGlobals mg → mg d.name = some (.ref fa) →
      ∃ fd : FuncData, (∀ (s : Shared) (u : Value), BindsTo s fd ⟨[u], []⟩ [(x, u)]) ∧
        ∀ base : Heap, (K w.params).In base → base.Ns mainGlobals mg → FnOk l.prog w (K w.params) mg base (CX w) k fa fd [x] (sp w))
    (hsp : ∀ (w : World) (H : Hp) (a : Addr) (ns : List Int), ns.length ≤ n → Only H → SqL (K w.params) H a (ns.map V.int) → sp w [.ref a] H (fun v _ => v = .bl true) fun _ _ _ => False)
    (hCX : ∀ (w : World) (H : Hp) (s : Shared) (e : Value) (s' : Shared), CX w [] H s (fun _ _ _ => False) e s' → False) :
    PySem.W.WalkO q loose XP YP l.row.toRowW d [] (fun f vs => PySem.call f vs) := by
  refine Att.attach_call hn hdf fun w s₀ s₁ mg mb fa o pm cd doc a vs ns G Y ho hd hcd hmg hobj hints hlen hg => ?_
  have KX := hY w _ Y
  obtain ⟨fd, hb, hF⟩ := F w mg fa _ KX G.T.g hmg
  exact law_call KX G.T.g G.T.b G.T.builtins G.T.nolimit hg hobj hints (Nat.le_trans hlen hn2) hr hF hb (fun H hO hS => hsp w H a ns hlen hO hS) fun H e s' => hCX w H s₁ e s'
theorem walk_ofK {l : PySem.W.OpenLaw} {n k : Nat} {q : Program} {loose : List Str} {XP : (Str → Option Value) → Heap → Prop} {YP : World → Heap → Prop} {d : DefRec} {K : Params → PySem.W.Frag} {CX : CXT} {sp : PySem.W.Frag → Sp} {x : Str}
    (hn : l.most = some n) (hn2 : n ≤ sizeLine) (hdf : d.params.defaults = []) (hr : Room k callerA)
    (hY : ∀ (w : World) (h : Heap), YP w h → (K w.params).In h)
    (F : ∀ (w : World) (mg : Str → Option Value) (fa : Addr) (h : Heap), (K w.params).In h → h.Ns mainGlobals mg → mg d.name = some (.ref fa) →
      ∃ fd : FuncData, (∀ (s : Shared) (u : Value), BindsTo s fd ⟨[u], []⟩ [(x, u)]) ∧
        ∀ base : Heap, (K w.params).In base → base.Ns mainGlobals mg → FnOk l.prog w (K w.params) mg base CX k fa fd [x] (sp (K w.params)))
    (hsp : ∀ (K : PySem.W.Frag) (H : Hp) (a : Addr) (ns : List Int), ns.length ≤ n → Only H → SqL K H a (ns.map V.int) → sp K [.ref a] H (fun v _ => v = .bl true) fun _ _ _ => False)
    (hCX : ∀ (H : Hp) (s : Shared) (e : Value) (s' : Shared), CX [] H s (fun _ _ _ => False) e s' → False) :
    PySem.W.WalkO q loose XP YP l.row.toRowW d [] (fun f vs => PySem.call f vs) :=
  walk_of (K := K) (CX := fun _ => CX) (sp := fun w => sp (K w.params)) hn hn2 hdf hr hY F (fun w H a ns h1 h2 h3 => hsp (K w.params) H a ns h1 h2 h3) fun _ H s e s' => hCX H s e s'
end L2
/-! SHORT WORDS over the layer: a def of the text, its body, what a loop and a test want. -/
namespace L2
open PySem PySem.Spec PyProof.Rows
/-! ### the text by places -/
def inClass (s : Stmt) (j : Nat) : Stmt := match s with
  | .ClassDef _ _ _ body _ _ _ _ _ _ _ => body.getD j (.Pass ⟨0, 0, 0, 0⟩)
  | _ => .Pass ⟨0, 0, 0, 0⟩
def defArgs (s : Stmt) : Arguments := match s with
  | .FunctionDef _ a _ _ _ _ _ _ _ _ => a
  | _ => { posonlyargs := [], args := [], vararg := none, kwonlyargs := [], kw_defaults := [], kwarg := none, defaults := [] }
def defBody (s : Stmt) : List Stmt := match s with
  | .FunctionDef _ _ b _ _ _ _ _ _ _ => b
  | _ => []
def defScope (s : Stmt) : Scope := match s with
  | .FunctionDef _ _ _ _ _ _ sc _ _ _ => sc
  | _ => { kind := .function, names := [], isGenerator := false, isCoroutine := false }
/-! ### no exception leaves a def -/
abbrev CX0 : CXT := fun _ _ _ _ _ _ => False
abbrev E0 : XK := fun _ _ _ => False
theorem pass0 {X : Cx} : Passes CX0 X E0 := fun _ _ _ _ _ _ _ h => h.elim
/-! ### a def (or method) of the text as it stands behind the top -/
structure Fun (K : PySem.W.Frag) (x qual : Str) (st : Stmt) (f : Addr) (fd : FuncData) : Prop where
  ex : ∃ (oc : Value) (od : Option Addr) (kV doc pm : Value) (an : Option Addr) (cdv ct : Value) (osl : Array (Option Value)),
    fd = PySem.W.fnOf x qual (defArgs st) (defBody st) (defScope st) .none kV doc pm an cdv ct ∧ K.lookup f = some ⟨oc, od, .func fd, osl⟩ ∧ PySem.W.codeIn K cdv qual = true
  kp : PySem.W.keepIn K (.ref f) = true
section
variable {P : Program} {w : World} {K : PySem.W.Frag} {mg : Str → Option Value} {base : Heap}
theorem Fun.ok {x qual : Str} {st : Stmt} {f : Addr} {fd : FuncData} {N ps : List Str} {k : Nat} {sp : Sp} (F : Fun K x qual st f fd) (S : FnScope N ps (defScope st)) (len : ∀ vs H Q E, sp vs H Q E → vs.length = ps.length)
    (hbody : ∀ (cdv : Value) (A : Around) (outer : List Env) (s : Shared) (H : Hp) (vs : List V) (Q : VK) (E : XK), Room k (A.deeper (envOfC qual (defScope st) s.heap.objs.size f cdv)) → sp vs H Q E →
      ∃ t, PSs (cxOf CX0 P w K mg base N qual (defScope st) f cdv A outer s H E).nox (defBody st) t ∧ t { nx := fun _ H' => Q .non H', rt := Q } (start N vs) H) : FnOk P w K mg base CX0 (k + 1) f fd ps sp := by
  obtain ⟨oc, od, kV, doc, pm, an, cdv, ct, osl, rfl, lk, hcd⟩ := F.ex
  refine fn_of lk hcd S len fun A outer s H vs Q E hr hsp => ?_
  obtain ⟨t, h, q⟩ := hbody cdv A outer s H vs Q E hr hsp
  exact ⟨t, h.nox, q⟩
theorem Fun.binds {x qual : Str} {st : Stmt} {f : Addr} {fd : FuncData} {ps : List Str} (F : Fun K x qual st f fd)
    (h : ∀ (kV doc pm : Value) (an : Option Addr) (cdv ct : Value) (us : List Value), us.length = ps.length → bindArgs (PySem.W.fnOf x qual (defArgs st) (defBody st) (defScope st) .none kV doc pm an cdv ct) ⟨us, []⟩ = pure (ps.zip us)) : Binds K fd ps [] := by
  obtain ⟨oc, od, kV, doc, pm, an, cdv, ct, osl, rfl, lk, hcd⟩ := F.ex
  exact .all (h kV doc pm an cdv ct)
theorem fun_mk {x qual : Str} {st : Stmt} {f : Addr} {oc : Value} {od an : Option Addr} {osl : Array (Option Value)} {kV doc pm cdv ct : Value} (l : K.lookup f = some ⟨oc, od, .func (PySem.W.fnOf x qual (defArgs st) (defBody st) (defScope st) .none kV doc pm an cdv ct), osl⟩)
    (c : PySem.W.codeIn K cdv qual = true) (k : PySem.W.keepIn K (.ref f) = true) : Fun K x qual st f (PySem.W.fnOf x qual (defArgs st) (defBody st) (defScope st) .none kV doc pm an cdv ct) := ⟨⟨oc, od, kV, doc, pm, an, cdv, ct, osl, rfl, l, c⟩, k⟩
end
theorem hu_of {A : Around} {k : Nat} (hr : Room k A) : A.units + 1 < cLine := Nat.lt_of_le_of_lt (Nat.add_le_add_left (by decide : 1 ≤ 64) _) hr.units
theorem small1000 {n : Nat} (h : n ≤ 1000) : n < sizeLine := Nat.lt_of_le_of_lt h (by decide)
/-! ### expressions in short: the name that stands in the i-th slot -/
section
variable {X : Cx}
theorem pv (i : Nat) {x : Str} {pos : Pos} (hN : X.N[i]? = some x := by rfl) (hv : Vis X.env.scope x := by first | exact Or.inl rfl | exact Or.inr (Or.inl rfl) | exact Or.inr (Or.inr rfl)) (hd : (x == ("__debug__" : Str)) = false := by decide)
    (hcd : (x == ("__classdict__" : Str)) = false := by decide) : PE X (.Name x pos) (tVar i) := pe_var hN hv hd hcd
end
/-! ### tests -/
theorem iteF {A B : Prop} (h : B) : if false = true then A else B := by
  rw [if_neg Bool.false_ne_true]
  exact h
theorem iteT {A B : Prop} (h : A) : if true = true then A else B := by
  rw [if_pos rfl]
  exact h
theorem ite2 {c A B : Prop} [Decidable c] (h1 : c → A) (h2 : ¬ c → B) : if c then A else B := by
  by_cases h : c
  · rw [if_pos h]
    exact h1 h
  · rw [if_neg h]
    exact h2 h
theorem iteNS {c A B : Prop} [Decidable c] (hc : c) (h : B) : if (!decide c) = true then A else B := by
  rw [decide_eq_true hc]
  exact iteF h
/-! ### heaps -/
def Same (H H' : Hp) : Prop := ∀ b o, H b = some o → H' b = some o
theorem Same.refl (H : Hp) : Same H H := fun _ _ h => h
theorem Same.trans {H H1 H2 : Hp} (a : Same H H1) (b : Same H1 H2) : Same H H2 := fun c o h => b c o (a c o h)
theorem Same.free {H H' : Hp} (e : Same H H') {l : Addr} (h : H' l = Option.none) : H l = Option.none := by
  cases q : H l with
  | none => rfl
  | some o =>
    rw [e l o q] at h
    cases h
theorem Same.seq {K : PySem.W.Frag} {H H' : Hp} {a : Addr} {xs : List V} (e : Same H H') (h : SqL K H a xs) : SqL K H' a xs := by
  rcases h with (h | ⟨o, h⟩) | h
  · exact .inl (.inl (e _ _ h))
  · exact .inl (.inr ⟨o, e _ _ h⟩)
  · exact .inr h
end L2
namespace L2
section
variable {X : Cx}
theorem call_lenD : CallR X (.builtin "len") (fun xs H Q => ∃ a kvs, xs = [V.ref a] ∧ H a = some (.dK kvs) ∧ Q (.int kvs.length) H) := by
  intro pins s σ H xs us Q I r h
  obtain ⟨a, kvs, rfl, ha, q⟩ := h
  obtain ⟨u, rfl, ru⟩ := vals1 r
  cases ru
  exact d_len I (.inl ha) fun t s' I' => ⟨.int kvs.length, H, I', ⟨t, rfl⟩, q⟩
end
/-! ### a dict's pairs: keys that differ -/
section
variable {κ : Type} [DecidableEq κ]
theorem valV_not {kvs : List (κ × V)} {k : κ} (h : valV kvs k = none) : ¬ k ∈ kvs.map (·.1) := by
  intro m
  obtain ⟨p, hp, e⟩ := List.mem_map.mp m
  have q : (kvs.any fun kv => decide (kv.1 = k)) = true := List.any_eq_true.mpr ⟨p, hp, decide_eq_true e⟩
  rw [valV_any, h] at q
  exact absurd q (by simp)
theorem valV_in {kvs : List (κ × V)} {k : κ} {v : V} (h : valV kvs k = some v) : k ∈ kvs.map (·.1) := by
  have q : (kvs.any fun kv => decide (kv.1 = k)) = true := by
    rw [valV_any, h]
    all_goals rfl
  obtain ⟨p, hp, e⟩ := List.any_eq_true.mp q
  exact List.mem_map.mpr ⟨p, hp, of_decide_eq_true e⟩
theorem nd_snoc : ∀ {l : List κ} {k : κ}, l.Nodup → ¬ k ∈ l → (l ++ [k]).Nodup
  | [], k, _, _ => by simp
  | a :: r, k, h, hk => by
    obtain ⟨h1, h2⟩ := List.nodup_cons.mp h
    show (a :: (r ++ [k])).Nodup
    refine List.nodup_cons.mpr ⟨fun m => ?_, nd_snoc h2 fun m => hk (List.mem_cons.mpr (Or.inr m))⟩
    rcases List.mem_append.mp m with q | q
    · exact h1 q
    · exact hk (List.mem_cons.mpr (Or.inl (List.mem_singleton.mp q).symm))
theorem nd_putK {kvs : List (κ × V)} {k : κ} (v : V) (hn : (kvs.map (·.1)).Nodup) (h : valV kvs k = none) : ((putK kvs k v).map (·.1)).Nodup := by
  rw [putK_new v h, List.map_append]
  exact nd_snoc hn (valV_not h)
theorem dropK_pos {p : κ × V} {r : List (κ × V)} {k : κ} (e : p.1 = k) : dropK (p :: r) k = dropK r k := by
  unfold dropK
  rw [List.filter_cons, if_neg (by simp [e])]
theorem dropK_neg {p : κ × V} {r : List (κ × V)} {k : κ} (e : ¬ p.1 = k) : dropK (p :: r) k = p :: dropK r k := by
  unfold dropK
  rw [List.filter_cons, if_pos (by simp [e])]
theorem dropK_no : ∀ {kvs : List (κ × V)} {k : κ}, ¬ k ∈ kvs.map (·.1) → dropK kvs k = kvs
  | [], _, _ => rfl
  | p :: r, k, h => by
    have h' : ¬ k ∈ r.map (·.1) := fun m => by
      obtain ⟨q, hq, e⟩ := List.mem_map.mp m
      exact h (List.mem_map.mpr ⟨q, List.mem_cons.mpr (Or.inr hq), e⟩)
    rw [dropK_neg fun e => h (List.mem_map.mpr ⟨p, List.mem_cons.mpr (Or.inl rfl), e⟩), dropK_no h']
theorem dropK_mem {kvs : List (κ × V)} {k : κ} {p : κ × V} (h : p ∈ dropK kvs k) : p ∈ kvs := (List.mem_filter.mp h).1
theorem nd_dropK : ∀ {kvs : List (κ × V)} {k : κ}, (kvs.map (·.1)).Nodup → ((dropK kvs k).map (·.1)).Nodup
  | [], _, _ => List.nodup_nil
  | p :: r, k, h => by
    have h : (p.1 :: r.map (·.1)).Nodup := h
    obtain ⟨h1, h2⟩ := List.nodup_cons.mp h
    by_cases e : p.1 = k
    · rw [dropK_pos e]
      exact nd_dropK h2
    · rw [dropK_neg e]
      show (p.1 :: (dropK r k).map (·.1)).Nodup
      refine List.nodup_cons.mpr ⟨fun m => h1 ?_, nd_dropK h2⟩
      obtain ⟨q, hq, eq⟩ := List.mem_map.mp m
      exact List.mem_map.mpr ⟨q, dropK_mem hq, eq⟩
theorem dropK_len : ∀ {kvs : List (κ × V)} {k : κ}, (kvs.map (·.1)).Nodup → k ∈ kvs.map (·.1) → (dropK kvs k).length + 1 = kvs.length
  | [], _, _, m => by simp at m
  | p :: r, k, h, m => by
    have h : (p.1 :: r.map (·.1)).Nodup := h
    have m : k = p.1 ∨ k ∈ r.map (·.1) := List.mem_cons.mp m
    obtain ⟨h1, h2⟩ := List.nodup_cons.mp h
    by_cases e : p.1 = k
    · subst e
      rw [dropK_pos rfl, dropK_no h1]
      all_goals rfl
    · have m' : k ∈ r.map (·.1) := m.resolve_left fun z => e z.symm
      have q := dropK_len h2 m'
      rw [dropK_neg e, List.length_cons, List.length_cons]
      omega
end
end L2
set_option Elab.async false
set_option linter.all false
set_option maxRecDepth 100000
namespace L2
open PySem PySem.Spec PyProof.Rows
/-! ### comprehensions -/
theorem comp_loop {prog : Program} {w : World} {A : Around} {R : Result → Shared → Prop} {s : Shared} {elt target iter : Expr} {ifs : List Expr} {scope : Scope} {pos : Pos} {it acc : Value} {env : Env} (I : Nat → Shared → Prop)
    (turn : ∀ n s, I n s → wpAny (model prog w) A (pyNext it) (fun r s₁ => match r with
      | none => R (.ok .next) s₁
      | some v => wpAny (model prog w) A (letOwnedTupleGo target it v) (fun _ s₁ => wpAny (model prog w) A (assign target env v) (fun _ s₂ =>
          wpAny (model prog w) A (forIn ifs true fun c r => if r = true then do let ok ← isTrue c env (eval c env); pure (ForInStep.yield ok) else pure (ForInStep.yield r)) (fun ok s₃ =>
            if ok = true then wpAny (model prog w) A (eval elt env) (fun x s₄ =>
              wpAny (model prog w) A (call (.builtin "list.append") [acc, x]) (fun _ s₅ => ∃ m, m < n ∧ I m s₅) (fun _ _ => False) s₄) (fun _ _ => False) s₃
            else ∃ m, m < n ∧ I m s₃) (fun _ _ => False) s₂) (fun _ _ => False) s₁) (fun _ _ => False) s₁) (fun _ _ => False) s)
    (n : Nat) (h : I n s) :
    codeAny (model prog w) A (.compLoop (.ListComp elt [⟨target, iter, ifs, 0⟩] scope pos) 0 it acc env) R s := by
  refine codeAny_loop rfl I (fun n s hI => ?_) n h
  show wpAny _ A ((compTurn (.ListComp elt [⟨target, iter, ifs, 0⟩] scope pos) 0 it acc env).onRaise (fun x => do noteFrame x env; theTreesLotGoes x)) _ _ s
  refine wpAny_noted ?_
  rw [compTurn_list]
  refine wpAny_bind (wpAny_standAt (wpAny_bind (wpAny_mono (turn n s hI) (fun r s₁ h₁ => ?_) fun _ _ h' => h'.elim)))
  cases r with
  | none => exact wpAny_pure h₁
  | some v =>
    refine wpAny_bind (wpAny_mono h₁ (fun _ s₁ h₁ => ?_) fun _ _ h' => h'.elim)
    refine wpAny_bind (wpAny_mono h₁ (fun _ s₂ h₂ => wpAny_bind (wpAny_mono h₂ (fun ok s₃ h₃ => ?_) fun _ _ h' => h'.elim)) fun _ _ h' => h'.elim)
    cases ok with
    | false => exact wpAny_pure ⟨rfl, h₃⟩
    | true =>
      exact wpAny_bind (wpAny_bind (wpAny_mono h₃ (fun x s₄ h₄ => wpAny_bind (wpAny_mono h₄ (fun _ s₅ h₅ => wpAny_pure (wpAny_pure ⟨rfl, h₅⟩)) fun _ _ h' => h'.elim)) fun _ _ h' => h'.elim))
def closL (env : Env) (names : List (Str × NameKind)) : List (Str × Addr) := names.foldl (fun cs y => if y.2 == .free then (y.1, (env.cells.lookup y.1).getD 0) :: cs else cs) []
theorem closL_go {env : Env} : ∀ (names : List (Str × NameKind)) (cs : List (Str × Addr)), (∀ y ∈ names, y.2 = .free → ∃ c, env.cells.lookup y.1 = some c) →
    (forIn names cs fun (y : Str × NameKind) cs => if y.2 == .free then (do let c ← cellOf env y.1; pure (ForInStep.yield ((y.1, c) :: cs))) else pure (ForInStep.yield cs) : Sem _) =
      pure (names.foldl (fun cs y => if y.2 == .free then (y.1, (env.cells.lookup y.1).getD 0) :: cs else cs) cs)
  | [], cs, _ => rfl
  | y :: r, cs, h => by
    rw [List.forIn_cons, List.foldl_cons]
    by_cases hy : y.2 = .free
    · obtain ⟨c, hc⟩ := h y List.mem_cons_self hy
      have e : (y.2 == NameKind.free) = true := by simp [hy]
      rw [if_pos e, if_pos e]
      have ec : cellOf env y.1 = pure c := by unfold cellOf; rw [hc]
      rw [ec, hc]
      show (forIn r ((y.1, c) :: cs) _ : Sem _) = _
      exact closL_go r _ fun z hz => h z (List.mem_cons_of_mem _ hz)
    · have e : ¬ (y.2 == NameKind.free) = true := by simp [hy]
      rw [if_neg e, if_neg e]
      show (forIn r cs _ : Sem _) = _
      exact closL_go r _ fun z hz => h z (List.mem_cons_of_mem _ hz)
theorem closL_eq {env : Env} {scope : Scope} (h : ∀ y ∈ scope.names, y.2 = .free → ∃ c, env.cells.lookup y.1 = some c) : closureFor scope env = pure (closL env scope.names) := by
  have := closL_go (env := env) scope.names [] h
  unfold closureFor
  dsimp only
  have e : (forIn scope.names ([] : List (Str × Addr)) (fun (x : Str × NameKind) (r : List (Str × Addr)) => (if x.2 == .free then (do let c ← cellOf env x.1; pure (ForInStep.yield ((x.1, c) :: r))) else pure (ForInStep.yield r) : Sem (ForInStep (List (Str × Addr)))))) = pure (closL env scope.names) := this
  rw [e]
  rfl
theorem closL_mem {env : Env} : ∀ (names : List (Str × NameKind)) (cs : List (Str × Addr)) (x : Str) (c : Addr),
    (names.foldl (fun cs y => if y.2 == .free then (y.1, (env.cells.lookup y.1).getD 0) :: cs else cs) cs).lookup x = some c →
    (c = (env.cells.lookup x).getD 0 ∧ (x, NameKind.free) ∈ names) ∨ cs.lookup x = some c
  | [], cs, x, c, h => .inr h
  | y :: r, cs, x, c, h => by
    rw [List.foldl_cons] at h
    rcases closL_mem r _ x c h with ⟨e, m⟩ | h
    · exact .inl ⟨e, List.mem_cons_of_mem _ m⟩
    · by_cases hy : y.2 = .free
      · rw [if_pos (by simp [hy])] at h
        rw [List.lookup_cons] at h
        by_cases hx : x = y.1
        · subst hx
          rw [beq_self_eq_true] at h
          refine .inl ⟨(Option.some.inj h).symm, ?_⟩
          rw [← hy]
          exact List.mem_cons_self
        · have : (x == y.1) = false := by simpa using hx
          rw [this] at h
          exact .inr h
      · rw [if_neg (by simp [hy])] at h
        exact .inr h
theorem closL_has {env : Env} : ∀ (names : List (Str × NameKind)) (cs : List (Str × Addr)) (x : Str), (x, NameKind.free) ∈ names ∨ (∃ c, cs.lookup x = some c) →
    ∃ c, (names.foldl (fun cs y => if y.2 == .free then (y.1, (env.cells.lookup y.1).getD 0) :: cs else cs) cs).lookup x = some c
  | [], cs, x, h => by
    rcases h with h | h
    · cases h
    · exact h
  | y :: r, cs, x, h => by
    rw [List.foldl_cons]
    apply closL_has r _ x
    rcases h with h | ⟨c, h⟩
    · rcases List.mem_cons.mp h with e | h
      · right
        subst e
        rw [if_pos (by rfl), List.lookup_cons, beq_self_eq_true]
        exact ⟨_, rfl⟩
      · exact .inl h
    · right
      by_cases hy : (y.2 == NameKind.free) = true
      · rw [if_pos hy, List.lookup_cons]
        cases x == y.1
        · exact ⟨c, h⟩
        · exact ⟨_, rfl⟩
      · rw [if_neg hy]
        exact ⟨c, h⟩
structure Blk where
  C : Addr
  s : Shared
  H : Hp
  fp : List Addr
def Cx.blk (X : Cx) (N' : List Str) (scope : Scope) (Y : Blk) : Cx :=
  { prog := X.prog, w := X.w, K := X.K, mg := X.mg, base := X.base, A := X.A, N := N', s₀ := Y.s, H₀ := Y.H, env := compEnvC scope (closL X.env scope.names) Y.C X.env, outer := X.stack, stack := X.stack,
    ex := Y.fp, fn := fun _ => false, calm := X.calm, pn := [], xe := fun _ _ => False }
end L2
set_option Elab.async false
set_option linter.all false
set_option maxRecDepth 100000
namespace L2
open PySem PySem.Spec PyProof.Rows
theorem relabel_mem {env : Env} : ∀ {names : List (Str × NameKind)} {x : Str} {k : NameKind},
    (names.map fun (n, k) => if (k == NameKind.free && env.scope.kind == .function && env.kindOf n == some .cell) then (n, NameKind.cell) else (n, k)).lookup x = some k →
    (k = .cell ∨ k = .free) → (∀ y ∈ names, y.2 ≠ .cell) → (x, NameKind.free) ∈ names
  | [], x, k, h, _, _ => by simp at h
  | (n, k') :: r, x, k, h, hk, hc => by
    rw [List.map_cons] at h
    dsimp only at h
    by_cases hx : x = n
    · subst hx
      by_cases hf : (k' == NameKind.free && env.scope.kind == .function && env.kindOf x == some .cell) = true
      · have : k' = NameKind.free := by
          simp only [Bool.and_eq_true] at hf
          exact by simpa using hf.1.1
        subst this
        exact List.mem_cons_self
      · simp only [hf] at h
        have e : k' = k := by simpa [List.lookup_cons] using h
        subst e
        rcases hk with hk | hk
        · exact absurd hk (hc (x, k') List.mem_cons_self)
        · rw [hk]
          exact List.mem_cons_self
    · have hb : (x == n) = false := by simpa using hx
      have h' : (r.map fun (n, k) => if (k == NameKind.free && env.scope.kind == .function && env.kindOf n == some .cell) then (n, NameKind.cell) else (n, k)).lookup x = some k := by
        by_cases hf : (k' == NameKind.free && env.scope.kind == .function && env.kindOf n == some .cell) = true
        · rw [if_pos hf, List.lookup_cons, hb] at h
          exact h
        · rw [if_neg hf, List.lookup_cons, hb] at h
          exact h
      exact List.mem_cons_of_mem _ (relabel_mem h' hk fun y hy => hc y (List.mem_cons_of_mem _ hy))
section
variable {X : Cx}
structure CompScope (X : Cx) (scope : Scope) (own : List Str) (caps : List Nat) : Prop where
  kind : scope.kind = .function
  cell : ∀ y ∈ scope.names, y.2 ≠ .cell
  free : ∀ y ∈ scope.names, y.2 = .free → X.env.scope.names.lookup y.1 = some .cell
  loc : ∀ y ∈ scope.names, y.2 = .local → scope.names.lookup y.1 = some .local
  capF : ∀ i ∈ caps, ∃ x, X.N[i]? = some x ∧ (x, NameKind.free) ∈ scope.names ∧ scope.names.lookup x = some .free
def capN (X : Cx) (own : List Str) (caps : List Nat) : List Str := own ++ caps.map fun i => X.N.getD i ""
def capS (own : List Str) (caps : List Nat) (σ : St) : St := own.map (fun _ => none) ++ caps.map fun i => σ.getD i none
theorem CompScope.cells {scope : Scope} {own : List Str} {caps : List Nat} (S : CompScope X scope own caps) (ok : X.Ok) : ∀ y ∈ scope.names, y.2 = .free → ∃ c, X.env.cells.lookup y.1 = some c :=
  fun y hy hf => ok.has y.1 (.inl (S.free y hy hf))
theorem CompScope.sub {scope : Scope} {own : List Str} {caps : List Nat} (S : CompScope X scope own caps) (ok : X.Ok) {x : Str} {c : Addr} (h : (closL X.env scope.names).lookup x = some c) : X.env.cells.lookup x = some c ∧ (x, NameKind.free) ∈ scope.names := by
  rcases closL_mem scope.names [] x c h with ⟨e, m⟩ | h
  · obtain ⟨c', e'⟩ := S.cells ok (x, .free) m rfl
    rw [show (List.lookup x X.env.cells) = some c' from e'] at e
    refine ⟨?_, m⟩
    rw [e]
    exact e'
  · simp at h
theorem blk_ok {scope : Scope} {own : List Str} {caps : List Nat} {pins : List (Addr × Obj)} {σ : St} {H : Hp} {s : Shared} {C : Addr} {fp : List Addr} (S : CompScope X scope own caps) (I : Inv X pins σ H s) (hC : s.heap.objs.size ≤ C)
    (hf : ∀ b ∈ fp, FpOk X pins H b) (hlt : ∀ b ∈ fp, b < s.heap.objs.size) : (X.blk (capN X own caps) scope ⟨C, s, H, fp⟩).Ok where
  mod := I.ok.mod
  kind := S.kind
  glob := I.ok.glob
  blt := I.ok.blt
  above := hC
  inj := fun x y c h1 h2 => I.ok.inj x y c (S.sub I.ok h1).1 (S.sub I.ok h2).1
  has := fun x hx => by
    have m : (x, NameKind.free) ∈ scope.names := by
      rcases hx with hx | hx
      · exact relabel_mem hx (.inl rfl) S.cell
      · exact relabel_mem hx (.inr rfl) S.cell
    exact closL_has scope.names [] x (.inl m)
  cab := fun x c h _ => nomatch h
  hd := I.ok.hd
  frames := I.ok.frames
  stk := .inl rfl
  exf := fun b hb => ⟨Nat.ne_of_lt (Nat.lt_of_lt_of_le (hlt b hb) hC), fun x c h => (hf b hb).2.2.2.2.1 x c (S.sub I.ok h).1⟩
  bs := I.bs
  bsz := Nat.le_trans I.ok.bsz I.sz
  noex := fun b o e hb => by
    rcases (hf b hb).2.2.2.1 with z | z
    · exact I.ok.noex b o e z
    · exact absurd (Nat.lt_of_lt_of_le (Heap.lt_size e) (Nat.le_trans I.ok.bsz z)) (Nat.lt_irrefl _)
  exfs := fun b hb z => by
    rcases List.mem_cons.mp (I.stkSub b z) with e | e
    · exact (hf b hb).2.1 e
    · exact (hf b hb).2.2.1 e
  funs := I.stack
  frf := I.stkFree
theorem blk_inv {scope : Scope} {own : List Str} {caps : List Nat} {pins : List (Addr × Obj)} {σ : St} {H : Hp} {s : Shared} {C : Addr} {fp : List Addr} {h1 : Heap} {tk : Nat} {m : Str → Option Value} (S : CompScope X scope own caps) (I : Inv X pins σ H s)
    (hC : s.heap.objs.size ≤ C) (hf : ∀ b ∈ fp, FpOk X pins H b) (hlt : ∀ b ∈ fp, b < s.heap.objs.size) (old : ∀ b o, s.heap.get? b = some o → h1.get? b = some o) (hn : h1.Ns C m) :
    Inv (X.blk (capN X own caps) scope ⟨C, s, H, fp⟩) [] (capS own caps σ) H { s with heap := h1, toks := tk } where
  ok := blk_ok S I hC hf hlt
  os := rfl
  bare := I.bare
  base := Un.kept old
  loc := by
    obtain ⟨m0, hn0, hl0⟩ := I.loc
    refine ⟨m, hn, fun j x v e1 e2 hv => ?_⟩
    have e1 : (own ++ caps.map fun i => X.N.getD i "")[j]? = some x := e1
    have e2 : (own.map (fun _ => (none : Option V)) ++ caps.map fun i => σ.getD i none)[j]? = some (some v) := e2
    by_cases hj : j < own.length
    · rw [List.getElem?_append_left (by rw [List.length_map]; exact hj), List.getElem?_map] at e2
      cases q : own[j]? with
      | none => rw [q] at e2; cases e2
      | some z => rw [q] at e2; cases e2
    · rw [List.getElem?_append_right (by omega), List.getElem?_map] at e1
      rw [List.getElem?_append_right (by rw [List.length_map]; omega), List.getElem?_map, List.length_map] at e2
      cases q : caps[j - own.length]? with
      | none => rw [q] at e1; cases e1
      | some i =>
        rw [q] at e1 e2
        have e1 : X.N.getD i "" = x := Option.some.inj e1
        have e2 : σ.getD i none = some v := Option.some.inj e2
        obtain ⟨x', hx', hm, hlk⟩ := S.capF i (List.mem_of_getElem? q)
        have ex : x' = x := by
          rw [← e1, List.getD_eq_getElem?_getD, hx']
          rfl
        subst ex
        have hs : σ[i]? = some (some v) := by
          rw [List.getD_eq_getElem?_getD] at e2
          cases q2 : σ[i]? with
          | none => rw [q2] at e2; cases e2
          | some z => rw [q2] at e2; rw [show z = some v from e2]
        have hcel := S.free (x', .free) hm rfl
        obtain ⟨u, r, lk⟩ := hl0 i x' v hx' hs (.inr (.inl hcel))
        refine ⟨u, r, .inr ⟨?_, ?_⟩⟩
        · rcases hv with hv | hv | hv
          · -- local in the block: it is free
            exfalso
            have : ∀ {names : List (Str × NameKind)}, names.lookup x' = some .free → (names.map fun (n, k) => if (k == NameKind.free && X.env.scope.kind == .function && X.env.kindOf n == some .cell) then (n, NameKind.cell) else (n, k)).lookup x' ≠ some .local := by
              intro names
              induction names with
              | nil => intro h; simp at h
              | cons y r ih =>
                obtain ⟨n, k⟩ := y
                intro h
                rw [List.map_cons]
                dsimp only
                by_cases hx : x' = n
                · subst hx
                  have ek : k = .free := by simpa [List.lookup_cons] using h
                  subst ek
                  by_cases hq : (NameKind.free == NameKind.free && X.env.scope.kind == ScopeKind.function && X.env.kindOf x' == some NameKind.cell) = true
                  · rw [if_pos hq]; simp [List.lookup_cons]
                  · rw [if_neg hq]; simp [List.lookup_cons]
                · have hb : (x' == n) = false := by simpa using hx
                  rw [List.lookup_cons, hb] at h
                  by_cases hq : (k == NameKind.free && X.env.scope.kind == ScopeKind.function && X.env.kindOf n == some NameKind.cell) = true
                  · rw [if_pos hq, List.lookup_cons, hb]; exact ih h
                  · rw [if_neg hq, List.lookup_cons, hb]; exact ih h
            exact this hlk hv
          · exact .inl hv
          · exact .inr hv
        · rcases lk with ⟨hk, _⟩ | ⟨_, c, hc, hcell⟩
          · exact absurd (hk.symm.trans hcel) (by simp)
          · obtain ⟨c', hc'⟩ := closL_has (env := X.env) scope.names [] x' (.inl hm)
            have := (S.sub I.ok hc').1
            rw [hc] at this
            cases this
            obtain ⟨o, ho, hd⟩ := hcell
            exact ⟨c, hc', o, old _ _ ho, hd⟩
  cell := fun x c h => by
    obtain ⟨v, o, ho, hd⟩ := I.cell x c (S.sub I.ok h).1
    exact ⟨v, o, old _ _ ho, hd⟩
  free := I.hok.fresh hC
  freeC := fun x c h => I.freeC x c (S.sub I.ok h).1
  pin := fun p hp => nomatch hp
  hok := I.hok.kept old
  len := by simp [capS, capN, Cx.blk]
end
end L2
set_option Elab.async false
set_option linter.all false
set_option maxRecDepth 100000
namespace L2
open PySem PySem.Spec PyProof.Rows
section
variable {X : Cx}
def PTs (X : Cx) (ifs : List Expr) (t : TT) : Prop :=
  ∀ (pins : List (Addr × Obj)) (s : Shared) (σ : St) (H : Hp) (Q : Bool → Hp → Prop), Inv X pins σ H s → t σ H Q →
    wpAny (model X.prog X.w) X.A (forIn ifs true fun c r => if r = true then do let ok ← isTrue c X.env (eval c X.env); pure (ForInStep.yield ok) else pure (ForInStep.yield r)) (TP X pins σ Q) X.xe s
def tYes : TT := fun _ H Q => Q true H
theorem pts_nil : PTs X [] tYes := fun pins s σ H Q I h => wpAny_tests_nil ⟨H, I, h⟩
theorem pts_one {c : Expr} {t : TT} (h : PT X c t) : PTs X [c] t := fun pins s σ H Q I hw => wpAny_tests_one (h pins s σ H Q I hw)
def CTurn (own : List Str) (caps : List Nat) (g : TG) (tt : TT) (te : TE) (σ : St) (N : List V → Hp → Prop) (ys : List V) (x : V) (H' : Hp) : Prop :=
  g x (capS own caps σ) H' fun σ2 H2 => (∀ (j : Nat) (v : V), (capS own caps σ)[j]? = some (some v) → σ2[j]? = some (some v)) ∧ tt σ2 H2 fun b H3 => if b = true then te σ2 H3 fun v H4 => ys.length < sizeLine ∧ N (ys ++ [v]) H4 else N ys H3
def CWalk (J : It) (own : List Str) (caps : List Nat) (g : TG) (tt : TT) (te : TE) (σ : St) (H1 : Hp) (Q : VK) : Prop :=
  ∃ W : Nat → Nat → List V → Hp → Prop, (∃ m, W 0 m [] H1) ∧ ∀ i m ys H, W i m ys H → (J.stop i H ∧ ∀ D, H D = none → Q (.ref D) (upd H D (.lst ys))) ∨
    (J.go i H ∧ ∃ N : List V → Hp → Prop, (∀ ys' H', N ys' H' → ∃ m', m' < m ∧ W (i + 1) m' ys' H') ∧ ∀ x H', J.yld i H x H' → CTurn own caps g tt te σ N ys x H')
def tComp (own : List Str) (caps : List Nat) (wi : TI) (g : Blk → TG) (tt : Blk → TT) (te : Blk → TE) : TE := fun σ H Q => wi σ H fun J H1 => ∀ Y : Blk, CWalk J own caps (g Y) (tt Y) (te Y) σ H1 Q
def scopeB (sc : Scope) (N : List Str) (scope : Scope) (caps : List Nat) : Bool :=
  scope.kind == .function && scope.names.all (fun y => y.2 != .cell) && scope.names.all (fun y => y.2 != .free || sc.names.lookup y.1 == some .cell) && scope.names.all (fun y => y.2 != .local || scope.names.lookup y.1 == some .local) &&
    caps.all (fun i => match N[i]? with | some x => scope.names.lookup x == some .free | none => false)
theorem mem_of_lookup : ∀ {l : List (Str × NameKind)} {x : Str} {k : NameKind}, l.lookup x = some k → (x, k) ∈ l
  | [], _, _, h => by simp at h
  | (n, k') :: r, x, k, h => by
    rw [List.lookup_cons] at h
    by_cases hx : x = n
    · subst hx
      rw [beq_self_eq_true] at h
      cases h
      exact List.mem_cons_self
    · rw [show (x == n) = false by simpa using hx] at h
      exact List.mem_cons_of_mem _ (mem_of_lookup h)
theorem cscope {X : Cx} {scope : Scope} {own : List Str} {caps : List Nat} (sc : Scope) (N : List Str) (h : scopeB sc N scope caps = true) (e : X.env.scope = sc := by rfl) (eN : X.N = N := by rfl) : CompScope X scope own caps := by
  unfold scopeB at h
  simp only [Bool.and_eq_true, List.all_eq_true, bne_iff_ne, ne_eq, Bool.or_eq_true, beq_iff_eq] at h
  obtain ⟨⟨⟨⟨h1, h2⟩, h3⟩, h4⟩, h5⟩ := h
  refine ⟨h1, h2, fun y hy hf => ?_, fun y hy hf => ?_, fun i hi => ?_⟩
  · rw [e]
    exact (h3 y hy).resolve_left fun z => z hf
  · exact (h4 y hy).resolve_left fun z => z hf
  · have := h5 i hi
    rw [eN]
    cases q : N[i]? with
    | none => rw [q] at this; cases this
    | some x =>
      rw [q] at this
      have hl : scope.names.lookup x = some .free := by simpa using this
      exact ⟨x, rfl, mem_of_lookup hl, hl⟩
theorem pe_comp {tg iter elt : Expr} {ifs : List Expr} {scope : Scope} {pos : Pos} {own : List Str} {caps : List Nat} {wi : TI} {g : Blk → TG} {tt : Blk → TT} {te : Blk → TE}
    (hc : X.calm = true) (S : CompScope X scope own caps) (hi : PI X tg iter wi)
    (hg : ∀ Y, PG (X.blk (capN X own caps) scope Y) tg (g Y)) (ht : ∀ Y, PTs (X.blk (capN X own caps) scope Y) ifs (tt Y)) (he : ∀ Y, PE (X.blk (capN X own caps) scope Y) elt (te Y))
    (hs : ∀ x, foldedSetIterable iter X.env x = pure x := by intro _; rfl) : PE X (.ListComp elt [⟨tg, iter, ifs, 0⟩] scope pos) (tComp own caps wi g tt te) := by
  intro pins s σ H Q I h
  rw [eval_ListComp]
  refine wpAny_comprehension_free (use := none) rfl hs (closL_eq (S.cells I.ok)) S.kind S.loc (thn (hi pins s σ H _ I h) fun v s1 h1 => thn h1 fun itv s2 h2 => ?_)
  obtain ⟨it, fp, tn, J, H2, e, I2, T, st2, f2, hW⟩ := h2
  subst e
  have hlt : ∀ b ∈ fp, b < s2.heap.objs.size := fun b hb => by
    obtain ⟨o, e, _⟩ := T.obj _ _ st2 b hb
    exact Heap.lt_size e
  refine wpAny_newObj_type (wpAny_newFunctionEnv S.cell (by intro y hy; simp at hy) (fun h₁ hns₁ hsb₁ => ?_) S.kind)
  dsimp only at hns₁ hsb₁ ⊢
  generalize hHq : s2.heap.push { cls := .type "list", dict := none, data := .seq ([] : List Value).toArray } = Hq at hns₁ hsb₁ ⊢
  have hC : Hq.objs.size = s2.heap.objs.size + 1 := by rw [← hHq, Heap.size_push]
  have hDC : s2.heap.objs.size ≠ Hq.objs.size := by rw [hC]; exact Nat.ne_of_lt (Nat.lt_succ_self _)
  have hCle : s2.heap.objs.size ≤ Hq.objs.size := by rw [hC]; exact Nat.le_succ _
  have old : ∀ b o, s2.heap.get? b = some o → h₁.get? b = some o := fun b o e =>
    hsb₁.extBut b o (by rw [hC]; exact Nat.ne_of_lt (Nat.lt_succ_of_lt (Heap.lt_size e))) (Heap.get?_push_of_some _ (hHq ▸ Heap.get?_push_of_some _ e))
  have hacc : h₁.get? s2.heap.objs.size = some { cls := .type "list", data := .seq ([] : List Value).toArray 0 } := hsb₁.extBut _ _ hDC (Heap.get?_push_of_some _ (hHq ▸ Heap.get?_push_size _ rfl))
  generalize hCq : Hq.objs.size = C at hns₁ hsb₁ hC hDC hCle ⊢
  generalize hDq : s2.heap.objs.size = D at hacc hC hDC hCle ⊢
  have hCs : s2.heap.objs.size ≤ C := by rw [hDq]; exact hCle
  obtain ⟨W, ⟨m0, w0⟩, turn⟩ := hW ⟨C, s2, H2, fp⟩
  have hX' := fun (tk : Nat) => blk_inv (tk := tk) S I2 hCs f2 hlt old hns₁
  have hgY := hg ⟨C, s2, H2, fp⟩
  have htY := ht ⟨C, s2, H2, fp⟩
  have heY := he ⟨C, s2, H2, fp⟩
  have hok' := blk_ok S I2 hCs f2 hlt
  generalize hX'q : X.blk (capN X own caps) scope ⟨C, s2, H2, fp⟩ = X' at hX' hgY htY heY hok'
  have eP : X'.prog = X.prog := by rw [← hX'q]; rfl
  have ew : X'.w = X.w := by rw [← hX'q]; rfl
  have eK : X'.K = X.K := by rw [← hX'q]; rfl
  have eA : X'.A = X.A := by rw [← hX'q]; rfl
  have ec : X'.calm = true := by rw [← hX'q]; exact hc
  have eL : X'.env.locals = C := by rw [← hX'q]; rfl
  have eex : X'.ex = fp := by rw [← hX'q]; rfl
  have es0 : X'.s₀ = s2 := by rw [← hX'q]; rfl
  have eH0 : X'.H₀ = H2 := by rw [← hX'q]; rfl
  have efs : X'.fs = frs X.stack := by rw [← hX'q]; rfl
  have epn : X'.pn = [] := by rw [← hX'q]; rfl
  have exe : X'.xe = fun _ _ => False := by rw [← hX'q]; rfl
  have eenv : X'.env = compEnvC scope (closL X.env scope.names) C X.env := by rw [← hX'q]; rfl
  have ecell : ∀ x c, X'.env.cells.lookup x = some c → X.env.cells.lookup x = some c := fun x c h => (S.sub I2.ok (by rw [eenv] at h; exact h)).1
  -- a cell is no new thing
  have nD : ∀ x c, X'.env.cells.lookup x = some c → c ≠ D := fun x c h z => by
    obtain ⟨v, o, ho, _⟩ := I2.cell x c (ecell x c h)
    have := Heap.lt_size ho
    rw [z, ← hDq] at this
    exact Nat.lt_irrefl _ this
  have fpD : ∀ b ∈ fp, b ≠ D := fun b hb z => by
    have := hlt b hb
    rw [z, ← hDq] at this
    exact Nat.lt_irrefl _ this
  have fsD : D ∉ X'.fs := fun z => by
    obtain ⟨_, o, ho, _⟩ := hok'.funs.mem z
    rw [es0] at ho
    have := Heap.lt_size ho
    rw [hDq] at this
    exact Nat.lt_irrefl _ this
  have fpo : ∀ (H' : Hp) (o : Obj), (∀ b ∈ fp, H' b = none) → ∀ b ∈ fp, FpOk X' [(D, o)] H' b := fun H' o hn b hb => by
    refine ⟨hn b hb, ?_, ?_, .inl (by rw [eex]; exact hb), fun x c h => (f2 b hb).2.2.2.2.1 x c (ecell x c h), fun p hp => ?_⟩
    · rw [eL]
      exact Nat.ne_of_lt (Nat.lt_of_lt_of_le (hlt b hb) hCs)
    · exact hok'.exfs b (by rw [eex]; exact hb)
    · rw [epn] at hp
      have : p = (D, o) := by simpa using hp
      rw [this]
      exact Ne.symm (fpD b hb)
  have loop : ∀ s₃ : Shared, s₃ = { s2 with heap := h₁, toks := s2.toks + ([] : List (Str × Value)).length } →
      codeAny (model X.prog X.w) X.A (.compLoop (.ListComp elt [⟨tg, iter, ifs, 0⟩] scope pos) 0 (.ref it) (.ref D) X'.env)
        (compPost (model X.prog X.w) X.A X.xe none (EP X pins σ Q) (.ref D) C) s₃ := by
    rintro s₃ rfl
    refine comp_loop (fun n s' => ∃ (i : Nat) (ys : List V) (H' : Hp) (its : List Value) (k : Nat), Inv X' [(D, { cls := .type "list", data := .seq its.toArray k })] (capS own caps σ) H' s' ∧ Vals ys its ∧ ys.length ≤ sizeLine ∧ tn i s'.heap ∧
      (∀ b ∈ fp, H' b = none) ∧ W i n ys H') ?_ m0 ?_
    · rintro n s3 ⟨i, ys, H3, its, k, I3, rv, hz, st3, fr3, w3⟩
      rcases turn i n ys H3 w3 with ⟨stop, qn⟩ | ⟨go, N, hN, step⟩
      · have := T.done X' eP ew eK ec i _ s3 _ H3 (fun _ _ => False) I3 (fpo H3 _ fr3) st3 stop
        rw [eA] at this
        refine thn this fun r s4 ⟨hr, I4⟩ => ?_
        subst hr
        obtain ⟨m, hn, _⟩ := I4.loc
        refine ⟨m, by rw [← eL]; exact hn, fun h' sb => ?_⟩
        have hp := I4.pin (D, { cls := .type "list", data := .seq its.toArray k }) (by rw [epn]; simp)
        have hD0 : H3 D = none := hp.2.1
        have kp : ∀ b, b ≠ C → h'.get? b = s4.heap.get? b := fun b hb => sb.2 b hb
        have nC : ∀ b o, s2.heap.get? b = some o → b ≠ C := fun b o e => Nat.ne_of_lt (Nat.lt_of_lt_of_le (Heap.lt_size e) hCs)
        have nDs : ∀ b o, s2.heap.get? b = some o → b ≠ D := fun b o e => by rw [← hDq]; exact Nat.ne_of_lt (Heap.lt_size e)
        have ub : Un (frs X.stack) fp H2 H3 s2.heap s4.heap := by
          have := I4.base
          rw [efs, eex, eH0, es0] at this
          exact this
        have u : Un (frs X.stack) fp H2 (upd H3 D (.lst ys)) s2.heap h' :=
          ⟨fun b o e n hb hx => (kp b (nC b o e)).trans (ub.keep b o e n hb hx),
           fun b o e n hb hx => by
            obtain ⟨sl, q⟩ := ub.slot b o e n hb hx
            exact ⟨sl, (kp b (nC b o e)).trans q⟩,
           fun b o e n hx => by rw [upd_ne (nDs b o e)]; exact ub.free b o e n hx,
           fun b o e hx => by
            obtain ⟨o', q⟩ := ub.there b o e hx
            exact ⟨o', (kp b (nC b o e)).trans q⟩,
           fun b xs e => by rw [upd_ne (ne_of_none (ub.tups b xs e) hD0)]; exact ub.tups b xs e,
           fun b o xs e => by rw [upd_ne (ne_of_none (ub.frzs b o xs e) hD0)]; exact ub.frzs b o xs e,
           fun b ps e => by
            obtain ⟨more, q⟩ := ub.tbls b ps e
            exact ⟨more, by rw [upd_ne (ne_of_none q hD0)]; exact q⟩⟩
        have hokC : ∀ b o, H3 b = some o → b ≠ C := fun b o e z => by
          have := I4.free
          rw [eL, ← z, e] at this
          cases this
        have hk : HOk X.prog X.w (upd H3 D (.lst ys)) h' := fun a o e => by
          by_cases ha : a = D
          · subst ha
            rw [upd_same] at e
            cases e
            exact ⟨hz, its, k, rv, (kp _ hDC).trans hp.1⟩
          · rw [upd_ne ha] at e
            have := I4.hok a o e
            rw [eP, ew] at this
            refine this.stay (fun b u hb q => (kp b ?_).trans q) (fun b q => by rw [upd_ne (ne_of_none q hD0)]; exact q) fun b xs q => by rw [upd_ne (ne_of_none q hD0)]; exact q
            rcases hb with z | z
            · rw [z]; exact hokC a o e
            · exact hokC b _ z
        refine ⟨.ref D, upd H3 D (.lst ys), ?_, rfl, qn D hD0⟩
        exact I2.call' (s' := { s4 with heap := h' }) (ch := fp) (by have := I4.os; rw [es0] at this; exact this) u hk I4.bare fun b hb => ⟨(f2 b hb).2.2.2.1, (f2 b hb).2.1, (f2 b hb).2.2.2.2.1, (f2 b hb).2.2.2.2.2⟩
      · have := T.item X' eP ew eK ec i _ s3 _ H3 (fun _ _ => False) I3 (fpo H3 _ fr3) st3 go
        rw [eA] at this
        refine thn this fun r s4 ⟨u, hr, h4⟩ => ?_
        subst hr
        refine thn h4 fun _ s5 ⟨x, H5, I5, r5, y5, st5, fr5⟩ => ?_
        have I5' := I5.pinned (fpo H5 _ fr5) (T.obj _ _ st5)
        have a6 := hgY _ s5 _ H5 x u _ I5' r5 (step x H5 y5)
        rw [eP, ew, eA, exe] at a6
        refine thn a6 fun _ s6 ⟨σ6, H6, I6, keepσ, q6⟩ => ?_
        have a7 := htY _ s6 σ6 H6 _ I6 q6
        rw [eP, ew, eA, exe] at a7
        refine thn a7 fun b s7 ⟨H7, I7, q7⟩ => ?_
        -- the next turn's state
        have keep2 : ∀ {σ' : St} {H' : Hp} {s' : Shared}, Inv X' ([(D, { cls := .type "list", data := .seq its.toArray k })] ++ pinsAt fp s5.heap) σ' H' s' → (∀ b ∈ fp, H' b = none) ∧ tn (i + 1) s'.heap := fun {σ' H' s'} I' => by
          refine ⟨fun b hb => ?_, T.keep _ _ _ st5 fun b hb o e => (I'.pin (b, o) (List.mem_append_right _ (List.mem_append_right _ (mem_pinsAt hb e)))).1⟩
          obtain ⟨o, e, _⟩ := T.obj _ _ st5 b hb
          exact (I'.pin (b, o) (List.mem_append_right _ (List.mem_append_right _ (mem_pinsAt hb e)))).2.1
        have wk : ∀ {pins' : List (Addr × Obj)} {H' : Hp} {s' : Shared}, Inv X' pins' σ6 H' s' → Inv X' pins' (capS own caps σ) H' s' := fun {pins' H' s'} I' =>
          I'.weak (by rw [I'.len, I3.len]) keepσ
        cases b with
        | false =>
          rw [if_neg Bool.false_ne_true] at q7
          obtain ⟨m', hm, w7⟩ := hN _ _ q7
          rw [if_neg Bool.false_ne_true]
          obtain ⟨k1, k2⟩ := keep2 I7
          exact ⟨m', hm, i + 1, ys, H7, its, k, wk (I7.pins_of fun p hp => I7.pin p (by
            rw [epn]
            simp at hp ⊢
            exact .inl hp)), rv, hz, k2, k1, w7⟩
        | true =>
          rw [if_pos rfl] at q7 ⊢
          have a8 := heY _ s7 σ6 H7 _ I7 q7
          rw [eP, ew, eA, exe] at a8
          refine thn a8 fun uv s8 ⟨v8, H8, I8, r8, hz8, n8⟩ => ?_
          obtain ⟨m', hm, w8⟩ := hN _ _ n8
          have hp := I8.pin (D, { cls := .type "list", data := .seq its.toArray k }) (List.mem_append_right _ (List.mem_append_left _ (by simp)))
          have eD := hp.1
          refine call_meets F.slot_list_append ⟨_, eD, rfl⟩ F.entry_list_append (F.args_list_append_2 _ _) (PySem.list_append D its.toArray k uv (by rw [List.size_toArray, ← rv.length]; omega)) ⟨eD, ?_⟩
          have q := PySem.IsL.update eD (fun a => a.push uv)
          obtain ⟨k1, k2⟩ := keep2 I8
          have I8' : Inv X' (pinsAt fp s5.heap) σ6 H8 s8 := I8.pins_of fun p hp => I8.pin p (List.mem_append_right _ (List.mem_append_right _ hp))
          have oth : ∀ b o, b ≠ D → s8.heap.get? b = some o → (s8.heap.update D (Obj.mapSeq fun a => a.push uv)).get? b = some o := fun b o hb e => (Heap.get?_update_other s8.heap _ (Ne.symm hb)).trans e
          have I9 : Inv X' (pinsAt fp s5.heap) σ6 H8 { s8 with heap := s8.heap.update D (Obj.mapSeq fun a => a.push uv), toks := s8.toks } :=
            I8'.turned (it := D) oth hp.2.1 (by rw [eL]; exact hDC) (.inr (by rw [es0, hDq]; exact Nat.le_refl _)) nD fun p hp' => by
              rw [epn] at hp'
              obtain ⟨hb, _⟩ := of_pinsAt (show p ∈ pinsAt fp s5.heap by simpa using hp')
              exact fpD _ hb
          refine ⟨m', hm, i + 1, ys ++ [v8], H8, its ++ [uv], k + 1, wk (I9.pins_of fun p hp' => ?_), rv.append (.cons r8 .nil), ?_, ?_, k1, w8⟩
          · have e : p = (D, { cls := .type "list", data := .seq (its ++ [uv]).toArray (k + 1) }) := by simpa using hp'
            subst e
            refine ⟨?_, hp.2.1, hp.2.2.1, hp.2.2.2.1, fun v z => by cases z⟩
            have e2 : its.toArray.push uv = (its ++ [uv]).toArray := by simp
            rw [← e2]
            have q' : IsL (s8.heap.update D (Obj.mapSeq fun a => a.push uv)) D (its.toArray.push uv) (if (its.toArray.push uv).size == its.toArray.size then k else k + 1) := q
            rw [if_neg (by simp)] at q'
            exact q'
          · rw [List.length_append, List.length_singleton]
            omega
          · refine T.keep _ _ _ k2 fun b hb o e => oth b o (fpD b hb) e
    · refine ⟨0, [], H2, [], 0, ?_, .nil, Nat.zero_le _, T.keep _ _ _ st2 fun b _ o e => old b o e, fun b hb => (f2 b hb).1, w0⟩
      refine (hX' _).pins_of fun p hp => ?_
      have e : p = (D, { cls := .type "list", data := .seq ([] : List Value).toArray 0 }) := by simpa using hp
      subst e
      exact ⟨hacc, I2.hok.fresh (by rw [hDq]; exact Nat.le_refl _), by rw [eL]; exact hDC, fsD, fun v z => by cases z⟩
  have eenv' : compEnvC scope (closL X.env scope.names) C X.env = X'.env := eenv.symm
  show codeAny (model X.prog X.w) X.A (.compStart _ 0 (.ref it) (.ref D) (compEnvC scope (closL X.env scope.names) C X.env)) _ _
  rw [eenv']
  exact codeAny_compStart_list (loop _ rfl) (T.self X.A 0 _ _ _ (T.keep _ _ _ st2 fun b _ o e => old b o e) (loop _ rfl))
end
end L2
set_option Elab.async false
set_option linter.all false
set_option maxRecDepth 100000
namespace L2
open PySem PySem.Spec PyProof.Rows
/-! ### a dict walked by its keys, whatever these are -/
def KAt (h : Heap) (d : Addr) (ks : List Value) (ep : Nat) : Prop := ∃ o es, h.get? d = some o ∧ o.ExactDict ∧ o.data = .dict es ep ∧ es.toList.map (·.key) = ks
theorem KAt.ty {s : Shared} {d : Addr} {ks : List Value} {ep : Nat} (x : KAt s.heap d ks ep) : s.TypeIs (.ref d) "dict" := let ⟨o, _, e, c, _⟩ := x; ⟨o, e, c.1⟩
theorem KAt.lt {h : Heap} {d : Addr} {ks : List Value} {ep : Nat} (x : KAt h d ks ep) : d < h.objs.size := let ⟨_, _, e, _⟩ := x; Heap.lt_size e
theorem KAt.go {h h' : Heap} {d : Addr} {ks : List Value} {ep : Nat} (x : KAt h d ks ep) (k : ∀ o, h.get? d = some o → h'.get? d = some o) : KAt h' d ks ep := let ⟨o, es, e, r⟩ := x; ⟨o, es, k o e, r⟩
section
variable {prog : Program} {w : World} {A : Around} {E : Value → Shared → Prop} {s : Shared}
theorem kat_iter {d : Addr} {ks : List Value} {ep : Nat} {Q : Value → Shared → Prop} (lo : (d == sysModules) = false) (x : KAt s.heap d ks ep)
    (q : Q (.ref s.heap.objs.size) { s with heap := s.heap.push { cls := .type "dict_keyiterator", data := .fields #[.ref d, .int 0 0, .int ks.length 0, .int ep 0] } }) : wpAny (model prog w) A (pyIter (.ref d)) Q E s := by
  have ty := x.ty
  obtain ⟨o, es, e1, e2, e3, e4⟩ := x
  have n : es.size = ks.length := by rw [← e4, List.length_map, Array.length_toList]
  refine wpAny_pyIter_slot ty F.slot_dict_iter (wpAny_call_entry F.slot_dict_iter ty F.entry_dict_iter ?z (F.args_dict_iter_1 _))
  case z =>
    unfold Builtin.«dict.__iter__» Builtin.Dict.dictSlotNone
    refine wpAny_bind (wpAny_bind (wpAny_notOrdered_dict ty ?_))
    show wpAny _ _ (pure (Value.ref d)) _ _ s
    apply wpAny_pure
    show wpAny _ _ (Builtin.Dict.showsAll d >>= _) _ _ s
    unfold Builtin.Dict.showsAll
    rw [if_neg (by rw [lo]; simp)]
    refine wpAny_bind (wpAny_pure (wpAny_bind (wpAny_dictEntries e1 e3 (wpAny_bind (wpAny_dictEpoch e1 e3 (wpAny_bind (wpAny_newObj_type (wpAny_pure ⟨_, rfl, "dict_keyiterator", _, ⟨_, Heap.get?_push_size _ rfl, rfl⟩, F.slot_dict_keyiterator_next.lookup, ?_⟩))))))))
    simpa [rawInt, n] using q
theorem kat_next {it d : Addr} {i ep : Nat} {ks : List Value} {v : Value} {Q : Option Value → Shared → Prop} (hit : s.heap.IsKeyIter it d i ks.length ep) (x : KAt s.heap d ks ep) (hv : ks[i]? = some v)
    (q : ∀ h', h'.IsKeyIter it d (i + 1) ks.length ep → Heap.SameBut it s.heap h' → Q (some v) { s with heap := h' }) : wpAny (model prog w) A (pyNext (.ref it)) Q E s := by
  obtain ⟨oi, f1, f2, f3⟩ := id hit
  obtain ⟨o, es, e1, e2, e3, e4⟩ := x
  have n : es.size = ks.length := by rw [← e4, List.length_map, Array.length_toList]
  have hi : i < es.size := by
    have : i < ks.length := (List.getElem?_eq_some_iff.mp hv).1
    omega
  have ek : es[i].key = v := by
    rw [← e4, List.getElem?_map, Array.getElem?_toList, Array.getElem?_eq_getElem hi] at hv
    exact Option.some.inj hv
  unfold pyNext
  refine wpAny_bind (wpAny_attempt (wpAny_callSpecial?_slot (name := Str.ofString "__next__") hit.typeIs F.slot_dict_keyiterator_next (wpAny_call_entry F.slot_dict_keyiterator_next hit.typeIs F.entry_dict_keyiterator_next ?z (F.args_dict_keyiterator_next_1 _))))
  case z =>
    refine wpAny_bind (wpAny_pure (wpAny_bind (wpAny_bind ?_)))
    refine wpAny_bind (wpAny_typeNameOfWhole_keyiter hit.typeIs (wpAny_pure (wpAny_bind (wpAny_fieldsOf f1 f3 ?_))))
    simp only [show Builtin.Dict_items.ownsTuple "dict_keyiterator" = false by decide, Bool.false_eq_true, if_false]
    show wpAny _ _ (if (Value.ref d == Value.none) = true then _ else _) _ _ s
    rw [if_neg (show ¬ (Value.ref d == Value.none) = true by intro z; cases z)]
    refine wpAny_bind (wpAny_pure (wpAny_bind (wpAny_dictEntries e1 e3 ?_)))
    rw [if_neg (by simp [n])]
    refine wpAny_bind (wpAny_pure (wpAny_bind (wpAny_dictEpoch e1 e3 ?_)))
    rw [if_neg (by simp)]
    apply wpAny_pure
    simp only [show ¬ ((i : Int) < 0) by omega, if_false, Int.toNat_natCast, Array.getElem?_eq_getElem hi]
    refine wpAny_bind (wpAny_bind (wpAny_typeNameOfWhole_keyiter hit.typeIs (wpAny_pure (wpAny_bind (wpAny_isOneOf_keyiter hit.typeIs ?_)))))
    show wpAny _ _ (setField (.ref it) 1 (rawInt ((i : Int) + 1)) >>= _) _ _ s
    have hit' : (s.heap.update it (Obj.mapFields (·.setIfInBounds 1 (rawInt ((i : Int) + 1))))).IsKeyIter it d (i + 1) ks.length ep :=
      ⟨_, Heap.get?_update_self _ f1 (Obj.isFreed_of_fields (Obj.data_mapFields f3 _)), (Obj.cls_mapFields ..).trans f2, by rw [Obj.data_mapFields f3]; simp [rawInt]⟩
    refine wpAny_bind (wpAny_setField f1 f3 (by simp) (wpAny_bind (wpAny_holding (wpAny_bind (wpAny_isOneOf_keyiter (s := { s with heap := s.heap.update it (Obj.mapFields (·.setIfInBounds 1 (rawInt ((i : Int) + 1)))) }) hit'.typeIs ?_)))))
    show wpAny _ _ (pure es[i].key) _ _ _
    rw [ek]
    exact wpAny_pure (wpAny_pure ⟨_, rfl, wpAny_pure (q _ hit' (Heap.SameBut.update ..))⟩)
theorem kat_end {it d : Addr} {i ep : Nat} {ks : List Value} {Q : Option Value → Shared → Prop} (hh : A.handled = none) (hit : s.heap.IsKeyIter it d i ks.length ep) (x : KAt s.heap d ks ep) (hv : ks.length ≤ i)
    (q : ∀ h', Heap.ExtBut it s.heap h' → Q none { s with heap := h' }) : wpAny (model prog w) A (pyNext (.ref it)) Q E s := by
  obtain ⟨oi, f1, f2, f3⟩ := id hit
  obtain ⟨o, es, e1, e2, e3, e4⟩ := x
  have n : es.size = ks.length := by rw [← e4, List.length_map, Array.length_toList]
  unfold pyNext
  refine wpAny_bind (wpAny_attempt (wpAny_callSpecial?_slot (name := Str.ofString "__next__") hit.typeIs F.slot_dict_keyiterator_next (wpAny_call_entry F.slot_dict_keyiterator_next hit.typeIs F.entry_dict_keyiterator_next ?z (F.args_dict_keyiterator_next_1 _))))
  case z =>
    refine wpAny_bind (wpAny_pure (wpAny_bind (wpAny_bind ?_)))
    refine wpAny_bind (wpAny_typeNameOfWhole_keyiter hit.typeIs (wpAny_pure (wpAny_bind (wpAny_fieldsOf f1 f3 ?_))))
    simp only [show Builtin.Dict_items.ownsTuple "dict_keyiterator" = false by decide, Bool.false_eq_true, if_false]
    show wpAny _ _ (if (Value.ref d == Value.none) = true then _ else _) _ _ s
    rw [if_neg (show ¬ (Value.ref d == Value.none) = true by intro z; cases z)]
    refine wpAny_bind (wpAny_pure (wpAny_bind (wpAny_dictEntries e1 e3 ?_)))
    rw [if_neg (by simp [n])]
    refine wpAny_bind (wpAny_pure (wpAny_bind (wpAny_dictEpoch e1 e3 ?_)))
    rw [if_neg (by simp)]
    apply wpAny_pure
    simp only [show ¬ ((i : Int) < 0) by omega, if_false, Int.toNat_natCast, Array.getElem?_eq_none (show es.size ≤ i by omega)]
    refine wpAny_bind (wpAny_bind (wpAny_typeNameOfWhole_keyiter hit.typeIs (wpAny_pure ?_)))
    show wpAny _ _ (setField (.ref it) 0 .none >>= _) _ _ s
    refine wpAny_bind (wpAny_setField f1 f3 (by simp) ?_)
    show wpAny _ _ (newExc (.type "StopIteration") [] >>= _) _ _ _
    apply wpAny_bind
    simp only [newExc, newTuple]
    refine wpAny_bind (wpAny_newObj_type (wpAny_bind (m := firstArgMember _ _) (wpAny_of_eq (a := Value.none) (by first | rfl | (simp only [firstArgMember]; rfl)) (wpAny_newObj_type ?_ (by size_fits)))) (by size_fits))
    simp only [raiseNew]
    apply wpAny_bind
    apply wpAny_handled
    rw [show A.in1.handled = none from hh]
    refine wpAny_bind (m := pure _) (wpAny_pure (wpAny_throw ?_))
    apply wpAny_bind
    refine wpAny_isInstance (T := "StopIteration") (b := true) ⟨_, Heap.get?_push_size _ rfl, rfl⟩ isSubtype_stop ?_
    exact wpAny_pure (q _ (((Heap.SameBut.update ..).extBut.push _).push _))
theorem kat_walks (hh : A.handled = none) (it d : Addr) (ne : d ≠ it) (ks : List Value) (ep : Nat) : Walks prog w A it [it, d] [it] ks.length (fun i v => ks[i]? = some v) (fun i h => h.IsKeyIter it d i ks.length ep ∧ KAt h d ks ep) where
  sub := fun b hb => by
    have : b = it := by simpa using hb
    simp [this]
  frame := fun i h h' st k => ⟨let ⟨o, e, r⟩ := st.1; ⟨o, k it (by simp) o e, r⟩, st.2.go (k d (by simp))⟩
  item := fun i s Q E hi st hQ => by
    have hv : ks[i]? = some ks[i] := by simp [hi]
    refine kat_next st.1 st.2 hv fun h' a b => hQ _ h' s.toks hv ⟨a, st.2.go fun o e => b.extBut d o ne e⟩ fun c o hc e => b.extBut c o (by simpa using hc) e
  done := fun s Q E st hQ => kat_end hh st.1 st.2 (Nat.le_refl _) fun h' b => hQ h' s.toks fun c o hc e => b c o (by simpa using hc) e
  self := fun i s Q E st hQ => wpAny_pyIter_keyiter st.1 hQ
theorem kat_src {d : Addr} {ks : List Value} {ep : Nat} (lo : (d == sysModules) = false) : PySem.W.KdlSrc prog w "dict" d d ks.length (fun i v => ks[i]? = some v) (fun h => KAt h d ks ep) where
  type := fun s x => x.ty
  there := fun h x => ⟨x.lt, x.lt⟩
  keep := fun h h' x k => x.go (k d (.inl rfl))
  notList := by decide
  notTuple := by decide
  hint := fun A E s Q x q => PySem.W.kdl_hint_dict x.ty q
  iter := fun A s hh x => ⟨_, _, (fun E Q q => kat_iter lo x q), kat_walks hh _ d (Nat.ne_of_lt x.lt) ks ep, ⟨⟨_, Heap.get?_push_size _ rfl, rfl, rfl⟩, x.go fun o e => Heap.get?_push_of_some _ e⟩⟩
end
end L2
set_option Elab.async false
set_option linter.all false
set_option maxRecDepth 100000
namespace L2
open PySem PySem.Spec PyProof.Rows PySem.W
/-! ### the sort's comparisons, where these answer by a key -/
section
variable {n : Nat} {key : Nat → Int} {cmp : Nat → Nat → (Bool → Shared → Prop) → Shared → Prop}
def kyA (key : Nat → Int) (p : Array Nat) (i : Nat) : Int := key (p.getD i 0)
def Up (key : Nat → Int) (p : Array Nat) (m : Nat) : Prop := ∀ i j, i ≤ j → j < m → kyA key p i ≤ kyA key p j
def CmpBy (n : Nat) (key : Nat → Int) (cmp : Nat → Nat → (Bool → Shared → Prop) → Shared → Prop) (s : Shared) : Prop := ∀ i j C, i < n → j < n → C (decide (key i < key j)) s → cmp i j C s
def Rg (n : Nat) (p : Array Nat) : Prop := p.toList.Perm (List.range n)
theorem Rg.size {p : Array Nat} (h : Rg n p) : p.size = n := by
  have := h.length_eq
  simpa using this
theorem Rg.lt {p : Array Nat} (h : Rg n p) {i : Nat} (hi : i < n) : p.getD i 0 < n := by
  have hs := h.size
  have e : p.getD i 0 = p[i] := by simp [Array.getD, hs, hi]
  rw [e]
  have : p[i] ∈ p.toList := by simp
  exact List.mem_range.mp (h.mem_iff.mp this)
theorem Rg.ne {p : Array Nat} (h : Rg n p) (inj : ∀ i j, i < n → j < n → key i = key j → i = j) {i j : Nat} (hij : i < j) (hj : j < n) : kyA key p i ≠ kyA key p j := by
  intro e
  have hs := h.size
  have e' := inj _ _ (h.lt (by omega)) (h.lt hj) e
  have e1 : p.getD i 0 = p[i] := by simp [Array.getD, hs, show i < n by omega]
  have e2 : p.getD j 0 = p[j] := by simp [Array.getD, hs, hj]
  rw [e1, e2] at e'
  have nd : p.toList.Nodup := h.nodup_iff.mpr List.nodup_range
  have e3 : p.toList[i]'(by simpa [hs] using (show i < n by omega)) = p.toList[j]'(by simpa [hs] using hj) := by simpa using e'
  have := (List.getElem_inj nd).mp e3
  omega
theorem ky_of {p q : Array Nat} {i j : Nat} (e : p[i]? = q[j]?) : kyA key p i = kyA key q j := by
  unfold kyA
  rw [Array.getD_eq_getD_getElem?, Array.getD_eq_getD_getElem?, e]
theorem Rg.rev {p : Array Nat} (h : Rg n p) (i j : Nat) : Rg n (kas_rev p i j) := (Array.perm_iff_toList_perm.mp (mirror_perm p i j _)).trans h
theorem Rg.bub {p : Array Nat} (h : Rg n p) (i j : Nat) : Rg n (bubble p i j) := (Array.perm_iff_toList_perm.mp (bubble_perm p i j)).trans h
theorem asc_wp {s : Shared} (hc : CmpBy n key cmp s) {p : Array Nat} (hp : Rg n p) {Q : Nat → Shared → Prop} : ∀ (f m : Nat), 1 ≤ m → m + f ≤ n →
    (∀ m', m ≤ m' → m' ≤ m + f → (∀ j, m ≤ j → j < m' → kyA key p (j - 1) ≤ kyA key p j) → (m' = m + f ∨ kyA key p m' < kyA key p (m' - 1)) → Q m' s) → (kas_asc p f m).kasWp cmp Q s
  | 0, m, h1, hn, h => h m (Nat.le_refl _) (Nat.le_refl _) (fun j a b => by omega) (.inl rfl)
  | f + 1, m, h1, hn, h => by
    show cmp (p.getD m 0) (p.getD (m - 1) 0) (fun b s' => KasT.kasWp cmp (if b = true then .ret m else kas_asc p f (m + 1)) Q s') s
    refine hc _ _ _ (hp.lt (by omega)) (hp.lt (by omega)) ?_
    by_cases hb : key (p.getD m 0) < key (p.getD (m - 1) 0)
    · rw [decide_eq_true hb, if_pos rfl]
      exact h m (Nat.le_refl _) (by omega) (fun j a b => by omega) (.inr hb)
    · rw [decide_eq_false hb, if_neg Bool.false_ne_true]
      refine asc_wp hc hp f (m + 1) (by omega) (by omega) fun m' a b c d => h m' (by omega) (by omega) (fun j x y => ?_) (by rcases d with d | d; exact .inl (by omega); exact .inr d)
      by_cases e : j = m
      · subst e
        have : ¬ kyA key p j < kyA key p (j - 1) := hb
        omega
      · exact c j (by omega) y
theorem up_of {p : Array Nat} {m : Nat} (h : ∀ j, 1 ≤ j → j < m → kyA key p (j - 1) ≤ kyA key p j) : Up key p m := by
  intro i j hij hj
  induction j with
  | zero => have : i = 0 := by omega
            subst this; exact Int.le_refl _
  | succ j ih =>
    by_cases e : i = j + 1
    · subst e; exact Int.le_refl _
    · have h1 := ih (by omega) (by omega)
      have h2 := h (j + 1) (by omega) hj
      rw [Nat.add_sub_cancel] at h2
      exact Int.le_trans h1 h2
theorem desc_wp {s : Shared} (hc : CmpBy n key cmp s) (inj : ∀ i j, i < n → j < n → key i = key j → i = j) {p : Array Nat} (hp : Rg n p) {Q : Array Nat × Nat × Nat → Shared → Prop} : ∀ (f m : Nat), 1 ≤ m → m + f ≤ n →
    (∀ m', m ≤ m' → m' ≤ m + f → (∀ j, m ≤ j → j < m' → kyA key p j < kyA key p (j - 1)) → Q (p, m', 0) s) → (kas_desc f p m 0).kasWp cmp Q s
  | 0, m, h1, hn, h => h m (Nat.le_refl _) (Nat.le_refl _) (fun j a b => by omega)
  | f + 1, m, h1, hn, h => by
    show cmp (p.getD m 0) (p.getD (m - 1) 0) (fun b s' => KasT.kasWp cmp (if b = true then (if 0 > 0 then kas_desc f (kas_rev p (m - (0 + 1)) m) (m + 1) 0 else kas_desc f p (m + 1) 0)
      else .ask (p.getD (m - 1) 0) (p.getD m 0) fun d => if d = true then .ret (p, m, 0) else kas_desc f p (m + 1) (0 + 1)) Q s') s
    refine hc _ _ _ (hp.lt (by omega)) (hp.lt (by omega)) ?_
    by_cases hb : key (p.getD m 0) < key (p.getD (m - 1) 0)
    · rw [decide_eq_true hb, if_pos rfl, if_neg (by omega)]
      refine desc_wp hc inj hp f (m + 1) (by omega) (by omega) fun m' a b c => h m' (by omega) (by omega) fun j x y => ?_
      by_cases e : j = m
      · subst e; exact hb
      · exact c j (by omega) y
    · rw [decide_eq_false hb, if_neg Bool.false_ne_true]
      refine hc _ _ _ (hp.lt (by omega)) (hp.lt (by omega)) ?_
      have h2 : key (p.getD (m - 1) 0) < key (p.getD m 0) := by
        have := hp.ne inj (show m - 1 < m by omega) (by omega)
        unfold kyA at this
        omega
      rw [decide_eq_true h2]
      dsimp only
      rw [if_pos rfl]
      exact h m (Nat.le_refl _) (by omega) fun j a b => by omega
theorem count_wp {s : Shared} (hc : CmpBy n key cmp s) (inj : ∀ i j, i < n → j < n → key i = key j → i = j) {p : Array Nat} (hp : Rg n p) {Q : Nat × Array Nat → Shared → Prop} (hn : 1 ≤ n)
    (h : ∀ m p', 1 ≤ m → m ≤ n → Rg n p' → Up key p' m → Q (m, p') s) : (kas_count n p).kasWp cmp Q s := by
  unfold kas_count
  rw [KasT.kasWp_bind]
  refine asc_wp hc hp (n - 1) 1 (Nat.le_refl _) (by omega) fun m a b c d => ?_
  have up : Up key p m := up_of c
  by_cases e : m = n
  · subst e
    rw [if_pos (by simp)]
    exact h m p a (Nat.le_refl _) hp up
  · rw [if_neg (by simpa using e)]
    by_cases e1 : m > 1
    · rw [if_pos e1]
      refine hc _ _ _ (hp.lt (by omega)) (hp.lt (by omega)) ?_
      have h2 : key (p.getD 0 0) < key (p.getD (m - 1) 0) := by
        have x := hp.ne inj (show 0 < m - 1 by omega) (by omega)
        have y := up 0 (m - 1) (by omega) (by omega)
        unfold kyA at x y
        omega
      rw [decide_eq_true h2]
      dsimp only
      rw [if_pos rfl]
      exact h m p a (by omega) hp up
    · rw [if_neg e1]
      have e2 : m = 1 := by omega
      subst e2
      have d : kyA key p 1 < kyA key p 0 := by
        rcases d with d | d
        · omega
        · exact d
      unfold kas_descPart
      rw [KasT.kasWp_bind]
      refine desc_wp hc inj hp (n - (1 + 1)) (1 + 1) (by omega) (by omega) fun k a1 b1 c1 => ?_
      dsimp only
      rw [if_neg (by omega)]
      unfold kas_tail3
      rw [KasT.kasWp_bind]
      have hp' := hp.rev 0 k
      have ky : ∀ i, kyA key (kas_rev p 0 k) i = if i < k then kyA key p (k - 1 - i) else kyA key p i := fun i => by
        by_cases hi : i < k
        · rw [if_pos hi]
          exact ky_of (by unfold kas_rev; rw [getElem?_mirror_all (by rw [hp.size]; omega), if_pos ⟨Nat.zero_le _, hi⟩]; congr 1; omega)
        · rw [if_neg hi]
          exact ky_of (by unfold kas_rev; rw [getElem?_mirror_all (by rw [hp.size]; omega), if_neg (by omega)])
      have dn : ∀ j, 1 ≤ j → j < k → kyA key p j < kyA key p (j - 1) := fun j x y => by
        by_cases z : j = 1
        · subst z; exact d
        · exact c1 j (by omega) y
      refine asc_wp hc hp' (n - k) k (by omega) (by omega) fun m' a2 b2 c2 _ => ?_
      refine h m' (kas_rev p 0 k) (by omega) (by omega) hp' (up_of fun j x y => ?_)
      by_cases z : j < k
      · rw [ky, ky, if_pos (by omega), if_pos z]
        have := dn (k - 1 - (j - 1)) (by omega) (by omega)
        rw [show k - 1 - (j - 1) - 1 = k - 1 - j by omega] at this
        exact Int.le_of_lt this
      · exact c2 j (by omega) y
theorem place_wp {s : Shared} (hc : CmpBy n key cmp s) {p : Array Nat} (hp : Rg n p) {k : Nat} (hk : k < n) (up : Up key p k) {Q : Nat → Shared → Prop} : ∀ (f l r : Nat), l ≤ r → r ≤ k → r - l ≤ f →
    (∀ i, i < l → kyA key p i ≤ kyA key p k) → (∀ i, r ≤ i → i < k → kyA key p k ≤ kyA key p i) →
    (∀ l', l' ≤ k → (∀ i, i < l' → kyA key p i ≤ kyA key p k) → (∀ i, l' ≤ i → i < k → kyA key p k ≤ kyA key p i) → Q l' s) → (kas_place p k f l r).kasWp cmp Q s
  | 0, l, r, h1, h2, h3, a, b, h => h l (by omega) a fun i x y => b i (by omega) y
  | f + 1, l, r, h1, h2, h3, a, b, h => by
    by_cases e : l ≥ r
    · show KasT.kasWp cmp (if l ≥ r then .ret l else _) Q s
      rw [if_pos e]
      exact h l (by omega) a fun i x y => b i (by omega) y
    · show KasT.kasWp cmp (if l ≥ r then .ret l else .ask (p.getD k 0) (p.getD ((l + r) / 2) 0) fun c => if c = true then kas_place p k f l ((l + r) / 2) else kas_place p k f ((l + r) / 2 + 1) r) Q s
      rw [if_neg e]
      refine hc _ _ _ (hp.lt hk) (hp.lt (by omega)) ?_
      have m1 : l ≤ (l + r) / 2 := by omega
      have m2 : (l + r) / 2 < r := by omega
      generalize (l + r) / 2 = mid at m1 m2 ⊢
      by_cases hb : key (p.getD k 0) < key (p.getD mid 0)
      · rw [decide_eq_true hb]
        dsimp only
        rw [if_pos rfl]
        refine place_wp hc hp hk up f l mid m1 (by omega) (by omega) a (fun i x y => ?_) h
        have := up mid i x y
        have hb : kyA key p k < kyA key p mid := hb
        omega
      · rw [decide_eq_false hb]
        dsimp only
        rw [if_neg Bool.false_ne_true]
        refine place_wp hc hp hk up f (mid + 1) r (by omega) h2 (by omega) (fun i x => ?_) b h
        have := up i mid (by omega) (by omega)
        have hb : ¬ kyA key p k < kyA key p mid := hb
        omega
theorem bin_wp {s : Shared} (hc : CmpBy n key cmp s) {Q : Array Nat → Shared → Prop} : ∀ (f k : Nat) (p : Array Nat), Rg n p → Up key p k → k + f ≤ n → (∀ p', Rg n p' → Up key p' (k + f) → Q p' s) → (kas_bin f p k).kasWp cmp Q s
  | 0, k, p, hp, up, hn, h => h p hp up
  | f + 1, k, p, hp, up, hn, h => by
    show KasT.kasWp cmp ((kas_place p k k 0 k).bind fun l => kas_bin f (bubble p k (k - l)) (k + 1)) Q s
    rw [KasT.kasWp_bind]
    refine place_wp hc hp (by omega) up k 0 k (Nat.zero_le _) (Nat.le_refl _) (by omega) (fun i x => by omega) (fun i x y => by omega) fun l hl a b => ?_
    have ky : ∀ i, kyA key (bubble p k (k - l)) i = if i = l then kyA key p k else if l < i ∧ i ≤ k then kyA key p (i - 1) else kyA key p i := fun i => by
      have g := getElem?_bubble (xs := p) (src := k) (by rw [hp.size]; omega) (k - l) (by omega) i
      rw [show k - (k - l) = l by omega] at g
      by_cases e : i = l
      · rw [if_pos e] at g ⊢; exact ky_of g
      · rw [if_neg e] at g ⊢
        by_cases e2 : l < i ∧ i ≤ k
        · rw [if_pos e2] at g ⊢; exact ky_of g
        · rw [if_neg e2] at g ⊢; exact ky_of g
    refine bin_wp hc f (k + 1) _ (hp.bub _ _) (up_of fun j x y => ?_) (by omega) fun p' r1 r2 => h p' r1 (by rw [show k + (f + 1) = k + 1 + f by omega]; exact r2)
    rw [ky, ky]
    by_cases c1 : j - 1 = l
    · rw [if_pos c1, if_neg (by omega), if_pos (by omega)]
      exact b (j - 1) (by omega) (by omega)
    · rw [if_neg c1]
      by_cases c2 : j = l
      · rw [if_pos c2, if_neg (by omega)]
        exact a (j - 1) (by omega)
      · rw [if_neg c2]
        by_cases c3 : l < j - 1
        · rw [if_pos (by omega), if_pos (by omega)]
          exact up _ _ (by omega) (by omega)
        · rw [if_neg (by omega), if_neg (by omega)]
          exact up _ _ (by omega) (by omega)
theorem sort_wp {s : Shared} (hc : CmpBy n key cmp s) (inj : ∀ i j, i < n → j < n → key i = key j → i = j) {Q : Array Nat → Shared → Prop} (hn : 1 ≤ n) (h : ∀ p', Rg n p' → Up key p' n → Q p' s) : (kas_sort n).kasWp cmp Q s := by
  unfold kas_sort
  rw [KasT.kasWp_bind]
  refine count_wp hc inj (p := (List.range n).toArray) (List.Perm.refl _) hn fun m p' a b c d => ?_
  by_cases e : m < n
  · show KasT.kasWp cmp (if m < n then kas_bin (n - max m 1) p' (max m 1) else .ret p') Q s
    rw [if_pos e]
    refine bin_wp hc _ _ p' c (by rw [show max m 1 = m by omega]; exact d) (by omega) fun p'' r1 r2 => h p'' r1 (by rw [show max m 1 + (n - max m 1) = n by omega] at r2; exact r2)
  · show KasT.kasWp cmp (if m < n then kas_bin (n - max m 1) p' (max m 1) else .ret p') Q s
    rw [if_neg e]
    have : m = n := by omega
    subst this
    exact h p' c d
end
end L2
set_option Elab.async false
set_option linter.all false
set_option maxRecDepth 100000
namespace L2
open PySem PySem.Spec PyProof.Rows PySem.W
section
variable {prog : Program} {w : World} {A : Around} {E : Value → Shared → Prop} {κ : SortKind} {it : Array Keyed} {key : Nat → Int} {n : Nat} {s : Shared}
def gallop' : Bool → Keyed → Array Keyed → Nat → Nat → Nat → StateT SortSt Sem (Option Nat) := sortPriv% PySem.Builtin.gallop
theorem lt_by (hc : CmpBy n key (kas_cmp prog w A κ it) s) {i j : Nat} (hi : i < n) (hj : j < n) {st : SortSt} (hk : kindOf st = κ) {Q : Option Bool → SortSt → Shared → Prop} (h : Q (some (decide (key i < key j))) st s) :
    kasC (model prog w) A E (lt' (kas_item it i) (kas_item it j)) Q st s := by
  rw [lt'_eq]
  apply kasC_bind
  apply kasC_get
  have := hc i j (fun c s' => s' = s ∧ c = decide (key i < key j)) hi hj ⟨rfl, rfl⟩
  unfold kas_cmp at this
  rw [hk]
  refine kasC_bind (kasC_lift (wpAny_attempt (wpAny_mono this (fun c s' hcs => ?_) fun _ _ hF => hF.elim)))
  obtain ⟨rfl, rfl⟩ := hcs
  exact kasC_pure h
theorem kasC_for {σ β : Type} {M : Model} {f : Nat → β → StateT σ Sem (ForInStep β)} {Q : β → σ → Shared → Prop} (I : Nat → β → σ → Shared → Prop)
    (step : ∀ x c st s', I x c st s' → kasC M A E (f x c) (fun r st2 s2 => match r with | .yield c' => I (x + 1) c' st2 s2 | .done c' => Q c' st2 s2) st s') : ∀ (m a : Nat) (c : β) (st : σ) (s' : Shared), (∀ c st s', I (a + m) c st s' → Q c st s') → I a c st s' →
      kasC M A E (forIn (List.range' a m) c f) Q st s'
  | 0, a, c, st, s', fin, h => by
    show kasC M A E (forIn ([] : List Nat) c f) Q st s'
    exact kasC_nil (fin c st s' h)
  | m + 1, a, c, st, s', fin, h => by
    show kasC M A E (forIn (a :: List.range' (a + 1) m) c f) Q st s'
    refine kasC_cons (wpAny_mono (step a c st s' h) (fun r s2 h' => ?_) fun _ _ e => e)
    obtain ⟨r, st2⟩ := r
    cases r with
    | done c' => exact h'
    | yield c' => exact kasC_for I step m (a + 1) c' st2 s2 (fun c st s' hi => fin c st s' (by rw [show a + (m + 1) = a + 1 + m by omega]; exact hi)) h'
def bey (key : Nat → Int) (left : Bool) (k : Nat) (pa : Array Nat) (base i : Nat) : Bool := if left = true then decide (key (pa.getD (base + i) 0) < key k) else !decide (key k < key (pa.getD (base + i) 0))
theorem gallop_ok (hc : CmpBy n key (kas_cmp prog w A κ it) s) {left : Bool} {k : Nat} (hk : k < n) {pa : Array Nat} (hpa : ∀ i, i < pa.size → pa.getD i 0 < n) {base m hint : Nat} (hb : base + m ≤ pa.size) (hh : hint < m)
    (mono : ∀ i j, i ≤ j → j < m → bey key left k pa base j = true → bey key left k pa base i = true) {st : SortSt} (hkind : kindOf st = κ) {Q : Option Nat → SortSt → Shared → Prop}
    (h : ∀ r, r ≤ m → (∀ i, i < r → bey key left k pa base i = true) → (∀ i, r ≤ i → i < m → bey key left k pa base i = false) → Q (some r) st s) :
    kasC (model prog w) A E (gallop' left (kas_item it k) (pa.map (kas_item it)) base m hint) Q st s := by
  have el : ∀ i, i < m → (pa.map (kas_item it))[base + i]? = some (kas_item it (pa.getD (base + i) 0)) := fun i hi => by
    have : base + i < pa.size := by omega
    simp [Array.getD, this]
  have ask : ∀ i, i < m → ∀ Q' : Option Bool → SortSt → Shared → Prop, Q' (some (bey key left k pa base i)) st s →
      kasC (model prog w) A E (do let x ← elem' (pa.map (kas_item it)) (base + i); if left = true then lt' x (kas_item it k) else do let r ← lt' (kas_item it k) x; pure (r.map fun x => !x)) Q' st s := fun i hi Q' hq => by
    rw [elem'_eq, el i hi]
    apply kasC_bind
    apply kasC_pure
    have hx := hpa (base + i) (by omega)
    unfold bey at hq
    cases left with
    | true =>
      rw [if_pos rfl] at hq ⊢
      exact lt_by hc hx hk hkind hq
    | false =>
      rw [if_neg Bool.false_ne_true] at hq ⊢
      exact kasC_bind (lt_by hc hk hx hkind (kasC_pure hq))
  unfold gallop'
  with_unfolding_all refine kasC_bind ?_
  refine ask hint hh _ ?_
  dsimp only
  cases hB0 : bey key left k pa base hint with
  | true =>
    rw [if_pos rfl]
    apply kasC_bind
    apply kasC_range
    have nxt : ∀ last ofs, last < ofs → hint + last < m → bey key left k pa base (hint + last) = true → (ofs ≥ m - hint ∨ bey key left k pa base (hint + ofs) = false) →
        hint + last + 1 ≤ hint + min ofs (m - hint) ∧ hint + min ofs (m - hint) ≤ m ∧ (∀ i, i < hint + last + 1 → bey key left k pa base i = true) ∧ (∀ i, hint + min ofs (m - hint) ≤ i → i < m → bey key left k pa base i = false) ∧ hint + min ofs (m - hint) - (hint + last + 1) ≤ m - 0 := fun last ofs a1 a2 a3 a4 => by
      refine ⟨by omega, by omega, fun i hi => mono i (hint + last) (by omega) a2 a3, fun i h1 h2 => ?_, by omega⟩
      rcases a4 with a4 | a4
      · omega
      · cases hi2 : bey key left k pa base i with
        | false => rfl
        | true => rw [mono (hint + ofs) i (by omega) h2 hi2] at a4; cases a4
    refine kasC_for (fun x c st' s' => st' = st ∧ s' = s ∧ ∃ last ofs, c = (none, last, ofs) ∧ last < ofs ∧ x < ofs ∧ hint + last < m ∧ bey key left k pa base (hint + last) = true) ?_ _ 0 _ _ _ ?_ ⟨rfl, rfl, 0, 1, rfl, by omega, by omega, by omega, hB0⟩
    · rintro x c st' s' ⟨e1, e2, last, ofs, rfl, h1, h2, h3, h4⟩
      rw [e1, e2]
      dsimp only
      by_cases ho : ofs ≥ m - hint
      · rw [if_pos ho]
        apply kasC_pure
        dsimp only
        have LH := nxt last ofs h1 h3 h4 (.inl ho)
        apply kasC_bind
        apply kasC_range
        refine kasC_for (fun x c st' s' => st' = st ∧ s' = s ∧ ∃ lo hi, c = (none, lo, hi) ∧ lo ≤ hi ∧ hi ≤ m ∧ (∀ i, i < lo → bey key left k pa base i = true) ∧ (∀ i, hi ≤ i → i < m → bey key left k pa base i = false) ∧ hi - lo ≤ m - x) ?_ _ 0 _ _ _ ?_ ⟨rfl, rfl, _, _, rfl, LH⟩
        · rintro x c st' s' ⟨e1, e2, lo, hi, rfl, h1, h2, h3, h4, h5⟩
          rw [e1, e2]
          dsimp only
          by_cases hlh : lo ≥ hi
          · rw [if_pos hlh]
            apply kasC_pure
            dsimp only
            have e : lo = hi := by omega
            subst e
            exact kasC_pure (h lo h2 h3 h4)
          · rw [if_neg hlh]
            have m1 : lo ≤ lo + (hi - lo) / 2 := by omega
            have m2 : lo + (hi - lo) / 2 < hi := by omega
            generalize lo + (hi - lo) / 2 = mid at m1 m2 ⊢
            refine kasC_bind (ask mid (by omega) _ ?_)
            dsimp only
            cases hB : bey key left k pa base mid with
            | true =>
              rw [if_pos rfl]
              exact kasC_pure ⟨rfl, rfl, mid + 1, hi, rfl, by omega, h2, fun i hi' => mono i mid (by omega) (by omega) hB, h4, by omega⟩
            | false =>
              rw [if_neg Bool.false_ne_true]
              refine kasC_pure ⟨rfl, rfl, lo, mid, rfl, by omega, by omega, h3, fun i a b => ?_, by omega⟩
              cases hi2 : bey key left k pa base i with
              | false => rfl
              | true => rw [mono mid i a b hi2] at hB; cases hB
        · rintro c st' s' ⟨e1, e2, lo, hi, rfl, h1, h2, h3, h4, h5⟩
          rw [e1, e2]
          dsimp only
          have e : lo = hi := by omega
          subst e
          exact kasC_pure (h lo h2 h3 h4)
      · rw [if_neg ho]
        refine kasC_bind (ask (hint + ofs) (by omega) _ ?_)
        dsimp only
        cases hB : bey key left k pa base (hint + ofs) with
        | true =>
          simp only [Bool.not_true, Bool.false_eq_true, if_false]
          exact kasC_pure ⟨rfl, rfl, ofs, 2 * ofs + 1, rfl, by omega, by omega, by omega, hB⟩
        | false =>
          simp only [Bool.not_false, if_true]
          apply kasC_pure
          dsimp only
          have LH := nxt last ofs h1 h3 h4 (.inr hB)
          apply kasC_bind
          apply kasC_range
          refine kasC_for (fun x c st' s' => st' = st ∧ s' = s ∧ ∃ lo hi, c = (none, lo, hi) ∧ lo ≤ hi ∧ hi ≤ m ∧ (∀ i, i < lo → bey key left k pa base i = true) ∧ (∀ i, hi ≤ i → i < m → bey key left k pa base i = false) ∧ hi - lo ≤ m - x) ?_ _ 0 _ _ _ ?_ ⟨rfl, rfl, _, _, rfl, LH⟩
          · rintro x c st' s' ⟨e1, e2, lo, hi, rfl, h1, h2, h3, h4, h5⟩
            rw [e1, e2]
            dsimp only
            by_cases hlh : lo ≥ hi
            · rw [if_pos hlh]
              apply kasC_pure
              dsimp only
              have e : lo = hi := by omega
              subst e
              exact kasC_pure (h lo h2 h3 h4)
            · rw [if_neg hlh]
              have m1 : lo ≤ lo + (hi - lo) / 2 := by omega
              have m2 : lo + (hi - lo) / 2 < hi := by omega
              generalize lo + (hi - lo) / 2 = mid at m1 m2 ⊢
              refine kasC_bind (ask mid (by omega) _ ?_)
              dsimp only
              cases hB : bey key left k pa base mid with
              | true =>
                rw [if_pos rfl]
                exact kasC_pure ⟨rfl, rfl, mid + 1, hi, rfl, by omega, h2, fun i hi' => mono i mid (by omega) (by omega) hB, h4, by omega⟩
              | false =>
                rw [if_neg Bool.false_ne_true]
                refine kasC_pure ⟨rfl, rfl, lo, mid, rfl, by omega, by omega, h3, fun i a b => ?_, by omega⟩
                cases hi2 : bey key left k pa base i with
                | false => rfl
                | true => rw [mono mid i a b hi2] at hB; cases hB
          · rintro c st' s' ⟨e1, e2, lo, hi, rfl, h1, h2, h3, h4, h5⟩
            rw [e1, e2]
            dsimp only
            have e : lo = hi := by omega
            subst e
            exact kasC_pure (h lo h2 h3 h4)
    · rintro c st' s' ⟨e1, e2, last, ofs, rfl, h1, h2, h3, h4⟩
      rw [e1, e2]
      dsimp only
      have LH := nxt last ofs h1 h3 h4 (.inl (by omega))
      apply kasC_bind
      apply kasC_range
      refine kasC_for (fun x c st' s' => st' = st ∧ s' = s ∧ ∃ lo hi, c = (none, lo, hi) ∧ lo ≤ hi ∧ hi ≤ m ∧ (∀ i, i < lo → bey key left k pa base i = true) ∧ (∀ i, hi ≤ i → i < m → bey key left k pa base i = false) ∧ hi - lo ≤ m - x) ?_ _ 0 _ _ _ ?_ ⟨rfl, rfl, _, _, rfl, LH⟩
      · rintro x c st' s' ⟨e1, e2, lo, hi, rfl, h1, h2, h3, h4, h5⟩
        rw [e1, e2]
        dsimp only
        by_cases hlh : lo ≥ hi
        · rw [if_pos hlh]
          apply kasC_pure
          dsimp only
          have e : lo = hi := by omega
          subst e
          exact kasC_pure (h lo h2 h3 h4)
        · rw [if_neg hlh]
          have m1 : lo ≤ lo + (hi - lo) / 2 := by omega
          have m2 : lo + (hi - lo) / 2 < hi := by omega
          generalize lo + (hi - lo) / 2 = mid at m1 m2 ⊢
          refine kasC_bind (ask mid (by omega) _ ?_)
          dsimp only
          cases hB : bey key left k pa base mid with
          | true =>
            rw [if_pos rfl]
            exact kasC_pure ⟨rfl, rfl, mid + 1, hi, rfl, by omega, h2, fun i hi' => mono i mid (by omega) (by omega) hB, h4, by omega⟩
          | false =>
            rw [if_neg Bool.false_ne_true]
            refine kasC_pure ⟨rfl, rfl, lo, mid, rfl, by omega, by omega, h3, fun i a b => ?_, by omega⟩
            cases hi2 : bey key left k pa base i with
            | false => rfl
            | true => rw [mono mid i a b hi2] at hB; cases hB
      · rintro c st' s' ⟨e1, e2, lo, hi, rfl, h1, h2, h3, h4, h5⟩
        rw [e1, e2]
        dsimp only
        have e : lo = hi := by omega
        subst e
        exact kasC_pure (h lo h2 h3 h4)
  | false =>
    rw [if_neg Bool.false_ne_true]
    apply kasC_bind
    apply kasC_range
    have nxt : ∀ last ofs, last < ofs → last ≤ hint → bey key left k pa base (hint - last) = false → (ofs ≥ hint + 1 ∨ bey key left k pa base (hint - ofs) = true) →
        hint + 1 - min ofs (hint + 1) ≤ hint - last ∧ hint - last ≤ m ∧ (∀ i, i < hint + 1 - min ofs (hint + 1) → bey key left k pa base i = true) ∧ (∀ i, hint - last ≤ i → i < m → bey key left k pa base i = false) ∧ hint - last - (hint + 1 - min ofs (hint + 1)) ≤ m - 0 := fun last ofs a1 a2 a3 a4 => by
      refine ⟨by omega, by omega, fun i hi => ?_, fun i h1 h2 => ?_, by omega⟩
      · rcases a4 with a4 | a4
        · omega
        · exact mono i (hint - ofs) (by omega) (by omega) a4
      · cases hi2 : bey key left k pa base i with
        | false => rfl
        | true => rw [mono (hint - last) i (by omega) h2 hi2] at a3; cases a3
    refine kasC_for (fun x c st' s' => st' = st ∧ s' = s ∧ ∃ last ofs, c = (none, last, ofs) ∧ last < ofs ∧ x < ofs ∧ last ≤ hint ∧ bey key left k pa base (hint - last) = false) ?_ _ 0 _ _ _ ?_ ⟨rfl, rfl, 0, 1, rfl, by omega, by omega, by omega, hB0⟩
    · rintro x c st' s' ⟨e1, e2, last, ofs, rfl, h1, h2, h3, h4⟩
      rw [e1, e2]
      dsimp only
      by_cases ho : ofs ≥ hint + 1
      · rw [if_pos ho]
        apply kasC_pure
        dsimp only
        have LH := nxt last ofs h1 h3 h4 (.inl ho)
        apply kasC_bind
        apply kasC_range
        refine kasC_for (fun x c st' s' => st' = st ∧ s' = s ∧ ∃ lo hi, c = (none, lo, hi) ∧ lo ≤ hi ∧ hi ≤ m ∧ (∀ i, i < lo → bey key left k pa base i = true) ∧ (∀ i, hi ≤ i → i < m → bey key left k pa base i = false) ∧ hi - lo ≤ m - x) ?_ _ 0 _ _ _ ?_ ⟨rfl, rfl, _, _, rfl, LH⟩
        · rintro x c st' s' ⟨e1, e2, lo, hi, rfl, h1, h2, h3, h4, h5⟩
          rw [e1, e2]
          dsimp only
          by_cases hlh : lo ≥ hi
          · rw [if_pos hlh]
            apply kasC_pure
            dsimp only
            have e : lo = hi := by omega
            subst e
            exact kasC_pure (h lo h2 h3 h4)
          · rw [if_neg hlh]
            have m1 : lo ≤ lo + (hi - lo) / 2 := by omega
            have m2 : lo + (hi - lo) / 2 < hi := by omega
            generalize lo + (hi - lo) / 2 = mid at m1 m2 ⊢
            refine kasC_bind (ask mid (by omega) _ ?_)
            dsimp only
            cases hB : bey key left k pa base mid with
            | true =>
              rw [if_pos rfl]
              exact kasC_pure ⟨rfl, rfl, mid + 1, hi, rfl, by omega, h2, fun i hi' => mono i mid (by omega) (by omega) hB, h4, by omega⟩
            | false =>
              rw [if_neg Bool.false_ne_true]
              refine kasC_pure ⟨rfl, rfl, lo, mid, rfl, by omega, by omega, h3, fun i a b => ?_, by omega⟩
              cases hi2 : bey key left k pa base i with
              | false => rfl
              | true => rw [mono mid i a b hi2] at hB; cases hB
        · rintro c st' s' ⟨e1, e2, lo, hi, rfl, h1, h2, h3, h4, h5⟩
          rw [e1, e2]
          dsimp only
          have e : lo = hi := by omega
          subst e
          exact kasC_pure (h lo h2 h3 h4)
      · rw [if_neg ho]
        refine kasC_bind (ask (hint - ofs) (by omega) _ ?_)
        dsimp only
        cases hB : bey key left k pa base (hint - ofs) with
        | false =>
          rw [if_neg Bool.false_ne_true]
          exact kasC_pure ⟨rfl, rfl, ofs, 2 * ofs + 1, rfl, by omega, by omega, by omega, hB⟩
        | true =>
          rw [if_pos rfl]
          apply kasC_pure
          dsimp only
          have LH := nxt last ofs h1 h3 h4 (.inr hB)
          apply kasC_bind
          apply kasC_range
          refine kasC_for (fun x c st' s' => st' = st ∧ s' = s ∧ ∃ lo hi, c = (none, lo, hi) ∧ lo ≤ hi ∧ hi ≤ m ∧ (∀ i, i < lo → bey key left k pa base i = true) ∧ (∀ i, hi ≤ i → i < m → bey key left k pa base i = false) ∧ hi - lo ≤ m - x) ?_ _ 0 _ _ _ ?_ ⟨rfl, rfl, _, _, rfl, LH⟩
          · rintro x c st' s' ⟨e1, e2, lo, hi, rfl, h1, h2, h3, h4, h5⟩
            rw [e1, e2]
            dsimp only
            by_cases hlh : lo ≥ hi
            · rw [if_pos hlh]
              apply kasC_pure
              dsimp only
              have e : lo = hi := by omega
              subst e
              exact kasC_pure (h lo h2 h3 h4)
            · rw [if_neg hlh]
              have m1 : lo ≤ lo + (hi - lo) / 2 := by omega
              have m2 : lo + (hi - lo) / 2 < hi := by omega
              generalize lo + (hi - lo) / 2 = mid at m1 m2 ⊢
              refine kasC_bind (ask mid (by omega) _ ?_)
              dsimp only
              cases hB : bey key left k pa base mid with
              | true =>
                rw [if_pos rfl]
                exact kasC_pure ⟨rfl, rfl, mid + 1, hi, rfl, by omega, h2, fun i hi' => mono i mid (by omega) (by omega) hB, h4, by omega⟩
              | false =>
                rw [if_neg Bool.false_ne_true]
                refine kasC_pure ⟨rfl, rfl, lo, mid, rfl, by omega, by omega, h3, fun i a b => ?_, by omega⟩
                cases hi2 : bey key left k pa base i with
                | false => rfl
                | true => rw [mono mid i a b hi2] at hB; cases hB
          · rintro c st' s' ⟨e1, e2, lo, hi, rfl, h1, h2, h3, h4, h5⟩
            rw [e1, e2]
            dsimp only
            have e : lo = hi := by omega
            subst e
            exact kasC_pure (h lo h2 h3 h4)
    · rintro c st' s' ⟨e1, e2, last, ofs, rfl, h1, h2, h3, h4⟩
      rw [e1, e2]
      dsimp only
      have LH := nxt last ofs h1 h3 h4 (.inl (by omega))
      apply kasC_bind
      apply kasC_range
      refine kasC_for (fun x c st' s' => st' = st ∧ s' = s ∧ ∃ lo hi, c = (none, lo, hi) ∧ lo ≤ hi ∧ hi ≤ m ∧ (∀ i, i < lo → bey key left k pa base i = true) ∧ (∀ i, hi ≤ i → i < m → bey key left k pa base i = false) ∧ hi - lo ≤ m - x) ?_ _ 0 _ _ _ ?_ ⟨rfl, rfl, _, _, rfl, LH⟩
      · rintro x c st' s' ⟨e1, e2, lo, hi, rfl, h1, h2, h3, h4, h5⟩
        rw [e1, e2]
        dsimp only
        by_cases hlh : lo ≥ hi
        · rw [if_pos hlh]
          apply kasC_pure
          dsimp only
          have e : lo = hi := by omega
          subst e
          exact kasC_pure (h lo h2 h3 h4)
        · rw [if_neg hlh]
          have m1 : lo ≤ lo + (hi - lo) / 2 := by omega
          have m2 : lo + (hi - lo) / 2 < hi := by omega
          generalize lo + (hi - lo) / 2 = mid at m1 m2 ⊢
          refine kasC_bind (ask mid (by omega) _ ?_)
          dsimp only
          cases hB : bey key left k pa base mid with
          | true =>
            rw [if_pos rfl]
            exact kasC_pure ⟨rfl, rfl, mid + 1, hi, rfl, by omega, h2, fun i hi' => mono i mid (by omega) (by omega) hB, h4, by omega⟩
          | false =>
            rw [if_neg Bool.false_ne_true]
            refine kasC_pure ⟨rfl, rfl, lo, mid, rfl, by omega, by omega, h3, fun i a b => ?_, by omega⟩
            cases hi2 : bey key left k pa base i with
            | false => rfl
            | true => rw [mono mid i a b hi2] at hB; cases hB
      · rintro c st' s' ⟨e1, e2, lo, hi, rfl, h1, h2, h3, h4, h5⟩
        rw [e1, e2]
        dsimp only
        have e : lo = hi := by omega
        subst e
        exact kasC_pure (h lo h2 h3 h4)
end
end L2
set_option Elab.async false
set_option linter.all false
set_option maxRecDepth 100000
namespace L2
open PySem PySem.Spec PyProof.Rows PySem.W
section
variable {key : Nat → Int}
def Srt (key : Nat → Int) (l : List Nat) : Prop := l.Pairwise fun x y => key x ≤ key y
structure MLo (key : Nat → Int) (la lb : List Nat) (po : List Nat) (ia ib : Nat) : Prop where
  perm : po.Perm (la.take ia ++ lb.take ib)
  sa : Srt key (po ++ la.drop ia)
  sb : Srt key (po ++ lb.drop ib)
  pa : ia + 1 < la.length
  pb : ib < lb.length
theorem srt_app {l m : List Nat} : Srt key (l ++ m) ↔ Srt key l ∧ Srt key m ∧ ∀ x ∈ l, ∀ y ∈ m, key x ≤ key y := List.pairwise_append
theorem takeDrop (l : List Nat) (i k : Nat) : l.take i ++ (l.drop i).take k = l.take (i + k) := by rw [List.take_add]
theorem mlo_a {la lb po : List Nat} {ia ib : Nat} (k : Nat) (perm : po.Perm (la.take ia ++ lb.take ib)) (sa : Srt key (po ++ la.drop ia)) (sb : Srt key (po ++ lb.drop ib)) (h : ∀ x ∈ (la.drop ia).take k, ∀ y ∈ lb.drop ib, key x ≤ key y) :
    (po ++ (la.drop ia).take k).Perm (la.take (ia + k) ++ lb.take ib) ∧ Srt key (po ++ (la.drop ia).take k ++ la.drop (ia + k)) ∧ Srt key (po ++ (la.drop ia).take k ++ lb.drop ib) := by
  refine ⟨?_, ?_, ?_⟩
  · rw [← takeDrop la ia k]
    refine (perm.append_right _).trans ?_
    rw [List.append_assoc, List.append_assoc]
    exact List.Perm.append_left _ List.perm_append_comm
  · rw [List.append_assoc, ← List.drop_drop, List.take_append_drop]
    exact sa
  · rw [List.append_assoc]
    have s1 := srt_app.mp sa
    have s2 := srt_app.mp sb
    refine srt_app.mpr ⟨s1.1, srt_app.mpr ⟨s1.2.1.sublist (List.take_sublist _ _), s2.2.1, h⟩, fun x hx y hy => ?_⟩
    rcases List.mem_append.mp hy with hy | hy
    · exact s1.2.2 x hx y (List.mem_of_mem_take hy)
    · exact s2.2.2 x hx y hy
theorem mlo_b {la lb po : List Nat} {ia ib : Nat} (k : Nat) (perm : po.Perm (la.take ia ++ lb.take ib)) (sa : Srt key (po ++ la.drop ia)) (sb : Srt key (po ++ lb.drop ib)) (h : ∀ x ∈ (lb.drop ib).take k, ∀ y ∈ la.drop ia, key x ≤ key y) :
    (po ++ (lb.drop ib).take k).Perm (la.take ia ++ lb.take (ib + k)) ∧ Srt key (po ++ (lb.drop ib).take k ++ la.drop ia) ∧ Srt key (po ++ (lb.drop ib).take k ++ lb.drop (ib + k)) := by
  have := mlo_a (la := lb) (lb := la) k (perm.trans List.perm_append_comm) sb sa h
  exact ⟨this.1.trans List.perm_append_comm, this.2.2, this.2.1⟩
theorem take1 {l : List Nat} {i : Nat} (h : i < l.length) : (l.drop i).take 1 = [l.getD i 0] := by
  rw [List.drop_eq_getElem_cons h, List.getD_eq_getElem?_getD, List.getElem?_eq_getElem h]
  rfl
theorem mem_dropGet {l : List Nat} {i y : Nat} (h : y ∈ l.drop i) : ∃ j, i ≤ j ∧ j < l.length ∧ y = l.getD j 0 := by
  obtain ⟨j, hj, e⟩ := List.mem_iff_getElem.mp h
  have hl := hj
  rw [List.length_drop] at hl
  exact ⟨i + j, by omega, by omega, by rw [← e, List.getElem_drop]; simp [List.getD, show i + j < l.length by omega]⟩
theorem mem_takeDrop {l : List Nat} {i k y : Nat} (h : y ∈ (l.drop i).take k) : ∃ j, j < k ∧ i + j < l.length ∧ y = l.getD (i + j) 0 := by
  obtain ⟨j, hj, e⟩ := List.mem_iff_getElem.mp h
  have hl := hj
  rw [List.length_take, List.length_drop] at hl
  exact ⟨j, by omega, by omega, by rw [← e, List.getElem_take, List.getElem_drop]; simp [List.getD, show i + j < l.length by omega]⟩
theorem srt_get {l : List Nat} (h : Srt key l) {i j : Nat} (hij : i ≤ j) (hj : j < l.length) : key (l.getD i 0) ≤ key (l.getD j 0) := by
  rcases Nat.lt_or_eq_of_le hij with hlt | rfl
  · have := List.pairwise_iff_getElem.mp h i j (by omega) hj hlt
    simpa [List.getD, hj, show i < l.length by omega] using this
  · exact Int.le_refl _
theorem srt_of_app {l m : List Nat} (h : Srt key (l ++ m)) : Srt key m := (srt_app.mp h).2.1
theorem drop_get {po l : List Nat} {i j k : Nat} (h : Srt key (po ++ l.drop i)) (hj : i ≤ j) (hjk : j ≤ k) (hk : k < l.length) : key (l.getD j 0) ≤ key (l.getD k 0) := by
  have := srt_get (srt_of_app h) (i := j - i) (j := k - i) (by omega) (by rw [List.length_drop]; omega)
  simpa [List.getD, List.getElem?_drop, show i + (j - i) = j by omega, show i + (k - i) = k by omega] using this
def Mrg (key : Nat → Int) (it : Array Keyed) (la lb : List Nat) (out : Array Keyed) : Prop := ∃ po : List Nat, out = (po.map (kas_item it)).toArray ∧ po.Perm (la ++ lb) ∧ Srt key po
theorem mlo_done {it : Array Keyed} {la lb po : List Nat} {ia ib : Nat} (perm : po.Perm (la.take ia ++ lb.take ib)) (sa : Srt key (po ++ la.drop ia)) (sb : Srt key (po ++ lb.drop ib)) (hib : ib = lb.length ∨ ia = la.length) :
    Mrg key it la lb ((po.map (kas_item it)).toArray ++ (la.map (kas_item it)).toArray.extract ia la.length ++ (lb.map (kas_item it)).toArray.extract ib lb.length) := by
  refine ⟨po ++ la.drop ia ++ lb.drop ib, ?_, ?_, ?_⟩
  · apply Array.ext'
    simp [List.map_drop, List.take_of_length_le]
  · rw [List.append_assoc]
    refine (perm.append_right _).trans ?_
    have : (la.take ia ++ lb.take ib ++ (la.drop ia ++ lb.drop ib)).Perm ((la.take ia ++ la.drop ia) ++ (lb.take ib ++ lb.drop ib)) := by
      rw [List.append_assoc, List.append_assoc]
      refine List.Perm.append_left _ ?_
      rw [← List.append_assoc, ← List.append_assoc]
      exact List.Perm.append_right _ List.perm_append_comm
    rw [List.take_append_drop, List.take_append_drop] at this
    exact this
  · rcases hib with e | e
    · rw [e, List.drop_length, List.append_nil]
      exact sa
    · rw [e, List.drop_length, List.append_nil]
      exact sb
theorem mlo_last {it : Array Keyed} {la lb po : List Nat} {ia ib : Nat} (perm : po.Perm (la.take ia ++ lb.take ib)) (sa : Srt key (po ++ la.drop ia)) (sb : Srt key (po ++ lb.drop ib)) (hia : ia + 1 = la.length) (top : ∀ x ∈ lb, key x ≤ key (la.getD (la.length - 1) 0)) :
    Mrg key it la lb ((po.map (kas_item it)).toArray ++ (lb.map (kas_item it)).toArray.extract ib lb.length ++ (la.map (kas_item it)).toArray.extract ia la.length) := by
  refine ⟨po ++ lb.drop ib ++ la.drop ia, ?_, ?_, ?_⟩
  · apply Array.ext'
    simp [List.map_drop, List.take_of_length_le]
  · rw [List.append_assoc]
    refine (perm.append_right _).trans ?_
    have : (la.take ia ++ lb.take ib ++ (lb.drop ib ++ la.drop ia)).Perm ((la.take ia ++ la.drop ia) ++ (lb.take ib ++ lb.drop ib)) := by
      rw [List.append_assoc, List.append_assoc]
      refine List.Perm.append_left _ ?_
      rw [← List.append_assoc]
      exact List.perm_append_comm
    rw [List.take_append_drop, List.take_append_drop] at this
    exact this
  · refine srt_app.mpr ⟨sb, srt_of_app sa, fun x hx y hy => ?_⟩
    rcases List.mem_append.mp hx with hx | hx
    · exact (srt_app.mp sa).2.2 x hx y hy
    · obtain ⟨j, h1, h2, rfl⟩ := mem_dropGet hy
      have : j = la.length - 1 := by omega
      rw [this]
      exact top x (List.mem_of_mem_drop hx)
end
end L2
set_option Elab.async false
set_option linter.all false
set_option maxRecDepth 100000
namespace L2
open PySem PySem.Spec PyProof.Rows PySem.W
section
variable {prog : Program} {w : World} {A : Around} {E : Value → Shared → Prop} {κ : SortKind} {it : Array Keyed} {key : Nat → Int} {n : Nat} {s : Shared}
def mergeLo' : Array Keyed → Array Keyed → StateT SortSt Sem (Array Keyed) := sortPriv% PySem.Builtin.mergeLo
structure SameSt (st0 st : SortSt) : Prop where
  k : kindOf st = kindOf st0
  a : arrOf st = arrOf st0
  p : pendingOf st = pendingOf st0
  f : failedOf st = failedOf st0
theorem SameSt.refl (st : SortSt) : SameSt st st := ⟨rfl, rfl, rfl, rfl⟩
theorem kasC_mono {σ α : Type} {M : Model} {m : StateT σ Sem α} {Q Q' : α → σ → Shared → Prop} {st : σ} {s' : Shared} (h : kasC M A E m Q' st s') (g : ∀ a st s', Q' a st s' → Q a st s') : kasC M A E m Q st s' :=
  wpAny_mono h (fun r s' x => g r.1 r.2 s' x) fun _ _ e => e
theorem elemA {l : List Nat} {i : Nat} (hi : i < l.length) {st : SortSt} {Q : Keyed → SortSt → Shared → Prop} (h : Q (kas_item it (l.getD i 0)) st s) : kasC (model prog w) A E (elem' (l.map (kas_item it)).toArray i) Q st s := by
  rw [elem'_eq, show ((l.map (kas_item it)).toArray)[i]? = some (kas_item it (l.getD i 0)) by simp [List.getD, hi]]
  exact kasC_pure h
theorem getD_lt {l : List Nat} (hl : ∀ x ∈ l, x < n) {i : Nat} (hi : i < l.length) : l.getD i 0 < n := by
  rw [List.getD_eq_getElem?_getD, List.getElem?_eq_getElem hi]
  exact hl _ (List.getElem_mem hi)
theorem getA (l : List Nat) (i : Nat) : l.toArray.getD i 0 = l.getD i 0 := by simp [Array.getD, List.getD]; split <;> simp_all
theorem gallopF (hc : CmpBy n key (kas_cmp prog w A κ it) s) {k : Nat} (hk : k < n) {l : List Nat} (hl : ∀ x ∈ l, x < n) {base m hint : Nat} (hb : base + m ≤ l.length) (hh : hint < m)
    (mono : ∀ i j, base ≤ i → i ≤ j → j < base + m → key (l.getD i 0) ≤ key (l.getD j 0)) {st : SortSt} (hkind : kindOf st = κ) {Q : Option Nat → SortSt → Shared → Prop}
    (h : ∀ r, r ≤ m → (∀ i, base ≤ i → i < base + r → key (l.getD i 0) ≤ key k) → (∀ i, base + r ≤ i → i < base + m → key k < key (l.getD i 0)) → Q (some r) st s) :
    kasC (model prog w) A E (gallop' false (kas_item it k) (l.map (kas_item it)).toArray base m hint) Q st s := by
  rw [← List.map_toArray]
  refine gallop_ok hc hk (fun i hi => by rw [getA]; exact getD_lt hl (by simpa using hi)) (by simpa using hb) hh (fun i j hij hj hB => ?_) hkind fun r hr a b => h r hr (fun i h1 h2 => ?_) (fun i h1 h2 => ?_)
  · simp only [bey, getA, Bool.false_eq_true, if_false, Bool.not_eq_true', decide_eq_false_iff_not, Int.not_lt] at hB ⊢
    have := mono (base + i) (base + j) (by omega) (by omega) (by omega)
    omega
  · have := a (i - base) (by omega)
    simp only [bey, getA, Bool.false_eq_true, if_false, Bool.not_eq_true', decide_eq_false_iff_not, Int.not_lt] at this
    rwa [show base + (i - base) = i by omega] at this
  · have := b (i - base) (by omega) (by omega)
    simp only [bey, getA, Bool.false_eq_true, if_false, Bool.not_eq_false', decide_eq_true_eq] at this
    rwa [show base + (i - base) = i by omega] at this
theorem gallopT (hc : CmpBy n key (kas_cmp prog w A κ it) s) {k : Nat} (hk : k < n) {l : List Nat} (hl : ∀ x ∈ l, x < n) {base m hint : Nat} (hb : base + m ≤ l.length) (hh : hint < m)
    (mono : ∀ i j, base ≤ i → i ≤ j → j < base + m → key (l.getD i 0) ≤ key (l.getD j 0)) {st : SortSt} (hkind : kindOf st = κ) {Q : Option Nat → SortSt → Shared → Prop}
    (h : ∀ r, r ≤ m → (∀ i, base ≤ i → i < base + r → key (l.getD i 0) < key k) → (∀ i, base + r ≤ i → i < base + m → key k ≤ key (l.getD i 0)) → Q (some r) st s) :
    kasC (model prog w) A E (gallop' true (kas_item it k) (l.map (kas_item it)).toArray base m hint) Q st s := by
  rw [← List.map_toArray]
  refine gallop_ok hc hk (fun i hi => by rw [getA]; exact getD_lt hl (by simpa using hi)) (by simpa using hb) hh (fun i j hij hj hB => ?_) hkind fun r hr a b => h r hr (fun i h1 h2 => ?_) (fun i h1 h2 => ?_)
  · simp only [bey, getA, if_true, decide_eq_true_eq] at hB ⊢
    have := mono (base + i) (base + j) (by omega) (by omega) (by omega)
    omega
  · have := a (i - base) (by omega)
    simp only [bey, getA, if_true, decide_eq_true_eq] at this
    rwa [show base + (i - base) = i by omega] at this
  · have := b (i - base) (by omega) (by omega)
    simp only [bey, getA, if_true, decide_eq_false_iff_not, Int.not_lt] at this
    rwa [show base + (i - base) = i by omega] at this
theorem push_map (po : List Nat) (y : Nat) : (po.map (kas_item it)).toArray.push (kas_item it y) = ((po ++ [y]).map (kas_item it)).toArray := by simp
theorem ext_map (po l : List Nat) (i k : Nat) : (po.map (kas_item it)).toArray ++ (l.map (kas_item it)).toArray.extract i (i + k) = ((po ++ (l.drop i).take k).map (kas_item it)).toArray := by
  apply Array.ext'
  simp [List.map_drop, List.map_take, List.drop_take]
end
end L2
set_option Elab.async false
set_option linter.all false
set_option maxRecDepth 100000
namespace L2
open PySem PySem.Spec PyProof.Rows PySem.W
section
variable {prog : Program} {w : World} {A : Around} {E : Value → Shared → Prop} {κ : SortKind} {it : Array Keyed} {key : Nat → Int} {n : Nat} {s : Shared}
def JLo (key : Nat → Int) (it : Array Keyed) (la lb : List Nat) (out : Array Keyed) (ia ib : Nat) : Prop := ∃ po : List Nat, out = (po.map (kas_item it)).toArray ∧ MLo key la lb po ia ib
theorem mergeLo_ok (hc : CmpBy n key (kas_cmp prog w A κ it) s) {la lb : List Nat} (hla : ∀ x ∈ la, x < n) (hlb : ∀ x ∈ lb, x < n) (sla : Srt key la) (slb : Srt key lb) (h0 : 0 < la.length) (h1 : 0 < lb.length)
    (first : ∀ x ∈ la, key (lb.getD 0 0) ≤ key x) (top : ∀ x ∈ lb, key x ≤ key (la.getD (la.length - 1) 0)) {st : SortSt} (hkind : kindOf st = κ) {Q : Array Keyed → SortSt → Shared → Prop}
    (h : ∀ out st', Mrg key it la lb out → SameSt st st' → Q out st' s) :
    kasC (model prog w) A E (mergeLo' (la.map (kas_item it)).toArray (lb.map (kas_item it)).toArray) Q st s := by
  unfold mergeLo'
  with_unfolding_all refine kasC_bind (kasC_lift (wpAny_rule ?_))
  refine kasC_bind (elemA h1 ?_)
  dsimp only
  generalize hza : (List.map (kas_item it) la).toArray.size = za
  obtain rfl : la.length = za := by rw [← hza]; simp
  generalize hzb : (List.map (kas_item it) lb).toArray.size = zb
  obtain rfl : lb.length = zb := by rw [← hzb]; simp
  have perm0 : [lb.getD 0 0].Perm (la.take 0 ++ lb.take 1) := by
    have := take1 (l := lb) (i := 0) h1
    simp only [List.drop_zero] at this
    rw [this]
    exact List.Perm.refl _
  have sb0 : Srt key ([lb.getD 0 0] ++ lb.drop 1) := by
    have := take1 (l := lb) (i := 0) h1
    simp only [List.drop_zero] at this
    rw [← this, List.take_append_drop]
    exact slb
  have sa0 : Srt key ([lb.getD 0 0] ++ la.drop 0) := srt_app.mpr ⟨List.pairwise_singleton _ _, by rw [List.drop_zero]; exact sla, fun x hx y hy => by
    rw [List.mem_singleton.mp hx]
    exact first y (by rwa [List.drop_zero] at hy)⟩
  have e0 : #[kas_item it (lb.getD 0 0)] = ([lb.getD 0 0].map (kas_item it)).toArray := rfl
  rw [e0]
  by_cases c1 : 1 = lb.length
  · rw [if_pos (by simpa using c1)]
    exact kasC_pure (h _ _ (mlo_done perm0 sa0 sb0 (.inl c1)) (SameSt.refl st))
  rw [if_neg (by simpa using c1)]
  by_cases c2 : 0 + 1 = la.length
  · rw [if_pos (by simpa using c2)]
    exact kasC_pure (h _ _ (mlo_last perm0 sa0 sb0 c2 top) (SameSt.refl st))
  rw [if_neg (by simpa using c2)]
  refine kasC_bind (kasC_get ?_)
  refine kasC_bind (kasC_mono (Q' := fun c st' s' => s = s' ∧ SameSt st st' ∧ ∃ out' o ia ib g, c = (some out', o, ia, ib, g) ∧ Mrg key it la lb out') (kasC_range (kasC_for (fun x c st' s' => s = s' ∧ SameSt st st' ∧ ∃ o ia ib g, c = (none, o, ia, ib, g) ∧ JLo key it la lb o ia ib ∧ x + 1 ≤ ia + ib) ?step _ 0 _ _ _ ?fin ⟨rfl, SameSt.refl st, _, _, _, _, rfl, ⟨_, rfl, perm0, sa0, sb0, by omega, by omega⟩, by omega⟩)) ?after)
  case after =>
    rintro c st' s' ⟨rfl, hs, out', o, ia, ib, g, rfl, hm⟩
    exact kasC_pure (h _ _ hm hs)
  case fin =>
    rintro c st' s' ⟨rfl, hs, o, ia, ib, g, rfl, ⟨po, rfl, m⟩, hx⟩
    have := m.pa
    have := m.pb
    omega
  case step =>
    rintro x c st' s' ⟨rfl, hs, o, ia, ib, g, rfl, hJ, hx⟩
    dsimp only
    refine kasC_bind (kasC_mono (Q' := fun c st' s' => s = s' ∧ SameSt st st' ∧ ((∃ out' o ia ib ac bc, c = (some out', o, ia, ib, ac, bc) ∧ Mrg key it la lb out') ∨ ∃ o ia ib ac bc, c = (none, o, ia, ib, ac, bc) ∧ JLo key it la lb o ia ib ∧ x + 2 ≤ ia + ib))
      (kasC_range (kasC_for (fun y c st' s' => s = s' ∧ SameSt st st' ∧ ∃ o ia ib ac bc, c = (none, o, ia, ib, ac, bc) ∧ JLo key it la lb o ia ib ∧ x + 1 + y ≤ ia + ib) ?step1 _ 0 _ _ _ ?fin1 ⟨rfl, hs, _, _, _, _, _, rfl, hJ, by omega⟩)) ?after1)
    case fin1 =>
      rintro c st' s' ⟨rfl, hs, o, ia, ib, ac, bc, rfl, hJ, hx⟩
      exact ⟨rfl, hs, .inr ⟨_, _, _, _, _, rfl, hJ, by omega⟩⟩
    case step1 =>
      rintro y c st' s' ⟨rfl, hs, o, ia, ib, ac, bc, rfl, ⟨po, rfl, m⟩, hx⟩
      have m1 := m.pa
      have m2 := m.pb
      have hk' : kindOf st' = κ := hs.k.trans hkind
      dsimp only
      refine kasC_bind (elemA m2 ?_)
      refine kasC_bind (elemA (show ia < la.length by omega) ?_)
      refine kasC_bind (lt_by hc (getD_lt hlb m2) (getD_lt hla (show ia < la.length by omega)) hk' ?_)
      dsimp only
      by_cases hw : key (lb.getD ib 0) < key (la.getD ia 0)
      · rw [if_pos (by simpa using hw)]
        refine kasC_bind (elemA m2 ?_)
        have b1 := mlo_b 1 m.perm m.sa m.sb (fun x hx y hy => by
          rw [take1 m2, List.mem_singleton] at hx
          obtain ⟨j, j1, j2, rfl⟩ := mem_dropGet hy
          have := drop_get m.sa (Nat.le_refl _) j1 j2
          rw [hx]
          omega)
        rw [take1 m2] at b1
        rw [push_map]
        try dsimp only
        by_cases hz : ib + 1 = lb.length
        · rw [if_pos (by simpa using hz)]
          exact kasC_pure ⟨rfl, hs, .inl ⟨_, _, _, _, _, _, rfl, mlo_done b1.1 b1.2.1 b1.2.2 (.inl hz)⟩⟩
        · rw [if_neg (by simpa using hz)]
          have J' : JLo key it la lb ((po ++ [lb.getD ib 0]).map (kas_item it)).toArray ia (ib + 1) := ⟨_, rfl, b1.1, b1.2.1, b1.2.2, m1, by omega⟩
          by_cases hg : bc + 1 ≥ g
          · rw [if_pos hg]
            exact kasC_pure ⟨rfl, hs, .inr ⟨_, _, _, _, _, rfl, J', by omega⟩⟩
          · rw [if_neg hg]
            exact kasC_pure ⟨rfl, hs, _, _, _, _, _, rfl, J', by omega⟩
      · rw [if_neg (by simpa using hw)]
        refine kasC_bind (elemA (show ia < la.length by omega) ?_)
        have b1 := mlo_a 1 m.perm m.sa m.sb (fun x hx y hy => by
          rw [take1 (show ia < la.length by omega), List.mem_singleton] at hx
          obtain ⟨j, j1, j2, rfl⟩ := mem_dropGet hy
          have := drop_get m.sb (Nat.le_refl _) j1 j2
          rw [hx]
          omega)
        rw [take1 (show ia < la.length by omega)] at b1
        rw [push_map]
        try dsimp only
        by_cases hz : ia + 1 + 1 = la.length
        · rw [if_pos (by simpa using hz)]
          exact kasC_pure ⟨rfl, hs, .inl ⟨_, _, _, _, _, _, rfl, mlo_last b1.1 b1.2.1 b1.2.2 hz top⟩⟩
        · rw [if_neg (by simpa using hz)]
          have J' : JLo key it la lb ((po ++ [la.getD ia 0]).map (kas_item it)).toArray (ia + 1) ib := ⟨_, rfl, b1.1, b1.2.1, b1.2.2, by omega, m2⟩
          by_cases hg : ac + 1 ≥ g
          · rw [if_pos hg]
            exact kasC_pure ⟨rfl, hs, .inr ⟨_, _, _, _, _, rfl, J', by omega⟩⟩
          · rw [if_neg hg]
            exact kasC_pure ⟨rfl, hs, _, _, _, _, _, rfl, J', by omega⟩
    case after1 =>
      rintro c st' s' ⟨rfl, hs, ⟨out', o, ia, ib, ac, bc, rfl, hm⟩ | ⟨o, ia, ib, ac, bc, rfl, hJ, hx⟩⟩
      · exact kasC_pure ⟨rfl, hs, _, _, _, _, _, rfl, hm⟩
      · dsimp only
        refine kasC_bind (kasC_lift (wpAny_rule ?_))
        try dsimp only
        refine kasC_bind (kasC_mono (Q' := fun c st' s' => s = s' ∧ SameSt st st' ∧ ((∃ out' o ia ib g ac bc, c = (some out', o, ia, ib, g, ac, bc) ∧ Mrg key it la lb out') ∨ ∃ o ia ib g ac bc, c = (none, o, ia, ib, g, ac, bc) ∧ JLo key it la lb o ia ib ∧ x + 2 ≤ ia + ib))
          (kasC_range (kasC_for (fun y c st' s' => s = s' ∧ SameSt st st' ∧ ∃ o ia ib g ac bc, c = (none, o, ia, ib, g, ac, bc) ∧ JLo key it la lb o ia ib ∧ x + 2 ≤ ia + ib) ?step2 _ 0 _ _ _ ?fin2 ⟨rfl, hs, _, _, _, _, _, _, rfl, hJ, by omega⟩)) ?after2)
        case fin2 =>
          rintro c st' s' ⟨rfl, hs, o, ia, ib, g, ac, bc, rfl, hJ, hx⟩
          exact ⟨rfl, hs, .inr ⟨_, _, _, _, _, _, rfl, hJ, by omega⟩⟩
        case after2 =>
          rintro c st' s' ⟨rfl, hs, ⟨out', o, ia, ib, g, ac, bc, rfl, hm⟩ | ⟨o, ia, ib, g, ac, bc, rfl, hJ, hx⟩⟩
          · exact kasC_pure ⟨rfl, hs, _, _, _, _, _, rfl, hm⟩
          · dsimp only
            refine kasC_bind (kasC_modify ?_)
            exact kasC_pure ⟨rfl, ⟨hs.k, hs.a, hs.p, hs.f⟩, _, _, _, _, rfl, hJ, by omega⟩
        case step2 =>
          rintro y c st' s' ⟨rfl, hs, o, ia, ib, g, ac, bc, rfl, ⟨po, rfl, m⟩, hx⟩
          have m1 := m.pa
          have m2 := m.pb
          dsimp only
          by_cases hg1 : g > 1
          · rw [if_pos hg1]
            refine kasC_bind (kasC_modify ?_)
            refine kasC_bind (elemA m2 ?_)
            refine kasC_bind (gallopF hc (getD_lt hlb m2) hla (base := ia) (m := la.length - ia) (hint := 0) (by omega) (by omega) (fun i j a b c => drop_get m.sa a b (by omega)) (by exact hs.k.trans hkind) ?_)
            intro k hk1 lo1 hi1
            dsimp only
            by_cases hk0 : k > 0
            · rw [if_pos hk0]
              have p1 := mlo_a k m.perm m.sa m.sb (fun x hx y hy => by
                obtain ⟨j, j0, j1, rfl⟩ := mem_takeDrop hx
                obtain ⟨j', a1, a2, rfl⟩ := mem_dropGet hy
                have := lo1 (ia + j) (by omega) (by omega)
                have := drop_get m.sb (Nat.le_refl _) a1 a2
                omega)
              rw [ext_map]
              by_cases hz : ia + k + 1 = la.length
              · rw [if_pos (by simpa using hz)]
                exact kasC_pure ⟨rfl, ⟨hs.k, hs.a, hs.p, hs.f⟩, .inl ⟨_, _, _, _, _, _, _, rfl, mlo_last p1.1 p1.2.1 p1.2.2 hz top⟩⟩
              rw [if_neg (by simpa using hz)]
              by_cases hz2 : ia + k = la.length
              · rw [if_pos (by simpa using hz2)]
                exact kasC_pure ⟨rfl, ⟨hs.k, hs.a, hs.p, hs.f⟩, .inl ⟨_, _, _, _, _, _, _, rfl, mlo_done p1.1 p1.2.1 p1.2.2 (.inr hz2)⟩⟩
              rw [if_neg (by simpa using hz2)]
              have hiA : ∀ i, ia + k ≤ i → i < la.length → key (lb.getD ib 0) < key (la.getD i 0) := fun i a b => hi1 i a (by omega)
              refine kasC_bind (elemA m2 ?_)
              have p2 := mlo_b 1 p1.1 p1.2.1 p1.2.2 (fun x hx y hy => by
                rw [take1 m2, List.mem_singleton] at hx
                obtain ⟨j, j1, j2, rfl⟩ := mem_dropGet hy
                have := hiA j j1 j2
                rw [hx]
                omega)
              rw [take1 m2] at p2
              rw [push_map]
              by_cases hz3 : ib + 1 = lb.length
              · rw [if_pos (by simpa using hz3)]
                exact kasC_pure ⟨rfl, ⟨hs.k, hs.a, hs.p, hs.f⟩, .inl ⟨_, _, _, _, _, _, _, rfl, mlo_done p2.1 p2.2.1 p2.2.2 (.inl hz3)⟩⟩
              rw [if_neg (by simpa using hz3)]
              refine kasC_bind (elemA (show ia + k < la.length by omega) ?_)
              refine kasC_bind (gallopT hc (getD_lt hla (show ia + k < la.length by omega)) hlb (base := ib + 1) (m := lb.length - (ib + 1)) (hint := 0) (by omega) (by omega) (fun i j a b c => drop_get p2.2.2 a b (by omega)) (by exact hs.k.trans hkind) ?_)
              intro k2 hk2 lo2 hi2
              dsimp only
              by_cases hk3 : k2 > 0
              · rw [if_pos hk3]
                have p3 := mlo_b k2 p2.1 p2.2.1 p2.2.2 (fun x hx y hy => by
                  obtain ⟨j, j0, j1, rfl⟩ := mem_takeDrop hx
                  obtain ⟨j', a1, a2, rfl⟩ := mem_dropGet hy
                  have := lo2 (ib + 1 + j) (by omega) (by omega)
                  have := drop_get p2.2.1 (Nat.le_refl _) a1 a2
                  omega)
                rw [ext_map]
                by_cases hz4 : ib + 1 + k2 = lb.length
                · rw [if_pos (by simpa using hz4)]
                  exact kasC_pure ⟨rfl, ⟨hs.k, hs.a, hs.p, hs.f⟩, .inl ⟨_, _, _, _, _, _, _, rfl, mlo_done p3.1 p3.2.1 p3.2.2 (.inl hz4)⟩⟩
                rw [if_neg (by simpa using hz4)]
                have hiB : ∀ i, ib + 1 + k2 ≤ i → i < lb.length → key (la.getD (ia + k) 0) ≤ key (lb.getD i 0) := fun i a b => hi2 i a (by omega)
                refine kasC_bind (elemA (show ia + k < la.length by omega) ?_)
                have p4 := mlo_a 1 p3.1 p3.2.1 p3.2.2 (fun x hx y hy => by
                  rw [take1 (show ia + k < la.length by omega), List.mem_singleton] at hx
                  obtain ⟨j, j1, j2, rfl⟩ := mem_dropGet hy
                  have := hiB j j1 j2
                  rw [hx]
                  exact this)
                rw [take1 (show ia + k < la.length by omega)] at p4
                rw [push_map]
                by_cases hz5 : ia + k + 1 + 1 = la.length
                · rw [if_pos (by simpa using hz5)]
                  exact kasC_pure ⟨rfl, ⟨hs.k, hs.a, hs.p, hs.f⟩, .inl ⟨_, _, _, _, _, _, _, rfl, mlo_last p4.1 p4.2.1 p4.2.2 hz5 top⟩⟩
                rw [if_neg (by simpa using hz5)]
                by_cases hb : (decide (k < 7) && decide (k2 < 7)) = true
                · rw [if_pos hb]
                  exact kasC_pure ⟨rfl, ⟨hs.k, hs.a, hs.p, hs.f⟩, .inr ⟨_, _, _, _, _, _, rfl, ⟨_, rfl, p4.1, p4.2.1, p4.2.2, by omega, by omega⟩, by omega⟩⟩
                · rw [if_neg hb]
                  exact kasC_pure ⟨rfl, ⟨hs.k, hs.a, hs.p, hs.f⟩, _, _, _, _, _, _, rfl, ⟨_, rfl, p4.1, p4.2.1, p4.2.2, by omega, by omega⟩, by omega⟩
              · rw [if_neg hk3]
                have p3 := p2
                have hiB : ∀ i, ib + 1 ≤ i → i < lb.length → key (la.getD (ia + k) 0) ≤ key (lb.getD i 0) := fun i a b => hi2 i (by omega) (by omega)
                refine kasC_bind (elemA (show ia + k < la.length by omega) ?_)
                have p4 := mlo_a 1 p3.1 p3.2.1 p3.2.2 (fun x hx y hy => by
                  rw [take1 (show ia + k < la.length by omega), List.mem_singleton] at hx
                  obtain ⟨j, j1, j2, rfl⟩ := mem_dropGet hy
                  have := hiB j j1 j2
                  rw [hx]
                  exact this)
                rw [take1 (show ia + k < la.length by omega)] at p4
                rw [push_map]
                by_cases hz5 : ia + k + 1 + 1 = la.length
                · rw [if_pos (by simpa using hz5)]
                  exact kasC_pure ⟨rfl, ⟨hs.k, hs.a, hs.p, hs.f⟩, .inl ⟨_, _, _, _, _, _, _, rfl, mlo_last p4.1 p4.2.1 p4.2.2 hz5 top⟩⟩
                rw [if_neg (by simpa using hz5)]
                by_cases hb : (decide (k < 7) && decide (k2 < 7)) = true
                · rw [if_pos hb]
                  exact kasC_pure ⟨rfl, ⟨hs.k, hs.a, hs.p, hs.f⟩, .inr ⟨_, _, _, _, _, _, rfl, ⟨_, rfl, p4.1, p4.2.1, p4.2.2, by omega, by omega⟩, by omega⟩⟩
                · rw [if_neg hb]
                  exact kasC_pure ⟨rfl, ⟨hs.k, hs.a, hs.p, hs.f⟩, _, _, _, _, _, _, rfl, ⟨_, rfl, p4.1, p4.2.1, p4.2.2, by omega, by omega⟩, by omega⟩
            · rw [if_neg hk0]
              have p1 : po.Perm (la.take ia ++ lb.take ib) ∧ Srt key (po ++ la.drop ia) ∧ Srt key (po ++ lb.drop ib) := ⟨m.perm, m.sa, m.sb⟩
              have hiA : ∀ i, ia ≤ i → i < la.length → key (lb.getD ib 0) < key (la.getD i 0) := fun i a b => hi1 i (by omega) (by omega)
              refine kasC_bind (elemA m2 ?_)
              have p2 := mlo_b 1 p1.1 p1.2.1 p1.2.2 (fun x hx y hy => by
                rw [take1 m2, List.mem_singleton] at hx
                obtain ⟨j, j1, j2, rfl⟩ := mem_dropGet hy
                have := hiA j j1 j2
                rw [hx]
                omega)
              rw [take1 m2] at p2
              rw [push_map]
              by_cases hz3 : ib + 1 = lb.length
              · rw [if_pos (by simpa using hz3)]
                exact kasC_pure ⟨rfl, ⟨hs.k, hs.a, hs.p, hs.f⟩, .inl ⟨_, _, _, _, _, _, _, rfl, mlo_done p2.1 p2.2.1 p2.2.2 (.inl hz3)⟩⟩
              rw [if_neg (by simpa using hz3)]
              refine kasC_bind (elemA (show ia < la.length by omega) ?_)
              refine kasC_bind (gallopT hc (getD_lt hla (show ia < la.length by omega)) hlb (base := ib + 1) (m := lb.length - (ib + 1)) (hint := 0) (by omega) (by omega) (fun i j a b c => drop_get p2.2.2 a b (by omega)) (by exact hs.k.trans hkind) ?_)
              intro k2 hk2 lo2 hi2
              dsimp only
              by_cases hk3 : k2 > 0
              · rw [if_pos hk3]
                have p3 := mlo_b k2 p2.1 p2.2.1 p2.2.2 (fun x hx y hy => by
                  obtain ⟨j, j0, j1, rfl⟩ := mem_takeDrop hx
                  obtain ⟨j', a1, a2, rfl⟩ := mem_dropGet hy
                  have := lo2 (ib + 1 + j) (by omega) (by omega)
                  have := drop_get p2.2.1 (Nat.le_refl _) a1 a2
                  omega)
                rw [ext_map]
                by_cases hz4 : ib + 1 + k2 = lb.length
                · rw [if_pos (by simpa using hz4)]
                  exact kasC_pure ⟨rfl, ⟨hs.k, hs.a, hs.p, hs.f⟩, .inl ⟨_, _, _, _, _, _, _, rfl, mlo_done p3.1 p3.2.1 p3.2.2 (.inl hz4)⟩⟩
                rw [if_neg (by simpa using hz4)]
                have hiB : ∀ i, ib + 1 + k2 ≤ i → i < lb.length → key (la.getD (ia) 0) ≤ key (lb.getD i 0) := fun i a b => hi2 i a (by omega)
                refine kasC_bind (elemA (show ia < la.length by omega) ?_)
                have p4 := mlo_a 1 p3.1 p3.2.1 p3.2.2 (fun x hx y hy => by
                  rw [take1 (show ia < la.length by omega), List.mem_singleton] at hx
                  obtain ⟨j, j1, j2, rfl⟩ := mem_dropGet hy
                  have := hiB j j1 j2
                  rw [hx]
                  exact this)
                rw [take1 (show ia < la.length by omega)] at p4
                rw [push_map]
                by_cases hz5 : ia + 1 + 1 = la.length
                · rw [if_pos (by simpa using hz5)]
                  exact kasC_pure ⟨rfl, ⟨hs.k, hs.a, hs.p, hs.f⟩, .inl ⟨_, _, _, _, _, _, _, rfl, mlo_last p4.1 p4.2.1 p4.2.2 hz5 top⟩⟩
                rw [if_neg (by simpa using hz5)]
                by_cases hb : (decide (k < 7) && decide (k2 < 7)) = true
                · rw [if_pos hb]
                  exact kasC_pure ⟨rfl, ⟨hs.k, hs.a, hs.p, hs.f⟩, .inr ⟨_, _, _, _, _, _, rfl, ⟨_, rfl, p4.1, p4.2.1, p4.2.2, by omega, by omega⟩, by omega⟩⟩
                · rw [if_neg hb]
                  exact kasC_pure ⟨rfl, ⟨hs.k, hs.a, hs.p, hs.f⟩, _, _, _, _, _, _, rfl, ⟨_, rfl, p4.1, p4.2.1, p4.2.2, by omega, by omega⟩, by omega⟩
              · rw [if_neg hk3]
                have p3 := p2
                have hiB : ∀ i, ib + 1 ≤ i → i < lb.length → key (la.getD (ia) 0) ≤ key (lb.getD i 0) := fun i a b => hi2 i (by omega) (by omega)
                refine kasC_bind (elemA (show ia < la.length by omega) ?_)
                have p4 := mlo_a 1 p3.1 p3.2.1 p3.2.2 (fun x hx y hy => by
                  rw [take1 (show ia < la.length by omega), List.mem_singleton] at hx
                  obtain ⟨j, j1, j2, rfl⟩ := mem_dropGet hy
                  have := hiB j j1 j2
                  rw [hx]
                  exact this)
                rw [take1 (show ia < la.length by omega)] at p4
                rw [push_map]
                by_cases hz5 : ia + 1 + 1 = la.length
                · rw [if_pos (by simpa using hz5)]
                  exact kasC_pure ⟨rfl, ⟨hs.k, hs.a, hs.p, hs.f⟩, .inl ⟨_, _, _, _, _, _, _, rfl, mlo_last p4.1 p4.2.1 p4.2.2 hz5 top⟩⟩
                rw [if_neg (by simpa using hz5)]
                by_cases hb : (decide (k < 7) && decide (k2 < 7)) = true
                · rw [if_pos hb]
                  exact kasC_pure ⟨rfl, ⟨hs.k, hs.a, hs.p, hs.f⟩, .inr ⟨_, _, _, _, _, _, rfl, ⟨_, rfl, p4.1, p4.2.1, p4.2.2, by omega, by omega⟩, by omega⟩⟩
                · rw [if_neg hb]
                  exact kasC_pure ⟨rfl, ⟨hs.k, hs.a, hs.p, hs.f⟩, _, _, _, _, _, _, rfl, ⟨_, rfl, p4.1, p4.2.1, p4.2.2, by omega, by omega⟩, by omega⟩
          · rw [if_neg hg1]
            refine kasC_bind (kasC_modify ?_)
            refine kasC_bind (elemA m2 ?_)
            refine kasC_bind (gallopF hc (getD_lt hlb m2) hla (base := ia) (m := la.length - ia) (hint := 0) (by omega) (by omega) (fun i j a b c => drop_get m.sa a b (by omega)) (by exact hs.k.trans hkind) ?_)
            intro k hk1 lo1 hi1
            dsimp only
            by_cases hk0 : k > 0
            · rw [if_pos hk0]
              have p1 := mlo_a k m.perm m.sa m.sb (fun x hx y hy => by
                obtain ⟨j, j0, j1, rfl⟩ := mem_takeDrop hx
                obtain ⟨j', a1, a2, rfl⟩ := mem_dropGet hy
                have := lo1 (ia + j) (by omega) (by omega)
                have := drop_get m.sb (Nat.le_refl _) a1 a2
                omega)
              rw [ext_map]
              by_cases hz : ia + k + 1 = la.length
              · rw [if_pos (by simpa using hz)]
                exact kasC_pure ⟨rfl, ⟨hs.k, hs.a, hs.p, hs.f⟩, .inl ⟨_, _, _, _, _, _, _, rfl, mlo_last p1.1 p1.2.1 p1.2.2 hz top⟩⟩
              rw [if_neg (by simpa using hz)]
              by_cases hz2 : ia + k = la.length
              · rw [if_pos (by simpa using hz2)]
                exact kasC_pure ⟨rfl, ⟨hs.k, hs.a, hs.p, hs.f⟩, .inl ⟨_, _, _, _, _, _, _, rfl, mlo_done p1.1 p1.2.1 p1.2.2 (.inr hz2)⟩⟩
              rw [if_neg (by simpa using hz2)]
              have hiA : ∀ i, ia + k ≤ i → i < la.length → key (lb.getD ib 0) < key (la.getD i 0) := fun i a b => hi1 i a (by omega)
              refine kasC_bind (elemA m2 ?_)
              have p2 := mlo_b 1 p1.1 p1.2.1 p1.2.2 (fun x hx y hy => by
                rw [take1 m2, List.mem_singleton] at hx
                obtain ⟨j, j1, j2, rfl⟩ := mem_dropGet hy
                have := hiA j j1 j2
                rw [hx]
                omega)
              rw [take1 m2] at p2
              rw [push_map]
              by_cases hz3 : ib + 1 = lb.length
              · rw [if_pos (by simpa using hz3)]
                exact kasC_pure ⟨rfl, ⟨hs.k, hs.a, hs.p, hs.f⟩, .inl ⟨_, _, _, _, _, _, _, rfl, mlo_done p2.1 p2.2.1 p2.2.2 (.inl hz3)⟩⟩
              rw [if_neg (by simpa using hz3)]
              refine kasC_bind (elemA (show ia + k < la.length by omega) ?_)
              refine kasC_bind (gallopT hc (getD_lt hla (show ia + k < la.length by omega)) hlb (base := ib + 1) (m := lb.length - (ib + 1)) (hint := 0) (by omega) (by omega) (fun i j a b c => drop_get p2.2.2 a b (by omega)) (by exact hs.k.trans hkind) ?_)
              intro k2 hk2 lo2 hi2
              dsimp only
              by_cases hk3 : k2 > 0
              · rw [if_pos hk3]
                have p3 := mlo_b k2 p2.1 p2.2.1 p2.2.2 (fun x hx y hy => by
                  obtain ⟨j, j0, j1, rfl⟩ := mem_takeDrop hx
                  obtain ⟨j', a1, a2, rfl⟩ := mem_dropGet hy
                  have := lo2 (ib + 1 + j) (by omega) (by omega)
                  have := drop_get p2.2.1 (Nat.le_refl _) a1 a2
                  omega)
                rw [ext_map]
                by_cases hz4 : ib + 1 + k2 = lb.length
                · rw [if_pos (by simpa using hz4)]
                  exact kasC_pure ⟨rfl, ⟨hs.k, hs.a, hs.p, hs.f⟩, .inl ⟨_, _, _, _, _, _, _, rfl, mlo_done p3.1 p3.2.1 p3.2.2 (.inl hz4)⟩⟩
                rw [if_neg (by simpa using hz4)]
                have hiB : ∀ i, ib + 1 + k2 ≤ i → i < lb.length → key (la.getD (ia + k) 0) ≤ key (lb.getD i 0) := fun i a b => hi2 i a (by omega)
                refine kasC_bind (elemA (show ia + k < la.length by omega) ?_)
                have p4 := mlo_a 1 p3.1 p3.2.1 p3.2.2 (fun x hx y hy => by
                  rw [take1 (show ia + k < la.length by omega), List.mem_singleton] at hx
                  obtain ⟨j, j1, j2, rfl⟩ := mem_dropGet hy
                  have := hiB j j1 j2
                  rw [hx]
                  exact this)
                rw [take1 (show ia + k < la.length by omega)] at p4
                rw [push_map]
                by_cases hz5 : ia + k + 1 + 1 = la.length
                · rw [if_pos (by simpa using hz5)]
                  exact kasC_pure ⟨rfl, ⟨hs.k, hs.a, hs.p, hs.f⟩, .inl ⟨_, _, _, _, _, _, _, rfl, mlo_last p4.1 p4.2.1 p4.2.2 hz5 top⟩⟩
                rw [if_neg (by simpa using hz5)]
                by_cases hb : (decide (k < 7) && decide (k2 < 7)) = true
                · rw [if_pos hb]
                  exact kasC_pure ⟨rfl, ⟨hs.k, hs.a, hs.p, hs.f⟩, .inr ⟨_, _, _, _, _, _, rfl, ⟨_, rfl, p4.1, p4.2.1, p4.2.2, by omega, by omega⟩, by omega⟩⟩
                · rw [if_neg hb]
                  exact kasC_pure ⟨rfl, ⟨hs.k, hs.a, hs.p, hs.f⟩, _, _, _, _, _, _, rfl, ⟨_, rfl, p4.1, p4.2.1, p4.2.2, by omega, by omega⟩, by omega⟩
              · rw [if_neg hk3]
                have p3 := p2
                have hiB : ∀ i, ib + 1 ≤ i → i < lb.length → key (la.getD (ia + k) 0) ≤ key (lb.getD i 0) := fun i a b => hi2 i (by omega) (by omega)
                refine kasC_bind (elemA (show ia + k < la.length by omega) ?_)
                have p4 := mlo_a 1 p3.1 p3.2.1 p3.2.2 (fun x hx y hy => by
                  rw [take1 (show ia + k < la.length by omega), List.mem_singleton] at hx
                  obtain ⟨j, j1, j2, rfl⟩ := mem_dropGet hy
                  have := hiB j j1 j2
                  rw [hx]
                  exact this)
                rw [take1 (show ia + k < la.length by omega)] at p4
                rw [push_map]
                by_cases hz5 : ia + k + 1 + 1 = la.length
                · rw [if_pos (by simpa using hz5)]
                  exact kasC_pure ⟨rfl, ⟨hs.k, hs.a, hs.p, hs.f⟩, .inl ⟨_, _, _, _, _, _, _, rfl, mlo_last p4.1 p4.2.1 p4.2.2 hz5 top⟩⟩
                rw [if_neg (by simpa using hz5)]
                by_cases hb : (decide (k < 7) && decide (k2 < 7)) = true
                · rw [if_pos hb]
                  exact kasC_pure ⟨rfl, ⟨hs.k, hs.a, hs.p, hs.f⟩, .inr ⟨_, _, _, _, _, _, rfl, ⟨_, rfl, p4.1, p4.2.1, p4.2.2, by omega, by omega⟩, by omega⟩⟩
                · rw [if_neg hb]
                  exact kasC_pure ⟨rfl, ⟨hs.k, hs.a, hs.p, hs.f⟩, _, _, _, _, _, _, rfl, ⟨_, rfl, p4.1, p4.2.1, p4.2.2, by omega, by omega⟩, by omega⟩
            · rw [if_neg hk0]
              have p1 : po.Perm (la.take ia ++ lb.take ib) ∧ Srt key (po ++ la.drop ia) ∧ Srt key (po ++ lb.drop ib) := ⟨m.perm, m.sa, m.sb⟩
              have hiA : ∀ i, ia ≤ i → i < la.length → key (lb.getD ib 0) < key (la.getD i 0) := fun i a b => hi1 i (by omega) (by omega)
              refine kasC_bind (elemA m2 ?_)
              have p2 := mlo_b 1 p1.1 p1.2.1 p1.2.2 (fun x hx y hy => by
                rw [take1 m2, List.mem_singleton] at hx
                obtain ⟨j, j1, j2, rfl⟩ := mem_dropGet hy
                have := hiA j j1 j2
                rw [hx]
                omega)
              rw [take1 m2] at p2
              rw [push_map]
              by_cases hz3 : ib + 1 = lb.length
              · rw [if_pos (by simpa using hz3)]
                exact kasC_pure ⟨rfl, ⟨hs.k, hs.a, hs.p, hs.f⟩, .inl ⟨_, _, _, _, _, _, _, rfl, mlo_done p2.1 p2.2.1 p2.2.2 (.inl hz3)⟩⟩
              rw [if_neg (by simpa using hz3)]
              refine kasC_bind (elemA (show ia < la.length by omega) ?_)
              refine kasC_bind (gallopT hc (getD_lt hla (show ia < la.length by omega)) hlb (base := ib + 1) (m := lb.length - (ib + 1)) (hint := 0) (by omega) (by omega) (fun i j a b c => drop_get p2.2.2 a b (by omega)) (by exact hs.k.trans hkind) ?_)
              intro k2 hk2 lo2 hi2
              dsimp only
              by_cases hk3 : k2 > 0
              · rw [if_pos hk3]
                have p3 := mlo_b k2 p2.1 p2.2.1 p2.2.2 (fun x hx y hy => by
                  obtain ⟨j, j0, j1, rfl⟩ := mem_takeDrop hx
                  obtain ⟨j', a1, a2, rfl⟩ := mem_dropGet hy
                  have := lo2 (ib + 1 + j) (by omega) (by omega)
                  have := drop_get p2.2.1 (Nat.le_refl _) a1 a2
                  omega)
                rw [ext_map]
                by_cases hz4 : ib + 1 + k2 = lb.length
                · rw [if_pos (by simpa using hz4)]
                  exact kasC_pure ⟨rfl, ⟨hs.k, hs.a, hs.p, hs.f⟩, .inl ⟨_, _, _, _, _, _, _, rfl, mlo_done p3.1 p3.2.1 p3.2.2 (.inl hz4)⟩⟩
                rw [if_neg (by simpa using hz4)]
                have hiB : ∀ i, ib + 1 + k2 ≤ i → i < lb.length → key (la.getD (ia) 0) ≤ key (lb.getD i 0) := fun i a b => hi2 i a (by omega)
                refine kasC_bind (elemA (show ia < la.length by omega) ?_)
                have p4 := mlo_a 1 p3.1 p3.2.1 p3.2.2 (fun x hx y hy => by
                  rw [take1 (show ia < la.length by omega), List.mem_singleton] at hx
                  obtain ⟨j, j1, j2, rfl⟩ := mem_dropGet hy
                  have := hiB j j1 j2
                  rw [hx]
                  exact this)
                rw [take1 (show ia < la.length by omega)] at p4
                rw [push_map]
                by_cases hz5 : ia + 1 + 1 = la.length
                · rw [if_pos (by simpa using hz5)]
                  exact kasC_pure ⟨rfl, ⟨hs.k, hs.a, hs.p, hs.f⟩, .inl ⟨_, _, _, _, _, _, _, rfl, mlo_last p4.1 p4.2.1 p4.2.2 hz5 top⟩⟩
                rw [if_neg (by simpa using hz5)]
                by_cases hb : (decide (k < 7) && decide (k2 < 7)) = true
                · rw [if_pos hb]
                  exact kasC_pure ⟨rfl, ⟨hs.k, hs.a, hs.p, hs.f⟩, .inr ⟨_, _, _, _, _, _, rfl, ⟨_, rfl, p4.1, p4.2.1, p4.2.2, by omega, by omega⟩, by omega⟩⟩
                · rw [if_neg hb]
                  exact kasC_pure ⟨rfl, ⟨hs.k, hs.a, hs.p, hs.f⟩, _, _, _, _, _, _, rfl, ⟨_, rfl, p4.1, p4.2.1, p4.2.2, by omega, by omega⟩, by omega⟩
              · rw [if_neg hk3]
                have p3 := p2
                have hiB : ∀ i, ib + 1 ≤ i → i < lb.length → key (la.getD (ia) 0) ≤ key (lb.getD i 0) := fun i a b => hi2 i (by omega) (by omega)
                refine kasC_bind (elemA (show ia < la.length by omega) ?_)
                have p4 := mlo_a 1 p3.1 p3.2.1 p3.2.2 (fun x hx y hy => by
                  rw [take1 (show ia < la.length by omega), List.mem_singleton] at hx
                  obtain ⟨j, j1, j2, rfl⟩ := mem_dropGet hy
                  have := hiB j j1 j2
                  rw [hx]
                  exact this)
                rw [take1 (show ia < la.length by omega)] at p4
                rw [push_map]
                by_cases hz5 : ia + 1 + 1 = la.length
                · rw [if_pos (by simpa using hz5)]
                  exact kasC_pure ⟨rfl, ⟨hs.k, hs.a, hs.p, hs.f⟩, .inl ⟨_, _, _, _, _, _, _, rfl, mlo_last p4.1 p4.2.1 p4.2.2 hz5 top⟩⟩
                rw [if_neg (by simpa using hz5)]
                by_cases hb : (decide (k < 7) && decide (k2 < 7)) = true
                · rw [if_pos hb]
                  exact kasC_pure ⟨rfl, ⟨hs.k, hs.a, hs.p, hs.f⟩, .inr ⟨_, _, _, _, _, _, rfl, ⟨_, rfl, p4.1, p4.2.1, p4.2.2, by omega, by omega⟩, by omega⟩⟩
                · rw [if_neg hb]
                  exact kasC_pure ⟨rfl, ⟨hs.k, hs.a, hs.p, hs.f⟩, _, _, _, _, _, _, rfl, ⟨_, rfl, p4.1, p4.2.1, p4.2.2, by omega, by omega⟩, by omega⟩
end
end L2
set_option Elab.async false
set_option linter.all false
set_option maxRecDepth 100000
namespace L2
open PySem PySem.Spec PyProof.Rows PySem.W
section
variable {prog : Program} {w : World} {A : Around} {E : Value → Shared → Prop} {κ : SortKind} {it : Array Keyed} {key : Nat → Int} {n : Nat} {s : Shared}
def mergeHi' : Array Keyed → Array Keyed → StateT SortSt Sem (Array Keyed) := sortPriv% PySem.Builtin.mergeHi
theorem dropCut {l : List Nat} {i j : Nat} (hij : i ≤ j) (hj : j ≤ l.length) : l.drop i = (l.take j).drop i ++ l.drop j := by
  have e : l.drop i = (l.take j ++ l.drop j).drop i := by rw [List.take_append_drop]
  rw [e, List.drop_append_of_le_length (by rw [List.length_take]; omega)]
theorem takeCut {l : List Nat} {i j : Nat} (hij : i ≤ j) : l.take i ++ (l.take j).drop i = l.take j := by
  have := List.take_append_drop i (l.take j)
  rwa [List.take_take, Nat.min_eq_left hij] at this
theorem mhi_a {la lb ro : List Nat} {na nb : Nat} (k : Nat) (hk : k ≤ na) (hna : na ≤ la.length) (perm : ro.Perm (la.drop na ++ lb.drop nb)) (sa : Srt key (la.take na ++ ro)) (sb : Srt key (lb.take nb ++ ro)) (h : ∀ x ∈ (la.take na).drop k, ∀ y ∈ lb.take nb, key y ≤ key x) :
    ((la.take na).drop k ++ ro).Perm (la.drop k ++ lb.drop nb) ∧ Srt key (la.take k ++ ((la.take na).drop k ++ ro)) ∧ Srt key (lb.take nb ++ ((la.take na).drop k ++ ro)) := by
  refine ⟨?_, ?_, ?_⟩
  · rw [dropCut hk hna, List.append_assoc]
    exact List.Perm.append_left _ perm
  · rw [← List.append_assoc, takeCut hk]
    exact sa
  · have s1 := srt_app.mp sa
    have s2 := srt_app.mp sb
    refine srt_app.mpr ⟨s2.1, srt_app.mpr ⟨s1.1.sublist (List.drop_sublist _ _), s2.2.1, fun x hx y hy => s1.2.2 x (List.mem_of_mem_drop hx) y hy⟩, fun x hx y hy => ?_⟩
    rcases List.mem_append.mp hy with hy | hy
    · exact h y hy x hx
    · exact s2.2.2 x hx y hy
theorem mhi_b {la lb ro : List Nat} {na nb : Nat} (k : Nat) (hk : k ≤ nb) (hnb : nb ≤ lb.length) (perm : ro.Perm (la.drop na ++ lb.drop nb)) (sa : Srt key (la.take na ++ ro)) (sb : Srt key (lb.take nb ++ ro)) (h : ∀ x ∈ (lb.take nb).drop k, ∀ y ∈ la.take na, key y ≤ key x) :
    ((lb.take nb).drop k ++ ro).Perm (la.drop na ++ lb.drop k) ∧ Srt key (la.take na ++ ((lb.take nb).drop k ++ ro)) ∧ Srt key (lb.take k ++ ((lb.take nb).drop k ++ ro)) := by
  have := mhi_a (la := lb) (lb := la) k hk hnb (perm.trans List.perm_append_comm) sb sa h
  exact ⟨this.1.trans List.perm_append_comm, this.2.2, this.2.1⟩
theorem last1 {l : List Nat} {i : Nat} (h0 : 0 < i) (h : i ≤ l.length) : (l.take i).drop (i - 1) = [l.getD (i - 1) 0] := by
  rw [List.drop_take, show i - (i - 1) = 1 by omega]
  exact take1 (by omega)
theorem mem_takeGet {l : List Nat} {i y : Nat} (h : y ∈ l.take i) : ∃ j, j < i ∧ j < l.length ∧ y = l.getD j 0 := by
  have := mem_takeDrop (i := 0) (k := i) (y := y) (l := l) (by rwa [List.drop_zero])
  obtain ⟨j, a, b, e⟩ := this
  exact ⟨j, a, by omega, by rw [e]; congr 1; omega⟩
theorem mem_dropTake {l : List Nat} {i k y : Nat} (h : y ∈ (l.take k).drop i) : ∃ j, i ≤ j ∧ j < k ∧ j < l.length ∧ y = l.getD j 0 := by
  rw [List.drop_take] at h
  obtain ⟨j, a, b, e⟩ := mem_takeDrop h
  exact ⟨i + j, by omega, by omega, b, e⟩
theorem take_get {l ro : List Nat} {i j k : Nat} (h : Srt key (l.take i ++ ro)) (hjk : j ≤ k) (hk : k < i) (hl : k < l.length) : key (l.getD j 0) ≤ key (l.getD k 0) := by
  have := srt_get (srt_app.mp h).1 (i := j) (j := k) hjk (by rw [List.length_take]; omega)
  simpa [List.getD, List.getElem?_take, show j < i by omega, hk] using this
theorem mhi_done {la lb ro : List Nat} {na nb : Nat} (perm : ro.Perm (la.drop na ++ lb.drop nb)) (sa : Srt key (la.take na ++ ro)) (sb : Srt key (lb.take nb ++ ro)) (hz : na = 0 ∨ nb = 0) :
    Mrg key it la lb ((la.map (kas_item it)).toArray.extract 0 na ++ (lb.map (kas_item it)).toArray.extract 0 nb ++ (ro.reverse.map (kas_item it)).toArray.reverse) := by
  refine ⟨la.take na ++ lb.take nb ++ ro, ?_, ?_, ?_⟩
  · apply Array.ext'
    simp [List.map_take]
  · refine (List.Perm.append_left _ perm).trans ?_
    have : (la.take na ++ lb.take nb ++ (la.drop na ++ lb.drop nb)).Perm ((la.take na ++ la.drop na) ++ (lb.take nb ++ lb.drop nb)) := by
      rw [List.append_assoc, List.append_assoc]
      refine List.Perm.append_left _ ?_
      rw [← List.append_assoc, ← List.append_assoc]
      exact List.Perm.append_right _ List.perm_append_comm
    rw [List.take_append_drop, List.take_append_drop] at this
    exact this
  · rcases hz with e | e
    · rw [e, List.take_zero, List.nil_append]
      exact sb
    · rw [e, List.take_zero, List.append_nil]
      exact sa
theorem mhi_first {la lb ro : List Nat} {na nb : Nat} (perm : ro.Perm (la.drop na ++ lb.drop nb)) (sa : Srt key (la.take na ++ ro)) (sb : Srt key (lb.take nb ++ ro)) (hz : nb = 1) (first : ∀ x ∈ la, key (lb.getD 0 0) ≤ key x) :
    Mrg key it la lb ((lb.map (kas_item it)).toArray.extract 0 nb ++ (la.map (kas_item it)).toArray.extract 0 na ++ (ro.reverse.map (kas_item it)).toArray.reverse) := by
  refine ⟨lb.take nb ++ la.take na ++ ro, ?_, ?_, ?_⟩
  · apply Array.ext'
    simp [List.map_take]
  · refine (List.Perm.append_left _ perm).trans ?_
    have : (lb.take nb ++ la.take na ++ (la.drop na ++ lb.drop nb)).Perm ((la.take na ++ la.drop na) ++ (lb.take nb ++ lb.drop nb)) := by
      rw [List.append_assoc, ← List.append_assoc (la.take na), ← List.append_assoc (la.take na ++ la.drop na)]
      rw [← List.append_assoc (lb.take nb)]
      exact List.Perm.append_right _ List.perm_append_comm
    rw [List.take_append_drop, List.take_append_drop] at this
    exact this
  · rw [List.append_assoc]
    refine srt_app.mpr ⟨(srt_app.mp sb).1, sa, fun x hx y hy => ?_⟩
    rcases List.mem_append.mp hy with hy | hy
    · obtain ⟨j, h1, h2, rfl⟩ := mem_takeGet hx
      have : j = 0 := by omega
      rw [this]
      exact first y (List.mem_of_mem_take hy)
    · exact (srt_app.mp sb).2.2 x hx y hy
theorem pushR (ro : List Nat) (y : Nat) : (ro.reverse.map (kas_item it)).toArray.push (kas_item it y) = (([y] ++ ro).reverse.map (kas_item it)).toArray := by simp
theorem extR (ro l : List Nat) (i k : Nat) : (ro.reverse.map (kas_item it)).toArray ++ ((l.map (kas_item it)).toArray.extract i k).reverse = (((l.take k).drop i ++ ro).reverse.map (kas_item it)).toArray := by
  apply Array.ext'
  simp [List.map_drop, List.map_take, List.drop_take]
structure MHi (key : Nat → Int) (la lb : List Nat) (ro : List Nat) (na nb : Nat) : Prop where
  perm : ro.Perm (la.drop na ++ lb.drop nb)
  sa : Srt key (la.take na ++ ro)
  sb : Srt key (lb.take nb ++ ro)
  pa : 0 < na
  pb : 1 < nb
  qa : na ≤ la.length
  qb : nb ≤ lb.length
def JHi (key : Nat → Int) (it : Array Keyed) (la lb : List Nat) (out : Array Keyed) (na nb : Nat) : Prop := ∃ ro : List Nat, out = (ro.reverse.map (kas_item it)).toArray ∧ MHi key la lb ro na nb
end
end L2
set_option Elab.async false
set_option linter.all false
set_option maxRecDepth 100000
namespace L2
open PySem PySem.Spec PyProof.Rows PySem.W
section
variable {prog : Program} {w : World} {A : Around} {E : Value → Shared → Prop} {κ : SortKind} {it : Array Keyed} {key : Nat → Int} {n : Nat} {s : Shared}
theorem mergeHi_ok (hc : CmpBy n key (kas_cmp prog w A κ it) s) {la lb : List Nat} (hla : ∀ x ∈ la, x < n) (hlb : ∀ x ∈ lb, x < n) (sla : Srt key la) (slb : Srt key lb) (h0 : 0 < la.length) (h1 : 0 < lb.length)
    (first : ∀ x ∈ la, key (lb.getD 0 0) ≤ key x) (top : ∀ x ∈ lb, key x ≤ key (la.getD (la.length - 1) 0)) {st : SortSt} (hkind : kindOf st = κ) {Q : Array Keyed → SortSt → Shared → Prop}
    (h : ∀ out st', Mrg key it la lb out → SameSt st st' → Q out st' s) :
    kasC (model prog w) A E (mergeHi' (la.map (kas_item it)).toArray (lb.map (kas_item it)).toArray) Q st s := by
  unfold mergeHi'
  with_unfolding_all refine kasC_bind (kasC_lift (wpAny_rule ?_))
  dsimp only
  generalize hza : (List.map (kas_item it) la).toArray.size = za
  obtain rfl : la.length = za := by rw [← hza]; simp
  generalize hzb : (List.map (kas_item it) lb).toArray.size = zb
  obtain rfl : lb.length = zb := by rw [← hzb]; simp
  refine kasC_bind (elemA (show la.length - 1 < la.length by omega) ?_)
  try dsimp only
  have l1 := last1 h0 (Nat.le_refl _)
  rw [List.take_length] at l1
  have perm0 : [la.getD (la.length - 1) 0].Perm (la.drop (la.length - 1) ++ lb.drop lb.length) := by
    rw [l1, List.drop_length]
    exact List.Perm.refl _
  have sa0 : Srt key (la.take (la.length - 1) ++ [la.getD (la.length - 1) 0]) := by
    rw [← l1, List.take_append_drop]
    exact sla
  have sb0 : Srt key (lb.take lb.length ++ [la.getD (la.length - 1) 0]) := srt_app.mpr ⟨by rw [List.take_length]; exact slb, List.pairwise_singleton _ _, fun x hx y hy => by
    rw [List.mem_singleton.mp hy]
    exact top x (by rwa [List.take_length] at hx)⟩
  have e0 : #[kas_item it (la.getD (la.length - 1) 0)] = ([la.getD (la.length - 1) 0].reverse.map (kas_item it)).toArray := rfl
  rw [e0]
  by_cases c1 : la.length - 1 = 0
  · rw [if_pos (by simpa using c1)]
    exact kasC_pure (h _ _ (mhi_done perm0 sa0 sb0 (.inl c1)) (SameSt.refl st))
  rw [if_neg (by simpa using c1)]
  by_cases c2 : lb.length = 1
  · rw [if_pos (by simpa using c2)]
    exact kasC_pure (h _ _ (mhi_first perm0 sa0 sb0 c2 first) (SameSt.refl st))
  rw [if_neg (by simpa using c2)]
  refine kasC_bind (kasC_get ?_)
  refine kasC_bind (kasC_mono (Q' := fun c st' s' => s = s' ∧ SameSt st st' ∧ ∃ out' o ia ib g, c = (some out', o, ia, ib, g) ∧ Mrg key it la lb out') (kasC_range (kasC_for (fun x c st' s' => s = s' ∧ SameSt st st' ∧ ∃ na nb o g, c = (none, na, nb, o, g) ∧ JHi key it la lb o na nb ∧ na + nb + x + 1 ≤ la.length + lb.length) ?step _ 0 _ _ _ ?fin ⟨rfl, SameSt.refl st, _, _, _, _, rfl, ⟨_, rfl, perm0, sa0, sb0, by omega, by omega, by omega, by omega⟩, by omega⟩)) ?after)
  case after =>
    rintro c st' s' ⟨rfl, hs, out', o, ia, ib, g, rfl, hm⟩
    exact kasC_pure (h _ _ hm hs)
  case fin =>
    rintro c st' s' ⟨rfl, hs, na, nb, o, g, rfl, ⟨po, rfl, m⟩, hx⟩
    have := m.pa
    have := m.pb
    omega
  case step =>
    rintro x c st' s' ⟨rfl, hs, na, nb, o, g, rfl, hJ, hx⟩
    dsimp only
    refine kasC_bind (kasC_mono (Q' := fun c st' s' => s = s' ∧ SameSt st st' ∧ ((∃ out' o ia ib ac bc, c = (some out', o, ia, ib, ac, bc) ∧ Mrg key it la lb out') ∨ ∃ na nb o ac bc, c = (none, na, nb, o, ac, bc) ∧ JHi key it la lb o na nb ∧ na + nb + x + 2 ≤ la.length + lb.length))
      (kasC_range (kasC_for (fun y c st' s' => s = s' ∧ SameSt st st' ∧ ∃ na nb o ac bc, c = (none, na, nb, o, ac, bc) ∧ JHi key it la lb o na nb ∧ na + nb + x + 1 + y ≤ la.length + lb.length) ?step1 _ 0 _ _ _ ?fin1 ⟨rfl, hs, _, _, _, _, _, rfl, hJ, by omega⟩)) ?after1)
    case fin1 =>
      rintro c st' s' ⟨rfl, hs, na, nb, o, ac, bc, rfl, hJ, hx⟩
      exact ⟨rfl, hs, .inr ⟨_, _, _, _, _, rfl, hJ, by omega⟩⟩
    case step1 =>
      rintro y c st' s' ⟨rfl, hs, na, nb, o, ac, bc, rfl, ⟨po, rfl, m⟩, hx⟩
      have m1 := m.pa
      have m2 := m.pb
      have m3 := m.qa
      have m4 := m.qb
      have hk' : kindOf st' = κ := hs.k.trans hkind
      dsimp only
      refine kasC_bind (elemA (show nb - 1 < lb.length by omega) ?_)
      refine kasC_bind (elemA (show na - 1 < la.length by omega) ?_)
      refine kasC_bind (lt_by hc (getD_lt hlb (show nb - 1 < lb.length by omega)) (getD_lt hla (show na - 1 < la.length by omega)) hk' ?_)
      dsimp only
      by_cases hw : key (lb.getD (nb - 1) 0) < key (la.getD (na - 1) 0)
      · rw [if_pos (by simpa using hw)]
        refine kasC_bind (elemA (show na - 1 < la.length by omega) ?_)
        have b1 := mhi_a (na - 1) (by omega) m3 m.perm m.sa m.sb (fun x hx y hy => by
          rw [last1 m1 m3, List.mem_singleton] at hx
          obtain ⟨j, j1, j2, rfl⟩ := mem_takeGet hy
          have := take_get m.sb (show j ≤ nb - 1 by omega) (by omega) (by omega)
          rw [hx]
          omega)
        rw [last1 m1 m3] at b1
        rw [pushR]
        try dsimp only
        by_cases hz : na - 1 = 0
        · rw [if_pos (by simpa using hz)]
          exact kasC_pure ⟨rfl, hs, .inl ⟨_, _, _, _, _, _, rfl, mhi_done b1.1 b1.2.1 b1.2.2 (.inl hz)⟩⟩
        · rw [if_neg (by simpa using hz)]
          have J' : JHi key it la lb (([la.getD (na - 1) 0] ++ po).reverse.map (kas_item it)).toArray (na - 1) nb := ⟨_, rfl, b1.1, b1.2.1, b1.2.2, by omega, m2, by omega, m4⟩
          by_cases hg : ac + 1 ≥ g
          · rw [if_pos hg]
            exact kasC_pure ⟨rfl, hs, .inr ⟨_, _, _, _, _, rfl, J', by omega⟩⟩
          · rw [if_neg hg]
            exact kasC_pure ⟨rfl, hs, _, _, _, _, _, rfl, J', by omega⟩
      · rw [if_neg (by simpa using hw)]
        refine kasC_bind (elemA (show nb - 1 < lb.length by omega) ?_)
        have b1 := mhi_b (nb - 1) (by omega) m4 m.perm m.sa m.sb (fun x hx y hy => by
          rw [last1 (by omega) m4, List.mem_singleton] at hx
          obtain ⟨j, j1, j2, rfl⟩ := mem_takeGet hy
          have := take_get m.sa (show j ≤ na - 1 by omega) (by omega) (by omega)
          rw [hx]
          omega)
        rw [last1 (by omega) m4] at b1
        rw [pushR]
        try dsimp only
        by_cases hz : nb - 1 = 1
        · rw [if_pos (by simpa using hz)]
          exact kasC_pure ⟨rfl, hs, .inl ⟨_, _, _, _, _, _, rfl, mhi_first b1.1 b1.2.1 b1.2.2 hz first⟩⟩
        · rw [if_neg (by simpa using hz)]
          have J' : JHi key it la lb (([lb.getD (nb - 1) 0] ++ po).reverse.map (kas_item it)).toArray na (nb - 1) := ⟨_, rfl, b1.1, b1.2.1, b1.2.2, m1, by omega, m3, by omega⟩
          by_cases hg : bc + 1 ≥ g
          · rw [if_pos hg]
            exact kasC_pure ⟨rfl, hs, .inr ⟨_, _, _, _, _, rfl, J', by omega⟩⟩
          · rw [if_neg hg]
            exact kasC_pure ⟨rfl, hs, _, _, _, _, _, rfl, J', by omega⟩
    case after1 =>
      rintro c st' s' ⟨rfl, hs, ⟨out', o, ia, ib, ac, bc, rfl, hm⟩ | ⟨na, nb, o, ac, bc, rfl, hJ, hx⟩⟩
      · exact kasC_pure ⟨rfl, hs, _, _, _, _, _, rfl, hm⟩
      · try dsimp only
        refine kasC_bind (kasC_lift (wpAny_rule ?_))
        try dsimp only
        refine kasC_bind (kasC_mono (Q' := fun c st' s' => s = s' ∧ SameSt st st' ∧ ((∃ out' o ia ib g ac bc, c = (some out', o, ia, ib, g, ac, bc) ∧ Mrg key it la lb out') ∨ ∃ na nb o g ac bc, c = (none, na, nb, o, g, ac, bc) ∧ JHi key it la lb o na nb ∧ na + nb + x + 2 ≤ la.length + lb.length))
          (kasC_range (kasC_for (fun y c st' s' => s = s' ∧ SameSt st st' ∧ ∃ na nb o g ac bc, c = (none, na, nb, o, g, ac, bc) ∧ JHi key it la lb o na nb ∧ na + nb + x + 2 ≤ la.length + lb.length) ?step2 _ 0 _ _ _ ?fin2 ⟨rfl, hs, _, _, _, _, _, _, rfl, hJ, by omega⟩)) ?after2)
        case fin2 =>
          rintro c st' s' ⟨rfl, hs, na, nb, o, g, ac, bc, rfl, hJ, hx⟩
          exact ⟨rfl, hs, .inr ⟨_, _, _, _, _, _, rfl, hJ, by omega⟩⟩
        case after2 =>
          rintro c st' s' ⟨rfl, hs, ⟨out', o, ia, ib, g, ac, bc, rfl, hm⟩ | ⟨na, nb, o, g, ac, bc, rfl, hJ, hx⟩⟩
          · exact kasC_pure ⟨rfl, hs, _, _, _, _, _, rfl, hm⟩
          · try dsimp only
            refine kasC_bind (kasC_modify ?_)
            exact kasC_pure ⟨rfl, ⟨hs.k, hs.a, hs.p, hs.f⟩, _, _, _, _, rfl, hJ, by omega⟩
        case step2 =>
          rintro y c st' s' ⟨rfl, hs, na, nb, o, g, ac, bc, rfl, ⟨po, rfl, m⟩, hx⟩
          have m1 := m.pa
          have m2 := m.pb
          have m3 := m.qa
          have m4 := m.qb
          dsimp only
          by_cases hg1 : g > 1
          · rw [if_pos hg1]
            refine kasC_bind (kasC_modify ?_)
            refine kasC_bind (elemA (show nb - 1 < lb.length by omega) ?_)
            refine kasC_bind (gallopF hc (getD_lt hlb (show nb - 1 < lb.length by omega)) hla (base := 0) (m := na) (hint := na - 1) (by omega) (by omega) (fun i j a b c => take_get m.sa b (by omega) (by omega)) (by exact hs.k.trans hkind) ?_)
            intro k hk1 lo1 hi1
            dsimp only
            by_cases hk0 : na - k > 0
            · rw [if_pos hk0]
              have p1 := mhi_a k (by omega) m3 m.perm m.sa m.sb (fun x hx y hy => by
                obtain ⟨j, j0, j1, j2, rfl⟩ := mem_dropTake hx
                obtain ⟨j', a1, a2, rfl⟩ := mem_takeGet hy
                have := hi1 j (by omega) (by omega)
                have := take_get m.sb (show j' ≤ nb - 1 by omega) (by omega) (by omega)
                omega)
              rw [extR]
              by_cases hz : k = 0
              · rw [if_pos (by simpa using hz)]
                exact kasC_pure ⟨rfl, ⟨hs.k, hs.a, hs.p, hs.f⟩, .inl ⟨_, _, _, _, _, _, _, rfl, mhi_done p1.1 p1.2.1 p1.2.2 (.inl hz)⟩⟩
              rw [if_neg (by simpa using hz)]
              have hiA : ∀ i, i < k → key (la.getD i 0) ≤ key (lb.getD (nb - 1) 0) := fun i a => lo1 i (by omega) (by omega)
              refine kasC_bind (elemA (show nb - 1 < lb.length by omega) ?_)
              have p2 := mhi_b (nb - 1) (by omega) m4 p1.1 p1.2.1 p1.2.2 (fun x hx y hy => by
                rw [last1 (by omega) m4, List.mem_singleton] at hx
                obtain ⟨j, j1, j2, rfl⟩ := mem_takeGet hy
                have := hiA j j1
                rw [hx]
                omega)
              rw [last1 (by omega) m4] at p2
              rw [pushR]
              by_cases hz3 : nb - 1 = 1
              · rw [if_pos (by simpa using hz3)]
                exact kasC_pure ⟨rfl, ⟨hs.k, hs.a, hs.p, hs.f⟩, .inl ⟨_, _, _, _, _, _, _, rfl, mhi_first p2.1 p2.2.1 p2.2.2 hz3 first⟩⟩
              rw [if_neg (by simpa using hz3)]
              refine kasC_bind (elemA (show k - 1 < la.length by omega) ?_)
              refine kasC_bind (gallopT hc (getD_lt hla (show k - 1 < la.length by omega)) hlb (base := 0) (m := nb - 1) (hint := nb - 1 - 1) (by omega) (by omega) (fun i j a b c => take_get p2.2.2 b (by omega) (by omega)) (by exact hs.k.trans hkind) ?_)
              intro k2 hk2 lo2 hi2
              dsimp only
              by_cases hk3 : nb - 1 - k2 > 0
              · rw [if_pos hk3]
                have p3 := mhi_b k2 (by omega) (show nb - 1 ≤ lb.length by omega) p2.1 p2.2.1 p2.2.2 (fun x hx y hy => by
                  obtain ⟨j, j0, j1, j2, rfl⟩ := mem_dropTake hx
                  obtain ⟨j', a1, a2, rfl⟩ := mem_takeGet hy
                  have := hi2 j (by omega) (by omega)
                  have := take_get p2.2.1 (show j' ≤ k - 1 by omega) (by omega) (by omega)
                  omega)
                rw [extR]
                by_cases hz4 : k2 = 1
                · rw [if_pos (by simpa using hz4)]
                  exact kasC_pure ⟨rfl, ⟨hs.k, hs.a, hs.p, hs.f⟩, .inl ⟨_, _, _, _, _, _, _, rfl, mhi_first p3.1 p3.2.1 p3.2.2 hz4 first⟩⟩
                rw [if_neg (by simpa using hz4)]
                by_cases hz6 : k2 = 0
                · rw [if_pos (by simpa using hz6)]
                  exact kasC_pure ⟨rfl, ⟨hs.k, hs.a, hs.p, hs.f⟩, .inl ⟨_, _, _, _, _, _, _, rfl, mhi_done p3.1 p3.2.1 p3.2.2 (.inr hz6)⟩⟩
                rw [if_neg (by simpa using hz6)]
                have hiB : ∀ i, i < k2 → key (lb.getD i 0) < key (la.getD (k - 1) 0) := fun i a => lo2 i (by omega) (by omega)
                refine kasC_bind (elemA (show k - 1 < la.length by omega) ?_)
                have p4 := mhi_a (k - 1) (by omega) (show k ≤ la.length by omega) p3.1 p3.2.1 p3.2.2 (fun x hx y hy => by
                  rw [last1 (by omega) (show k ≤ la.length by omega), List.mem_singleton] at hx
                  obtain ⟨j, j1, j2, rfl⟩ := mem_takeGet hy
                  have := hiB j j1
                  rw [hx]
                  omega)
                rw [last1 (by omega) (show k ≤ la.length by omega)] at p4
                rw [pushR]
                by_cases hz5 : k - 1 = 0
                · rw [if_pos (by simpa using hz5)]
                  exact kasC_pure ⟨rfl, ⟨hs.k, hs.a, hs.p, hs.f⟩, .inl ⟨_, _, _, _, _, _, _, rfl, mhi_done p4.1 p4.2.1 p4.2.2 (.inl hz5)⟩⟩
                rw [if_neg (by simpa using hz5)]
                by_cases hb : (decide (na - k < 7) && decide (nb - 1 - k2 < 7)) = true
                · rw [if_pos hb]
                  exact kasC_pure ⟨rfl, ⟨hs.k, hs.a, hs.p, hs.f⟩, .inr ⟨_, _, _, _, _, _, rfl, ⟨_, rfl, p4.1, p4.2.1, p4.2.2, by omega, by omega, by omega, by omega⟩, by omega⟩⟩
                · rw [if_neg hb]
                  exact kasC_pure ⟨rfl, ⟨hs.k, hs.a, hs.p, hs.f⟩, _, _, _, _, _, _, rfl, ⟨_, rfl, p4.1, p4.2.1, p4.2.2, by omega, by omega, by omega, by omega⟩, by omega⟩
              · rw [if_neg hk3]
                have p3 := p2
                have hiB : ∀ i, i < nb - 1 → key (lb.getD i 0) < key (la.getD (k - 1) 0) := fun i a => lo2 i (by omega) (by omega)
                refine kasC_bind (elemA (show k - 1 < la.length by omega) ?_)
                have p4 := mhi_a (k - 1) (by omega) (show k ≤ la.length by omega) p3.1 p3.2.1 p3.2.2 (fun x hx y hy => by
                  rw [last1 (by omega) (show k ≤ la.length by omega), List.mem_singleton] at hx
                  obtain ⟨j, j1, j2, rfl⟩ := mem_takeGet hy
                  have := hiB j j1
                  rw [hx]
                  omega)
                rw [last1 (by omega) (show k ≤ la.length by omega)] at p4
                rw [pushR]
                by_cases hz5 : k - 1 = 0
                · rw [if_pos (by simpa using hz5)]
                  exact kasC_pure ⟨rfl, ⟨hs.k, hs.a, hs.p, hs.f⟩, .inl ⟨_, _, _, _, _, _, _, rfl, mhi_done p4.1 p4.2.1 p4.2.2 (.inl hz5)⟩⟩
                rw [if_neg (by simpa using hz5)]
                by_cases hb : (decide (na - k < 7) && decide (nb - 1 - k2 < 7)) = true
                · rw [if_pos hb]
                  exact kasC_pure ⟨rfl, ⟨hs.k, hs.a, hs.p, hs.f⟩, .inr ⟨_, _, _, _, _, _, rfl, ⟨_, rfl, p4.1, p4.2.1, p4.2.2, by omega, by omega, by omega, by omega⟩, by omega⟩⟩
                · rw [if_neg hb]
                  exact kasC_pure ⟨rfl, ⟨hs.k, hs.a, hs.p, hs.f⟩, _, _, _, _, _, _, rfl, ⟨_, rfl, p4.1, p4.2.1, p4.2.2, by omega, by omega, by omega, by omega⟩, by omega⟩
            · rw [if_neg hk0]
              have p1 : po.Perm (la.drop na ++ lb.drop nb) ∧ Srt key (la.take na ++ po) ∧ Srt key (lb.take nb ++ po) := ⟨m.perm, m.sa, m.sb⟩
              have hiA : ∀ i, i < na → key (la.getD i 0) ≤ key (lb.getD (nb - 1) 0) := fun i a => lo1 i (by omega) (by omega)
              refine kasC_bind (elemA (show nb - 1 < lb.length by omega) ?_)
              have p2 := mhi_b (nb - 1) (by omega) m4 p1.1 p1.2.1 p1.2.2 (fun x hx y hy => by
                rw [last1 (by omega) m4, List.mem_singleton] at hx
                obtain ⟨j, j1, j2, rfl⟩ := mem_takeGet hy
                have := hiA j j1
                rw [hx]
                omega)
              rw [last1 (by omega) m4] at p2
              rw [pushR]
              by_cases hz3 : nb - 1 = 1
              · rw [if_pos (by simpa using hz3)]
                exact kasC_pure ⟨rfl, ⟨hs.k, hs.a, hs.p, hs.f⟩, .inl ⟨_, _, _, _, _, _, _, rfl, mhi_first p2.1 p2.2.1 p2.2.2 hz3 first⟩⟩
              rw [if_neg (by simpa using hz3)]
              refine kasC_bind (elemA (show na - 1 < la.length by omega) ?_)
              refine kasC_bind (gallopT hc (getD_lt hla (show na - 1 < la.length by omega)) hlb (base := 0) (m := nb - 1) (hint := nb - 1 - 1) (by omega) (by omega) (fun i j a b c => take_get p2.2.2 b (by omega) (by omega)) (by exact hs.k.trans hkind) ?_)
              intro k2 hk2 lo2 hi2
              dsimp only
              by_cases hk3 : nb - 1 - k2 > 0
              · rw [if_pos hk3]
                have p3 := mhi_b k2 (by omega) (show nb - 1 ≤ lb.length by omega) p2.1 p2.2.1 p2.2.2 (fun x hx y hy => by
                  obtain ⟨j, j0, j1, j2, rfl⟩ := mem_dropTake hx
                  obtain ⟨j', a1, a2, rfl⟩ := mem_takeGet hy
                  have := hi2 j (by omega) (by omega)
                  have := take_get p2.2.1 (show j' ≤ na - 1 by omega) (by omega) (by omega)
                  omega)
                rw [extR]
                by_cases hz4 : k2 = 1
                · rw [if_pos (by simpa using hz4)]
                  exact kasC_pure ⟨rfl, ⟨hs.k, hs.a, hs.p, hs.f⟩, .inl ⟨_, _, _, _, _, _, _, rfl, mhi_first p3.1 p3.2.1 p3.2.2 hz4 first⟩⟩
                rw [if_neg (by simpa using hz4)]
                by_cases hz6 : k2 = 0
                · rw [if_pos (by simpa using hz6)]
                  exact kasC_pure ⟨rfl, ⟨hs.k, hs.a, hs.p, hs.f⟩, .inl ⟨_, _, _, _, _, _, _, rfl, mhi_done p3.1 p3.2.1 p3.2.2 (.inr hz6)⟩⟩
                rw [if_neg (by simpa using hz6)]
                have hiB : ∀ i, i < k2 → key (lb.getD i 0) < key (la.getD (na - 1) 0) := fun i a => lo2 i (by omega) (by omega)
                refine kasC_bind (elemA (show na - 1 < la.length by omega) ?_)
                have p4 := mhi_a (na - 1) (by omega) (show na ≤ la.length by omega) p3.1 p3.2.1 p3.2.2 (fun x hx y hy => by
                  rw [last1 (by omega) (show na ≤ la.length by omega), List.mem_singleton] at hx
                  obtain ⟨j, j1, j2, rfl⟩ := mem_takeGet hy
                  have := hiB j j1
                  rw [hx]
                  omega)
                rw [last1 (by omega) (show na ≤ la.length by omega)] at p4
                rw [pushR]
                by_cases hz5 : na - 1 = 0
                · rw [if_pos (by simpa using hz5)]
                  exact kasC_pure ⟨rfl, ⟨hs.k, hs.a, hs.p, hs.f⟩, .inl ⟨_, _, _, _, _, _, _, rfl, mhi_done p4.1 p4.2.1 p4.2.2 (.inl hz5)⟩⟩
                rw [if_neg (by simpa using hz5)]
                by_cases hb : (decide (na - k < 7) && decide (nb - 1 - k2 < 7)) = true
                · rw [if_pos hb]
                  exact kasC_pure ⟨rfl, ⟨hs.k, hs.a, hs.p, hs.f⟩, .inr ⟨_, _, _, _, _, _, rfl, ⟨_, rfl, p4.1, p4.2.1, p4.2.2, by omega, by omega, by omega, by omega⟩, by omega⟩⟩
                · rw [if_neg hb]
                  exact kasC_pure ⟨rfl, ⟨hs.k, hs.a, hs.p, hs.f⟩, _, _, _, _, _, _, rfl, ⟨_, rfl, p4.1, p4.2.1, p4.2.2, by omega, by omega, by omega, by omega⟩, by omega⟩
              · rw [if_neg hk3]
                have p3 := p2
                have hiB : ∀ i, i < nb - 1 → key (lb.getD i 0) < key (la.getD (na - 1) 0) := fun i a => lo2 i (by omega) (by omega)
                refine kasC_bind (elemA (show na - 1 < la.length by omega) ?_)
                have p4 := mhi_a (na - 1) (by omega) (show na ≤ la.length by omega) p3.1 p3.2.1 p3.2.2 (fun x hx y hy => by
                  rw [last1 (by omega) (show na ≤ la.length by omega), List.mem_singleton] at hx
                  obtain ⟨j, j1, j2, rfl⟩ := mem_takeGet hy
                  have := hiB j j1
                  rw [hx]
                  omega)
                rw [last1 (by omega) (show na ≤ la.length by omega)] at p4
                rw [pushR]
                by_cases hz5 : na - 1 = 0
                · rw [if_pos (by simpa using hz5)]
                  exact kasC_pure ⟨rfl, ⟨hs.k, hs.a, hs.p, hs.f⟩, .inl ⟨_, _, _, _, _, _, _, rfl, mhi_done p4.1 p4.2.1 p4.2.2 (.inl hz5)⟩⟩
                rw [if_neg (by simpa using hz5)]
                by_cases hb : (decide (na - k < 7) && decide (nb - 1 - k2 < 7)) = true
                · rw [if_pos hb]
                  exact kasC_pure ⟨rfl, ⟨hs.k, hs.a, hs.p, hs.f⟩, .inr ⟨_, _, _, _, _, _, rfl, ⟨_, rfl, p4.1, p4.2.1, p4.2.2, by omega, by omega, by omega, by omega⟩, by omega⟩⟩
                · rw [if_neg hb]
                  exact kasC_pure ⟨rfl, ⟨hs.k, hs.a, hs.p, hs.f⟩, _, _, _, _, _, _, rfl, ⟨_, rfl, p4.1, p4.2.1, p4.2.2, by omega, by omega, by omega, by omega⟩, by omega⟩
          · rw [if_neg hg1]
            refine kasC_bind (kasC_modify ?_)
            refine kasC_bind (elemA (show nb - 1 < lb.length by omega) ?_)
            refine kasC_bind (gallopF hc (getD_lt hlb (show nb - 1 < lb.length by omega)) hla (base := 0) (m := na) (hint := na - 1) (by omega) (by omega) (fun i j a b c => take_get m.sa b (by omega) (by omega)) (by exact hs.k.trans hkind) ?_)
            intro k hk1 lo1 hi1
            dsimp only
            by_cases hk0 : na - k > 0
            · rw [if_pos hk0]
              have p1 := mhi_a k (by omega) m3 m.perm m.sa m.sb (fun x hx y hy => by
                obtain ⟨j, j0, j1, j2, rfl⟩ := mem_dropTake hx
                obtain ⟨j', a1, a2, rfl⟩ := mem_takeGet hy
                have := hi1 j (by omega) (by omega)
                have := take_get m.sb (show j' ≤ nb - 1 by omega) (by omega) (by omega)
                omega)
              rw [extR]
              by_cases hz : k = 0
              · rw [if_pos (by simpa using hz)]
                exact kasC_pure ⟨rfl, ⟨hs.k, hs.a, hs.p, hs.f⟩, .inl ⟨_, _, _, _, _, _, _, rfl, mhi_done p1.1 p1.2.1 p1.2.2 (.inl hz)⟩⟩
              rw [if_neg (by simpa using hz)]
              have hiA : ∀ i, i < k → key (la.getD i 0) ≤ key (lb.getD (nb - 1) 0) := fun i a => lo1 i (by omega) (by omega)
              refine kasC_bind (elemA (show nb - 1 < lb.length by omega) ?_)
              have p2 := mhi_b (nb - 1) (by omega) m4 p1.1 p1.2.1 p1.2.2 (fun x hx y hy => by
                rw [last1 (by omega) m4, List.mem_singleton] at hx
                obtain ⟨j, j1, j2, rfl⟩ := mem_takeGet hy
                have := hiA j j1
                rw [hx]
                omega)
              rw [last1 (by omega) m4] at p2
              rw [pushR]
              by_cases hz3 : nb - 1 = 1
              · rw [if_pos (by simpa using hz3)]
                exact kasC_pure ⟨rfl, ⟨hs.k, hs.a, hs.p, hs.f⟩, .inl ⟨_, _, _, _, _, _, _, rfl, mhi_first p2.1 p2.2.1 p2.2.2 hz3 first⟩⟩
              rw [if_neg (by simpa using hz3)]
              refine kasC_bind (elemA (show k - 1 < la.length by omega) ?_)
              refine kasC_bind (gallopT hc (getD_lt hla (show k - 1 < la.length by omega)) hlb (base := 0) (m := nb - 1) (hint := nb - 1 - 1) (by omega) (by omega) (fun i j a b c => take_get p2.2.2 b (by omega) (by omega)) (by exact hs.k.trans hkind) ?_)
              intro k2 hk2 lo2 hi2
              dsimp only
              by_cases hk3 : nb - 1 - k2 > 0
              · rw [if_pos hk3]
                have p3 := mhi_b k2 (by omega) (show nb - 1 ≤ lb.length by omega) p2.1 p2.2.1 p2.2.2 (fun x hx y hy => by
                  obtain ⟨j, j0, j1, j2, rfl⟩ := mem_dropTake hx
                  obtain ⟨j', a1, a2, rfl⟩ := mem_takeGet hy
                  have := hi2 j (by omega) (by omega)
                  have := take_get p2.2.1 (show j' ≤ k - 1 by omega) (by omega) (by omega)
                  omega)
                rw [extR]
                by_cases hz4 : k2 = 1
                · rw [if_pos (by simpa using hz4)]
                  exact kasC_pure ⟨rfl, ⟨hs.k, hs.a, hs.p, hs.f⟩, .inl ⟨_, _, _, _, _, _, _, rfl, mhi_first p3.1 p3.2.1 p3.2.2 hz4 first⟩⟩
                rw [if_neg (by simpa using hz4)]
                by_cases hz6 : k2 = 0
                · rw [if_pos (by simpa using hz6)]
                  exact kasC_pure ⟨rfl, ⟨hs.k, hs.a, hs.p, hs.f⟩, .inl ⟨_, _, _, _, _, _, _, rfl, mhi_done p3.1 p3.2.1 p3.2.2 (.inr hz6)⟩⟩
                rw [if_neg (by simpa using hz6)]
                have hiB : ∀ i, i < k2 → key (lb.getD i 0) < key (la.getD (k - 1) 0) := fun i a => lo2 i (by omega) (by omega)
                refine kasC_bind (elemA (show k - 1 < la.length by omega) ?_)
                have p4 := mhi_a (k - 1) (by omega) (show k ≤ la.length by omega) p3.1 p3.2.1 p3.2.2 (fun x hx y hy => by
                  rw [last1 (by omega) (show k ≤ la.length by omega), List.mem_singleton] at hx
                  obtain ⟨j, j1, j2, rfl⟩ := mem_takeGet hy
                  have := hiB j j1
                  rw [hx]
                  omega)
                rw [last1 (by omega) (show k ≤ la.length by omega)] at p4
                rw [pushR]
                by_cases hz5 : k - 1 = 0
                · rw [if_pos (by simpa using hz5)]
                  exact kasC_pure ⟨rfl, ⟨hs.k, hs.a, hs.p, hs.f⟩, .inl ⟨_, _, _, _, _, _, _, rfl, mhi_done p4.1 p4.2.1 p4.2.2 (.inl hz5)⟩⟩
                rw [if_neg (by simpa using hz5)]
                by_cases hb : (decide (na - k < 7) && decide (nb - 1 - k2 < 7)) = true
                · rw [if_pos hb]
                  exact kasC_pure ⟨rfl, ⟨hs.k, hs.a, hs.p, hs.f⟩, .inr ⟨_, _, _, _, _, _, rfl, ⟨_, rfl, p4.1, p4.2.1, p4.2.2, by omega, by omega, by omega, by omega⟩, by omega⟩⟩
                · rw [if_neg hb]
                  exact kasC_pure ⟨rfl, ⟨hs.k, hs.a, hs.p, hs.f⟩, _, _, _, _, _, _, rfl, ⟨_, rfl, p4.1, p4.2.1, p4.2.2, by omega, by omega, by omega, by omega⟩, by omega⟩
              · rw [if_neg hk3]
                have p3 := p2
                have hiB : ∀ i, i < nb - 1 → key (lb.getD i 0) < key (la.getD (k - 1) 0) := fun i a => lo2 i (by omega) (by omega)
                refine kasC_bind (elemA (show k - 1 < la.length by omega) ?_)
                have p4 := mhi_a (k - 1) (by omega) (show k ≤ la.length by omega) p3.1 p3.2.1 p3.2.2 (fun x hx y hy => by
                  rw [last1 (by omega) (show k ≤ la.length by omega), List.mem_singleton] at hx
                  obtain ⟨j, j1, j2, rfl⟩ := mem_takeGet hy
                  have := hiB j j1
                  rw [hx]
                  omega)
                rw [last1 (by omega) (show k ≤ la.length by omega)] at p4
                rw [pushR]
                by_cases hz5 : k - 1 = 0
                · rw [if_pos (by simpa using hz5)]
                  exact kasC_pure ⟨rfl, ⟨hs.k, hs.a, hs.p, hs.f⟩, .inl ⟨_, _, _, _, _, _, _, rfl, mhi_done p4.1 p4.2.1 p4.2.2 (.inl hz5)⟩⟩
                rw [if_neg (by simpa using hz5)]
                by_cases hb : (decide (na - k < 7) && decide (nb - 1 - k2 < 7)) = true
                · rw [if_pos hb]
                  exact kasC_pure ⟨rfl, ⟨hs.k, hs.a, hs.p, hs.f⟩, .inr ⟨_, _, _, _, _, _, rfl, ⟨_, rfl, p4.1, p4.2.1, p4.2.2, by omega, by omega, by omega, by omega⟩, by omega⟩⟩
                · rw [if_neg hb]
                  exact kasC_pure ⟨rfl, ⟨hs.k, hs.a, hs.p, hs.f⟩, _, _, _, _, _, _, rfl, ⟨_, rfl, p4.1, p4.2.1, p4.2.2, by omega, by omega, by omega, by omega⟩, by omega⟩
            · rw [if_neg hk0]
              have p1 : po.Perm (la.drop na ++ lb.drop nb) ∧ Srt key (la.take na ++ po) ∧ Srt key (lb.take nb ++ po) := ⟨m.perm, m.sa, m.sb⟩
              have hiA : ∀ i, i < na → key (la.getD i 0) ≤ key (lb.getD (nb - 1) 0) := fun i a => lo1 i (by omega) (by omega)
              refine kasC_bind (elemA (show nb - 1 < lb.length by omega) ?_)
              have p2 := mhi_b (nb - 1) (by omega) m4 p1.1 p1.2.1 p1.2.2 (fun x hx y hy => by
                rw [last1 (by omega) m4, List.mem_singleton] at hx
                obtain ⟨j, j1, j2, rfl⟩ := mem_takeGet hy
                have := hiA j j1
                rw [hx]
                omega)
              rw [last1 (by omega) m4] at p2
              rw [pushR]
              by_cases hz3 : nb - 1 = 1
              · rw [if_pos (by simpa using hz3)]
                exact kasC_pure ⟨rfl, ⟨hs.k, hs.a, hs.p, hs.f⟩, .inl ⟨_, _, _, _, _, _, _, rfl, mhi_first p2.1 p2.2.1 p2.2.2 hz3 first⟩⟩
              rw [if_neg (by simpa using hz3)]
              refine kasC_bind (elemA (show na - 1 < la.length by omega) ?_)
              refine kasC_bind (gallopT hc (getD_lt hla (show na - 1 < la.length by omega)) hlb (base := 0) (m := nb - 1) (hint := nb - 1 - 1) (by omega) (by omega) (fun i j a b c => take_get p2.2.2 b (by omega) (by omega)) (by exact hs.k.trans hkind) ?_)
              intro k2 hk2 lo2 hi2
              dsimp only
              by_cases hk3 : nb - 1 - k2 > 0
              · rw [if_pos hk3]
                have p3 := mhi_b k2 (by omega) (show nb - 1 ≤ lb.length by omega) p2.1 p2.2.1 p2.2.2 (fun x hx y hy => by
                  obtain ⟨j, j0, j1, j2, rfl⟩ := mem_dropTake hx
                  obtain ⟨j', a1, a2, rfl⟩ := mem_takeGet hy
                  have := hi2 j (by omega) (by omega)
                  have := take_get p2.2.1 (show j' ≤ na - 1 by omega) (by omega) (by omega)
                  omega)
                rw [extR]
                by_cases hz4 : k2 = 1
                · rw [if_pos (by simpa using hz4)]
                  exact kasC_pure ⟨rfl, ⟨hs.k, hs.a, hs.p, hs.f⟩, .inl ⟨_, _, _, _, _, _, _, rfl, mhi_first p3.1 p3.2.1 p3.2.2 hz4 first⟩⟩
                rw [if_neg (by simpa using hz4)]
                by_cases hz6 : k2 = 0
                · rw [if_pos (by simpa using hz6)]
                  exact kasC_pure ⟨rfl, ⟨hs.k, hs.a, hs.p, hs.f⟩, .inl ⟨_, _, _, _, _, _, _, rfl, mhi_done p3.1 p3.2.1 p3.2.2 (.inr hz6)⟩⟩
                rw [if_neg (by simpa using hz6)]
                have hiB : ∀ i, i < k2 → key (lb.getD i 0) < key (la.getD (na - 1) 0) := fun i a => lo2 i (by omega) (by omega)
                refine kasC_bind (elemA (show na - 1 < la.length by omega) ?_)
                have p4 := mhi_a (na - 1) (by omega) (show na ≤ la.length by omega) p3.1 p3.2.1 p3.2.2 (fun x hx y hy => by
                  rw [last1 (by omega) (show na ≤ la.length by omega), List.mem_singleton] at hx
                  obtain ⟨j, j1, j2, rfl⟩ := mem_takeGet hy
                  have := hiB j j1
                  rw [hx]
                  omega)
                rw [last1 (by omega) (show na ≤ la.length by omega)] at p4
                rw [pushR]
                by_cases hz5 : na - 1 = 0
                · rw [if_pos (by simpa using hz5)]
                  exact kasC_pure ⟨rfl, ⟨hs.k, hs.a, hs.p, hs.f⟩, .inl ⟨_, _, _, _, _, _, _, rfl, mhi_done p4.1 p4.2.1 p4.2.2 (.inl hz5)⟩⟩
                rw [if_neg (by simpa using hz5)]
                by_cases hb : (decide (na - k < 7) && decide (nb - 1 - k2 < 7)) = true
                · rw [if_pos hb]
                  exact kasC_pure ⟨rfl, ⟨hs.k, hs.a, hs.p, hs.f⟩, .inr ⟨_, _, _, _, _, _, rfl, ⟨_, rfl, p4.1, p4.2.1, p4.2.2, by omega, by omega, by omega, by omega⟩, by omega⟩⟩
                · rw [if_neg hb]
                  exact kasC_pure ⟨rfl, ⟨hs.k, hs.a, hs.p, hs.f⟩, _, _, _, _, _, _, rfl, ⟨_, rfl, p4.1, p4.2.1, p4.2.2, by omega, by omega, by omega, by omega⟩, by omega⟩
              · rw [if_neg hk3]
                have p3 := p2
                have hiB : ∀ i, i < nb - 1 → key (lb.getD i 0) < key (la.getD (na - 1) 0) := fun i a => lo2 i (by omega) (by omega)
                refine kasC_bind (elemA (show na - 1 < la.length by omega) ?_)
                have p4 := mhi_a (na - 1) (by omega) (show na ≤ la.length by omega) p3.1 p3.2.1 p3.2.2 (fun x hx y hy => by
                  rw [last1 (by omega) (show na ≤ la.length by omega), List.mem_singleton] at hx
                  obtain ⟨j, j1, j2, rfl⟩ := mem_takeGet hy
                  have := hiB j j1
                  rw [hx]
                  omega)
                rw [last1 (by omega) (show na ≤ la.length by omega)] at p4
                rw [pushR]
                by_cases hz5 : na - 1 = 0
                · rw [if_pos (by simpa using hz5)]
                  exact kasC_pure ⟨rfl, ⟨hs.k, hs.a, hs.p, hs.f⟩, .inl ⟨_, _, _, _, _, _, _, rfl, mhi_done p4.1 p4.2.1 p4.2.2 (.inl hz5)⟩⟩
                rw [if_neg (by simpa using hz5)]
                by_cases hb : (decide (na - k < 7) && decide (nb - 1 - k2 < 7)) = true
                · rw [if_pos hb]
                  exact kasC_pure ⟨rfl, ⟨hs.k, hs.a, hs.p, hs.f⟩, .inr ⟨_, _, _, _, _, _, rfl, ⟨_, rfl, p4.1, p4.2.1, p4.2.2, by omega, by omega, by omega, by omega⟩, by omega⟩⟩
                · rw [if_neg hb]
                  exact kasC_pure ⟨rfl, ⟨hs.k, hs.a, hs.p, hs.f⟩, _, _, _, _, _, _, rfl, ⟨_, rfl, p4.1, p4.2.1, p4.2.2, by omega, by omega, by omega, by omega⟩, by omega⟩
end
end L2
set_option Elab.async false
set_option linter.all false
set_option maxRecDepth 100000
namespace L2
open PySem PySem.Spec PyProof.Rows PySem.W
section
variable {prog : Program} {w : World} {A : Around} {E : Value → Shared → Prop} {κ : SortKind} {it : Array Keyed} {key : Nat → Int} {n : Nat} {s : Shared}
theorem kasC_set {σ : Type} {M : Model} {Q : PUnit → σ → Shared → Prop} {st st2 : σ} {s : Shared} (h : Q ⟨⟩ st2 s) : kasC M A E (set st2 : StateT σ Sem PUnit) Q st s := by
  unfold kasC; rw [StateT.run_set]; exact wpAny_pure h
theorem setAll {α : Type} : ∀ (l : List α) (arr : List α) (q j0 s0 : Nat), q + l.length ≤ arr.length → q = s0 + j0 → ((l.zipIdx j0).foldl (fun (a : Array α) (x : α × Nat) => a.setIfInBounds (s0 + x.2) x.1) arr.toArray) = (arr.take q ++ l ++ arr.drop (q + l.length)).toArray
  | [], arr, q, j0, s0, h, e => by simp
  | x :: l, arr, q, j0, s0, h, e => by
    rw [List.length_cons] at h
    rw [List.zipIdx_cons, List.foldl_cons]
    dsimp only
    rw [← e, List.setIfInBounds_toArray, setAll l (arr.set q x) (q + 1) (j0 + 1) s0 (by rw [List.length_set]; omega) (by omega)]
    congr 1
    have e1 : (arr.set q x).take (q + 1) = arr.take q ++ [x] := by
      apply List.ext_getElem?
      intro i
      rw [List.getElem?_take, List.getElem?_append, List.length_take, List.getElem?_take, List.getElem?_set]
      by_cases h1 : i < q
      · rw [if_pos (by omega), if_neg (by omega), if_pos (by omega), if_pos h1]
      · by_cases h2 : i = q
        · subst h2
          rw [if_pos (by omega), if_pos rfl, if_pos (by omega), if_neg (by omega)]
          simp [show i - min i arr.length = 0 by omega]
        · rw [if_neg (by omega), if_neg (by omega)]
          rw [List.getElem?_eq_none]
          rw [List.length_singleton]
          omega
    have e2 : (arr.set q x).drop (q + 1 + l.length) = arr.drop (q + (l.length + 1)) := by
      apply List.ext_getElem?
      intro i
      rw [List.getElem?_drop, List.getElem?_drop, List.getElem?_set, if_neg (by omega)]
      congr 1
      omega
    rw [e1, e2, List.length_cons, List.append_assoc, List.append_assoc, List.append_assoc]
    rfl
theorem srt_mid {LA LB po : List Nat} {k m : Nat} (sA : Srt key LA) (sB : Srt key LB) (hb : 0 < LB.length) (ha : 0 < LA.length) (h1 : ∀ x ∈ LA.take k, key x ≤ key (LB.getD 0 0)) (h4 : ∀ x ∈ LB.drop m, key (LA.getD (LA.length - 1) 0) ≤ key x)
    (hp : po.Perm (LA.drop k ++ LB.take m)) (sp : Srt key po) : Srt key (LA.take k ++ po ++ LB.drop m) ∧ (LA.take k ++ po ++ LB.drop m).Perm (LA ++ LB) := by
  have b0 : ∀ y ∈ LB, key (LB.getD 0 0) ≤ key y := fun y hy => by
    obtain ⟨j, _, hj, rfl⟩ := mem_dropGet (i := 0) (l := LB) (by rwa [List.drop_zero])
    exact srt_get sB (Nat.zero_le _) hj
  have aL : ∀ x ∈ LA, key x ≤ key (LA.getD (LA.length - 1) 0) := fun x hx => by
    obtain ⟨j, _, hj, rfl⟩ := mem_dropGet (i := 0) (l := LA) (by rwa [List.drop_zero])
    exact srt_get sA (by omega) (by omega)
  have cA : Srt key (LA.take k ++ LA.drop k) := by rwa [List.take_append_drop]
  have cB : Srt key (LB.take m ++ LB.drop m) := by rwa [List.take_append_drop]
  have cA := srt_app.mp cA
  have cB := srt_app.mp cB
  refine ⟨srt_app.mpr ⟨srt_app.mpr ⟨cA.1, sp, fun x hx y hy => ?_⟩, cB.2.1, fun x hx y hy => ?_⟩, ?_⟩
  · rcases List.mem_append.mp (hp.mem_iff.mp hy) with hy | hy
    · exact cA.2.2 x hx y hy
    · exact Int.le_trans (h1 x hx) (b0 y (List.mem_of_mem_take hy))
  · rcases List.mem_append.mp hx with hx | hx
    · exact Int.le_trans (h1 x hx) (b0 y (List.mem_of_mem_drop hy))
    · rcases List.mem_append.mp (hp.mem_iff.mp hx) with hx | hx
      · exact Int.le_trans (aL x (List.mem_of_mem_drop hx)) (h4 y hy)
      · exact cB.2.2 x hx y hy
  · refine (List.Perm.append_right _ (List.Perm.append_left _ hp)).trans ?_
    rw [← List.append_assoc, List.take_append_drop, List.append_assoc, List.take_append_drop]
def arrL (it : Array Keyed) (lp : List Nat) : Array Keyed := (lp.map (kas_item it)).toArray
theorem mergeAt_ok (hc : CmpBy n key (kas_cmp prog w A κ it) s) {lp : List Nat} (hlp : ∀ x ∈ lp, x < n) {i sa na nb pw pw2 : Nat} {st : SortSt} (hkind : PyProof.Rows.kindOf st = κ) (harr : arrOf st = (lp.map (kas_item it)).toArray) (hf : failedOf st = none)
    (hi : (pendingOf st)[i]? = some (sa, na, pw)) (hj : (pendingOf st)[i + 1]? = some (sa + na, nb, pw2)) (ha : 0 < na) (hb : 0 < nb) (hz : sa + na + nb ≤ lp.length)
    (sA : Srt key ((lp.drop sa).take na)) (sB : Srt key ((lp.drop (sa + na)).take nb)) {Q : Bool → SortSt → Shared → Prop}
    (h : ∀ mid st', PyProof.Rows.kindOf st' = κ → failedOf st' = none → pendingOf st' = ((pendingOf st).setIfInBounds i (sa, na + nb, pw)).eraseIdxIfInBounds (i + 1) → mid.Perm ((lp.drop sa).take (na + nb)) → Srt key mid →
      arrOf st' = ((lp.take sa ++ mid ++ lp.drop (sa + (na + nb))).map (kas_item it)).toArray → Q true st' s) :
    kasC (model prog w) A E (mergeAt' i) Q st s := by
  have lA : ((lp.drop sa).take na).length = na := by rw [List.length_take, List.length_drop]; omega
  have lB : ((lp.drop (sa + na)).take nb).length = nb := by rw [List.length_take, List.length_drop]; omega
  have gtA : ∀ j, j < na → ((lp.drop sa).take na).getD j 0 = lp.getD (sa + j) 0 := fun j hj => by simp [List.getD, List.getElem?_take, List.getElem?_drop, hj]
  have gtB : ∀ j, j < nb → ((lp.drop (sa + na)).take nb).getD j 0 = lp.getD (sa + na + j) 0 := fun j hj => by simp [List.getD, List.getElem?_take, List.getElem?_drop, hj]
  have eW : (lp.drop sa).take na ++ (lp.drop (sa + na)).take nb = (lp.drop sa).take (na + nb) := by rw [← List.drop_drop, takeDrop]
  have eAll : lp.take sa ++ (lp.drop sa).take (na + nb) ++ lp.drop (sa + (na + nb)) = lp := by rw [takeDrop, List.take_append_drop]
  have gA : ∀ i j, sa ≤ i → i ≤ j → j < sa + na → key (lp.getD i 0) ≤ key (lp.getD j 0) := fun i j a b c => by
    have := srt_get sA (i := i - sa) (j := j - sa) (by omega) (by omega)
    rwa [gtA _ (by omega), gtA _ (by omega), show sa + (i - sa) = i by omega, show sa + (j - sa) = j by omega] at this
  have gB : ∀ i j, sa + na ≤ i → i ≤ j → j < sa + na + nb → key (lp.getD i 0) ≤ key (lp.getD j 0) := fun i j a b c => by
    have := srt_get sB (i := i - (sa + na)) (j := j - (sa + na)) (by omega) (by omega)
    rwa [gtB _ (by omega), gtB _ (by omega), show sa + na + (i - (sa + na)) = i by omega, show sa + na + (j - (sa + na)) = j by omega] at this
  have mA : ∀ x ∈ (lp.drop sa).take na, ∃ j, sa ≤ j ∧ j < sa + na ∧ x = lp.getD j 0 := fun x hx => by
    obtain ⟨j, j0, j1, rfl⟩ := mem_takeDrop hx
    exact ⟨sa + j, by omega, by omega, rfl⟩
  have mB : ∀ x ∈ (lp.drop (sa + na)).take nb, ∃ j, sa + na ≤ j ∧ j < sa + na + nb ∧ x = lp.getD j 0 := fun x hx => by
    obtain ⟨j, j0, j1, rfl⟩ := mem_takeDrop hx
    exact ⟨sa + na + j, by omega, by omega, rfl⟩
  unfold mergeAt'
  with_unfolding_all refine kasC_bind (kasC_get ?_)
  simp only [hi, hj, harr]
  refine kasC_bind (kasC_set ?_)
  refine kasC_bind (elemA (show sa + na < lp.length by omega) ?_)
  refine kasC_bind (gallopF hc (getD_lt hlp (show sa + na < lp.length by omega)) hlp (base := sa) (m := na) (hint := 0) (by omega) ha gA (by exact hkind) ?_)
  intro k hk1 lo1 hi1
  dsimp only
  by_cases c1 : na - k = 0
  · rw [if_pos (by simpa using c1)]
    refine kasC_pure (h _ _ (by exact hkind) (by exact hf) rfl (List.Perm.refl _) ?_ ?_)
    · rw [← eW]
      refine srt_app.mpr ⟨sA, sB, fun x hx y hy => ?_⟩
      obtain ⟨j, j1, j2, rfl⟩ := mA x hx
      obtain ⟨j', j3, j4, rfl⟩ := mB y hy
      have := lo1 j j1 (by omega)
      have := gB (sa + na) j' (by omega) j3 j4
      omega
    · rw [eAll]
  rw [if_neg (by simpa using c1)]
  rw [show sa + k + (na - k) - 1 = sa + na - 1 by omega]
  refine kasC_bind (elemA (show sa + na - 1 < lp.length by omega) ?_)
  refine kasC_bind (gallopT hc (getD_lt hlp (show sa + na - 1 < lp.length by omega)) hlp (base := sa + na) (m := nb) (hint := nb - 1) (by omega) (by omega) gB (by exact hkind) ?_)
  intro nb' hk2 lo2 hi2
  dsimp only
  by_cases c2 : nb' = 0
  · rw [if_pos (by simpa using c2)]
    refine kasC_pure (h _ _ (by exact hkind) (by exact hf) rfl (List.Perm.refl _) ?_ ?_)
    · rw [← eW]
      refine srt_app.mpr ⟨sA, sB, fun x hx y hy => ?_⟩
      obtain ⟨j, j1, j2, rfl⟩ := mA x hx
      obtain ⟨j', j3, j4, rfl⟩ := mB y hy
      have := hi2 j' (by omega) j4
      have := gA j (sa + na - 1) j1 (by omega) (by omega)
      omega
    · rw [eAll]
  rw [if_neg (by simpa using c2)]
  have eX : (lp.map (kas_item it)).toArray.extract (sa + k) (sa + na) = ((((lp.drop sa).take na).drop k).map (kas_item it)).toArray := by
    apply Array.ext'
    simp only [List.extract_toArray, List.extract_eq_drop_take, List.map_drop, List.map_take]
    rw [List.drop_take, List.drop_drop, show sa + na - (sa + k) = na - k by omega]
  have eY : (lp.map (kas_item it)).toArray.extract (sa + na) (sa + na + nb') = ((((lp.drop (sa + na)).take nb).take nb').map (kas_item it)).toArray := by
    apply Array.ext'
    simp only [List.extract_toArray, List.extract_eq_drop_take, List.map_drop, List.map_take]
    rw [List.take_take, Nat.min_eq_left hk2, show sa + na + nb' - (sa + na) = nb' by omega]
  rw [eX, eY]
  have h1 : ∀ x ∈ ((lp.drop sa).take na).take k, key x ≤ key (((lp.drop (sa + na)).take nb).getD 0 0) := fun x hx => by
    rw [gtB 0 hb]
    obtain ⟨j, j0, j1, rfl⟩ := mem_takeGet hx
    rw [gtA j (by omega)]
    exact lo1 _ (by omega) (by omega)
  have h4 : ∀ x ∈ ((lp.drop (sa + na)).take nb).drop nb', key (((lp.drop sa).take na).getD (((lp.drop sa).take na).length - 1) 0) ≤ key x := fun x hx => by
    rw [lA, gtA _ (by omega)]
    obtain ⟨j, j0, j1, rfl⟩ := mem_dropGet hx
    rw [gtB j (by omega), show sa + (na - 1) = sa + na - 1 by omega]
    exact hi2 _ (by omega) (by omega)
  have f1 : ∀ x ∈ ((lp.drop sa).take na).drop k, key ((((lp.drop (sa + na)).take nb).take nb').getD 0 0) ≤ key x := fun x hx => by
    rw [show (((lp.drop (sa + na)).take nb).take nb').getD 0 0 = ((lp.drop (sa + na)).take nb).getD 0 0 by simp only [List.getD, List.getElem?_take, if_pos (show 0 < nb' by omega)], gtB 0 hb]
    obtain ⟨j, j0, j1, rfl⟩ := mem_dropGet hx
    rw [gtA j (by omega)]
    have := hi1 (sa + j) (by omega) (by omega)
    rw [Nat.add_zero]
    omega
  have l2 : (((lp.drop sa).take na).drop k).length = na - k := by rw [List.length_drop, lA]
  have l3 : (((lp.drop (sa + na)).take nb).take nb').length = nb' := by rw [List.length_take, lB]; omega
  have f2 : ∀ x ∈ ((lp.drop (sa + na)).take nb).take nb', key x ≤ key ((((lp.drop sa).take na).drop k).getD ((((lp.drop sa).take na).drop k).length - 1) 0) := fun x hx => by
    rw [l2, show (((lp.drop sa).take na).drop k).getD (na - k - 1) 0 = ((lp.drop sa).take na).getD (na - 1) 0 by simp only [List.getD, List.getElem?_drop, show k + (na - k - 1) = na - 1 by omega], gtA _ (by omega), show sa + (na - 1) = sa + na - 1 by omega]
    obtain ⟨j, j0, j1, rfl⟩ := mem_takeGet hx
    rw [gtB j (by omega)]
    have := lo2 (sa + na + j) (by omega) (by omega)
    omega
  have u1 : ∀ x ∈ ((lp.drop sa).take na).drop k, x < n := fun x hx => hlp x (List.mem_of_mem_drop (List.mem_of_mem_take (List.mem_of_mem_drop hx)))
  have u2 : ∀ x ∈ ((lp.drop (sa + na)).take nb).take nb', x < n := fun x hx => hlp x (List.mem_of_mem_drop (List.mem_of_mem_take (List.mem_of_mem_take hx)))
  by_cases c3 : na - k ≤ nb'
  · rw [if_pos c3]
    refine kasC_bind (mergeLo_ok hc u1 u2 (sA.sublist (List.drop_sublist _ _)) (sB.sublist (List.take_sublist _ _)) (by omega) (by omega) f1 f2 (by exact hkind) ?_)
    intro out st' hM hss
    obtain ⟨po, rfl, hperm, hsrt⟩ := hM
    have hmid := srt_mid (key := key) sA sB (by omega) (by omega) h1 h4 hperm hsrt
    refine kasC_bind (kasC_modify ?_)
    refine kasC_bind (kasC_get ?_)
    refine kasC_pure ?_
    have e : failedOf st' = none := hss.f.trans hf
    show Q (failedOf st').isNone _ s
    rw [e]
    refine h (((lp.drop sa).take na).take k ++ po ++ ((lp.drop (sa + na)).take nb).drop nb') _ (hss.k.trans hkind) (by first | rfl | exact e) (by exact hss.p) (by rw [← eW]; exact hmid.2) hmid.1 ?_
    have ea : arrOf st' = (lp.map (kas_item it)).toArray := hss.a
    have pl : po.length = na - k + nb' := by rw [hperm.length_eq, List.length_append, l2, l3]
    have sA' := setAll (po.map (kas_item it)) (lp.map (kas_item it)) (sa + k) 0 (sa + k) (by rw [List.length_map, List.length_map, pl]; omega) rfl
    show List.foldl (fun a x => a.setIfInBounds (sa + k + x.2) x.1) (arrOf st') (po.map (kas_item it)).toArray.toList.zipIdx = _
    rw [ea]
    refine sA'.trans ?_
    rw [List.length_map, pl, ← List.map_take, ← List.map_drop, ← List.map_append, ← List.map_append]
    congr 2
    have q1 : lp.take (sa + k) = lp.take sa ++ ((lp.drop sa).take na).take k := by
      rw [List.take_take, Nat.min_eq_left hk1, takeDrop]
    have q2 : lp.drop (sa + k + (na - k + nb')) = ((lp.drop (sa + na)).take nb).drop nb' ++ lp.drop (sa + (na + nb)) := by
      have := dropCut (l := lp.drop (sa + na)) (i := nb') (j := nb) hk2 (by rw [List.length_drop]; omega)
      rw [List.drop_drop, List.drop_drop] at this
      rw [show sa + k + (na - k + nb') = sa + na + nb' by omega, this, show sa + na + nb = sa + (na + nb) by omega]
    rw [q1, q2]
    simp only [List.append_assoc]
  · rw [if_neg c3]
    refine kasC_bind (mergeHi_ok hc u1 u2 (sA.sublist (List.drop_sublist _ _)) (sB.sublist (List.take_sublist _ _)) (by omega) (by omega) f1 f2 (by exact hkind) ?_)
    intro out st' hM hss
    obtain ⟨po, rfl, hperm, hsrt⟩ := hM
    have hmid := srt_mid (key := key) sA sB (by omega) (by omega) h1 h4 hperm hsrt
    refine kasC_bind (kasC_modify ?_)
    refine kasC_bind (kasC_get ?_)
    refine kasC_pure ?_
    have e : failedOf st' = none := hss.f.trans hf
    show Q (failedOf st').isNone _ s
    rw [e]
    refine h (((lp.drop sa).take na).take k ++ po ++ ((lp.drop (sa + na)).take nb).drop nb') _ (hss.k.trans hkind) (by first | rfl | exact e) (by exact hss.p) (by rw [← eW]; exact hmid.2) hmid.1 ?_
    have ea : arrOf st' = (lp.map (kas_item it)).toArray := hss.a
    have pl : po.length = na - k + nb' := by rw [hperm.length_eq, List.length_append, l2, l3]
    have sA' := setAll (po.map (kas_item it)) (lp.map (kas_item it)) (sa + k) 0 (sa + k) (by rw [List.length_map, List.length_map, pl]; omega) rfl
    show List.foldl (fun a x => a.setIfInBounds (sa + k + x.2) x.1) (arrOf st') (po.map (kas_item it)).toArray.toList.zipIdx = _
    rw [ea]
    refine sA'.trans ?_
    rw [List.length_map, pl, ← List.map_take, ← List.map_drop, ← List.map_append, ← List.map_append]
    congr 2
    have q1 : lp.take (sa + k) = lp.take sa ++ ((lp.drop sa).take na).take k := by
      rw [List.take_take, Nat.min_eq_left hk1, takeDrop]
    have q2 : lp.drop (sa + k + (na - k + nb')) = ((lp.drop (sa + na)).take nb).drop nb' ++ lp.drop (sa + (na + nb)) := by
      have := dropCut (l := lp.drop (sa + na)) (i := nb') (j := nb) hk2 (by rw [List.length_drop]; omega)
      rw [List.drop_drop, List.drop_drop] at this
      rw [show sa + k + (na - k + nb') = sa + na + nb' by omega, this, show sa + na + nb = sa + (na + nb) by omega]
    rw [q1, q2]
    simp only [List.append_assoc]
end
end L2
set_option Elab.async false
set_option linter.all false
set_option maxRecDepth 100000
namespace L2
open PySem PySem.Spec PyProof.Rows PySem.W
section
variable {prog : Program} {w : World} {A : Around} {E : Value → Shared → Prop} {κ : SortKind} {it : Array Keyed} {key : Nat → Int} {n : Nat} {s : Shared} {pend : Array (Nat × Nat × Nat)}
structure Hd (κ : SortKind) (it : Array Keyed) (pend : Array (Nat × Nat × Nat)) (st : SortSt) (p : Array Nat) : Prop where
  k : PyProof.Rows.kindOf st = κ
  a : arrOf st = p.map (kas_item it)
  p : pendingOf st = pend
  f : failedOf st = none
theorem ltAt_ok (hc : CmpBy n key (kas_cmp prog w A κ it) s) {p : Array Nat} (hp : Rg n p) {i j : Nat} (hi : i < n) (hj : j < n) {st : SortSt} (H : Hd κ it pend st p) {Q : Option Bool → SortSt → Shared → Prop} (h : Q (some (decide (kyA key p i < kyA key p j))) st s) :
    kasC (model prog w) A E (ltAt' i j) Q st s := by
  have el : ∀ i, i < n → (p.map (kas_item it))[i]? = some (kas_item it (p.getD i 0)) := fun i hi => by
    have : i < p.size := by rw [hp.size]; exact hi
    simp [Array.getD, this]
  rw [ltAt'_eq]
  refine kasC_bind (kasC_get ?_)
  rw [H.a]
  dsimp only
  rw [elem'_eq, elem'_eq, el i hi, el j hj]
  refine kasC_bind (kasC_pure ?_)
  refine kasC_bind (kasC_pure ?_)
  exact lt_by hc (hp.lt hi) (hp.lt hj) H.k h
theorem rev_ok {p : Array Nat} {st : SortSt} (H : Hd κ it pend st p) {i j : Nat} {Q : Unit → SortSt → Shared → Prop} (h : ∀ st', Hd κ it pend st' (kas_rev p i j) → Q () st' s) : kasC (model prog w) A E (reverseSlice' i j) Q st s := by
  rw [reverseSlice'_eq]
  refine kasC_modify (h _ ⟨H.k, ?_, H.p, H.f⟩)
  show mirror (arrOf st) i j ((j - i) / 2) = _
  rw [H.a]
  exact kas_swaps_map (kas_item it) (fun k => i + k) (fun k => j - 1 - k) _ p
theorem mv_ok {p : Array Nat} {st : SortSt} (H : Hd κ it pend st p) {i j : Nat} {Q : Unit → SortSt → Shared → Prop} (h : ∀ st', Hd κ it pend st' (bubble p i (i - j)) → Q () st' s) : kasC (model prog w) A E (moveDown' i j) Q st s := by
  rw [moveDown'_eq]
  refine kasC_modify (h _ ⟨H.k, ?_, H.p, H.f⟩)
  show bubble (arrOf st) i (i - j) = _
  rw [H.a]
  exact kas_swaps_map (kas_item it) (fun k => i - k) (fun k => i - k - 1) _ p
theorem kasC_forB {σ β : Type} {M : Model} {f : Nat → β → StateT σ Sem (ForInStep β)} {Q : β → σ → Shared → Prop} (I : Nat → β → σ → Shared → Prop) (B : Nat)
    (step : ∀ x c st s', x < B → I x c st s' → kasC M A E (f x c) (fun r st2 s2 => match r with | .yield c' => I (x + 1) c' st2 s2 | .done c' => Q c' st2 s2) st s') : ∀ (m a : Nat) (c : β) (st : σ) (s' : Shared), a + m ≤ B → (∀ c st s', I (a + m) c st s' → Q c st s') → I a c st s' →
      kasC M A E (forIn (List.range' a m) c f) Q st s'
  | 0, a, c, st, s', hB, fin, h => by
    show kasC M A E (forIn ([] : List Nat) c f) Q st s'
    exact kasC_nil (fin c st s' h)
  | m + 1, a, c, st, s', hB, fin, h => by
    show kasC M A E (forIn (a :: List.range' (a + 1) m) c f) Q st s'
    refine kasC_cons (wpAny_mono (step a c st s' (by omega) h) (fun r s2 h' => ?_) fun _ _ e => e)
    obtain ⟨r, st2⟩ := r
    cases r with
    | done c' => exact h'
    | yield c' => exact kasC_forB I B step m (a + 1) c' st2 s2 (by omega) (fun c st s' hi => fin c st s' (by rw [show a + (m + 1) = a + 1 + m by omega]; exact hi)) h'
theorem count_ok (hc : CmpBy n key (kas_cmp prog w A κ it) s) (inj : ∀ i j, i < n → j < n → key i = key j → i = j) {p : Array Nat} (hp : Rg n p) {lo nrem : Nat} (h1 : 1 ≤ nrem) (hz : lo + nrem ≤ n) {st : SortSt} (H : Hd κ it pend st p) {Q : Option Nat → SortSt → Shared → Prop}
    (h : ∀ m p' st', 1 ≤ m → m ≤ nrem → Rg n p' → Hd κ it pend st' p' → (∀ i, i < lo → p'[i]? = p[i]?) → (∀ j, lo + 1 ≤ j → j < lo + m → kyA key p' (j - 1) ≤ kyA key p' j) → Q (some m) st' s) :
    kasC (model prog w) A E (countRun' lo nrem) Q st s := by
  unfold countRun'
  have asc : ∀ (q : Array Nat) (st1 : SortSt) (a : Nat), Rg n q → Hd κ it pend st1 q → 1 ≤ a → a ≤ nrem → (∀ j, lo + 1 ≤ j → j < lo + a → kyA key q (j - 1) ≤ kyA key q j) →
      kasC (model prog w) A E (forIn [a:nrem] ((none : Option (Option Nat)), a) fun x c => do
        let r ← ltAt' (lo + c.2) (lo + c.2 - 1)
        match r with
        | some smaller => if smaller = true then pure (ForInStep.done (none, c.2)) else pure (ForInStep.yield (none, c.2 + 1))
        | x => pure (ForInStep.done (some none, c.2)))
        (fun c st' s' => s = s' ∧ st1 = st' ∧ ∃ m, c = (none, m) ∧ a ≤ m ∧ m ≤ nrem ∧ (∀ j, lo + 1 ≤ j → j < lo + m → kyA key q (j - 1) ≤ kyA key q j) ∧ (m = nrem ∨ kyA key q (lo + m) < kyA key q (lo + m - 1))) st1 s := fun q st1 a hq H1 a1 a2 a3 => by
    refine kasC_range (kasC_forB (fun x c st' s' => s = s' ∧ st1 = st' ∧ c = (none, x) ∧ a ≤ x ∧ ∀ j, lo + 1 ≤ j → j < lo + x → kyA key q (j - 1) ≤ kyA key q j) nrem ?_ _ _ _ _ _ (by omega) ?_ ⟨rfl, rfl, rfl, Nat.le_refl _, a3⟩)
    · rintro x c st' s' hx ⟨rfl, rfl, rfl, x1, x2⟩
      dsimp only
      refine kasC_bind (ltAt_ok hc hq (by omega) (by omega) H1 ?_)
      dsimp only
      by_cases hk : kyA key q (lo + x) < kyA key q (lo + x - 1)
      · rw [if_pos (by simpa using hk)]
        exact kasC_pure ⟨rfl, rfl, x, rfl, x1, by omega, x2, .inr hk⟩
      · rw [if_neg (by simpa using hk)]
        refine kasC_pure ⟨rfl, rfl, rfl, by omega, fun j j1 j2 => ?_⟩
        by_cases e : j = lo + x
        · subst e
          omega
        · exact x2 j j1 (by omega)
    · rintro c st' s' ⟨rfl, rfl, rfl, x1, x2⟩
      rw [show a + (nrem - a) = nrem by omega] at x2 ⊢
      exact ⟨rfl, rfl, nrem, rfl, by omega, Nat.le_refl _, x2, .inl rfl⟩
  with_unfolding_all refine kasC_bind (kasC_mono (asc p st 1 hp H (Nat.le_refl _) h1 fun j a b => by omega) ?_)
  rintro c st' s' ⟨rfl, rfl, m, rfl, m1, m2, m3, m4⟩
  dsimp only
  by_cases e : m = nrem
  · rw [if_pos (by simpa using e)]
    exact kasC_pure (h m p _ m1 m2 hp H (fun _ _ => rfl) m3)
  rw [if_neg (by simpa using e)]
  have lt1 : kyA key p (lo + m) < kyA key p (lo + m - 1) := m4.resolve_left e
  by_cases e1 : m > 1
  · rw [if_pos e1]
    refine kasC_bind (ltAt_ok hc hp (by omega) (by omega) H ?_)
    dsimp only
    have : ∀ d, 1 ≤ d → d < m → kyA key p lo < kyA key p (lo + d) := fun d => by
      induction d with
      | zero => intro x; omega
      | succ d ih =>
        intro _ hd
        have a := m3 (lo + (d + 1)) (by omega) (by omega)
        rw [show lo + (d + 1) - 1 = lo + d by omega] at a
        have b := hp.ne inj (show lo + d < lo + (d + 1) by omega) (by omega)
        by_cases z : d = 0
        · subst z
          rw [Nat.add_zero] at a b
          omega
        · have := ih (by omega) (by omega)
          omega
    have hr := this (m - 1) (by omega) (by omega)
    rw [show lo + (m - 1) = lo + m - 1 by omega] at hr
    rw [if_pos (by simpa using hr)]
    exact kasC_pure (h m p _ m1 m2 hp H (fun _ _ => rfl) m3)
  rw [if_neg e1]
  obtain rfl : m = 1 := by omega
  refine kasC_bind (kasC_lift (wpAny_rule ?_))
  refine kasC_bind (kasC_mono (Q' := fun c st' s' => s = s' ∧ st = st' ∧ ∃ m, c = (none, m, 0) ∧ 2 ≤ m ∧ m ≤ nrem ∧ ∀ j, lo + 1 ≤ j → j < lo + m → kyA key p j < kyA key p (j - 1))
    (kasC_range (kasC_forB (fun x c st' s' => s = s' ∧ st = st' ∧ c = (none, x, 0) ∧ 2 ≤ x ∧ ∀ j, lo + 1 ≤ j → j < lo + x → kyA key p j < kyA key p (j - 1)) nrem ?d1 _ _ _ _ _ (by omega) ?d2 ⟨rfl, rfl, rfl, Nat.le_refl _, fun j j1 j2 => by
      obtain rfl : j = lo + 1 := by omega
      exact lt1⟩)) ?d3)
  case d1 =>
    rintro x c st' s' hx ⟨rfl, rfl, rfl, x1, x2⟩
    dsimp only
    refine kasC_bind (ltAt_ok hc hp (by omega) (by omega) H ?_)
    dsimp only
    by_cases hk : kyA key p (lo + x) < kyA key p (lo + x - 1)
    · rw [if_pos (by simpa using hk), if_neg (by omega)]
      refine kasC_pure ⟨rfl, rfl, rfl, by omega, fun j j1 j2 => ?_⟩
      by_cases e : j = lo + x
      · subst e
        exact hk
      · exact x2 j j1 (by omega)
    · rw [if_neg (by simpa using hk)]
      refine kasC_bind (ltAt_ok hc hp (by omega) (by omega) H ?_)
      dsimp only
      have b := hp.ne inj (show lo + x - 1 < lo + x by omega) (by omega)
      rw [if_pos (by rw [decide_eq_true_eq]; omega)]
      exact kasC_pure ⟨rfl, rfl, x, rfl, x1, by omega, x2⟩
  case d2 =>
    rintro c st' s' ⟨rfl, rfl, rfl, x1, x2⟩
    rw [show 1 + 1 + (nrem - (1 + 1)) = nrem by omega] at x2 ⊢
    exact ⟨rfl, rfl, nrem, rfl, by omega, Nat.le_refl _, x2⟩
  case d3 =>
    rintro c st' s' ⟨rfl, rfl, k, rfl, k1, k2, k3⟩
    dsimp only
    rw [if_neg (by omega)]
    refine kasC_bind (rev_ok H ?_)
    intro st2 H2
    have hp' := hp.rev lo (lo + k)
    have g : ∀ i, (kas_rev p lo (lo + k))[i]? = if lo ≤ i ∧ i < lo + k then p[lo + (lo + k) - 1 - i]? else p[i]? := fun i => by
      unfold kas_rev
      rw [getElem?_mirror_all (by rw [hp.size]; omega)]
    have ky : ∀ i, lo ≤ i → i < lo + k → kyA key (kas_rev p lo (lo + k)) i = kyA key p (lo + (lo + k) - 1 - i) := fun i a b => ky_of (by rw [g, if_pos ⟨a, b⟩])
    refine kasC_bind (kasC_mono (asc (kas_rev p lo (lo + k)) st2 k hp' H2 (by omega) k2 fun j j1 j2 => ?_) ?_)
    · rw [ky _ (by omega) (by omega), ky _ (by omega) (by omega)]
      have := k3 (lo + (lo + k) - 1 - (j - 1)) (by omega) (by omega)
      rw [show lo + (lo + k) - 1 - (j - 1) - 1 = lo + (lo + k) - 1 - j by omega] at this
      omega
    · rintro c st' s' ⟨rfl, rfl, m', rfl, q1, q2, q3, q4⟩
      dsimp only
      exact kasC_pure (h m' _ _ (by omega) q2 hp' H2 (fun i hi => by rw [g, if_neg (by omega)]) q3)
end
end L2
set_option Elab.async false
set_option linter.all false
set_option maxRecDepth 100000
namespace L2
open PySem PySem.Spec PyProof.Rows PySem.W
section
variable {prog : Program} {w : World} {A : Around} {E : Value → Shared → Prop} {κ : SortKind} {it : Array Keyed} {key : Nat → Int} {n : Nat} {s : Shared} {pend : Array (Nat × Nat × Nat)}
def AscAt (key : Nat → Int) (p : Array Nat) (lo m : Nat) : Prop := ∀ i j, lo ≤ i → i ≤ j → j < lo + m → kyA key p i ≤ kyA key p j
theorem asc_of {p : Array Nat} {lo m : Nat} (h : ∀ j, lo + 1 ≤ j → j < lo + m → kyA key p (j - 1) ≤ kyA key p j) : AscAt key p lo m := by
  intro i j hi hij hj
  obtain ⟨d, rfl⟩ : ∃ d, j = i + d := ⟨j - i, by omega⟩
  clear hij
  induction d with
  | zero => exact Int.le_refl _
  | succ d ih =>
    have a := ih (by omega)
    have b := h (i + (d + 1)) (by omega) hj
    rw [show i + (d + 1) - 1 = i + d by omega] at b
    omega
theorem bin_ok (hc : CmpBy n key (kas_cmp prog w A κ it) s) {p : Array Nat} (hp : Rg n p) {lo m okk : Nat} (hz : lo + m ≤ n) (h1 : 1 ≤ okk) (hm : okk ≤ m) (up : AscAt key p lo okk) {st : SortSt} (H : Hd κ it pend st p) {Q : Bool → SortSt → Shared → Prop}
    (h : ∀ p' st', Rg n p' → Hd κ it pend st' p' → (∀ i, i < lo → p'[i]? = p[i]?) → AscAt key p' lo m → Q true st' s) :
    kasC (model prog w) A E (binarySort' lo m okk) Q st s := by
  rw [binarySort'_eq]
  rw [show max okk 1 = okk by omega]
  with_unfolding_all refine kasC_bind (kasC_mono (Q' := fun c st' s' => s = s' ∧ c = (none, ()) ∧ ∃ q, Rg n q ∧ Hd κ it pend st' q ∧ (∀ i, i < lo → q[i]? = p[i]?) ∧ AscAt key q lo m)
    (kasC_range (kasC_forB (fun x c st' s' => s = s' ∧ c = (none, ()) ∧ 1 ≤ x ∧ ∃ q, Rg n q ∧ Hd κ it pend st' q ∧ (∀ i, i < lo → q[i]? = p[i]?) ∧ AscAt key q lo x) m ?step _ _ _ _ _ (by omega) ?fin ⟨rfl, rfl, h1, p, hp, H, fun _ _ => rfl, up⟩)) ?after)
  case after =>
    rintro c st' s' ⟨rfl, rfl, q, q1, q2, q3, q4⟩
    exact kasC_pure (h q _ q1 q2 q3 q4)
  case fin =>
    rintro c st' s' ⟨rfl, rfl, x1, q, q1, q2, q3, q4⟩
    rw [show okk + (m - okk) = m by omega] at q4
    exact ⟨rfl, rfl, q, q1, q2, q3, q4⟩
  case step =>
    rintro k c st' s' hk ⟨rfl, rfl, k1, q, hq, H', fr, up⟩
    dsimp only
    have L0 : ∀ i, lo ≤ i → i < lo + 0 → kyA key q i ≤ kyA key q (lo + k) := fun i a b => by omega
    have R0 : ∀ i, lo + k ≤ i → i < lo + k → kyA key q (lo + k) ≤ kyA key q i := fun i a b => by omega
    refine kasC_bind (kasC_mono (Q' := fun c st2 s' => s = s' ∧ st' = st2 ∧ ∃ l r, c = (none, l, r) ∧ l ≤ k ∧ (∀ i, lo ≤ i → i < lo + l → kyA key q i ≤ kyA key q (lo + k)) ∧ (∀ i, lo + l ≤ i → i < lo + k → kyA key q (lo + k) ≤ kyA key q i))
      (kasC_range (kasC_forB (fun x c st2 s' => s = s' ∧ st' = st2 ∧ ∃ l r, c = (none, l, r) ∧ l ≤ r ∧ r ≤ k ∧ r - l ≤ k - x ∧ (∀ i, lo ≤ i → i < lo + l → kyA key q i ≤ kyA key q (lo + k)) ∧ (∀ i, lo + r ≤ i → i < lo + k → kyA key q (lo + k) ≤ kyA key q i)) k ?s2 _ _ _ _ _ (by omega) ?f2 ⟨rfl, rfl, 0, k, rfl, by omega, by omega, by omega, L0, R0⟩)) ?a2)
    case f2 =>
      rintro c st2 s' ⟨rfl, rfl, l, r, rfl, b1, b2, b3, b4, b5⟩
      exact ⟨rfl, rfl, l, r, rfl, by omega, b4, fun i x y => b5 i (by omega) y⟩
    case s2 =>
      rintro x c st2 s' hx ⟨rfl, rfl, l, r, rfl, b1, b2, b3, b4, b5⟩
      dsimp only
      by_cases e : l ≥ r
      · rw [if_pos e]
        exact kasC_pure ⟨rfl, rfl, l, r, rfl, by omega, b4, fun i x y => b5 i (by omega) y⟩
      rw [if_neg e]
      have m1 : l ≤ (l + r) / 2 := by omega
      have m2 : (l + r) / 2 < r := by omega
      have m3 : (l + r) / 2 - l ≤ k - (x + 1) := by omega
      have m4 : r - ((l + r) / 2 + 1) ≤ k - (x + 1) := by omega
      generalize (l + r) / 2 = mid at m1 m2 m3 m4 ⊢
      refine kasC_bind (ltAt_ok hc hq (by omega) (by omega) H' ?_)
      dsimp only
      by_cases hk2 : kyA key q (lo + k) < kyA key q (lo + mid)
      · rw [if_pos (by simpa using hk2)]
        refine kasC_pure ⟨rfl, rfl, l, mid, rfl, m1, by omega, m3, b4, fun i x y => ?_⟩
        have := up (lo + mid) i (by omega) x y
        omega
      · rw [if_neg (by simpa using hk2)]
        refine kasC_pure ⟨rfl, rfl, mid + 1, r, rfl, by omega, b2, m4, fun i x y => ?_, b5⟩
        have := up i (lo + mid) x (by omega) (by omega)
        omega
    case a2 =>
      rintro c st2 s' ⟨rfl, rfl, l, r, rfl, b1, b4, b5⟩
      dsimp only
      refine kasC_bind (mv_ok H' ?_)
      intro st3 H3
      have g : ∀ i, (bubble q (lo + k) (lo + k - (lo + l)))[i]? = if i = lo + l then q[lo + k]? else if lo + l < i ∧ i ≤ lo + k then q[i - 1]? else q[i]? := fun i => by
        have := getElem?_bubble (xs := q) (src := lo + k) (by rw [hq.size]; omega) (lo + k - (lo + l)) (by omega) i
        rwa [show lo + k - (lo + k - (lo + l)) = lo + l by omega] at this
      have ky : ∀ i, kyA key (bubble q (lo + k) (lo + k - (lo + l))) i = if i = lo + l then kyA key q (lo + k) else if lo + l < i ∧ i ≤ lo + k then kyA key q (i - 1) else kyA key q i := fun i => by
        have g := g i
        by_cases e : i = lo + l
        · rw [if_pos e] at g ⊢; exact ky_of g
        · rw [if_neg e] at g ⊢
          by_cases e2 : lo + l < i ∧ i ≤ lo + k
          · rw [if_pos e2] at g ⊢; exact ky_of g
          · rw [if_neg e2] at g ⊢; exact ky_of g
      refine kasC_pure ⟨rfl, rfl, by omega, _, hq.bub _ _, H3, fun i hi => by rw [g, if_neg (by omega), if_neg (by omega)]; exact fr i hi, asc_of fun j x y => ?_⟩
      rw [ky, ky]
      by_cases c1 : j - 1 = lo + l
      · rw [if_pos c1, if_neg (by omega), if_pos (by omega)]
        exact b5 (j - 1) (by omega) (by omega)
      · rw [if_neg c1]
        by_cases c2 : j = lo + l
        · rw [if_pos c2, if_neg (by omega)]
          exact b4 (j - 1) (by omega) (by omega)
        · rw [if_neg c2]
          by_cases c3 : lo + l < j - 1
          · rw [if_pos (by omega), if_pos (by omega)]
            exact up _ _ (by omega) (by omega) (by omega)
          · rw [if_neg (by omega), if_neg (by omega)]
            exact up _ _ (by omega) (by omega) (by omega)
end
end L2
set_option Elab.async false
set_option linter.all false
set_option maxRecDepth 100000
namespace L2
open PySem PySem.Spec PyProof.Rows PySem.W
section
variable {prog : Program} {w : World} {A : Around} {E : Value → Shared → Prop} {κ : SortKind} {it : Array Keyed} {key : Nat → Int} {n : Nat} {s : Shared} {pend : Array (Nat × Nat × Nat)}
def Runs (key : Nat → Int) (p : Array Nat) : Nat → List (Nat × Nat × Nat) → Nat → Prop
  | a, [], b => a = b
  | a, (x, l, _) :: t, b => x = a ∧ 0 < l ∧ AscAt key p x l ∧ Runs key p (a + l) t b
theorem Runs.le {p : Array Nat} : ∀ {t : List (Nat × Nat × Nat)} {a b : Nat}, Runs key p a t b → a + t.length ≤ b
  | [], a, b, h => by rw [show b = a from h.symm]; exact Nat.le_refl _
  | (x, l, _) :: t, a, b, h => by
    have := h.2.2.2.le
    have := h.2.1
    rw [List.length_cons]
    omega
theorem Runs.congr {p q : Array Nat} : ∀ {t : List (Nat × Nat × Nat)} {a b : Nat}, Runs key p a t b → (∀ i, a ≤ i → i < b → kyA key q i = kyA key p i) → Runs key q a t b
  | [], a, b, h, _ => h
  | (x, l, _) :: t, a, b, h, g => by
    have := h.2.2.2.le
    obtain ⟨rfl, h2, h3, h4⟩ := h
    refine ⟨rfl, h2, fun i j hi hij hj => ?_, h4.congr fun i a b => g i (by omega) b⟩
    rw [g i hi (by omega), g j (by omega) (by omega)]
    exact h3 i j hi hij hj
theorem Runs.app {p : Array Nat} : ∀ {t u : List (Nat × Nat × Nat)} {a b : Nat}, Runs key p a (t ++ u) b ↔ ∃ c, Runs key p a t c ∧ Runs key p c u b
  | [], u, a, b => ⟨fun h => ⟨a, rfl, h⟩, fun ⟨c, e, h⟩ => by rw [show a = c from e]; exact h⟩
  | (x, l, z) :: t, u, a, b => by
    show (x = a ∧ 0 < l ∧ AscAt key p x l ∧ Runs key p (a + l) (t ++ u) b) ↔ _
    rw [Runs.app]
    constructor
    · rintro ⟨h1, h2, h3, c, h4, h5⟩
      exact ⟨c, ⟨h1, h2, h3, h4⟩, h5⟩
    · rintro ⟨c, ⟨h1, h2, h3, h4⟩, h5⟩
      exact ⟨h1, h2, h3, c, h4, h5⟩
theorem cut2 {α : Type} {l : List α} {i : Nat} (h : i + 1 < l.length) : ∃ l1 x y l2, l = l1 ++ x :: y :: l2 ∧ l1.length = i := by
  refine ⟨l.take i, l[i]'(by omega), l[i + 1], l.drop (i + 2), ?_, by rw [List.length_take]; omega⟩
  have e1 := List.drop_eq_getElem_cons (l := l) (i := i) (by omega)
  have e2 := List.drop_eq_getElem_cons (l := l) (i := i + 1) h
  rw [← e2, ← e1, List.take_append_drop]
theorem kyT (l : List Nat) (i : Nat) : kyA key l.toArray i = key (l.getD i 0) := by unfold kyA; rw [getA]
theorem mergeS_ok (hc : CmpBy n key (kas_cmp prog w A κ it) s) {p : Array Nat} (hp : Rg n p) {st : SortSt} (H : Hd κ it pend st p) {lo i : Nat} (hi : i + 1 < pend.size) (R : Runs key p 0 pend.toList lo) (hlo : lo ≤ n) {Q : Bool → SortSt → Shared → Prop}
    (h : ∀ pend' p' st', Rg n p' → Hd κ it pend' st' p' → pend'.size + 1 = pend.size → Runs key p' 0 pend'.toList lo → (∀ i, lo ≤ i → kyA key p' i = kyA key p i) → Q true st' s) : kasC (model prog w) A E (mergeAt' i) Q st s := by
  obtain ⟨l1, ⟨sa, na, pw⟩, ⟨sb, nb, pw2⟩, l2, e, rfl⟩ := cut2 (l := pend.toList) (i := i) (by simpa using hi)
  rw [e] at R
  obtain ⟨c, R1, rfl, na0, A1, rfl, nb0, A2, R2⟩ := Runs.app.mp R
  have b2 := R2.le
  have pe : pend = (l1 ++ (sa, na, pw) :: (sa + na, nb, pw2) :: l2).toArray := by rw [← e]
  have psz : p.size = n := hp.size
  have plt : ∀ x ∈ p.toList, x < n := fun x hx => List.mem_range.mp (hp.mem_iff.mp hx)
  have gk : ∀ i, kyA key p i = key (p.toList.getD i 0) := fun i => kyT p.toList i
  have pl : p.toList.length = n := by rw [Array.length_toList, psz]
  have srtOf : ∀ a m, a + m ≤ n → AscAt key p a m → Srt key ((p.toList.drop a).take m) := fun a m hz h => by
    refine List.pairwise_iff_getElem.mpr fun i j hi hj hij => ?_
    have hi' := hi
    have hj' := hj
    rw [List.length_take, List.length_drop, pl] at hi' hj'
    have := h (a + i) (a + j) (by omega) (by omega) (by omega)
    rw [gk, gk] at this
    rw [List.getElem_take, List.getElem_drop, List.getElem_take, List.getElem_drop]
    rw [List.getD_eq_getElem?_getD, List.getD_eq_getElem?_getD, List.getElem?_eq_getElem (by omega), List.getElem?_eq_getElem (by omega)] at this
    exact this
  refine mergeAt_ok hc (lp := p.toList) plt (i := l1.length) (sa := sa) (na := na) (nb := nb) (pw := pw) (pw2 := pw2) H.k (by rw [H.a]; apply Array.ext'; simp) H.f (by rw [H.p, pe]; simp) (by rw [H.p, pe]; simp) na0 nb0 (by omega) (srtOf _ _ (by omega) A1) (srtOf _ _ (by omega) A2) ?_
  intro mid st' k1 f1 p1 m1 m2 a1
  have ml : mid.length = na + nb := by rw [m1.length_eq, List.length_take, List.length_drop, pl]; omega
  have eAll : p.toList.take sa ++ (p.toList.drop sa).take (na + nb) ++ p.toList.drop (sa + (na + nb)) = p.toList := by rw [takeDrop, List.take_append_drop]
  have hp' : Rg n (p.toList.take sa ++ mid ++ p.toList.drop (sa + (na + nb))).toArray := by
    show (p.toList.take sa ++ mid ++ p.toList.drop (sa + (na + nb))).Perm (List.range n)
    refine List.Perm.trans (List.Perm.append_right _ (List.Perm.append_left _ m1)) ?_
    rw [eAll]
    exact hp
  have tl : (p.toList.take sa).length = sa := by rw [List.length_take, pl]; omega
  have k1' : ∀ i, i < sa → kyA key (p.toList.take sa ++ mid ++ p.toList.drop (sa + (na + nb))).toArray i = kyA key p i := fun i hi => by
    rw [kyT, gk]
    congr 1
    rw [List.getD_eq_getElem?_getD, List.getD_eq_getElem?_getD, List.append_assoc, List.getElem?_append_left (by omega), List.getElem?_take, if_pos hi]
  have k2' : ∀ i, sa + (na + nb) ≤ i → kyA key (p.toList.take sa ++ mid ++ p.toList.drop (sa + (na + nb))).toArray i = kyA key p i := fun i hi => by
    rw [kyT, gk]
    congr 1
    rw [List.getD_eq_getElem?_getD, List.getD_eq_getElem?_getD, List.getElem?_append_right (by rw [List.length_append]; omega), List.getElem?_drop, List.length_append, tl, ml]
    congr 2
    omega
  have k3' : ∀ i, sa ≤ i → i < sa + (na + nb) → kyA key (p.toList.take sa ++ mid ++ p.toList.drop (sa + (na + nb))).toArray i = key (mid.getD (i - sa) 0) := fun i h1 h2 => by
    rw [kyT]
    congr 1
    rw [List.getD_eq_getElem?_getD, List.getD_eq_getElem?_getD, List.append_assoc, List.getElem?_append_right (by omega), tl, List.getElem?_append_left (by omega)]
  have pe' : ((l1 ++ (sa, na, pw) :: (sa + na, nb, pw2) :: l2).toArray.setIfInBounds l1.length (sa, na + nb, pw)).eraseIdxIfInBounds (l1.length + 1) = (l1 ++ (sa, na + nb, pw) :: l2).toArray := by
    rw [List.setIfInBounds_toArray, List.set_append_right _ _ (Nat.le_refl _), Nat.sub_self, List.set_cons_zero]
    rw [List.eraseIdxIfInBounds_toArray, List.eraseIdx_append_of_length_le (by omega), show l1.length + 1 - l1.length = 1 by omega]
    rfl
  refine h ((l1 ++ (sa, na + nb, pw) :: l2).toArray) _ st' hp' ⟨k1, by rw [a1]; apply Array.ext'; simp, by rw [p1, H.p, pe, pe'], f1⟩ (by rw [pe]; simp; omega) ?_ (fun i hi => k2' i (by omega))
  have R2' : Runs key p (sa + (na + nb)) l2 lo := by rw [← Nat.add_assoc]; exact R2
  refine Runs.app.mpr ⟨sa, R1.congr fun i _ b => k1' i b, rfl, by omega, fun i j h1 h2 h3 => ?_, R2'.congr fun i a b => k2' i a⟩
  · rw [k3' i h1 (by omega), k3' j (by omega) h3]
    exact srt_get m2 (by omega) (by omega)
end
end L2
set_option Elab.async false
set_option linter.all false
set_option maxRecDepth 100000
namespace L2
open PySem PySem.Spec PyProof.Rows PySem.W
section
variable {prog : Program} {w : World} {A : Around} {E : Value → Shared → Prop} {κ : SortKind} {it : Array Keyed} {key : Nat → Int} {n : Nat} {s : Shared} {pend : Array (Nat × Nat × Nat)}
theorem Runs.same {p : Array Nat} : ∀ {t u : List (Nat × Nat × Nat)} {a b : Nat}, Runs key p a t b → (t.map fun x => (x.1, x.2.1)) = (u.map fun x => (x.1, x.2.1)) → Runs key p a u b
  | [], [], a, b, h, _ => h
  | [], _ :: _, a, b, h, e => by cases e
  | _ :: _, [], a, b, h, e => by cases e
  | (x, l, z) :: t, (x', l', z') :: u, a, b, h, e => by
    rw [List.map_cons, List.map_cons] at e
    injection e with e1 e2
    injection e1 with e3 e4
    dsimp only at e3 e4
    subst e3
    subst e4
    exact ⟨h.1, h.2.1, h.2.2.1, h.2.2.2.same e2⟩
theorem modify_same (xs : Array (Nat × Nat × Nat)) (i z : Nat) : (xs.toList.map fun x => (x.1, x.2.1)) = ((xs.modify i fun x => (x.1, x.2.1, z)).toList.map fun x => (x.1, x.2.1)) := by
  apply List.ext_getElem?
  intro j
  rw [List.getElem?_map, List.getElem?_map, Array.getElem?_toList, Array.getElem?_toList, Array.getElem?_modify]
  split
  · rw [Option.map_map]
    rfl
  · rfl
theorem AscAt.congr {p q : Array Nat} {lo m : Nat} (h : AscAt key p lo m) (g : ∀ i, lo ≤ i → kyA key q i = kyA key p i) : AscAt key q lo m := fun i j a b c => by
  rw [g i a, g j (by omega)]
  exact h i j a b c
theorem runs_all {Q : Unit → SortSt → Shared → Prop} (hc : CmpBy n key (kas_cmp prog w A κ it) s) (inj : ∀ i j, i < n → j < n → key i = key j → i = j) (h2 : 2 ≤ n)
    (hG : ∀ p' st', Rg n p' → Up key p' n → arrOf st' = p'.map (kas_item it) → failedOf st' = none → Q () st' s) : kasC (model prog w) A E sortRuns' Q (kas_st κ it (List.range n).toArray) s := by
  rw [sortRuns'_eq]
  refine kasC_bind (kasC_get ?_)
  dsimp only
  have hsz : (arrOf (kas_st κ it (List.range n).toArray)).size = n := by
    show ((List.range n).toArray.map (kas_item it)).size = n
    simp
  simp only [hsz]
  refine kasC_bind (kasC_mono (Q' := fun c st' s' => s = s' ∧ c = (none, n) ∧ ∃ pend p, Rg n p ∧ Hd κ it pend st' p ∧ Runs key p 0 pend.toList n)
    (kasC_range (kasC_for (fun x c st' s' => s = s' ∧ ∃ lo pend p, c = (none, lo) ∧ x ≤ lo ∧ lo ≤ n ∧ Rg n p ∧ Hd κ it pend st' p ∧ Runs key p 0 pend.toList lo) ?step _ 0 _ _ _ ?fin ⟨rfl, 0, #[], (List.range n).toArray, rfl, Nat.le_refl _, by omega, List.Perm.refl _, ⟨rfl, rfl, rfl, rfl⟩, rfl⟩)) ?after)
  case fin =>
    rintro c st' s' ⟨rfl, lo, pend, p, rfl, a, b, d, e, f⟩
    have : lo = n := by omega
    subst this
    exact ⟨rfl, rfl, pend, p, d, e, f⟩
  case after =>
    rintro c st' s' ⟨rfl, rfl, pend, p, hp, H, R⟩
    dsimp only
    refine kasC_bind (kasC_mono (Q' := fun c st' s' => s = s' ∧ c = (none, ()) ∧ ∃ p, Rg n p ∧ Up key p n ∧ arrOf st' = p.map (kas_item it) ∧ failedOf st' = none)
      (kasC_range (kasC_for (fun x c st' s' => s = s' ∧ c = (none, ()) ∧ ∃ pend p, Rg n p ∧ Hd κ it pend st' p ∧ Runs key p 0 pend.toList n ∧ pend.size + x ≤ n) ?s2 _ 0 _ _ _ ?f2 ⟨rfl, rfl, pend, p, hp, H, R, by have := R.le; rw [Array.length_toList] at this; omega⟩)) ?a2)
    case a2 =>
      rintro c st' s' ⟨rfl, rfl, p, a, b, c, d⟩
      exact kasC_pure (hG p _ a b c d)
    case f2 =>
      rintro c st' s' ⟨rfl, rfl, pend, p, hp, H, R, hx⟩
      have e : pend.toList = [] := List.eq_nil_of_length_eq_zero (by rw [Array.length_toList]; omega)
      rw [e] at R
      have : 0 = n := R
      omega
    case s2 =>
      rintro x c st' s' ⟨rfl, rfl, pend, p, hp, H, R, hx⟩
      refine kasC_bind (kasC_get ?_)
      by_cases e : (pendingOf st').size ≤ 1
      · rw [if_pos e]
        refine kasC_pure ⟨rfl, rfl, p, hp, ?_, H.a, H.f⟩
        rw [H.p] at e
        have el : pend.toList.length ≤ 1 := by rw [Array.length_toList]; exact e
        match hl : pend.toList, el with
        | [], _ =>
          rw [hl] at R
          have : 0 = n := R
          omega
        | [(x, l, z)], _ =>
          rw [hl] at R
          obtain ⟨rfl, _, a3, a4⟩ := R
          have : 0 + l = n := a4
          exact fun i j hij hj => a3 i j (Nat.zero_le _) hij (by omega)
        | _ :: _ :: _, h => exact absurd h (by simp)
      · rw [if_neg e]
        rw [H.p] at e
        have stp : ∀ idx, idx + 1 < pend.size → kasC (model prog w) A E (mergeAt' idx) (fun b st2 s2 => b = true ∧ s = s2 ∧ ∃ pend p, Rg n p ∧ Hd κ it pend st2 p ∧ Runs key p 0 pend.toList n ∧ pend.size + (x + 1) ≤ n) st' s := fun idx hidx =>
          mergeS_ok hc hp H hidx R (Nat.le_refl _) fun pend' p' st'' a b c d fr => ⟨rfl, rfl, pend', p', a, b, d, by omega⟩
        refine kasC_bind (kasC_mono (stp _ ?_) ?_)
        · rw [H.p]
          have : ∀ (c : Prop) [Decidable c], (if c then pend.size - 2 - 1 else pend.size - 2) + 1 < pend.size := fun c _ => by split <;> omega
          exact this _
        · rintro b st2 s2 ⟨rfl, rfl, hh⟩
          rw [if_neg (by decide)]
          exact kasC_pure ⟨rfl, rfl, hh⟩
  case step =>
    rintro x c st' s' ⟨rfl, lo, pend, p, rfl, x1, x2, hp, H, R⟩
    dsimp only
    by_cases c1 : lo ≥ n
    · rw [if_pos c1]
      have : lo = n := by omega
      subst this
      exact kasC_pure ⟨rfl, rfl, pend, p, hp, H, R⟩
    rw [if_neg c1]
    refine kasC_bind (count_ok hc inj hp (by omega) (by omega) H ?_)
    intro m p1 st1 m1 m2 hp1 H1 fr1 A1
    have A1 := asc_of A1
    have R1 : Runs key p1 0 pend.toList lo := R.congr fun i _ b => ky_of (fr1 i b)
    dsimp only
    by_cases c2 : m < minRun' n n 0
    · rw [if_pos c2]
      refine kasC_bind (kasC_lift (wpAny_rule ?_))
      have mm : m ≤ min (n - lo) (minRun' n n 0) := by omega
      have mn : min (n - lo) (minRun' n n 0) ≤ n - lo := by omega
      generalize min (n - lo) (minRun' n n 0) = force at mm mn ⊢
      refine kasC_bind (bin_ok hc hp1 (by omega) m1 mm A1 H1 ?_)
      intro p2 st2 hp2 H2 fr2 A2
      have R2 : Runs key p2 0 pend.toList lo := R1.congr fun i _ b => ky_of (fr2 i b)
      rw [if_neg (by decide)]
      refine kasC_bind (kasC_get ?_)
      rcases hbk : (pendingOf st2).back? with _ | ⟨s1, n1, z1⟩
      · dsimp only
        refine kasC_bind (kasC_modify ?_)
        refine kasC_pure ⟨rfl, lo + force, pend.push (lo, force, 0), p2, rfl, by omega, by omega, hp2, ⟨H2.k, H2.a, by show (pendingOf st2).push _ = _; rw [H2.p], H2.f⟩, ?_⟩
        rw [Array.toList_push]
        exact Runs.app.mpr ⟨lo, R2, rfl, by omega, A2, rfl⟩
      · dsimp only
        refine kasC_bind (kasC_mono (Q' := fun c st' s' => s = s' ∧ c = (none, ()) ∧ ∃ pend p, Rg n p ∧ Hd κ it pend st' p ∧ Runs key p 0 pend.toList lo ∧ AscAt key p lo (force))
          (kasC_range (kasC_for (fun x c st' s' => s = s' ∧ c = (none, ()) ∧ ∃ pend p, Rg n p ∧ Hd κ it pend st' p ∧ Runs key p 0 pend.toList lo ∧ AscAt key p lo (force)) ?_ _ 0 _ _ _ (fun _ _ _ z => z) ⟨rfl, rfl, pend, p2, hp2, H2, R2, A2⟩)) ?_)
        · rintro y c st' s' ⟨rfl, rfl, pend, p, hp, H, R, A⟩
          refine kasC_bind (kasC_get ?_)
          by_cases e : (pendingOf st').size > 1
          · rw [if_pos e]
            rcases hg : (pendingOf st')[(pendingOf st').size - 2]? with _ | ⟨a, b, older⟩
            · dsimp only
              exact kasC_pure ⟨rfl, rfl, pend, p, hp, H, R, A⟩
            · dsimp only
              split
              · exact kasC_pure ⟨rfl, rfl, pend, p, hp, H, R, A⟩
              · refine kasC_bind (mergeS_ok hc hp H (by rw [H.p] at e ⊢; omega) R (by omega) ?_)
                intro pend' p' st'' a b c d fr
                rw [if_neg (by decide)]
                exact kasC_pure ⟨rfl, rfl, pend', p', a, b, d, A.congr fr⟩
          · rw [if_neg e]
            dsimp only
            exact kasC_pure ⟨rfl, rfl, pend, p, hp, H, R, A⟩
        · rintro c st' s' ⟨rfl, rfl, pend, p, hp, H, R, A⟩
          dsimp only
          refine kasC_bind (kasC_modify ?_)
          refine kasC_bind (kasC_modify ?_)
          refine kasC_pure ⟨rfl, lo + force, (pend.modify (pend.size - 1) _).push (lo, force, 0), p, rfl, by omega, by omega, hp, ⟨H.k, H.a, by show ((pendingOf st').modify ((pendingOf st').size - 1) _).push _ = _; rw [H.p], H.f⟩, ?_⟩
          rw [Array.toList_push]
          exact Runs.app.mpr ⟨lo, R.same (modify_same _ _ _), rfl, by omega, A, rfl⟩
    · rw [if_neg c2]
      have hp2 := hp1
      have H2 := H1
      have R2 := R1
      have A2 := A1
      revert hp2 H2 R2 A2
      generalize p1 = p2
      generalize st1 = st2
      intro hp2 H2 R2 A2
      refine kasC_bind (kasC_get ?_)
      rcases hbk : (pendingOf st2).back? with _ | ⟨s1, n1, z1⟩
      · dsimp only
        refine kasC_bind (kasC_modify ?_)
        refine kasC_pure ⟨rfl, lo + m, pend.push (lo, m, 0), p2, rfl, by omega, by omega, hp2, ⟨H2.k, H2.a, by show (pendingOf st2).push _ = _; rw [H2.p], H2.f⟩, ?_⟩
        rw [Array.toList_push]
        exact Runs.app.mpr ⟨lo, R2, rfl, by omega, A2, rfl⟩
      · dsimp only
        refine kasC_bind (kasC_mono (Q' := fun c st' s' => s = s' ∧ c = (none, ()) ∧ ∃ pend p, Rg n p ∧ Hd κ it pend st' p ∧ Runs key p 0 pend.toList lo ∧ AscAt key p lo (m))
          (kasC_range (kasC_for (fun x c st' s' => s = s' ∧ c = (none, ()) ∧ ∃ pend p, Rg n p ∧ Hd κ it pend st' p ∧ Runs key p 0 pend.toList lo ∧ AscAt key p lo (m)) ?_ _ 0 _ _ _ (fun _ _ _ z => z) ⟨rfl, rfl, pend, p2, hp2, H2, R2, A2⟩)) ?_)
        · rintro y c st' s' ⟨rfl, rfl, pend, p, hp, H, R, A⟩
          refine kasC_bind (kasC_get ?_)
          by_cases e : (pendingOf st').size > 1
          · rw [if_pos e]
            rcases hg : (pendingOf st')[(pendingOf st').size - 2]? with _ | ⟨a, b, older⟩
            · dsimp only
              exact kasC_pure ⟨rfl, rfl, pend, p, hp, H, R, A⟩
            · dsimp only
              split
              · exact kasC_pure ⟨rfl, rfl, pend, p, hp, H, R, A⟩
              · refine kasC_bind (mergeS_ok hc hp H (by rw [H.p] at e ⊢; omega) R (by omega) ?_)
                intro pend' p' st'' a b c d fr
                rw [if_neg (by decide)]
                exact kasC_pure ⟨rfl, rfl, pend', p', a, b, d, A.congr fr⟩
          · rw [if_neg e]
            dsimp only
            exact kasC_pure ⟨rfl, rfl, pend, p, hp, H, R, A⟩
        · rintro c st' s' ⟨rfl, rfl, pend, p, hp, H, R, A⟩
          dsimp only
          refine kasC_bind (kasC_modify ?_)
          refine kasC_bind (kasC_modify ?_)
          refine kasC_pure ⟨rfl, lo + m, (pend.modify (pend.size - 1) _).push (lo, m, 0), p, rfl, by omega, by omega, hp, ⟨H.k, H.a, by show ((pendingOf st').modify ((pendingOf st').size - 1) _).push _ = _; rw [H.p], H.f⟩, ?_⟩
          rw [Array.toList_push]
          exact Runs.app.mpr ⟨lo, R.same (modify_same _ _ _), rfl, by omega, A, rfl⟩
theorem runs_any2 {Q : Unit → SortSt → Shared → Prop} (hc : CmpBy n key (kas_cmp prog w A κ it) s) (inj : ∀ i j, i < n → j < n → key i = key j → i = j) (h2 : 2 ≤ n) (up : n < 1001 ∨ ∀ j, 1 ≤ j → j < n → key (j - 1) ≤ key j)
    (hG : ∀ p' st', Rg n p' → Up key p' n → arrOf st' = p'.map (kas_item it) → failedOf st' = none → Q () st' s) : kasC (model prog w) A E sortRuns' Q (kas_st κ it (List.range n).toArray) s := runs_all hc inj h2 hG
end
end L2
set_option Elab.async false
set_option linter.all false
set_option maxRecDepth 100000
namespace L2
open PySem PySem.Spec PyProof.Rows PySem.W
def CellV (h : Heap) (v : Value) (c : Int × Int) : Prop := ∃ a t u, v = .ref a ∧ IsTup h a #[.int c.1 t, .int c.2 u]
theorem CellV.go {h h' : Heap} {v : Value} {c : Int × Int} (x : CellV h v c) (k : ∀ a o, v = .ref a → h.get? a = some o → h'.get? a = some o) : CellV h' v c := by
  obtain ⟨a, t, u, e, o, ho, r⟩ := x
  exact ⟨a, t, u, e, o, k a o e ho, r⟩
def ltC (a b : Int × Int) : Prop := a.1 < b.1 ∨ (a.1 = b.1 ∧ a.2 < b.2)
def keyC (cs : List (Int × Int)) (i : Nat) : Int := (cs.getD i (0, 0)).1 * 1000 + (cs.getD i (0, 0)).2
theorem keyC_lt {a b : Int × Int} (h1 : 0 ≤ a.2 ∧ a.2 < 1000) (h2 : 0 ≤ b.2 ∧ b.2 < 1000) : a.1 * 1000 + a.2 < b.1 * 1000 + b.2 ↔ ltC a b := by
  unfold ltC
  omega
section
variable {prog : Program} {w : World} {A : Around} {E : Value → Shared → Prop} {s : Shared} {vs : List Value} {cs : List (Int × Int)}
theorem pairedGet {α β : Type} {F : α → β → Prop} : ∀ {l₁ : List α} {l₂ : List β}, Paired F l₁ l₂ → ∀ (i : Nat), i < l₁.length → ∃ a b, l₁[i]? = some a ∧ l₂[i]? = some b ∧ F a b
  | _, _, .nil, i, h => by simp at h
  | _, _, .cons r t, 0, h => ⟨_, _, rfl, rfl, r⟩
  | _, _, .cons r t, i + 1, h => by
    obtain ⟨a, b, x, y, z⟩ := pairedGet t i (by simpa using h)
    exact ⟨a, b, by simpa using x, by simpa using y, z⟩
theorem cells_cmp (hv : Paired (CellV s.heap) vs cs) (hb : ∀ c ∈ cs, 0 ≤ c.2 ∧ c.2 < 1000) : CmpBy vs.length (keyC cs) (kas_cmp prog w A (tuples' true) (vs.toArray.zip vs.toArray)) s := by
  intro i j C hi hj q
  obtain ⟨v, c, e1, e2, a, t, u, rfl, o, ho, hc, n, hd⟩ := pairedGet hv i hi
  obtain ⟨v', c', e1', e2', a', t', u', rfl, o', ho', hc', n', hd'⟩ := pairedGet hv j hj
  have b1 := hb c (List.mem_of_getElem? e2)
  have b2 := hb c' (List.mem_of_getElem? e2')
  have k1 : keyC cs i = c.1 * 1000 + c.2 := by unfold keyC; rw [List.getD_eq_getElem?_getD, e2]; rfl
  have k2 : keyC cs j = c'.1 * 1000 + c'.2 := by unfold keyC; rw [List.getD_eq_getElem?_getD, e2']; rfl
  rw [k1, k2] at q
  unfold kas_cmp
  rw [kat_item rfl, kat_item rfl]
  rw [List.getD_eq_getElem?_getD, List.getD_eq_getElem?_getD, e1, e1']
  refine kat_lt (b := true) ho hd ho' hd' ?_
  show KatLex prog w A true _ C [(.int c.1 t, .int c'.1 t'), (.int c.2 u, .int c'.2 u')] 0 s
  refine kat_cons (wpAny_eqBool_int ?_)
  by_cases h1 : c.1 = c'.1
  · rw [show (c.1 == c'.1) = true by simpa using h1]
    refine kat_yes (kat_cons (wpAny_eqBool_int ?_))
    by_cases h2 : c.2 = c'.2
    · rw [show (c.2 == c'.2) = true by simpa using h2]
      refine kat_yes (kat_nil ?_)
      rw [decide_eq_false (by omega)] at q
      exact q
    · rw [show (c.2 == c'.2) = false by simpa using h2]
      refine kat_no (kat_one _ _ (lt_int ?_))
      show C (decide (c.2 < c'.2)) s
      rw [show decide (c.1 * 1000 + c.2 < c'.1 * 1000 + c'.2) = decide (c.2 < c'.2) by simp only [h1]; exact decide_eq_decide.mpr (by omega)] at q
      exact q
  · rw [show (c.1 == c'.1) = false by simpa using h1]
    refine kat_no (oneLt_int ?_)
    rw [show decide (c.1 * 1000 + c.2 < c'.1 * 1000 + c'.2) = decide (c.1 < c'.1) by exact decide_eq_decide.mpr (by omega)] at q
    exact q
theorem cells_tups (hv : Paired (CellV s.heap) vs cs) : ∃ fs, KatTups s.heap vs fs ∧ fs.length = vs.length ∧ ∀ v ∈ fs, ∃ i t, v = Value.int i t := by
  induction hv with
  | nil => exact ⟨[], trivial, rfl, fun _ h => nomatch h⟩
  | cons r _ ih =>
    obtain ⟨fs, h1, h2, h3⟩ := ih
    obtain ⟨a, t, u, rfl, o, ho, hc, n, hd⟩ := r
    refine ⟨_ :: fs, KatTups.cons ho hc hd rfl h1, by simp [h2], fun v hv => ?_⟩
    rcases List.mem_cons.mp hv with rfl | hv
    · exact ⟨_, _, rfl⟩
    · exact h3 v hv
theorem keyC_inj (nd : cs.Nodup) (hb : ∀ c ∈ cs, 0 ≤ c.2 ∧ c.2 < 1000) : ∀ i j, i < cs.length → j < cs.length → keyC cs i = keyC cs j → i = j := by
  intro i j hi hj e
  unfold keyC at e
  have e1 : cs.getD i (0, 0) = cs[i] := by simp [List.getD, hi]
  have e2 : cs.getD j (0, 0) = cs[j] := by simp [List.getD, hj]
  rw [e1, e2] at e
  have b1 := hb cs[i] (List.getElem_mem hi)
  have b2 := hb cs[j] (List.getElem_mem hj)
  have : cs[i] = cs[j] := Prod.ext (by omega) (by omega)
  exact (List.getElem_inj nd).mp this
theorem lsort_cells {B : Addr} {n0 : Nat} {P : PySem.Fin → Shared → Prop} (ho : s.heap.get? B = some (seqObj "list" vs.toArray n0)) (hv : Paired (CellV s.heap) vs cs) (hb : ∀ c ∈ cs, 0 ≤ c.2 ∧ c.2 < 1000) (nd : cs.Nodup)
    (up : cs.length < 1001 ∨ ∀ j, 1 ≤ j → j < cs.length → keyC cs (j - 1) ≤ keyC cs j) (hz : vs.length ≤ 1000)
    (h : ∀ (p : Array Nat) (h' : Heap), Rg vs.length p → Up (keyC cs) p vs.length → (∀ b o, b ≠ B → s.heap.get? b = some o → h'.get? b = some o) → (∃ e, h'.get? B = some (seqObj "list" (p.toList.map fun i => vs.getD i Value.none).toArray e)) →
      P (.done (.ret .none)) { s with heap := h' }) : wpAny (model prog w) A (Builtin.«list.sort» ⟨[.ref B], []⟩) P E s := by
  have hzl : vs.length ≤ sizeLine := Nat.le_trans hz (by decide)
  have hl : vs.length = cs.length := hv.length
  rw [list_sort_plain]
  have hB : B < s.heap.objs.size := Heap.lt_size ho
  refine wpAny_bind (listItems_at ho rfl (wpAny_bind (listUpdate_at ho rfl ?_ (hsz := by rw [List.size_toArray]; exact hzl) (hsz2 := by show 0 ≤ _; exact Nat.zero_le _))))
  have ho1 := get?_update_seq ho (fun _ => #[])
  generalize he1 : (if (#[] : Array Value).size == vs.toArray.size then n0 else n0 + 1) = e1 at ho1
  refine wpAny_bind (seqEpoch_at ho1 rfl (wpAny_bind (wpAny_newTuple (wpAny_bind (wpAny_newList (wpAny_holding ?_))) (by simpa using hzl))))
  have k6 : ∀ b o, b ≠ B → s.heap.get? b = some o → (((s.heap.update B (Obj.mapSeq fun _ => #[])).push (seqObj "tuple" vs.toArray.toList.toArray 0)).push (seqObj "list" ([] : List Value).toArray 0)).get? b = some o := fun b o hb e =>
    Heap.get?_push_of_some _ (Heap.get?_push_of_some _ ((Heap.get?_update_other _ _ (Ne.symm hb)).trans e))
  have o6 : (((s.heap.update B (Obj.mapSeq fun _ => #[])).push (seqObj "tuple" vs.toArray.toList.toArray 0)).push (seqObj "list" ([] : List Value).toArray 0)).get? B = some (seqObj "list" #[] e1) :=
    Heap.get?_push_of_some _ (Heap.get?_push_of_some _ ho1)
  show wpAny (model prog w) A _ P E { s with heap := ((s.heap.update B (Obj.mapSeq fun _ => #[])).push (seqObj "tuple" vs.toArray.toList.toArray 0)).push (seqObj "list" ([] : List Value).toArray 0) }
  generalize ((s.heap.update B (Obj.mapSeq fun _ => #[])).push (seqObj "tuple" vs.toArray.toList.toArray 0)).push (seqObj "list" ([] : List Value).toArray 0) = h6 at k6 o6 ⊢
  have hv6 : Paired (CellV h6) vs cs := by
    refine Paired.mapP hv fun v c x => ?_
    obtain ⟨a, t, u, e, o, e2, r⟩ := x
    refine ⟨a, t, u, e, o, k6 a o ?_ e2, r⟩
    rintro rfl
    rw [ho] at e2
    cases e2
    exact absurd r.1 (by simp)
  -- the end, whatever the order found
  have fin : ∀ (st : SortSt) (p : Array Nat), Rg vs.length p → Up (keyC cs) p vs.length → arrOf st = p.map (kas_item (vs.toArray.zip vs.toArray)) → failedOf st = none →
      wpAny (model prog w) A (do
        let touched := (← seqEpoch B) != e1
        Builtin.List.listUpdate (.ref B) fun _ => (arrOf st).map (·.2)
        if let some e := failedOf st then rule "list.sort.comparison-raised"; throw e
        if touched then rule "list.sort.modified"; raiseError "ValueError" "list modified during sort"
        ret .none) P E { s with heap := h6 } := fun st p r1 r2 r3 r4 => by
    have out := kat_snds (ks := vs) (vs := vs) rfl r3
    rw [out, r4]
    refine wpAny_bind (seqEpoch_at (s := { s with heap := h6 }) o6 rfl (wpAny_bind (listUpdate_at (s := { s with heap := h6 }) o6 rfl ?_ (hsz := Nat.zero_le _) (hsz2 := by
      show (List.toArray (p.toList.map fun i => vs.getD i Value.none)).size ≤ _
      rw [List.size_toArray, List.length_map, Array.length_toList, r1.size]
      omega))))
    simp only [bne_self_eq_false, Bool.false_eq_true, if_false]
    refine wpAny_pure (h p _ r1 r2 (fun b o hb e => (Heap.get?_update_other _ _ (Ne.symm hb)).trans (k6 b o hb e)) ⟨_, get?_update_seq o6 fun _ => _⟩)
  dsimp only
  by_cases h2 : vs.toArray.size < 2
  · rw [if_pos h2, if_pos h2]
    refine wpAny_bind (wpAny_pure ?_)
    rw [StateT.run_pure]
    apply wpAny_bind
    apply wpAny_pure
    have h2' : vs.length < 2 := by simpa using h2
    refine fin (SortSt.mk' general' (vs.toArray.zip vs.toArray) #[] 7 none) (List.range vs.length).toArray (List.Perm.refl _) (fun i j hij hj => ?_) ?_ rfl
    · have : i = j := by omega
      subst this
      exact Int.le_refl _
    · have := kas_range (vs.toArray.zip vs.toArray)
      rw [show (vs.toArray.zip vs.toArray).size = vs.length by simp] at this
      exact this.symm
  · rw [if_neg h2, if_neg h2]
    have h2' : 2 ≤ vs.length := by simpa using h2
    obtain ⟨fs, t1, t2, t3⟩ := cells_tups (s := { s with heap := h6 }) hv6
    refine wpAny_bind (kat_kind (s := { s with heap := h6 }) (T := Value.type "int") t1 (by omega) (fun v hv => ?_) rfl ?_)
    · obtain ⟨i, t, rfl⟩ := t3 v hv
      exact Looks.of_pure rfl
    · rw [show (Value.type "int" != Value.type "tuple") = true by decide]
      have cm := cells_cmp (prog := prog) (w := w) (A := A) (s := { s with heap := h6 }) hv6 hb
      have kr := kas_range (vs.toArray.zip vs.toArray)
      rw [show (vs.toArray.zip vs.toArray).size = vs.length by simp] at kr
      have run := runs_any2 (E := E) (Q := fun _ st s' => s' = { s with heap := h6 } ∧ ∃ p, Rg vs.length p ∧ Up (keyC cs) p vs.length ∧ arrOf st = p.map (kas_item (vs.toArray.zip vs.toArray)) ∧ failedOf st = none) cm
        (by rw [hl]; exact keyC_inj nd hb) h2' (by rw [hl]; exact up) fun p' st' a b c d => ⟨rfl, p', a, b, c, d⟩
      unfold kas_st at run
      rw [kr] at run
      refine wpAny_bind (wpAny_mono run (fun r s' hr => ?_) fun _ _ e => e)
      obtain ⟨u, st⟩ := r
      obtain ⟨rfl, p, r1, r2, r3, r4⟩ := hr
      exact fin st p r1 r2 r3 r4
end
end L2
set_option Elab.async false
set_option linter.all false
set_option maxRecDepth 100000
namespace L2
open PySem PySem.Spec PyProof.Rows PySem.W
def Cells (H : Hp) (ys : List V) (cs : List (Int × Int)) : Prop := Paired (fun (v : V) (c : Int × Int) => ∃ a, v = .ref a ∧ H a = some (.tup [.int c.1, .int c.2])) ys cs
def kC (c : Int × Int) : List Key := [Sum.inl c.1, Sum.inl c.2]
theorem kC_inj {a b : Int × Int} (h : kC a = kC b) : a = b := by
  unfold kC at h
  simp at h
  exact Prod.ext h.1 h.2
theorem map_getD_range {α : Type} (l : List α) (d : α) : (List.range l.length).map (fun i => l.getD i d) = l := by
  apply List.ext_getElem
  · simp
  · intro i h1 h2
    simp [List.getD, h2]
theorem perm_getD {α : Type} {l : List α} {d : α} {p : Array Nat} (h : Rg l.length p) : (p.toList.map fun i => l.getD i d).Perm l := by
  have := List.Perm.map (fun i => l.getD i d) h
  rw [map_getD_range] at this
  exact this
theorem paired_of {α β : Type} {F : α → β → Prop} : ∀ {l₁ : List α} {l₂ : List β}, l₁.length = l₂.length → (∀ (i : Nat) a b, l₁[i]? = some a → l₂[i]? = some b → F a b) → Paired F l₁ l₂
  | [], [], _, _ => .nil
  | a :: l, b :: m, h, f => .cons (f 0 a b rfl rfl) (paired_of (by simpa using h) fun i x y h1 h2 => f (i + 1) x y (by simpa using h1) (by simpa using h2))
  | [], _ :: _, h, _ => by simp at h
  | _ :: _, [], h, _ => by simp at h
theorem up_pairwise {cs : List (Int × Int)} {p : Array Nat} (hp : Rg cs.length p) (up : Up (keyC cs) p cs.length) (nd : cs.Nodup) (hb : ∀ c ∈ cs, 0 ≤ c.2 ∧ c.2 < 1000) : (p.toList.map fun i => cs.getD i (0, 0)).Pairwise ltC := by
  rw [List.pairwise_iff_getElem]
  intro i j hi hj hij
  have hs := hp.size
  have hi' : i < cs.length := by simpa [hs] using hi
  have hj' : j < cs.length := by simpa [hs] using hj
  have ne := hp.ne (keyC_inj nd hb) hij hj'
  have le := up i j (by omega) hj'
  have e : ∀ k (hk : k < cs.length), (cs.getD (p.getD k 0) (0, 0)).1 * 1000 + (cs.getD (p.getD k 0) (0, 0)).2 = kyA (keyC cs) p k := fun k hk => rfl
  have m : ∀ k, k < cs.length → cs.getD (p.getD k 0) (0, 0) ∈ cs := fun k hk => by
    have := hp.lt hk
    rw [List.getD_eq_getElem?_getD, List.getElem?_eq_getElem this]
    exact List.getElem_mem _
  have g : ∀ k (hk : k < (p.toList.map fun i => cs.getD i (0, 0)).length), (p.toList.map fun i => cs.getD i (0, 0))[k] = cs.getD (p.getD k 0) (0, 0) := fun k hk => by
    have hk' : k < p.size := by simpa using hk
    rw [List.getElem_map, Array.getElem_toList]
    simp [Array.getD, hk']
  rw [g i hi, g j hj]
  refine (keyC_lt (hb _ (m i hi')) (hb _ (m j hj'))).mp ?_
  rw [e i hi', e j hj']
  omega
section
variable {X : Cx}
theorem call_sortedT (hc : X.calm = true) : CallR X (.builtin "sorted") (fun xs H Q => ∃ (d : Addr) (kvs : List (List Key × V)) (cs : List (Int × Int)), xs = [.ref d] ∧ H d = some (.dT kvs) ∧ kvs.map (·.1) = cs.map kC ∧ (∀ c ∈ cs, 0 ≤ c.2 ∧ c.2 < 1000) ∧
    (cs.length < 1001 ∨ cs.Pairwise ltC) ∧ cs.length ≤ 1000 ∧ ∀ l ys cs', H l = none → Cells H ys cs' → cs'.Perm cs → cs'.Pairwise ltC → Q (.ref l) (upd H l (.lst ys))) := by
  intro pins s σ H xs us Q I rv h
  obtain ⟨d, kvs, cs, rfl, hd, hk, hb, up, hz, q⟩ := h
  obtain ⟨u, rfl, ru⟩ := vals1 rv
  cases ru
  obtain ⟨z, lo, es, rel, o, ens, ep, e1, e2, e3, e4, nd⟩ := I.hok d _ hd
  have kat : KAt s.heap d (es.map fun x => Value.ref x.2.1) ep := ⟨o, ens, e1, e2, e3, by rw [e4, List.map_map]; rfl⟩
  have ek : es.map (·.1) = cs.map kC := by
    rw [← hk]
    clear e4 kat nd hd q z hk
    induction rel with
    | nil => rfl
    | cons r _ ih => rw [List.map_cons, List.map_cons, ih, r.1]
  have ndc : cs.Nodup := by
    rw [ek] at nd
    exact List.Pairwise.of_map kC (fun a b hab e => hab (congrArg kC e)) nd
  have le : es.length = cs.length := by
    have := congrArg List.length ek
    simpa using this
  have tup : ∀ (i : Nat) x c, es[i]? = some x → cs[i]? = some c → H x.2.1 = some (.tup [.int c.1, .int c.2]) := fun i x c hx hc => by
    have lk : kvs.length = es.length := rel.length
    have hi : i < kvs.length := by rw [lk]; exact (List.getElem?_eq_some_iff.mp hx).1
    obtain ⟨p, y, h1, h2, h3, h4, _⟩ := pairedGet rel i hi
    rw [hx] at h2
    cases h2
    have : p.1 = kC c := by
      have a1 : (kvs.map (·.1))[i]? = some p.1 := by rw [List.getElem?_map, h1]; rfl
      rw [hk, List.getElem?_map, hc] at a1
      exact (Option.some.inj a1).symm
    rw [this] at h4
    exact h4
  have cell : Paired (CellV s.heap) (es.map fun x => Value.ref x.2.1) cs := by
    refine paired_of (by simpa using le) fun i v c h1 h2 => ?_
    rw [List.getElem?_map] at h1
    cases hx : es[i]? with
    | none => rw [hx] at h1; cases h1
    | some x =>
      rw [hx] at h1
      cases h1
      obtain ⟨_, its, rv, hit⟩ := I.hok _ _ (tup i x c hx h2)
      obtain ⟨u1, us, rfl, ⟨t, rfl⟩, r2⟩ : ∃ u1 us, its = u1 :: us ∧ RelV (.int c.1) u1 ∧ Vals [.int c.2] us := by cases rv with | cons a b => exact ⟨_, _, rfl, a, b⟩
      obtain ⟨u2, rfl, ⟨t', rfl⟩⟩ := vals1 r2
      exact ⟨_, t, t', rfl, hit⟩
  have hlv : (es.map fun x => Value.ref x.2.1).length = cs.length := by simpa using le
  have hsl : (es.map fun x => Value.ref x.2.1).length ≤ sizeLine := Nat.le_trans (by omega) (show 1000 ≤ sizeLine by decide)
  refine Calls.call_function_entry kind_sorted plain_sorted entry_sorted (args_sorted1 _) ?z
  case z =>
    unfold Builtin.«sorted»
    refine wpAny_bind (m := checkCount "sorted" 1 1 _) (wpAny_pure (wpAny_bind (kdu_collect (A := X.A.in1) (kat_src lo) (I.ok.hd hc) kat hsl fun h' tk acc hkp hacc => ?_)))
    have ea : acc.toList = es.map fun x => Value.ref x.2.1 := by
      apply List.ext_getElem
      · rw [Array.length_toList]
        exact hacc.1
      · intro i h1 h2
        have := hacc.2 i acc.toList[i] (by rw [← Array.getElem?_toList]; exact List.getElem?_eq_getElem h1)
        have this : (es.map fun x => Value.ref x.2.1)[i]? = some acc.toList[i] := this
        rw [List.getElem?_eq_getElem h2] at this
        exact (Option.some.inj this).symm
    rw [ea]
    refine wpAny_bind (wpAny_newList ?_ hsl)
    generalize hvs : (es.map fun x => Value.ref x.2.1) = vs at cell hlv hsl ⊢
    have oB : (h'.push (seqObj "list" vs.toArray 0)).get? h'.objs.size = some (seqObj "list" vs.toArray 0) := Heap.get?_push_size _ rfl
    have kB : ∀ b o, s.heap.get? b = some o → (h'.push (seqObj "list" vs.toArray 0)).get? b = some o := fun b o e => Heap.get?_push_of_some _ (hkp b o e)
    have I1 : Inv X pins σ H { s with heap := h', toks := tk } := I.kept hkp
    refine wpAny_bind (wpAny_holding (wpAny_call_entry slot_list_sort ⟨_, oB, rfl⟩ entry_list_sort ?y (args_list_sort _)))
    case y =>
      refine lsort_cells (s := { s with heap := h'.push (seqObj "list" vs.toArray 0), toks := tk }) oB (Paired.mapP cell fun v c x => x.go fun a o _ e => kB a o e) hb ndc ?_ (by omega) fun p h2 r1 r2 k2 ⟨e, oB2⟩ => ⟨_, rfl, wpAny_pure ⟨_, rfl, ?_⟩⟩
      · rcases up with h | h
        · exact .inl h
        · refine .inr fun j a b => ?_
          have := (List.pairwise_iff_getElem.mp h) (j - 1) j (by omega) b (by omega)
          have m1 := hb cs[j - 1] (List.getElem_mem _)
          have m2 := hb cs[j] (List.getElem_mem _)
          unfold keyC
          rw [show cs.getD (j - 1) (0, 0) = cs[j - 1] by simp [List.getD, show j - 1 < cs.length by omega], show cs.getD j (0, 0) = cs[j] by simp [List.getD, b]]
          exact Int.le_of_lt ((keyC_lt m1 m2).mpr this)
      · have fB : H h'.objs.size = none := I1.hok.fresh (Nat.le_refl _)
        have neB : ∀ b o, h'.get? b = some o → b ≠ h'.objs.size := fun b o e => Nat.ne_of_lt (Heap.lt_size e)
        rw [hlv] at r1 r2
        refine ⟨.ref h'.objs.size, upd H h'.objs.size (.lst (p.toList.map fun i => ((es.map fun x => V.ref x.2.1).getD i .non))), ?_, rfl, ?_⟩
        · refine I1.laid (t' := tk) (fun b u e => k2 b u (neB b u e) (Heap.get?_push_of_some _ e)) (Nat.le_refl _) ⟨?_, _, e, ?_, oB2⟩
          · rw [List.length_map, Array.length_toList, r1.size]
            omega
          · refine paired_of (by simp) fun i v u h1 h2 => ?_
            rw [List.getElem?_map] at h1 h2
            cases hpi : p.toList[i]? with
            | none => rw [hpi] at h1; cases h1
            | some k =>
              rw [hpi] at h1 h2
              cases h1
              cases h2
              have hk : k < es.length := by
                have := r1.mem_iff.mp (List.mem_of_getElem? hpi)
                rw [le]
                exact List.mem_range.mp this
              rw [← hvs]
              simp [List.getD, hk, RelV]
        · refine q _ _ (p.toList.map fun i => cs.getD i (0, 0)) fB ?_ (perm_getD r1) (up_pairwise r1 r2 ndc hb)
          refine paired_of (by simp) fun i v c h1 h2 => ?_
          rw [List.getElem?_map] at h1 h2
          cases hpi : p.toList[i]? with
          | none => rw [hpi] at h1; cases h1
          | some k =>
            rw [hpi] at h1 h2
            cases h1
            cases h2
            have hk : k < cs.length := List.mem_range.mp (r1.mem_iff.mp (List.mem_of_getElem? hpi))
            have hk' : k < es.length := by omega
            refine ⟨(es[k]).2.1, by simp [List.getD, hk'], ?_⟩
            have := tup k es[k] cs[k] (by simp [hk']) (by simp [hk])
            simp only [List.getD, List.getElem?_eq_getElem hk, Option.getD_some]
            exact this
end
end L2
set_option Elab.async false
set_option linter.all false
set_option maxRecDepth 100000
namespace L2
open PySem PySem.Spec PyProof.Rows
section
variable {X : Cx} {pins : List (Addr × Obj)} {σ : St} {H : Hp} {s : Shared} {h' : Heap}
theorem Inv.turnT {ch : List Addr} {T : Addr} {xs : List V} {t' : Nat} (I : Inv X pins σ H s) (hch : ∀ b ∈ ch, FpOk X pins H b) (k : ∀ b o, b ∉ ch → s.heap.get? b = some o → h'.get? b = some o) (hT : s.heap.objs.size ≤ T)
    (new : ObjOk X.prog X.w (upd H T (.tup xs)) h' T (.tup xs)) : Inv X pins σ (upd H T (.tup xs)) { s with heap := h', toks := t' } := by
  have fT : H T = none := I.hok.fresh hT
  have nT : ∀ b o, s.heap.get? b = some o → b ≠ T := fun b o e => Nat.ne_of_lt (Nat.lt_of_lt_of_le (Heap.lt_size e) hT)
  have nc : ∀ b u, H b = some u → b ∉ ch := fun b u e z => by rw [(hch b z).1] at e; cases e
  refine I.step (g' := s.gens) (d' := s.drawn) (ch := ch) (fun b hb => ⟨(hch b hb).2.2.2.1, (hch b hb).2.1, (hch b hb).2.2.2.2.1, (hch b hb).2.2.2.2.2⟩) (fun b o _ _ hc e _ => k b o hc e) (fun b o _ _ hc e _ => ⟨o.slots, k b o hc e⟩)
    (fun b o _ e n => by rw [upd_ne (nT b o e)]; exact n) (fun b o hc e => ⟨o, k b o hc e⟩) (fun b ys e => by rw [upd_ne (ne_of_none e fT)]; exact e) (fun b o u e => by rw [upd_ne (ne_of_none e fT)]; exact e)
    (fun b ps e => ⟨#[], by rw [upd_ne (ne_of_none e fT), e]; simp⟩) (fun m hm => ?_) (fun a o e => ?_) I.bare
  · obtain ⟨o, es, ep, ho, r⟩ := hm
    exact ⟨o, es, ep, k _ o (fun z => (hch _ z).2.1 rfl) ho, r⟩
  · by_cases ha : a = T
    · subst ha
      rw [upd_same] at e
      cases e
      exact new
    · rw [upd_ne ha] at e
      refine (I.hok a o e).stay (fun b u hb q => k b u ?_ q) (fun b q => by rw [upd_ne (ne_of_none q fT)]; exact q) fun b ys q => by rw [upd_ne (ne_of_none q fT)]; exact q
      rcases hb with z | z
      · rw [z]; exact nc a o e
      · exact nc b _ z
theorem Inv.turnL {ch : List Addr} {t' : Nat} (I : Inv X pins σ H s) (hch : ∀ b ∈ ch, FpOk X pins H b) (k : ∀ b o, b ∉ ch → s.heap.get? b = some o → h'.get? b = some o) : Inv X pins σ H { s with heap := h', toks := t' } := by
  have nc : ∀ b u, H b = some u → b ∉ ch := fun b u e z => by rw [(hch b z).1] at e; cases e
  refine I.step (g' := s.gens) (d' := s.drawn) (ch := ch) (fun b hb => ⟨(hch b hb).2.2.2.1, (hch b hb).2.1, (hch b hb).2.2.2.2.1, (hch b hb).2.2.2.2.2⟩) (fun b o _ _ hc e _ => k b o hc e) (fun b o _ _ hc e _ => ⟨o.slots, k b o hc e⟩)
    (fun b o _ _ n => n) (fun b o hc e => ⟨o, k b o hc e⟩) (fun b ys e => e) (fun b o u e => e) (fun b ps e => ⟨#[], by rw [e]; simp⟩) (fun m hm => ?_) (fun a o e => ?_) I.bare
  · obtain ⟨o, es, ep, ho, r⟩ := hm
    exact ⟨o, es, ep, k _ o (fun z => (hch _ z).2.1 rfl) ho, r⟩
  · refine (I.hok a o e).stay (fun b u hb q => k b u ?_ q) (fun b q => q) fun b ys q => q
    rcases hb with z | z
    · rw [z]; exact nc a o e
    · exact nc b _ z
end
/-! ### zip of two tuples -/
section
variable {prog : Program} {w : World} {A : Around} {E : Value → Shared → Prop} {s : Shared}
theorem nx_item {it t : Addr} {i : Nat} {items : Array Value} {x : Value} {Q : Value → Shared → Prop} (hit : s.heap.IsTupleIter it t i) (ht : s.heap.IsTuple t items) (hx : items[i]? = some x)
    (q : ∀ h', h'.IsTupleIter it t (i + 1) → Heap.SameBut it s.heap h' → Q x { s with heap := h' }) : wpAny (model prog w) A (Builtin.SmallTypes.nextOf (.ref it)) Q E s := by
  obtain ⟨o, f1, f2, f3⟩ := id hit
  obtain ⟨ol, g1, _, nl, g2⟩ := ht
  unfold Builtin.SmallTypes.nextOf
  refine wpAny_bind (wpAny_callSpecial?_slot (name := Str.ofString "__next__") hit.typeIs F.slot_tuple_iterator_next (wpAny_call_entry F.slot_tuple_iterator_next hit.typeIs F.entry_tuple_iterator_next ?z (F.args_tuple_iterator_next_1 _)))
  case z =>
    show wpAny _ _ (field (.ref it) 0 >>= _) _ _ s
    refine wpAny_bind (wpAny_field f1 f3 (x := .ref t) rfl ?_)
    show wpAny _ _ (if (Value.ref t == Value.none) = true then _ else _) _ _ s
    rw [if_neg (show ¬ (Value.ref t == Value.none) = true by intro z; cases z)]
    show wpAny _ _ (field (.ref it) 1 >>= _) _ _ s
    refine wpAny_bind (wpAny_field f1 f3 (x := .int i 0) rfl ?_)
    show wpAny _ _ (seqItems? (.ref t) >>= _) _ _ s
    refine wpAny_bind (wpAny_seqItems g1 g2 ?_)
    simp only [Int.toNat_natCast, hx]
    refine wpAny_bind (wpAny_setField f1 f3 (by simp) (wpAny_pure ⟨x, rfl, wpAny_pure (q _ ⟨_, Heap.get?_update_self _ f1 (Obj.isFreed_of_fields (Obj.data_mapFields f3 _)), (Obj.cls_mapFields ..).trans f2, by rw [Obj.data_mapFields f3]; simp [rawInt]⟩ (Heap.SameBut.update ..))⟩))
theorem nx_end {it t : Addr} {i : Nat} {items : Array Value} {Q : Value → Shared → Prop} (hh : A.handled = none) (hit : s.heap.IsTupleIter it t i) (ht : s.heap.IsTuple t items) (hx : items[i]? = none)
    (q : ∀ h' e, Heap.ExtBut it s.heap h' → (∃ o, h'.get? e = some o ∧ o.cls = .type "StopIteration") → E (.ref e) { s with heap := h' }) : wpAny (model prog w) A (Builtin.SmallTypes.nextOf (.ref it)) Q E s := by
  obtain ⟨o, f1, f2, f3⟩ := id hit
  obtain ⟨ol, g1, _, nl, g2⟩ := ht
  unfold Builtin.SmallTypes.nextOf
  refine wpAny_bind (wpAny_callSpecial?_slot (name := Str.ofString "__next__") hit.typeIs F.slot_tuple_iterator_next (wpAny_call_entry F.slot_tuple_iterator_next hit.typeIs F.entry_tuple_iterator_next ?z (F.args_tuple_iterator_next_1 _)))
  case z =>
    show wpAny _ _ (field (.ref it) 0 >>= _) _ _ s
    refine wpAny_bind (wpAny_field f1 f3 (x := .ref t) rfl ?_)
    show wpAny _ _ (if (Value.ref t == Value.none) = true then _ else _) _ _ s
    rw [if_neg (show ¬ (Value.ref t == Value.none) = true by intro z; cases z)]
    show wpAny _ _ (field (.ref it) 1 >>= _) _ _ s
    refine wpAny_bind (wpAny_field f1 f3 (x := .int i 0) rfl ?_)
    show wpAny _ _ (seqItems? (.ref t) >>= _) _ _ s
    refine wpAny_bind (wpAny_seqItems g1 g2 ?_)
    simp only [Int.toNat_natCast, hx]
    refine wpAny_bind (wpAny_rule (wpAny_bind (wpAny_setField f1 f3 (by simp) ?_)))
    show wpAny _ _ (newExc (.type "StopIteration") [] >>= _) _ _ _
    apply wpAny_bind
    simp only [newExc, newTuple]
    refine wpAny_bind (wpAny_newObj_type (wpAny_bind (m := firstArgMember _ _) (wpAny_of_eq (a := Value.none) (by first | rfl | (simp only [firstArgMember]; rfl)) (wpAny_newObj_type ?_ (by size_fits)))) (by size_fits))
    simp only [raiseNew]
    apply wpAny_bind
    apply wpAny_handled
    rw [show A.in1.handled = none from hh]
    refine wpAny_bind (m := pure _) (wpAny_pure (wpAny_throw ?_))
    exact q _ _ (((Heap.SameBut.update ..).extBut.push _).push _) ⟨_, Heap.get?_push_size _ rfl, rfl⟩
end
end L2
set_option Elab.async false
set_option linter.all false
set_option maxRecDepth 100000
namespace L2
open PySem PySem.Spec PyProof.Rows
section
variable {prog : Program} {w : World} {A : Around} {E : Value → Shared → Prop} {s : Shared}
theorem ti_go {h h' : Heap} {a t : Addr} {i : Nat} (x : h.IsTupleIter a t i) (k : ∀ o, h.get? a = some o → h'.get? a = some o) : h'.IsTupleIter a t i := let ⟨o, e, r⟩ := x; ⟨o, k o e, r⟩
theorem tu_go {h h' : Heap} {a : Addr} {xs : Array Value} (x : h.IsTuple a xs) (k : ∀ o, h.get? a = some o → h'.get? a = some o) : h'.IsTuple a xs := let ⟨o, e, r⟩ := x; ⟨o, k o e, r⟩
theorem zt_item {z TI TO i1 i2 l1 l2 : Addr} {k1 k2 : Nat} {xs ys : Array Value} {x y a b : Value} {Q : Value → Shared → Prop} (D : ZipApart z TI TO i1 i2 l1 l2)
    (hz : IsZip s.heap z TI TO .none) (hTI : IsPair s.heap TI (.ref i1) (.ref i2)) (hTO : IsPair s.heap TO a b)
    (h1 : s.heap.IsTupleIter i1 l1 k1) (h2 : s.heap.IsTupleIter i2 l2 k2) (hl1 : s.heap.IsTuple l1 xs) (hl2 : s.heap.IsTuple l2 ys) (hx : xs[k1]? = some x) (hy : ys[k2]? = some y)
    (hQ : ∀ h', IsZip h' z TI TO (rawInt s.heap.objs.size) → IsPair h' TO x y → h'.IsTupleIter i1 l1 (k1 + 1) → h'.IsTupleIter i2 l2 (k2 + 1) → IsPair h' s.heap.objs.size x y →
      (∀ c o, c ≠ z → c ≠ TO → c ≠ i1 → c ≠ i2 → s.heap.get? c = some o → h'.get? c = some o) → Q (.ref s.heap.objs.size) { s with heap := h' }) :
    wpAny (model prog w) A (Builtin.«zip.__next__» ⟨[.ref z], []⟩) (fun fin s' => ∃ v, fin = .done (.ret v) ∧ Q v s') E s := by
  show wpAny _ _ (field (.ref z) 2 >>= _) _ _ _
  refine wpAny_bind (wpAny_field hz rfl (x := .bool false) rfl ?_)
  show wpAny _ _ (field (.ref z) 3 >>= _) _ _ _
  refine wpAny_bind (wpAny_field hz rfl (x := .ref TI) rfl (wpAny_bind (wpAny_seqItems hTI rfl ?_)))
  show wpAny _ _ (Builtin.SmallTypes.ownedTupleIsFree (.ref z) >>= _) _ _ _
  apply wpAny_bind
  unfold Builtin.SmallTypes.ownedTupleIsFree
  refine wpAny_bind (wpAny_field hz rfl (x := .none) rfl (wpAny_pure ?_))
  simp only [if_true]
  refine wpAny_bind (wpAny_rule (wpAny_bind (wpAny_field hz rfl (x := .ref TO) rfl (wpAny_bind (wpAny_setField_rec hz (by simp) fun j1 z1 s1 => ?_)))))
  replace z1 : IsZip j1 z TI TO .ellipsis := z1
  apply wpAny_bind
  simp only [List.zipIdx_cons, List.zipIdx_nil, List.forIn_cons, List.forIn_nil]
  refine wpAny_bind (wpAny_bind (wpAny_onRaise ?_))
  show wpAny _ _ (Builtin.SmallTypes.nextOf (.ref i1) >>= _) _ _ _
  refine wpAny_bind (nx_item (s := { s with heap := j1 }) (ti_go h1 fun o e => s1.extBut _ o D.i1z e) (tu_go hl1 fun o e => s1.extBut _ o D.l1z e) hx fun j2 a2 s2 => wpAny_pure ?_)
  have o2 : IsPair j2 TO a b := s2.extBut _ _ D.TOi1 (s1.extBut _ _ D.TOz hTO)
  refine wpAny_bind (wpAny_seqItems (s := { s with heap := j2 }) o2 rfl (wpAny_bind (wpAny_updateSeq_pair (s := { s with heap := j2 }) o2 fun j3 o3 s3 => ?_)))
  replace o3 : IsPair j3 TO x b := o3
  refine wpAny_bind (wpAny_letGo (wpAny_pure (wpAny_bind (wpAny_bind (wpAny_onRaise ?_)))))
  show wpAny _ _ (Builtin.SmallTypes.nextOf (.ref i2) >>= _) _ _ _
  refine wpAny_bind (nx_item (s := { s with heap := j3 }) (ti_go h2 fun o e => s3.extBut _ o D.TOi2.symm (s2.extBut _ o D.i12.symm (s1.extBut _ o D.i2z e))) (tu_go hl2 fun o e => s3.extBut _ o D.l2TO (s2.extBut _ o D.l2i1 (s1.extBut _ o D.l2z e))) hy fun j4 a4 s4 => wpAny_pure ?_)
  have o4 : IsPair j4 TO x b := s4.extBut _ _ D.TOi2 o3
  refine wpAny_bind (wpAny_seqItems (s := { s with heap := j4 }) o4 rfl (wpAny_bind (wpAny_updateSeq_pair (s := { s with heap := j4 }) o4 fun j5 o5 s5 => ?_)))
  replace o5 : IsPair j5 TO x y := o5
  refine wpAny_bind (wpAny_letGo (wpAny_pure (wpAny_pure (wpAny_bind (wpAny_seqItems (s := { s with heap := j5 }) o5 rfl (wpAny_bind (wpAny_newTuple ?_)))))))
  have hsz : j5.objs.size = s.heap.objs.size := by rw [s5.1, s4.1, s3.1, s2.1, s1.1]
  have z5 : IsZip j5 z TI TO .ellipsis := s5.extBut _ _ D.TOz.symm (s4.extBut _ _ D.i2z.symm (s3.extBut _ _ D.TOz.symm (s2.extBut _ _ D.i1z.symm z1)))
  have k5 : ∀ c o, c ≠ z → c ≠ TO → c ≠ i1 → c ≠ i2 → s.heap.get? c = some o → j5.get? c = some o := fun c o c1 c2 c3 c4 e => s5.extBut _ _ c2 (s4.extBut _ _ c4 (s3.extBut _ _ c2 (s2.extBut _ _ c3 (s1.extBut _ _ c1 e))))
  have b1 : j5.IsTupleIter i1 l1 (k1 + 1) := ti_go a2 fun o e => s5.extBut _ o D.TOi1.symm (s4.extBut _ o D.i12 (s3.extBut _ o D.TOi1.symm e))
  have b2 : j5.IsTupleIter i2 l2 (k2 + 1) := ti_go a4 fun o e => s5.extBut _ o D.TOi2.symm e
  have zlt : z < j5.objs.size := Heap.lt_size z5
  show wpAny _ _ (Builtin.SmallTypes.ownedTupleHandOut (.ref z) (.ref j5.objs.size) >>= _) _ _ _
  apply wpAny_bind
  unfold Builtin.SmallTypes.ownedTupleHandOut
  have z6 : IsZip (j5.push { cls := .type "tuple", data := .seq #[x, y] }) z TI TO .ellipsis := Heap.get?_push_of_some _ z5
  refine wpAny_bind (wpAny_setField_rec z6 (by simp) fun j7 z7 s7 => ?_)
  replace z7 : IsZip j7 z TI TO (rawInt j5.objs.size) := z7
  refine wpAny_setField_rec z7 (by simp) fun j8 z8 s8 => ?_
  replace z8 : IsZip j8 z TI TO (rawInt j5.objs.size) := z8
  have up : ∀ c o, c ≠ z → j5.get? c = some o → j8.get? c = some o := fun c o c1 e => s8.extBut _ _ c1 (s7.extBut _ _ c1 (Heap.get?_push_of_some _ e))
  have t8 : IsPair j8 j5.objs.size x y := s8.extBut _ _ (Nat.ne_of_gt zlt) (s7.extBut _ _ (Nat.ne_of_gt zlt) (Heap.get?_push_size _ rfl))
  rw [hsz] at z8 t8
  refine wpAny_pure ⟨_, rfl, ?_⟩
  show Q (.ref j5.objs.size) _
  rw [hsz]
  exact hQ j8 z8 (up _ _ D.TOz o5) (ti_go b1 fun o e => up _ o D.i1z e) (ti_go b2 fun o e => up _ o D.i2z e) t8 fun c o c1 c2 c3 c4 e => up c o c1 (k5 c o c1 c2 c3 c4 e)
theorem zt_end {z TI TO i1 i2 l1 l2 : Addr} {k1 k2 : Nat} {xs ys : Array Value} {a b : Value} {Q : PySem.Fin → Shared → Prop} (hh : A.handled = none) (D : ZipApart z TI TO i1 i2 l1 l2)
    (hz : IsZip s.heap z TI TO .none) (hTI : IsPair s.heap TI (.ref i1) (.ref i2)) (hTO : IsPair s.heap TO a b)
    (h1 : s.heap.IsTupleIter i1 l1 k1) (h2 : s.heap.IsTupleIter i2 l2 k2) (hl1 : s.heap.IsTuple l1 xs) (hl2 : s.heap.IsTuple l2 ys) (hend : xs[k1]? = none ∨ ys[k2]? = none)
    (hE : ∀ h' e, (∀ c o, c ≠ z → c ≠ TO → c ≠ i1 → c ≠ i2 → s.heap.get? c = some o → h'.get? c = some o) → (∃ o, h'.get? e = some o ∧ o.cls = .type "StopIteration") → E (.ref e) { s with heap := h' }) :
    wpAny (model prog w) A (Builtin.«zip.__next__» ⟨[.ref z], []⟩) Q E s := by
  show wpAny _ _ (field (.ref z) 2 >>= _) _ _ _
  refine wpAny_bind (wpAny_field hz rfl (x := .bool false) rfl ?_)
  show wpAny _ _ (field (.ref z) 3 >>= _) _ _ _
  refine wpAny_bind (wpAny_field hz rfl (x := .ref TI) rfl (wpAny_bind (wpAny_seqItems hTI rfl ?_)))
  show wpAny _ _ (Builtin.SmallTypes.ownedTupleIsFree (.ref z) >>= _) _ _ _
  apply wpAny_bind
  unfold Builtin.SmallTypes.ownedTupleIsFree
  refine wpAny_bind (wpAny_field hz rfl (x := .none) rfl (wpAny_pure ?_))
  simp only [if_true]
  refine wpAny_bind (wpAny_rule (wpAny_bind (wpAny_field hz rfl (x := .ref TO) rfl (wpAny_bind (wpAny_setField_rec hz (by simp) fun j1 z1 s1 => ?_)))))
  replace z1 : IsZip j1 z TI TO .ellipsis := z1
  apply wpAny_bind
  simp only [List.zipIdx_cons, List.zipIdx_nil, List.forIn_cons, List.forIn_nil]
  refine wpAny_bind (wpAny_bind (wpAny_onRaise ?_))
  show wpAny _ _ (Builtin.SmallTypes.nextOf (.ref i1) >>= _) _ _ _
  cases hx : xs[k1]? with
  | none =>
    refine wpAny_bind (nx_end (s := { s with heap := j1 }) hh (ti_go h1 fun o e => s1.extBut _ o D.i1z e) (tu_go hl1 fun o e => s1.extBut _ o D.l1z e) hx fun j2 e s2 ⟨oe, e1, e2⟩ => ?_)
    have z2 : IsZip j2 z TI TO .ellipsis := s2 _ _ D.i1z.symm z1
    have ez : e ≠ z := fun q => by subst q; rw [z2] at e1; cases e1; simp at e2
    refine wpAny_setField_rec z2 (by simp) fun j3 _ s3 => hE j3 e (fun c o c1 _ c3 _ q => s3.extBut _ _ c1 (s2 _ _ c3 (s1.extBut _ _ c1 q))) ⟨oe, s3.extBut _ _ ez e1, e2⟩
  | some x =>
    have hy : ys[k2]? = none := by
      rcases hend with h | h
      · rw [hx] at h; cases h
      · exact h
    refine wpAny_bind (nx_item (s := { s with heap := j1 }) (ti_go h1 fun o e => s1.extBut _ o D.i1z e) (tu_go hl1 fun o e => s1.extBut _ o D.l1z e) hx fun j2 a2 s2 => wpAny_pure ?_)
    have o2 : IsPair j2 TO a b := s2.extBut _ _ D.TOi1 (s1.extBut _ _ D.TOz hTO)
    refine wpAny_bind (wpAny_seqItems (s := { s with heap := j2 }) o2 rfl (wpAny_bind (wpAny_updateSeq_pair (s := { s with heap := j2 }) o2 fun j3 o3 s3 => ?_)))
    refine wpAny_bind (wpAny_letGo (wpAny_pure (wpAny_bind (wpAny_bind (wpAny_onRaise ?_)))))
    show wpAny _ _ (Builtin.SmallTypes.nextOf (.ref i2) >>= _) _ _ _
    refine wpAny_bind (nx_end (s := { s with heap := j3 }) hh (ti_go h2 fun o e => s3.extBut _ o D.TOi2.symm (s2.extBut _ o D.i12.symm (s1.extBut _ o D.i2z e))) (tu_go hl2 fun o e => s3.extBut _ o D.l2TO (s2.extBut _ o D.l2i1 (s1.extBut _ o D.l2z e))) hy fun j4 e s4 ⟨oe, e1, e2⟩ => ?_)
    have z4 : IsZip j4 z TI TO .ellipsis := s4 _ _ D.i2z.symm (s3.extBut _ _ D.TOz.symm (s2.extBut _ _ D.i1z.symm z1))
    have ez : e ≠ z := fun q => by subst q; rw [z4] at e1; cases e1; simp at e2
    refine wpAny_setField_rec z4 (by simp) fun j5 _ s5 => hE j5 e (fun c o c1 c2 c3 c4 q => s5.extBut _ _ c1 (s4 _ _ c4 (s3.extBut _ _ c2 (s2.extBut _ _ c3 (s1.extBut _ _ c1 q))))) ⟨oe, s5.extBut _ _ ez e1, e2⟩
end
/-! the zip object made -/
def ztH (h : Heap) (l1 l2 : Addr) : Heap := ((((h.push { cls := .type "tuple_iterator", data := .fields #[.ref l1, .int 0 0] }).push { cls := .type "tuple_iterator", data := .fields #[.ref l2, .int 0 0] }).push
  { cls := .type "tuple", data := .seq #[.ref h.objs.size, .ref (h.push { cls := .type "tuple_iterator", data := .fields #[.ref l1, .int 0 0] }).objs.size] }).push { cls := .type "tuple", data := .seq #[.none, .none] })
theorem meets_zt (l1 l2 : Addr) (xs ys : Array Value) :
    Meets (Builtin.«zip.__new__» ⟨[.type "zip", .ref l1, .ref l2], []⟩) (fun _ R s => s.heap.IsTuple l1 xs ∧ s.heap.IsTuple l2 ys ∧
      R (.ok (.ret (.ref (ztH s.heap l1 l2).objs.size))) { s with heap := (ztH s.heap l1 l2).push { cls := .type "zip", data := .fields #[.none, .bool false, .bool false, .ref ((s.heap.push { cls := .type "tuple_iterator", data := .fields #[.ref l1, .int 0 0] }).push { cls := .type "tuple_iterator", data := .fields #[.ref l2, .int 0 0] }).objs.size,
        .ref (((s.heap.push { cls := .type "tuple_iterator", data := .fields #[.ref l1, .int 0 0] }).push { cls := .type "tuple_iterator", data := .fields #[.ref l2, .int 0 0] }).push
  { cls := .type "tuple", data := .seq #[.ref s.heap.objs.size, .ref (s.heap.push { cls := .type "tuple_iterator", data := .fields #[.ref l1, .int 0 0] }).objs.size] }).objs.size] } }) :=
  .of_wp fun prog w A R s h => by
    obtain ⟨hp, g, d, tk, os⟩ := s
    obtain ⟨q1, q2, h⟩ := h
    have hsub := sub_zip
    have m1 : Heap.IsTuple (Shared.heap ⟨hp, g, d, tk, os⟩) l1 xs := q1
    have m2 : Heap.IsTuple (Shared.heap ⟨hp.push { cls := .type "tuple_iterator", data := .fields #[.ref l1, .int 0 0] }, g, d, tk, os⟩) l2 ys := tu_go q2 fun o e => Heap.get?_push_of_some _ e
    wp_walk using wpAny_pyIter_tuple m1, wpAny_pyIter_tuple m2
    exact ⟨_, rfl, h⟩
end L2
set_option Elab.async false
set_option linter.all false
set_option maxRecDepth 100000
namespace L2
open PySem PySem.Spec PyProof.Rows
def Itz (K : PySem.W.Frag) (a b : Addr) : It :=
  ⟨fun i H => ∃ xs ys x y, SqT K H a xs ∧ SqT K H b ys ∧ xs[i]? = some x ∧ ys[i]? = some y,
   fun i H v H' => ∃ T x y, H T = none ∧ v = .ref T ∧ H' = upd H T (.tup [x, y]) ∧ (∀ xs, SqT K H a xs → xs[i]? = some x) ∧ (∀ ys, SqT K H b ys → ys[i]? = some y),
   fun i H => ∃ xs ys, SqT K H a xs ∧ SqT K H b ys ∧ (xs.length ≤ i ∨ ys.length ≤ i)⟩
def ZtAt (a b z TI TO i1 i2 : Addr) (i : Nat) (h : Heap) : Prop := IsZip h z TI TO .none ∧ IsPair h TI (.ref i1) (.ref i2) ∧ (∃ p q, IsPair h TO p q) ∧ h.IsTupleIter i1 a i ∧ h.IsTupleIter i2 b i
theorem turn_zip {P : Program} {w : World} {K : PySem.W.Frag} {es : List Expr} {ek : Nat} {pos : Pos} (a b z TI TO i1 i2 : Addr) (D : ZipApart z TI TO i1 i2 a b) :
    Turn P w K (.Tuple es ek pos) (Itz K a b) [z, TI, TO, i1, i2] z (ZtAt a b z TI TO i1 i2) where
  mem := by simp
  obj := fun i h st c hc => by
    obtain ⟨h1, h2, ⟨p, q, h3⟩, ⟨o4, e4, _, d4⟩, ⟨o5, e5, _, d5⟩⟩ := st
    simp only [List.mem_cons, List.mem_nil_iff, or_false] at hc
    rcases hc with rfl | rfl | rfl | rfl | rfl
    · exact ⟨_, h1, fun v e => by cases e⟩
    · exact ⟨_, h2, fun v e => by cases e⟩
    · exact ⟨_, h3, fun v e => by cases e⟩
    · exact ⟨_, e4, fun v e => by rw [d4] at e; cases e⟩
    · exact ⟨_, e5, fun v e => by rw [d5] at e; cases e⟩
  keep := fun i h h' st k => by
    obtain ⟨h1, h2, ⟨p, q, h3⟩, h4, h5⟩ := st
    exact ⟨k z (by simp) _ h1, k TI (by simp) _ h2, ⟨p, q, k TO (by simp) _ h3⟩, ti_go h4 fun o e => k i1 (by simp) o e, ti_go h5 fun o e => k i2 (by simp) o e⟩
  item := by
    intro X hP hw hK hc i pins s σ H E I hf st hg
    subst hP hw hK
    obtain ⟨xs, ys, x, y, q1, q2, x1, y1⟩ := hg
    obtain ⟨its, rv, p, hz⟩ := I.tuple q1
    obtain ⟨its2, rv2, p2, hz2⟩ := I.tuple q2
    obtain ⟨u, hu, ru⟩ := rv.get x1
    obtain ⟨u2, hu2, ru2⟩ := rv2.get y1
    have there := st
    obtain ⟨h1, h2, ⟨pa, pb, h3⟩, h4, h5⟩ := st
    have hT : s.TypeIs (.ref z) "zip" := ⟨_, h1, rfl⟩
    unfold pyNext
    refine wpAny_bind (wpAny_attempt (wpAny_callSpecial?_slot (name := Str.ofString "__next__") hT F.slot_zip_next (wpAny_call_entry F.slot_zip_next hT F.entry_zip_next
      (zt_item (Q := fun v s' => wpAny (model X.prog X.w) X.A (pure (some v)) (fun r s1 => ∃ u, r = some u ∧ wpAny (model X.prog X.w) X.A (letOwnedTupleGo (.Tuple es ek pos) (.ref z) u) (fun _ s2 => ∃ x H', Inv X pins σ H' s2 ∧ RelV x u ∧ (Itz X.K a b).yld i H x H' ∧ ZtAt a b z TI TO i1 i2 (i + 1) s2.heap ∧ ∀ b ∈ [z, TI, TO, i1, i2], H' b = none) E s1) E s')
        D h1 h2 h3 h4 h5 (show s.heap.IsTuple a its.toArray from p) (show s.heap.IsTuple b its2.toArray from p2) (x := u) (y := u2) (by simpa using hu) (by simpa using hu2) fun h' g1 g2 g3 g4 g5 kk => wpAny_pure ⟨_, rfl, ?_⟩) (F.args_zip_next_1 _))))
    refine wpAny_letOwnedTupleGo_zip g1 fun h2' g1' sb => ?_
    have lt : ∀ c ∈ [z, TI, TO, i1, i2], c < s.heap.objs.size := fun c hc => by
      obtain ⟨h1, h2, ⟨p, q, h3⟩, ⟨o4, e4, _⟩, ⟨o5, e5, _⟩⟩ := there
      simp only [List.mem_cons, List.mem_nil_iff, or_false] at hc
      rcases hc with rfl | rfl | rfl | rfl | rfl
      · exact Heap.lt_size h1
      · exact Heap.lt_size h2
      · exact Heap.lt_size h3
      · exact Heap.lt_size e4
      · exact Heap.lt_size e5
    have kp : ∀ c o, c ∉ [z, TI, TO, i1, i2] → s.heap.get? c = some o → h2'.get? c = some o := fun c o hc e => by
      simp only [List.mem_cons, List.mem_nil_iff, or_false, not_or] at hc
      exact sb.extBut _ _ hc.1 (kk c o hc.1 hc.2.2.1 hc.2.2.2.1 hc.2.2.2.2 e)
    have zT : s.heap.objs.size ≠ z := Nat.ne_of_gt (lt z (by simp))
    have fT : H s.heap.objs.size = none := I.hok.fresh (Nat.le_refl _)
    refine ⟨.ref s.heap.objs.size, upd H s.heap.objs.size (.tup [x, y]), I.turnT (t' := s.toks) hf kp (Nat.le_refl _) ⟨by show 2 ≤ sizeLine; decide, [u, u2], .cons ru (.cons ru2 .nil), ?_⟩, rfl, ⟨_, x, y, fT, rfl, rfl, fun zs hz => ?_, fun zs hz => ?_⟩, ?_, fun c hc => ?_⟩
    · exact ⟨_, sb.extBut _ _ zT g5, rfl, 0, rfl⟩
    · rw [I.tuple_inj hz q1]; exact x1
    · rw [I.tuple_inj hz q2]; exact y1
    · exact ⟨g1', sb.extBut _ _ D.TIz (kk _ _ D.TIz D.TITO D.TIi1 D.TIi2 h2), ⟨_, _, sb.extBut _ _ D.TOz g2⟩, ti_go g3 fun o e => sb.extBut _ o D.i1z e, ti_go g4 fun o e => sb.extBut _ o D.i2z e⟩
    · rw [upd_ne (Nat.ne_of_lt (lt c hc))]
      exact (hf c hc).1
  done := by
    intro X hP hw hK hc i pins s σ H E I hf st hg
    subst hP hw hK
    obtain ⟨xs, ys, q1, q2, hend⟩ := hg
    obtain ⟨its, rv, p, hz⟩ := I.tuple q1
    obtain ⟨its2, rv2, p2, hz2⟩ := I.tuple q2
    obtain ⟨h1, h2, ⟨pa, pb, h3⟩, h4, h5⟩ := st
    have hT : s.TypeIs (.ref z) "zip" := ⟨_, h1, rfl⟩
    have l1 := rv.length
    have l2 := rv2.length
    unfold pyNext
    refine wpAny_bind (wpAny_attempt (wpAny_callSpecial?_slot (name := Str.ofString "__next__") hT F.slot_zip_next (wpAny_call_entry F.slot_zip_next hT F.entry_zip_next
      (zt_end (I.ok.hd hc) D h1 h2 h3 h4 h5 (show s.heap.IsTuple a its.toArray from p) (show s.heap.IsTuple b its2.toArray from p2) (by
        rcases hend with h | h
        · exact .inl (by simp; omega)
        · exact .inr (by simp; omega)) fun h' e kk ⟨o, ho, hcl⟩ => ?_) (F.args_zip_next_1 _))))
    refine wpAny_bind (wpAny_isInstance (T := "StopIteration") (b := true) ⟨o, ho, hcl⟩ isSubtype_stop (wpAny_pure ⟨rfl, I.turnL (t' := s.toks) hf fun c o hc e => ?_⟩))
    simp only [List.mem_cons, List.mem_nil_iff, or_false, not_or] at hc
    exact kk c o hc.1 hc.2.2.1 hc.2.2.2.1 hc.2.2.2.2 e
  self := fun _ _ _ _ _ st h => wpAny_pyIter_zip st.1 h
section
variable {X : Cx}
def iZip (K : PySem.W.Frag) (ta : TA) : TI := fun σ H R => ta σ H fun vs H1 => ∃ a b, vs = [.ref a, .ref b] ∧ (∃ xs, SqT K H1 a xs) ∧ (∃ ys, SqT K H1 b ys) ∧ R (Itz K a b) H1
theorem pi_zip {a b : Expr} {ta : TA} {p pos : Pos} {es : List Expr} {ek : Nat} {ps : Pos} (hg : Gl X "zip") (hm : X.mg "zip" = none) (ha : PA X [a, b] ta) (hs : starEach [a, b] X.env = [(false, eval a X.env), (false, eval b X.env)] := by rfl) (hs2 : starEach [b] X.env = [(false, eval b X.env)] := by rfl) :
    PI X (.Tuple es ek ps) (.Call (.Name "zip" p) [a, b] [] pos) (iZip X.K ta) := by
  intro pins s σ H R I h
  refine Call_ (ld_blt I hg hm boot_zip (PyProof.Rows.callWith_type1 (thn (ha pos pins s σ H _ I h) fun us s1 ⟨vs, H1, I1, r1, q1⟩ => ?_) (by rw [hs, hs2]) (by rw [hs2]; rfl)))
  obtain ⟨l1, l2, e, ⟨xs, hx⟩, ⟨ys, hy⟩, q⟩ := q1
  subst e
  cases r1 with
  | cons r rr =>
    cases rr with
    | cons r' rr =>
      cases rr
      cases r
      cases r'
      obtain ⟨its, rv, p, hz⟩ := I1.tuple hx
      obtain ⟨its2, rv2, p2, hz2⟩ := I1.tuple hy
      have lt1 : l1 < s1.heap.objs.size := by obtain ⟨o, e, _⟩ := p; exact Heap.lt_size e
      have lt2 : l2 < s1.heap.objs.size := by obtain ⟨o, e, _⟩ := p2; exact Heap.lt_size e
      refine callType_new F.called_zip (by decide) (F.typeCall_zip_2 _ _) (F.newCall_zip_2 _ _) (fun obj => F.args_object_init_3 obj _ _) F.entry_zip_new (meets_zt l1 l2 its.toArray its2.toArray) ⟨p, p2, ?_⟩
      have z1 : (s1.heap.push { cls := .type "tuple_iterator", data := .fields #[.ref l1, .int 0 0] }).objs.size = s1.heap.objs.size + 1 := Heap.size_push ..
      have z2 : ((s1.heap.push { cls := .type "tuple_iterator", data := .fields #[.ref l1, .int 0 0] }).push { cls := .type "tuple_iterator", data := .fields #[.ref l2, .int 0 0] }).objs.size = s1.heap.objs.size + 2 := by rw [Heap.size_push, z1]
      have z3 : (((s1.heap.push { cls := .type "tuple_iterator", data := .fields #[.ref l1, .int 0 0] }).push { cls := .type "tuple_iterator", data := .fields #[.ref l2, .int 0 0] }).push
        { cls := .type "tuple", data := .seq #[.ref s1.heap.objs.size, .ref (s1.heap.push { cls := .type "tuple_iterator", data := .fields #[.ref l1, .int 0 0] }).objs.size] }).objs.size = s1.heap.objs.size + 3 := by rw [Heap.size_push, z2]
      have z4 : (ztH s1.heap l1 l2).objs.size = s1.heap.objs.size + 4 := by unfold ztH; rw [Heap.size_push, z3]
      show _ ∧ _
      refine ⟨⟨_, Heap.get?_push_size _ rfl, rfl⟩, wpAny_pyIter_zip (TI := s1.heap.objs.size + 2) (TO := s1.heap.objs.size + 3) (f0 := .none) ?_ ?_⟩
      · rw [z2, z3]
        exact Heap.get?_push_size _ rfl
      · rw [z2, z3, z4]
        have g5 : ((ztH s1.heap l1 l2).push { cls := .type "zip", data := .fields #[.none, .bool false, .bool false, .ref (s1.heap.objs.size + 2), .ref (s1.heap.objs.size + 3)] }).get? (s1.heap.objs.size + 4) = some { cls := .type "zip", data := .fields #[.none, .bool false, .bool false, .ref (s1.heap.objs.size + 2), .ref (s1.heap.objs.size + 3)] } := by rw [← z4]; exact Heap.get?_push_size _ rfl
        have g4 : ((ztH s1.heap l1 l2).push { cls := .type "zip", data := .fields #[.none, .bool false, .bool false, .ref (s1.heap.objs.size + 2), .ref (s1.heap.objs.size + 3)] }).get? (s1.heap.objs.size + 3) = some { cls := .type "tuple", data := .seq #[.none, .none] } := by
          rw [← z3]; exact Heap.get?_push_of_some _ (Heap.get?_push_size _ rfl)
        have g3 : ((ztH s1.heap l1 l2).push { cls := .type "zip", data := .fields #[.none, .bool false, .bool false, .ref (s1.heap.objs.size + 2), .ref (s1.heap.objs.size + 3)] }).get? (s1.heap.objs.size + 2) = some { cls := .type "tuple", data := .seq #[.ref s1.heap.objs.size, .ref (s1.heap.objs.size + 1)] } := by
          rw [← z2, ← z1]; exact Heap.get?_push_of_some _ (Heap.get?_push_of_some _ (Heap.get?_push_size _ rfl))
        have g2 : ((ztH s1.heap l1 l2).push { cls := .type "zip", data := .fields #[.none, .bool false, .bool false, .ref (s1.heap.objs.size + 2), .ref (s1.heap.objs.size + 3)] }).get? (s1.heap.objs.size + 1) = some { cls := .type "tuple_iterator", data := .fields #[.ref l2, .int 0 0] } := by
          rw [← z1]; exact Heap.get?_push_of_some _ (Heap.get?_push_of_some _ (Heap.get?_push_of_some _ (Heap.get?_push_size _ rfl)))
        have g1 : ((ztH s1.heap l1 l2).push { cls := .type "zip", data := .fields #[.none, .bool false, .bool false, .ref (s1.heap.objs.size + 2), .ref (s1.heap.objs.size + 3)] }).get? s1.heap.objs.size = some { cls := .type "tuple_iterator", data := .fields #[.ref l1, .int 0 0] } :=
          Heap.get?_push_of_some _ (Heap.get?_push_of_some _ (Heap.get?_push_of_some _ (Heap.get?_push_of_some _ (Heap.get?_push_size _ rfl))))
        have kp : ∀ c o, s1.heap.get? c = some o → ((ztH s1.heap l1 l2).push { cls := .type "zip", data := .fields #[.none, .bool false, .bool false, .ref (s1.heap.objs.size + 2), .ref (s1.heap.objs.size + 3)] }).get? c = some o := fun c o e =>
          Heap.get?_push_of_some _ (Heap.get?_push_of_some _ (Heap.get?_push_of_some _ (Heap.get?_push_of_some _ (Heap.get?_push_of_some _ e))))
        generalize ((ztH s1.heap l1 l2).push { cls := .type "zip", data := .fields #[.none, .bool false, .bool false, .ref (s1.heap.objs.size + 2), .ref (s1.heap.objs.size + 3)] }) = h5 at g1 g2 g3 g4 g5 kp ⊢
        have D : ZipApart (s1.heap.objs.size + 4) (s1.heap.objs.size + 2) (s1.heap.objs.size + 3) s1.heap.objs.size (s1.heap.objs.size + 1) l1 l2 := PySem.W.ktu_apart _ _ _ lt1 lt2
        refine ⟨_, _, _, _, H1, rfl, I1.kept (t' := s1.toks) kp, turn_zip l1 l2 _ _ _ _ _ D, ⟨g5, g3, ⟨_, _, g4⟩, ⟨_, g1, rfl, rfl⟩, ⟨_, g2, rfl, rfl⟩⟩, fun c hc => ?_, q⟩
        have : s1.heap.objs.size ≤ c := by
          simp only [List.mem_cons, List.mem_nil_iff, or_false] at hc
          rcases hc with rfl | rfl | rfl | rfl | rfl
          · exact Nat.le_add_right _ _
          · exact Nat.le_add_right _ _
          · exact Nat.le_add_right _ _
          · exact Nat.le_refl _
          · exact Nat.le_add_right _ _
        exact I1.fpOk this (I1.hok.fresh this)
end
end L2
set_option Elab.async false
set_option linter.all false
set_option maxRecDepth 100000
namespace L2
open PySem PySem.Spec PyProof.Rows
def IsiR (K : PySem.W.Frag) (H : Hp) (x : V) (T : String) (b : Bool) : Prop :=
  (∃ i, x = .int i ∧ ((T = "int" ∧ b = true) ∨ (T = "tuple" ∧ b = false) ∨ (T = "str" ∧ b = false) ∨ (T = "bool" ∧ b = false) ∨ (T = "list" ∧ b = false))) ∨
  (∃ i, x = .bl i ∧ ((T = "bool" ∧ b = true) ∨ (T = "int" ∧ b = true) ∨ (T = "tuple" ∧ b = false) ∨ (T = "str" ∧ b = false) ∨ (T = "list" ∧ b = false))) ∨
  (∃ i, x = .str i ∧ ((T = "str" ∧ b = true) ∨ (T = "int" ∧ b = false) ∨ (T = "tuple" ∧ b = false) ∨ (T = "bool" ∧ b = false) ∨ (T = "list" ∧ b = false))) ∨
  (∃ a xs, x = .ref a ∧ SqT K H a xs ∧ ((T = "tuple" ∧ b = true) ∨ (T = "int" ∧ b = false) ∨ (T = "str" ∧ b = false) ∨ (T = "bool" ∧ b = false) ∨ (T = "list" ∧ b = false))) ∨
  (∃ a xs, x = .ref a ∧ SqL K H a xs ∧ ((T = "list" ∧ b = true) ∨ (T = "int" ∧ b = false) ∨ (T = "str" ∧ b = false) ∨ (T = "bool" ∧ b = false) ∨ (T = "tuple" ∧ b = false)))
section
variable {X : Cx}
theorem call_isi : CallR X (.builtin "isinstance") (fun xs H Q => ∃ x T b, xs = [x, .ty T] ∧ IsiR X.K H x T b ∧ Q (.bl b) H) := by
  intro pins s σ H xs us Q I r h
  obtain ⟨x, T, b, rfl, hi, q⟩ := h
  cases r with
  | cons r rr =>
    cases rr with
    | cons r' rr =>
      cases rr
      cases r'
      have f0 : ∀ {b : Bool}, Q (.bl b) H → EP X pins σ Q (.bool b) s := fun {b} q => ⟨.bl b, H, I, rfl, q⟩
      have f1 : ∀ {b : Bool}, Q (.bl b) H → EP X pins σ Q (.bool b) { s with toks := s.toks + 1 } := fun {b} q => ⟨.bl b, H, I.tok _, rfl, q⟩
      rcases hi with ⟨i, rfl, hi⟩ | ⟨i, rfl, hi⟩ | ⟨i, rfl, hi⟩ | ⟨a, xs, rfl, hs, hi⟩ | ⟨a, xs, rfl, hs, hi⟩
      · obtain ⟨t, rfl⟩ := r
        rcases hi with ⟨rfl, rfl⟩ | ⟨rfl, rfl⟩ | ⟨rfl, rfl⟩ | ⟨rfl, rfl⟩ | ⟨rfl, rfl⟩
        · exact IsiPair.int_int (f0 q)
        · exact IsiPair.int_tuple (f1 q)
        · exact IsiPair.int_str (f1 q)
        · exact IsiPair.int_bool (f1 q)
        · exact IsiPair.int_list (f1 q)
      · cases r
        rcases hi with ⟨rfl, rfl⟩ | ⟨rfl, rfl⟩ | ⟨rfl, rfl⟩ | ⟨rfl, rfl⟩ | ⟨rfl, rfl⟩
        · exact IsiPair.bool_bool (f0 q)
        · exact IsiPair.bool_int (f0 q)
        · exact IsiPair.bool_tuple (f1 q)
        · exact IsiPair.bool_str (f1 q)
        · exact IsiPair.bool_list (f1 q)
      · obtain ⟨t, rfl⟩ := r
        rcases hi with ⟨rfl, rfl⟩ | ⟨rfl, rfl⟩ | ⟨rfl, rfl⟩ | ⟨rfl, rfl⟩ | ⟨rfl, rfl⟩
        · exact IsiPair.str_str (f0 q)
        · exact IsiPair.str_int (f1 q)
        · exact IsiPair.str_tuple (f1 q)
        · exact IsiPair.str_bool (f1 q)
        · exact IsiPair.str_list (f1 q)
      · cases r
        obtain ⟨its, rv, ⟨o, ho, hc, _⟩, hz⟩ := I.tuple hs
        rcases hi with ⟨rfl, rfl⟩ | ⟨rfl, rfl⟩ | ⟨rfl, rfl⟩ | ⟨rfl, rfl⟩ | ⟨rfl, rfl⟩
        · exact IsiPair.tuple_tuple ho hc (f0 q)
        · exact IsiPair.tuple_int ho hc (f1 q)
        · exact IsiPair.tuple_str ho hc (f1 q)
        · exact IsiPair.tuple_bool ho hc (f1 q)
        · exact IsiPair.tuple_list ho hc (f1 q)
      · cases r
        obtain ⟨its, rv, p, hz⟩ := I.list hs
        obtain ⟨o, ho, hc, _⟩ := p.isList
        rcases hi with ⟨rfl, rfl⟩ | ⟨rfl, rfl⟩ | ⟨rfl, rfl⟩ | ⟨rfl, rfl⟩ | ⟨rfl, rfl⟩
        · exact IsiPair.list_list ho hc (f0 q)
        · exact IsiPair.list_int ho hc (f1 q)
        · exact IsiPair.list_str ho hc (f1 q)
        · exact IsiPair.list_bool ho hc (f1 q)
        · exact IsiPair.list_tuple ho hc (f1 q)
theorem bools_get : ∀ {bs : List Bool} {us : List Value}, Vals (bs.map V.bl) us → ∀ (i : Nat) (v : Value), us[i]? = some v → ∃ b, bs[i]? = some b ∧ v = Value.bool b := by
  intro bs us r i v h
  have hl := r.length
  rw [List.length_map] at hl
  have hi : i < bs.length := by rw [hl]; exact (List.getElem?_eq_some_iff.mp h).1
  obtain ⟨u, hu, ru⟩ := r.get (i := i) (x := V.bl bs[i]) (by simp [hi])
  rw [h] at hu
  cases hu
  exact ⟨bs[i], by simp [hi], ru⟩
theorem call_allB (hc : X.calm = true) : CallR X (.builtin "all") (fun xs H Q => ∃ l bs, xs = [.ref l] ∧ H l = some (.lst (List.map V.bl bs)) ∧ Q (.bl (bs.all id)) H) := by
  intro pins s σ H xs us Q I r h
  obtain ⟨l, bs, rfl, hl, q⟩ := h
  obtain ⟨u, rfl, ru⟩ := vals1 r
  cases ru
  obtain ⟨z, its, n, rv, e⟩ := I.hok l _ hl
  have isl : s.heap.IsList l its.toArray := ⟨_, e, rfl, n, rfl⟩
  refine call_all_walk (wpAny_pyIter_list isl ⟨s.heap.objs.size, [s.heap.objs.size, l], [s.heap.objs.size], its.toArray.size, _, _, fun i => (bs[i]?).getD true, rfl, Walks.list (A := X.A.in1) (I.ok.hd hc) _ l (Nat.ne_of_lt (Heap.lt_size e)) its.toArray,
    ⟨⟨_, Heap.get?_push_size _ rfl, rfl, rfl⟩, isl.push _⟩, fun i v s' Q' E' hP hQ => ?_, fun h' tk hk => ?_⟩)
  · obtain ⟨b, eb, rfl⟩ := bools_get rv i v (by simpa using hP)
    simp only [eb, Option.getD_some] at hQ
    exact wpAny_truthy_bool hQ
  · have el : its.toArray.size = bs.length := by
      have := rv.length
      rw [List.length_map] at this
      rw [List.size_toArray, this]
    rw [el, LSm.range_all]
    exact ⟨.bl _, H, I.kept (LSm.kept_iter hk), rfl, q⟩
theorem op_mulC : OpR X (binaryOp .Mult) (rI IntMulOk fun i j => .int (i * j)) := opI fun _ _ _ _ _ _ _ hc q => mul_int q hc
end
theorem mulok1 : IntMulOk (10 ^ 60) (10 ^ 60) := by unfold IntMulOk; decide +kernel
theorem mulok2 : IntMulOk (10 ^ 60 * 10 ^ 60) (10 ^ 60) := by unfold IntMulOk; decide +kernel
end L2
set_option Elab.async false
set_option linter.all false
set_option maxRecDepth 100000
namespace L2
open PySem PySem.Spec PyProof.Rows
section
variable {X : Cx} {pins : List (Addr × Obj)} {σ : St} {H : Hp} {s : Shared}
theorem Inv.cellT (I : Inv X pins σ H s) {a : Addr} {c : Int × Int} (h : H a = some (.tup [.int c.1, .int c.2])) : ∃ t u, s.heap.IsTuple a #[.int c.1 t, .int c.2 u] := by
  obtain ⟨_, its, rv, hit⟩ := I.hok _ _ h
  obtain ⟨u1, us, rfl, ⟨t, rfl⟩, r2⟩ : ∃ u1 us, its = u1 :: us ∧ RelV (.int c.1) u1 ∧ Vals [.int c.2] us := by cases rv with | cons a b => exact ⟨_, _, rfl, a, b⟩
  obtain ⟨u2, rfl, ⟨t', rfl⟩⟩ := vals1 r2
  exact ⟨t, t', hit⟩
theorem Inv.cellEq (I : Inv X pins σ H s) {A : Around} (hu : A.units < cLine) {a b : Addr} {c d : Int × Int} (ha : H a = some (.tup [.int c.1, .int c.2])) (hb : H b = some (.tup [.int d.1, .int d.2])) : SeqAt.EqAt A s (.ref a) (.ref b) (decide (c = d)) := by
  by_cases e : a = b
  · subst e
    rw [ha] at hb
    have hb : V.int c.1 = V.int d.1 ∧ V.int c.2 = V.int d.2 := by simpa using hb
    have : c = d := Prod.ext (V.int.inj hb.1) (V.int.inj hb.2)
    rw [decide_eq_true this]
    exact SeqAt.EqAt.same _
  · obtain ⟨t, u, h1⟩ := I.cellT ha
    obtain ⟨t', u', h2⟩ := I.cellT hb
    have := SeqAt.EqAt.of_refs e (SeqAt.RcAt.tuples (e := fun j => if j = 0 then c.1 == d.1 else c.2 == d.2) h1 h2 hu fun j j1 j2 => by
      have : j = 0 ∨ j = 1 := by
        have : j < 2 := j1
        omega
      rcases this with rfl | rfl
      · exact SeqAt.EqAt.int_int _ _ _ _
      · exact SeqAt.EqAt.int_int _ _ _ _)
    have e2 : ((List.range (min (#[Value.int c.1 t, Value.int c.2 u] : Array Value).size (#[Value.int d.1 t', Value.int d.2 u'] : Array Value).size)).all (fun j => if j = 0 then c.1 == d.1 else c.2 == d.2) && (#[Value.int c.1 t, Value.int c.2 u] : Array Value).size == (#[Value.int d.1 t', Value.int d.2 u'] : Array Value).size) = decide (c = d) := by
      show (([0, 1] : List Nat).all (fun j => if j = 0 then c.1 == d.1 else c.2 == d.2) && true) = _
      obtain ⟨c1, c2⟩ := c
      obtain ⟨d1, d2⟩ := d
      by_cases h1 : c1 = d1 <;> by_cases h2 : c2 = d2 <;> simp [h1, h2]
    rw [e2] at this
    exact this
theorem Cells.length {ys : List V} {cs : List (Int × Int)} (h : Cells H ys cs) : ys.length = cs.length := Paired.length h
theorem Cells.get {ys : List V} {cs : List (Int × Int)} (h : Cells H ys cs) {i : Nat} {c : Int × Int} (hc : cs[i]? = some c) : ∃ a, ys[i]? = some (.ref a) ∧ H a = some (.tup [.int c.1, .int c.2]) := by
  have hi : i < ys.length := by rw [h.length]; exact (List.getElem?_eq_some_iff.mp hc).1
  obtain ⟨v, c', h1, h2, a, rfl, h3⟩ := pairedGet h i hi
  rw [hc] at h2
  cases h2
  exact ⟨a, h1, h3⟩
theorem Cells.mono {H' : Hp} {ys : List V} {cs : List (Int × Int)} (h : Cells H ys cs) (k : ∀ a xs, H a = some (.tup xs) → H' a = some (.tup xs)) : Cells H' ys cs := Paired.mapP h fun v c ⟨a, e, x⟩ => ⟨a, e, k _ _ x⟩
def cellB (H : Hp) (c : Int × Int) (y : Value) : Bool := match y with
  | .ref a => (match H a with
    | some (.tup [.int r, .int k]) => decide ((r, k) = c)
    | _ => false)
  | _ => false
theorem cellB_of {a : Addr} {c d : Int × Int} (h : H a = some (.tup [.int d.1, .int d.2])) : cellB H c (.ref a) = decide (d = c) := by
  unfold cellB
  simp only [h]
theorem op_inC (hu : X.A.units + 2 < cLine) : OpR X (compareOp .In) (fun x y H Q => ∃ (a : Addr) (c : Int × Int) (b : Addr) (ys : List V) (cs : List (Int × Int)), x = .ref a ∧ H a = some (.tup [.int c.1, .int c.2]) ∧ y = .ref b ∧ SqT X.K H b ys ∧ Cells H ys cs ∧ Q (.bl (decide (c ∈ cs))) H) := by
  intro pins s σ H x y v u Q I rx ry h
  obtain ⟨a, c, b, ys, cs, rfl, ha, rfl, hb, hC, q⟩ := h
  cases rx
  cases ry
  obtain ⟨its, rv, p, hz⟩ := I.tuple hb
  have hl : its.length = cs.length := by rw [← rv.length, hC.length]
  have item : ∀ (i : Nat) w, its[i]? = some w → ∃ d a', cs[i]? = some d ∧ w = .ref a' ∧ H a' = some (.tup [.int d.1, .int d.2]) := fun i w hw => by
    have hi : i < cs.length := by rw [← hl]; exact (List.getElem?_eq_some_iff.mp hw).1
    obtain ⟨a', h1, h2⟩ := hC.get (i := i) (c := cs[i]) (by simp [hi])
    obtain ⟨u, h3, h4⟩ := rv.get h1
    rw [hw] at h3
    cases h3
    exact ⟨cs[i], a', by simp [hi], h4, h2⟩
  refine SeqAt.in_tupleAt (cellB H c) (show s.heap.IsTuple b its.toArray from p) (fun w hw => ?_) ⟨.bl _, H, I, rfl, ?_⟩
  · obtain ⟨i, hi, rfl⟩ := List.mem_iff_getElem.mp (show w ∈ its by simpa using hw)
    obtain ⟨d, a', _, e, h2⟩ := item i its[i] (by simp [hi])
    rw [e, cellB_of h2]
    exact I.cellEq (A := X.A.in1) (by show X.A.units + 1 < cLine; omega) h2 ha
  · have : its.toArray.any (cellB H c) = decide (c ∈ cs) := by
      rw [Bool.eq_iff_iff, decide_eq_true_iff]
      rw [List.any_toArray, List.any_eq_true]
      constructor
      · rintro ⟨w, hw, hb⟩
        obtain ⟨i, hi, rfl⟩ := List.mem_iff_getElem.mp hw
        obtain ⟨d, a', h1, e, h2⟩ := item i its[i] (by simp [hi])
        rw [e, cellB_of h2, decide_eq_true_iff] at hb
        rw [← hb]
        exact List.mem_of_getElem? h1
      · intro hc
        obtain ⟨i, hi, rfl⟩ := List.mem_iff_getElem.mp hc
        refine ⟨its[i]'(by omega), List.getElem_mem _, ?_⟩
        obtain ⟨d, a', h1, e, h2⟩ := item i (its[i]'(by omega)) (by simp [show i < its.length by omega])
        rw [e, cellB_of h2, decide_eq_true_iff]
        rw [List.getElem?_eq_getElem hi] at h1
        exact (Option.some.inj h1).symm
    rw [this]
    exact q
theorem op_eqC (hu : X.A.units + 2 < cLine) : OpR X (compareOp .Eq) (fun x y H Q => ∃ (a b : Addr) (xs ys : List V) (cs ds : List (Int × Int)), x = .ref a ∧ y = .ref b ∧ SqT X.K H a xs ∧ SqT X.K H b ys ∧ Cells H xs cs ∧ Cells H ys ds ∧ Q (.bl (decide (cs = ds))) H) := by
  intro pins s σ H x y v u Q I rx ry h
  obtain ⟨a, b, xs, ys, cs, ds, rfl, rfl, ha, hb, hC, hD, q⟩ := h
  cases rx
  cases ry
  obtain ⟨its, rv, p, hz⟩ := I.tuple ha
  obtain ⟨its2, rv2, p2, hz2⟩ := I.tuple hb
  have l1 : its.length = cs.length := by rw [← rv.length, hC.length]
  have l2 : its2.length = ds.length := by rw [← rv2.length, hD.length]
  refine SeqAt.eq_tupleAt (e := fun j => decide (cs[j]? = ds[j]?)) (show s.heap.IsTuple a its.toArray from p) (show s.heap.IsTuple b its2.toArray from p2) (by omega) (fun j j1 j2 => ?_) ⟨.bl _, H, I, rfl, ?_⟩
  · have j1 : j < its.length := by simpa using j1
    have j2 : j < its2.length := by simpa using j2
    obtain ⟨a', g1, g2⟩ := hC.get (i := j) (c := cs[j]'(by omega)) (by simp [show j < cs.length by omega])
    obtain ⟨u1, k1, m1⟩ := rv.get g1
    obtain ⟨b', g3, g4⟩ := hD.get (i := j) (c := ds[j]'(by omega)) (by simp [show j < ds.length by omega])
    obtain ⟨u2, k2, m2⟩ := rv2.get g3
    rw [List.getElem?_eq_getElem j1] at k1
    rw [List.getElem?_eq_getElem j2] at k2
    have k1 := Option.some.inj k1
    have k2 := Option.some.inj k2
    cases m1
    cases m2
    rw [List.getElem_toArray, List.getElem_toArray, k1, k2]
    have := I.cellEq (A := X.A.in1) (by show X.A.units + 1 < cLine; omega) g2 g4
    rw [List.getElem?_eq_getElem (show j < cs.length by omega), List.getElem?_eq_getElem (show j < ds.length by omega)]
    simpa using this
  · have : ((List.range (min its.toArray.size its2.toArray.size)).all (fun j => decide (cs[j]? = ds[j]?)) && its.toArray.size == its2.toArray.size) = decide (cs = ds) := by
      rw [List.size_toArray, List.size_toArray, l1, l2, Bool.eq_iff_iff, decide_eq_true_iff, Bool.and_eq_true, List.all_eq_true, beq_iff_eq]
      constructor
      · rintro ⟨h1, h2⟩
        apply List.ext_getElem?
        intro i
        by_cases hi : i < cs.length
        · exact of_decide_eq_true (h1 i (List.mem_range.mpr (by omega)))
        · rw [List.getElem?_eq_none (by omega), List.getElem?_eq_none (by omega)]
      · rintro rfl
        exact ⟨fun j _ => by simp, rfl⟩
    rw [this]
    exact q
end
end L2
set_option Elab.async false
set_option linter.all false
set_option maxRecDepth 100000
namespace L2
open PySem PySem.Spec PyProof.Rows
/-! ### comprehensions over what stays -/
section
variable {K : PySem.W.Frag} {own : List Str} {caps : List Nat} {g : TG} {tt : TT} {te : TE} {σ : St} {H1 : Hp} {Q : VK}
theorem cwalk_n {J : It} {n : Nat} (Pv : Nat → List V → Hp → Prop) (h0 : Pv 0 [] H1) (hgo : ∀ i ys H, i < n → Pv i ys H → J.go i H) (hst : ∀ ys H, Pv n ys H → J.stop n H)
    (hs : ∀ i ys H x H', i < n → Pv i ys H → J.yld i H x H' → CTurn own caps g tt te σ (Pv (i + 1)) ys x H') (hd : ∀ ys H, Pv n ys H → ∀ D, H D = none → Q (.ref D) (upd H D (.lst ys))) : CWalk J own caps g tt te σ H1 Q := by
  refine ⟨fun i m ys H => m = n - i ∧ i ≤ n ∧ Pv i ys H, ⟨n, by simp, Nat.zero_le _, h0⟩, ?_⟩
  rintro i m ys H ⟨rfl, hi, p⟩
  by_cases hlt : i < n
  · exact .inr ⟨hgo i ys H hlt p, Pv (i + 1), fun ys' H' p' => ⟨n - (i + 1), by omega, rfl, hlt, p'⟩, fun x H' y => hs i ys H x H' hlt p y⟩
  · have e : i = n := by omega
    subst e
    exact .inl ⟨hst ys H p, hd ys H p⟩
theorem comp_list {a : Addr} {xs : List V} (Pv : Nat → List V → Hp → Prop) (h0 : Pv 0 [] H1) (hl : ∀ i ys H, Pv i ys H → SqL K H a xs) (hs : ∀ i x ys H, xs[i]? = some x → Pv i ys H → CTurn own caps g tt te σ (Pv (i + 1)) ys x H)
    (hd : ∀ ys H, Pv xs.length ys H → ∀ D, H D = none → Q (.ref D) (upd H D (.lst ys))) : CWalk (Itl K a) own caps g tt te σ H1 Q :=
  cwalk_n (n := xs.length) Pv h0 (fun i ys H hi p => ⟨xs, xs[i], hl i ys H p, by simp [hi]⟩) (fun ys H p => ⟨xs, hl _ ys H p, Nat.le_refl _⟩) (fun i ys H x H' hi p ⟨e, y⟩ => by subst e; exact hs i x ys _ (y xs (hl i ys _ p)) p) hd
theorem comp_tup {a : Addr} {xs : List V} (Pv : Nat → List V → Hp → Prop) (h0 : Pv 0 [] H1) (hl : ∀ i ys H, Pv i ys H → SqT K H a xs) (hs : ∀ i x ys H, xs[i]? = some x → Pv i ys H → CTurn own caps g tt te σ (Pv (i + 1)) ys x H)
    (hd : ∀ ys H, Pv xs.length ys H → ∀ D, H D = none → Q (.ref D) (upd H D (.lst ys))) : CWalk (Itt K a) own caps g tt te σ H1 Q :=
  cwalk_n (n := xs.length) Pv h0 (fun i ys H hi p => ⟨xs, xs[i], hl i ys H p, by simp [hi]⟩) (fun ys H p => ⟨xs, hl _ ys H p, Nat.le_refl _⟩) (fun i ys H x H' hi p ⟨e, y⟩ => by subst e; exact hs i x ys _ (y xs (hl i ys _ p)) p) hd
theorem comp_zip {a b : Addr} {xs zs : List V} (hlen : xs.length = zs.length) (Pv : Nat → List V → Hp → Prop) (h0 : Pv 0 [] H1) (hl : ∀ i ys H, Pv i ys H → SqT K H a xs ∧ SqT K H b zs)
    (hs : ∀ i x z ys H T, xs[i]? = some x → zs[i]? = some z → Pv i ys H → H T = none → CTurn own caps g tt te σ (Pv (i + 1)) ys (.ref T) (upd H T (.tup [x, z])))
    (hd : ∀ ys H, Pv xs.length ys H → ∀ D, H D = none → Q (.ref D) (upd H D (.lst ys))) : CWalk (Itz K a b) own caps g tt te σ H1 Q :=
  cwalk_n (n := xs.length) Pv h0 (fun i ys H hi p => ⟨xs, zs, xs[i], zs[i]'(by omega), (hl i ys H p).1, (hl i ys H p).2, by simp [hi], by simp [show i < zs.length by omega]⟩)
    (fun ys H p => ⟨xs, zs, (hl _ ys H p).1, (hl _ ys H p).2, .inl (Nat.le_refl _)⟩) (fun i ys H x H' hi p ⟨T, x', z', f, e, e2, y1, y2⟩ => by subst e e2; exact hs i x' z' ys H T (y1 xs (hl i ys H p).1) (y2 zs (hl i ys H p).2) p f) hd
end
theorem keep_set {σ : St} {j : Nat} {w : Option V} (h : σ[j]? = some none) : ∀ (i : Nat) (v : V), σ[i]? = some (some v) → (σ.set j w)[i]? = some (some v) := fun i v e => by
  by_cases hij : i = j
  · subst hij
    rw [h] at e
    cases e
  · rw [List.getElem?_set_ne (Ne.symm hij)]
    exact e
theorem keepU {H : Hp} {a b : Addr} {o u : HO} (e : H b = some o) (h : H a = none) : L2.upd H a u b = some o := by rw [upd_ne (ne_of_none e h)]; exact e
theorem Same.upd {H H' : Hp} (s : Same H H') {a : Addr} {o : HO} (h : H' a = none) : Same H (L2.upd H' a o) := fun b u e => keepU (s b u e) h
theorem Same.tups {H H' : Hp} (s : Same H H') : ∀ a xs, H a = some (.tup xs) → H' a = some (.tup xs) := fun a xs e => s a _ e
theorem Cells.snoc {H : Hp} {ys : List V} {cs : List (Int × Int)} {a : Addr} {c : Int × Int} (h : Cells H ys cs) (e : H a = some (.tup [.int c.1, .int c.2])) : Cells H (ys ++ [.ref a]) (cs ++ [c]) := Paired.snoc h ⟨a, rfl, e⟩
end L2
set_option Elab.async false
set_option linter.all false
set_option maxRecDepth 100000
namespace L2
open PySem PySem.Spec PyProof.Rows
section
variable {X : Cx}
theorem op_neN (hu : X.A.units < cLine) : OpR X (compareOp .NotEq) (fun x y H Q => ∃ a b xs, x = .ref a ∧ y = .ref b ∧ H a = some (.lst xs) ∧ H b = some (.lst []) ∧ Q (.bl (!xs.isEmpty)) H) := by
  intro pins s σ H x y v u Q I rx ry h
  obtain ⟨a, b, xs, rfl, rfl, ha, hb, q⟩ := h
  cases rx
  cases ry
  obtain ⟨z, its, n, rv, e⟩ := I.hok a _ ha
  obtain ⟨z2, its2, n2, rv2, e2⟩ := I.hok b _ hb
  have l1 : s.heap.IsList a its.toArray := ⟨_, e, rfl, n, rfl⟩
  have l2 : s.heap.IsList b its2.toArray := ⟨_, e2, rfl, n2, rfl⟩
  have h2 : its2 = [] := rv2.nil_iff.mpr rfl
  subst h2
  by_cases hx : xs = []
  · subst hx
    have h1 : its = [] := rv.nil_iff.mpr rfl
    subst h1
    exact SeqAt.RcNeAt.lists (e := fun _ => true) l1 l2 rfl hu (fun j h1 _ => absurd h1 (Nat.not_lt_zero j)) X.prog X.w _ _ ⟨.bl false, H, I, rfl, q⟩
  · have h1 : its ≠ [] := fun z => hx (rv.nil_iff.mp z)
    refine SeqAt.RcNeAt.lists_lengths l1 l2 (by cases its with | nil => exact absurd rfl h1 | cons => rfl) hu X.prog X.w _ _ ⟨.bl true, H, I, rfl, ?_⟩
    have : (!xs.isEmpty) = true := by cases xs with | nil => exact absurd rfl hx | cons => rfl
    rw [this] at q
    exact q
theorem op_eqP (hu : X.A.units + 2 < cLine) : OpR X (compareOp .Eq) (fun x y H Q => ∃ (a b : Addr) (c d : Int × Int), x = .ref a ∧ y = .ref b ∧ H a = some (.tup [.int c.1, .int c.2]) ∧ H b = some (.tup [.int d.1, .int d.2]) ∧ Q (.bl (decide (c = d))) H) := by
  intro pins s σ H x y v u Q I rx ry h
  obtain ⟨a, b, c, d, rfl, rfl, ha, hb, q⟩ := h
  cases rx
  cases ry
  obtain ⟨t, u, h1⟩ := I.cellT ha
  obtain ⟨t', u', h2⟩ := I.cellT hb
  refine SeqAt.eq_tupleAt (e := fun j => if j = 0 then c.1 == d.1 else c.2 == d.2) h1 h2 (by omega) (fun j j1 j2 => ?_) ⟨.bl _, H, I, rfl, ?_⟩
  · have : j = 0 ∨ j = 1 := by
      have : j < 2 := j1
      omega
    rcases this with rfl | rfl
    · exact SeqAt.EqAt.int_int _ _ _ _
    · exact SeqAt.EqAt.int_int _ _ _ _
  · have e2 : ((List.range (min (#[Value.int c.1 t, Value.int c.2 u] : Array Value).size (#[Value.int d.1 t', Value.int d.2 u'] : Array Value).size)).all (fun j => if j = 0 then c.1 == d.1 else c.2 == d.2) && (#[Value.int c.1 t, Value.int c.2 u] : Array Value).size == (#[Value.int d.1 t', Value.int d.2 u'] : Array Value).size) = decide (c = d) := by
      show (([0, 1] : List Nat).all (fun j => if j = 0 then c.1 == d.1 else c.2 == d.2) && true) = _
      obtain ⟨c1, c2⟩ := c
      obtain ⟨d1, d2⟩ := d
      by_cases h1 : c1 = d1 <;> by_cases h2 : c2 = d2 <;> simp [h1, h2]
    rw [e2]
    exact q
theorem op_notInL (hu : X.A.units + 2 < cLine) : OpR X (compareOp .NotIn) (fun x y H Q => ∃ (a : Addr) (c : Int × Int) (b : Addr) (ys : List V) (cs : List (Int × Int)), x = .ref a ∧ H a = some (.tup [.int c.1, .int c.2]) ∧ y = .ref b ∧ H b = some (.lst ys) ∧ Cells H ys cs ∧ Q (.bl (!decide (c ∈ cs))) H) := by
  intro pins s σ H x y v u Q I rx ry h
  obtain ⟨a, c, b, ys, cs, rfl, ha, rfl, hb, hC, q⟩ := h
  cases rx
  cases ry
  obtain ⟨z, its, n, rv, e0⟩ := I.hok b _ hb
  have p : s.heap.IsList b its.toArray := ⟨_, e0, rfl, n, rfl⟩
  have hl : its.length = cs.length := by rw [← rv.length, hC.length]
  have item : ∀ (i : Nat) w, its[i]? = some w → ∃ d a', cs[i]? = some d ∧ w = .ref a' ∧ H a' = some (.tup [.int d.1, .int d.2]) := fun i w hw => by
    have hi : i < cs.length := by rw [← hl]; exact (List.getElem?_eq_some_iff.mp hw).1
    obtain ⟨a', h1, h2⟩ := hC.get (i := i) (c := cs[i]) (by simp [hi])
    obtain ⟨u, h3, h4⟩ := rv.get h1
    rw [hw] at h3
    cases h3
    exact ⟨cs[i], a', by simp [hi], h4, h2⟩
  refine SeqAt.notIn_listAt (cellB H c) p (fun w hw => ?_) ⟨.bl _, H, I, rfl, ?_⟩
  · obtain ⟨i, hi, rfl⟩ := List.mem_iff_getElem.mp (show w ∈ its by simpa using hw)
    obtain ⟨d, a', _, e, h2⟩ := item i its[i] (by simp [hi])
    rw [e, cellB_of h2]
    exact I.cellEq (A := X.A.in1) (by show X.A.units + 1 < cLine; omega) h2 ha
  · have : its.toArray.any (cellB H c) = decide (c ∈ cs) := by
      rw [Bool.eq_iff_iff, decide_eq_true_iff, List.any_toArray, List.any_eq_true]
      constructor
      · rintro ⟨w, hw, hb⟩
        obtain ⟨i, hi, rfl⟩ := List.mem_iff_getElem.mp hw
        obtain ⟨d, a', h1, e, h2⟩ := item i its[i] (by simp [hi])
        rw [e, cellB_of h2, decide_eq_true_iff] at hb
        rw [← hb]
        exact List.mem_of_getElem? h1
      · intro hc
        obtain ⟨i, hi, rfl⟩ := List.mem_iff_getElem.mp hc
        refine ⟨its[i]'(by omega), List.getElem_mem _, ?_⟩
        obtain ⟨d, a', h1, e, h2⟩ := item i (its[i]'(by omega)) (by simp [show i < its.length by omega])
        rw [e, cellB_of h2, decide_eq_true_iff]
        rw [List.getElem?_eq_getElem hi] at h1
        exact (Option.some.inj h1).symm
    rw [this]
    exact q
end
end L2
set_option Elab.async false
set_option linter.all false
set_option maxRecDepth 100000
namespace L2
open PySem PySem.Spec PyProof.Rows PySem.W
section
variable {prog : Program} {w : World} {A : Around} {E : Value → Shared → Prop} {s : Shared} {vs : List Value}
theorem lsort_by {B : Addr} {n0 : Nat} {P : PySem.Fin → Shared → Prop} (key : Nat → Int) (κ : SortKind) (ho : s.heap.get? B = some (seqObj "list" vs.toArray n0))
    (hkind : 2 ≤ vs.length → ∀ h6 : Heap, (∀ b o, b ≠ B → s.heap.get? b = some o → h6.get? b = some o) → ∀ Q : SortKind → Shared → Prop, Q κ { s with heap := h6 } → wpAny (model prog w) A (keyKind' vs.toArray) Q E { s with heap := h6 })
    (hcmp : ∀ h6 : Heap, (∀ b o, b ≠ B → s.heap.get? b = some o → h6.get? b = some o) → CmpBy vs.length key (kas_cmp prog w A κ (vs.toArray.zip vs.toArray)) { s with heap := h6 })
    (inj : ∀ i j, i < vs.length → j < vs.length → key i = key j → i = j) (up : vs.length < 1001 ∨ ∀ j, 1 ≤ j → j < vs.length → key (j - 1) ≤ key j) (hz : vs.length ≤ 1000)
    (h : ∀ (p : Array Nat) (h' : Heap), Rg vs.length p → Up key p vs.length → (∀ b o, b ≠ B → s.heap.get? b = some o → h'.get? b = some o) → (∃ e, h'.get? B = some (seqObj "list" (p.toList.map fun i => vs.getD i Value.none).toArray e)) →
      P (.done (.ret .none)) { s with heap := h' }) : wpAny (model prog w) A (Builtin.«list.sort» ⟨[.ref B], []⟩) P E s := by
  have hzl : vs.length ≤ sizeLine := Nat.le_trans hz (by decide)
  rw [list_sort_plain]
  have hB : B < s.heap.objs.size := Heap.lt_size ho
  refine wpAny_bind (listItems_at ho rfl (wpAny_bind (listUpdate_at ho rfl ?_ (hsz := by rw [List.size_toArray]; exact hzl) (hsz2 := by show 0 ≤ _; exact Nat.zero_le _))))
  have ho1 := get?_update_seq ho (fun _ => #[])
  generalize he1 : (if (#[] : Array Value).size == vs.toArray.size then n0 else n0 + 1) = e1 at ho1
  refine wpAny_bind (seqEpoch_at ho1 rfl (wpAny_bind (wpAny_newTuple (wpAny_bind (wpAny_newList (wpAny_holding ?_))) (by simpa using hzl))))
  have k6 : ∀ b o, b ≠ B → s.heap.get? b = some o → (((s.heap.update B (Obj.mapSeq fun _ => #[])).push (seqObj "tuple" vs.toArray.toList.toArray 0)).push (seqObj "list" ([] : List Value).toArray 0)).get? b = some o := fun b o hb e =>
    Heap.get?_push_of_some _ (Heap.get?_push_of_some _ ((Heap.get?_update_other _ _ (Ne.symm hb)).trans e))
  have o6 : (((s.heap.update B (Obj.mapSeq fun _ => #[])).push (seqObj "tuple" vs.toArray.toList.toArray 0)).push (seqObj "list" ([] : List Value).toArray 0)).get? B = some (seqObj "list" #[] e1) :=
    Heap.get?_push_of_some _ (Heap.get?_push_of_some _ ho1)
  show wpAny (model prog w) A _ P E { s with heap := ((s.heap.update B (Obj.mapSeq fun _ => #[])).push (seqObj "tuple" vs.toArray.toList.toArray 0)).push (seqObj "list" ([] : List Value).toArray 0) }
  generalize ((s.heap.update B (Obj.mapSeq fun _ => #[])).push (seqObj "tuple" vs.toArray.toList.toArray 0)).push (seqObj "list" ([] : List Value).toArray 0) = h6 at k6 o6 ⊢
  -- the end, whatever the order found
  have fin : ∀ (st : SortSt) (p : Array Nat), Rg vs.length p → Up key p vs.length → arrOf st = p.map (kas_item (vs.toArray.zip vs.toArray)) → failedOf st = none →
      wpAny (model prog w) A (do
        let touched := (← seqEpoch B) != e1
        Builtin.List.listUpdate (.ref B) fun _ => (arrOf st).map (·.2)
        if let some e := failedOf st then rule "list.sort.comparison-raised"; throw e
        if touched then rule "list.sort.modified"; raiseError "ValueError" "list modified during sort"
        ret .none) P E { s with heap := h6 } := fun st p r1 r2 r3 r4 => by
    have out := kat_snds (ks := vs) (vs := vs) rfl r3
    rw [out, r4]
    refine wpAny_bind (seqEpoch_at (s := { s with heap := h6 }) o6 rfl (wpAny_bind (listUpdate_at (s := { s with heap := h6 }) o6 rfl ?_ (hsz := Nat.zero_le _) (hsz2 := by
      show (List.toArray (p.toList.map fun i => vs.getD i Value.none)).size ≤ _
      rw [List.size_toArray, List.length_map, Array.length_toList, r1.size]
      omega))))
    simp only [bne_self_eq_false, Bool.false_eq_true, if_false]
    refine wpAny_pure (h p _ r1 r2 (fun b o hb e => (Heap.get?_update_other _ _ (Ne.symm hb)).trans (k6 b o hb e)) ⟨_, get?_update_seq o6 fun _ => _⟩)
  dsimp only
  by_cases h2 : vs.toArray.size < 2
  · rw [if_pos h2, if_pos h2]
    refine wpAny_bind (wpAny_pure ?_)
    rw [StateT.run_pure]
    apply wpAny_bind
    apply wpAny_pure
    have h2' : vs.length < 2 := by simpa using h2
    refine fin (SortSt.mk' general' (vs.toArray.zip vs.toArray) #[] 7 none) (List.range vs.length).toArray (List.Perm.refl _) (fun i j hij hj => ?_) ?_ rfl
    · have : i = j := by omega
      subst this
      exact Int.le_refl _
    · have := kas_range (vs.toArray.zip vs.toArray)
      rw [show (vs.toArray.zip vs.toArray).size = vs.length by simp] at this
      exact this.symm
  · rw [if_neg h2, if_neg h2]
    have h2' : 2 ≤ vs.length := by simpa using h2
    refine wpAny_bind (hkind h2' h6 k6 _ ?_)
    · have cm := hcmp h6 k6
      have kr := kas_range (vs.toArray.zip vs.toArray)
      rw [show (vs.toArray.zip vs.toArray).size = vs.length by simp] at kr
      have run := runs_any2 (E := E) (Q := fun _ st s' => s' = { s with heap := h6 } ∧ ∃ p, Rg vs.length p ∧ Up key p vs.length ∧ arrOf st = p.map (kas_item (vs.toArray.zip vs.toArray)) ∧ failedOf st = none) cm
        inj h2' up fun p' st' a b c d => ⟨rfl, p', a, b, c, d⟩
      unfold kas_st at run
      rw [kr] at run
      refine wpAny_bind (wpAny_mono run (fun r s' hr => ?_) fun _ _ e => e)
      obtain ⟨u, st⟩ := r
      obtain ⟨rfl, p, r1, r2, r3, r4⟩ := hr
      exact fin st p r1 r2 r3 r4
end
end L2
set_option Elab.async false
set_option linter.all false
set_option maxRecDepth 100000
namespace L2
open PySem PySem.Spec PyProof.Rows PySem.W
section
variable {X : Cx} {pins : List (Addr × Obj)} {σ : L2.St} {H : Hp} {s : Shared}
theorem sorted_by (hc : X.calm = true) {a : Addr} {ys : List V} {its : List Value} {n : Nat} {T : String} {o : Obj} {Q : VK} (key : Nat → Int) (κ : SortKind) (I : Inv X pins σ H s) (rv : Vals ys its) (hT : T = "list" ∨ T = "tuple") (e : s.heap.get? a = some o) (eC : o.cls = .type T) (eD : o.data = .seq its.toArray n) (hz : ys.length ≤ 1000)
    (hkind : 2 ≤ its.length → ∀ (h6 : Heap) (tk : Nat), (∀ b o, s.heap.get? b = some o → h6.get? b = some o) → ∀ (A : Around) (E : Value → Shared → Prop) (Q : SortKind → Shared → Prop), Q κ { s with heap := h6, toks := tk } → wpAny (model X.prog X.w) A (keyKind' its.toArray) Q E { s with heap := h6, toks := tk })
    (hcmp : ∀ (h6 : Heap) (tk : Nat), (∀ b o, s.heap.get? b = some o → h6.get? b = some o) → CmpBy its.length key (kas_cmp X.prog X.w X.A.in1.in1 κ (its.toArray.zip its.toArray)) { s with heap := h6, toks := tk })
    (inj : ∀ i j, i < its.length → j < its.length → key i = key j → i = j) (up : its.length < 1001 ∨ ∀ j, 1 ≤ j → j < its.length → key (j - 1) ≤ key j)
    (q : ∀ (p : Array Nat) l, Rg its.length p → Up key p its.length → H l = none → Q (.ref l) (upd H l (.lst (p.toList.map fun i => ys.getD i .non)))) :
    wpAny (model X.prog X.w) X.A (call (.builtin "sorted") [.ref a]) (EP X pins σ Q) X.xe s := by
  have hl : ys.length = its.length := rv.length
  have hsl : its.length ≤ sizeLine := Nat.le_trans (by omega) (show 1000 ≤ sizeLine by decide)
  refine Calls.call_function_entry kind_sorted plain_sorted entry_sorted (args_sorted1 _) ?z
  case z =>
    unfold Builtin.«sorted»
    refine wpAny_bind (m := checkCount "sorted" 1 1 _) (wpAny_pure (wpAny_bind (wpAny_collect_seq a hT e eC eD (fun h' hkp => ?_) (by rw [List.size_toArray]; exact hsl))))
    show wpAny _ _ (newList its >>= _) _ _ _
    refine wpAny_bind (wpAny_newList ?_ hsl)
    have oB : (h'.push (seqObj "list" its.toArray 0)).get? h'.objs.size = some (seqObj "list" its.toArray 0) := Heap.get?_push_size _ rfl
    have kB : ∀ b o, s.heap.get? b = some o → (h'.push (seqObj "list" its.toArray 0)).get? b = some o := fun b o e => Heap.get?_push_of_some _ (hkp b o e)
    have I1 : Inv X pins σ H { s with heap := h' } := I.kept (t' := s.toks) hkp
    have nB : ∀ b o, s.heap.get? b = some o → b ≠ h'.objs.size := fun b o e => Nat.ne_of_lt (Heap.lt_size (hkp b o e))
    refine wpAny_bind (wpAny_holding (wpAny_call_entry slot_list_sort ⟨_, oB, rfl⟩ entry_list_sort ?y (args_list_sort _)))
    case y =>
      refine lsort_by (s := { s with heap := h'.push (seqObj "list" its.toArray 0) }) key κ oB (fun h2 h6 k6 Q hq => hkind h2 h6 s.toks (fun b o eb => k6 b o (nB b o eb) (kB b o eb)) _ _ Q hq) (fun h6 k6 => hcmp h6 s.toks fun b o eb => k6 b o (nB b o eb) (kB b o eb)) inj up (by omega) fun p h2 r1 r2 k2 ⟨e9, oB2⟩ => ⟨_, rfl, wpAny_pure ⟨_, rfl, ?_⟩⟩
      have fB : H h'.objs.size = none := I1.hok.fresh (Nat.le_refl _)
      have neB : ∀ b o, h'.get? b = some o → b ≠ h'.objs.size := fun b o e => Nat.ne_of_lt (Heap.lt_size e)
      refine ⟨.ref h'.objs.size, upd H h'.objs.size (.lst (p.toList.map fun i => ys.getD i .non)), ?_, rfl, q p _ r1 r2 fB⟩
      refine I1.laid (t' := s.toks) (fun b u e => k2 b u (neB b u e) (Heap.get?_push_of_some _ e)) (Nat.le_refl _) ⟨?_, _, e9, ?_, oB2⟩
      · rw [List.length_map, Array.length_toList, r1.size]
        omega
      · refine paired_of (by simp) fun i v u h1 h2 => ?_
        rw [List.getElem?_map] at h1 h2
        cases hpi : p.toList[i]? with
        | none => rw [hpi] at h1; cases h1
        | some k =>
          rw [hpi] at h1 h2
          cases h1
          cases h2
          have hk : k < its.length := List.mem_range.mp (r1.mem_iff.mp (List.mem_of_getElem? hpi))
          obtain ⟨u, h3, h4⟩ := rv.get (i := k) (x := ys[k]'(by omega)) (by simp [show k < ys.length by omega])
          rw [List.getElem?_eq_getElem hk] at h3
          have h3 := Option.some.inj h3
          simp only [List.getD, List.getElem?_eq_getElem hk, List.getElem?_eq_getElem (show k < ys.length by omega), Option.getD_some]
          rw [h3]
          exact h4
theorem call_sortedL (hc : X.calm = true) : CallR X (.builtin "sorted") (fun xs H Q => ∃ (a : Addr) (ys : List V) (cs : List (Int × Int)), xs = [.ref a] ∧ H a = some (.lst ys) ∧ Cells H ys cs ∧ cs.Nodup ∧ (∀ c ∈ cs, 0 ≤ c.2 ∧ c.2 < 1000) ∧
    (cs.length < 1001 ∨ cs.Pairwise ltC) ∧ cs.length ≤ 1000 ∧ ∀ l ys' cs', H l = none → Cells H ys' cs' → cs'.Perm cs → cs'.Pairwise ltC → Q (.ref l) (upd H l (.lst ys'))) := by
  intro pins s σ H xs us Q I r h
  obtain ⟨a, ys, cs, rfl, ha, hC, nd, hb, up, hz, q⟩ := h
  obtain ⟨u, rfl, ru⟩ := vals1 r
  cases ru
  obtain ⟨z, its, n, rv, e⟩ := I.hok a _ ha
  have ly : ys.length = cs.length := hC.length
  have li : its.length = cs.length := by rw [← rv.length, ly]
  have cell : Paired (CellV s.heap) its cs := by
    refine paired_of li fun i v c h1 h2 => ?_
    obtain ⟨b, g1, g2⟩ := hC.get h2
    obtain ⟨u, g3, g4⟩ := rv.get g1
    rw [h1] at g3
    cases g3
    obtain ⟨t, t', g5⟩ := I.cellT g2
    cases g4
    exact ⟨b, t, t', rfl, g5⟩
  have cellAt : ∀ h6 : Heap, (∀ b o, s.heap.get? b = some o → h6.get? b = some o) → Paired (CellV h6) its cs := fun h6 k => Paired.mapP cell fun v c x => x.go fun a o _ e => k a o e
  refine sorted_by hc (keyC cs) (tuples' true) I rv (.inl rfl) e rfl rfl (by omega) (fun h2 h6 tk k A E Q hq => ?_) (fun h6 tk k => ?_) (by rw [li]; exact keyC_inj nd hb) ?_ fun p l r1 r2 fl => ?_
  · obtain ⟨fs, t1, t2, t3⟩ := cells_tups (s := { s with heap := h6, toks := tk }) (cellAt h6 k)
    refine kat_kind (s := { s with heap := h6, toks := tk }) (T := Value.type "int") t1 (by omega) (fun v hv => ?_) rfl ?_
    · obtain ⟨i, t, rfl⟩ := t3 v hv
      exact Looks.of_pure rfl
    · rw [show (Value.type "int" != Value.type "tuple") = true by decide]
      exact hq
  · exact cells_cmp (s := { s with heap := h6, toks := tk }) (cellAt h6 k) hb
  · rcases up with h | h
    · exact .inl (by omega)
    · refine .inr fun j a b => ?_
      rw [li] at b
      have := (List.pairwise_iff_getElem.mp h) (j - 1) j (by omega) b (by omega)
      have m1 := hb cs[j - 1] (List.getElem_mem _)
      have m2 := hb cs[j] (List.getElem_mem _)
      unfold keyC
      rw [show cs.getD (j - 1) (0, 0) = cs[j - 1] by simp [List.getD, show j - 1 < cs.length by omega], show cs.getD j (0, 0) = cs[j] by simp [List.getD, b]]
      exact Int.le_of_lt ((keyC_lt m1 m2).mpr this)
  · rw [li] at r1 r2
    refine q l _ (p.toList.map fun i => cs.getD i (0, 0)) fl ?_ (perm_getD r1) (up_pairwise r1 r2 nd hb)
    refine paired_of (by simp) fun i v c h1 h2 => ?_
    rw [List.getElem?_map] at h1 h2
    cases hpi : p.toList[i]? with
    | none => rw [hpi] at h1; cases h1
    | some k =>
      rw [hpi] at h1 h2
      cases h1
      cases h2
      have hk : k < cs.length := List.mem_range.mp (r1.mem_iff.mp (List.mem_of_getElem? hpi))
      obtain ⟨b, g1, g2⟩ := hC.get (i := k) (c := cs[k]) (by simp [hk])
      refine ⟨b, ?_, ?_⟩
      · show ys.getD k .non = _
        rw [List.getD_eq_getElem?_getD, g1]
        rfl
      · show H b = some (.tup [.int (cs.getD k (0, 0)).1, .int (cs.getD k (0, 0)).2])
        rw [List.getD_eq_getElem?_getD, List.getElem?_eq_getElem hk]
        exact g2
theorem lexC_yes {c d : Int × Int} (h : ltC c d) : HT.lexLt [c.1, c.2] [d.1, d.2] = true := by
  rw [HT.lexLt_cons]
  rcases h with h | ⟨h1, h2⟩
  · rw [if_neg (by omega)]
    exact decide_eq_true h
  · rw [if_pos h1, HT.lexLt_cons, if_neg (by omega)]
    exact decide_eq_true h2
theorem lexC_no {c d : Int × Int} (h : ltC d c) : HT.lexLt [c.1, c.2] [d.1, d.2] = false := by
  rw [HT.lexLt_cons]
  rcases h with h | ⟨h1, h2⟩
  · rw [if_neg (by omega)]
    exact decide_eq_false (by omega)
  · rw [if_pos h1.symm, HT.lexLt_cons, if_neg (by omega)]
    exact decide_eq_false (by omega)
theorem Inv.ltCells (I : Inv X pins σ H s) {A : Around} (hu : A.units < cLine) {E : Value → Shared → Prop} {a b : Addr} {c d : Int × Int} (ha : H a = some (.tup [.int c.1, .int c.2])) (hb : H b = some (.tup [.int d.1, .int d.2])) {Q : Bool → Shared → Prop}
    (q : Q (HT.lexLt [c.1, c.2] [d.1, d.2]) s) : wpAny (model X.prog X.w) A (oneLt' false (.ref a) (.ref b)) Q E s := by
  obtain ⟨t, u, h1⟩ := I.cellT ha
  obtain ⟨t', u', h2⟩ := I.cellT hb
  exact kat_one _ _ (HT.lt_tupInts h1 h2 (.cons _ _ (.cons _ _ .nil)) (.cons _ _ (.cons _ _ .nil)) hu q)
theorem ltC_irr {a b : Int × Int} (h : ltC a b) : a ≠ b := by
  rintro rfl
  unfold ltC at h
  omega
end
end L2
set_option Elab.async false
set_option linter.all false
set_option maxRecDepth 100000
namespace L2
open PySem PySem.Spec PyProof.Rows PySem.W
theorem keysT_old {kvs : List (List Key × V)} {k : List Key} (v : V) (h : k ∈ kvs.map (·.1)) : (putK kvs k v).map (·.1) = kvs.map (·.1) := by
  unfold putK
  obtain ⟨p, hp, e⟩ := List.mem_map.mp h
  rw [if_pos (List.any_eq_true.mpr ⟨p, hp, decide_eq_true e⟩), List.map_map]
  apply List.map_congr_left
  intro q hq
  show (if q.1 = k then (q.1, v) else q).1 = q.1
  split <;> rfl
theorem keysT_new {kvs : List (List Key × V)} {k : List Key} (v : V) (h : ¬ k ∈ kvs.map (·.1)) : (putK kvs k v).map (·.1) = kvs.map (·.1) ++ [k] := by
  unfold putK
  rw [if_neg (fun z => by
    obtain ⟨p, hp, e⟩ := List.any_eq_true.mp z
    exact h (List.mem_map.mpr ⟨p, hp, of_decide_eq_true e⟩)), List.map_append]
  rfl
theorem kCmem {c : Int × Int} {cs : List (Int × Int)} : kC c ∈ cs.map kC ↔ c ∈ cs :=
  ⟨fun h => by obtain ⟨d, hd, e⟩ := List.mem_map.mp h; exact kC_inj e ▸ hd, fun h => List.mem_map.mpr ⟨c, h, rfl⟩⟩
end L2
set_option Elab.async false
set_option linter.all false
set_option maxRecDepth 100000
namespace L2
open PySem PySem.Spec PyProof.Rows PySem.W
section
variable {X : Cx}
def tDisp1T (tk tv : TE) : TE := fun σ H Q => ∀ p, H p = none → tk σ (upd H p (.dT [])) fun x H1 => tv σ H1 fun y H2 => ∃ b c, x = .ref b ∧ H2 b = some (.tup [.int (c : Int × Int).1, .int c.2]) ∧ H2 p = some (.dT []) ∧ Q (.ref p) (upd H2 p (.dT (putK [] (kC c) y)))
theorem pe_disp1T {k v : Expr} {pos : Pos} {tk tv : TE} (hu : X.A.units + 2 < cLine) (hk : PE X k tk) (hv : PE X v tv) : PE X (.Dict [some k] [v] pos) (tDisp1T tk tv) := by
  intro pins s σ H Q I q
  have hn := I.hok.fresh (Nat.le_refl s.heap.objs.size)
  have I1 := I.laid (a := s.heap.objs.size) (o := .dT []) (h' := s.heap.push { cls := .type "dict", data := .dict #[] }) (t' := s.toks) (fun _ _ q => Heap.get?_push_of_some _ q) (Nat.le_refl _) (dt_empty s.heap I.big)
  refine wpAny_Dict_any rfl rfl (by simp) (by simp) ?_
  refine pairTrees_cons_walk (thn (hk pins _ σ _ _ I1 (q _ hn)) fun u s1 ⟨x, H1, I2, rx, q1⟩ => thn (hv pins s1 σ H1 _ I2 q1) fun w2 s2 ⟨y, H2, I3, ry, b, c, ex, hb, hp, q2⟩ => pairTrees_nil_walk ?_)
  subst ex
  cases rx
  obtain ⟨z, hsys, xs, kt, dd⟩ := dt_of I3.hok hp
  cases kt
  unfold storeAll
  rw [List.forIn_cons]
  refine wpAny_bind (wpAny_bind (wpAny_dictSet_heap (k := kC c) (knd := tupleKind (mixKind X.prog X.w)) (show X.A.units < cLine by omega) (key_of I3.hok (ks := kC c) hb) dd (fun h' dd' sb => wpAny_pure ?_) (Nat.zero_le _)))
  refine wpAny_pure ⟨.ref s.heap.objs.size, _, ?_, rfl, q2⟩
  obtain ⟨q', es, ep, hq, h2, h3, h4, _, h5⟩ := dd'
  refine d_write (s := s2) I3 (by rw [hp]; exact True.intro) sb ⟨q', hq⟩ ⟨(show (putK [] (kC c) y).length ≤ sizeLine from (by show 1 ≤ sizeLine; decide)), hsys, _, KT.keeps (KT.put (kvs := []) (xs := []) .nil (kC c) (b := b) hb ry) fun cc ys ec => ?_, q', es, ep, hq, h2, h3, h4, h5⟩
  rw [upd_ne (ne_of ec hp (fun z => nomatch z))]
  exact ec
end
end L2
set_option Elab.async false
set_option linter.all false
set_option maxRecDepth 100000
namespace L2
open PySem PySem.Spec PyProof.Rows PySem.W
section
variable {X : Cx} {pins : List (Addr × Obj)} {σ : L2.St} {H : Hp} {s : Shared}
theorem op_neC (hu : X.A.units + 2 < cLine) : OpR X (compareOp .NotEq) (fun x y H Q => ∃ (a b : Addr) (xs ys : List V) (cs ds : List (Int × Int)), x = .ref a ∧ y = .ref b ∧ SqT X.K H a xs ∧ SqT X.K H b ys ∧ Cells H xs cs ∧ Cells H ys ds ∧ Q (.bl (!decide (cs = ds))) H) := by
  intro pins s σ H x y v u Q I rx ry h
  obtain ⟨a, b, xs, ys, cs, ds, rfl, rfl, ha, hb, hC, hD, q⟩ := h
  cases rx
  cases ry
  obtain ⟨its, rv, p, hz⟩ := I.tuple ha
  obtain ⟨its2, rv2, p2, hz2⟩ := I.tuple hb
  have l1 : its.length = cs.length := by rw [← rv.length, hC.length]
  have l2 : its2.length = ds.length := by rw [← rv2.length, hD.length]
  refine SeqAt.RcNeAt.tuples (e := fun j => decide (cs[j]? = ds[j]?)) (show s.heap.IsTuple a its.toArray from p) (show s.heap.IsTuple b its2.toArray from p2) (by omega) (fun j j1 j2 => ?_) X.prog X.w _ _ ⟨.bl _, H, I, rfl, ?_⟩
  · have j1 : j < its.length := by simpa using j1
    have j2 : j < its2.length := by simpa using j2
    obtain ⟨a', g1, g2⟩ := hC.get (i := j) (c := cs[j]'(by omega)) (by simp [show j < cs.length by omega])
    obtain ⟨u1, k1, m1⟩ := rv.get g1
    obtain ⟨b', g3, g4⟩ := hD.get (i := j) (c := ds[j]'(by omega)) (by simp [show j < ds.length by omega])
    obtain ⟨u2, k2, m2⟩ := rv2.get g3
    rw [List.getElem?_eq_getElem j1] at k1
    rw [List.getElem?_eq_getElem j2] at k2
    have k1 := Option.some.inj k1
    have k2 := Option.some.inj k2
    cases m1
    cases m2
    rw [List.getElem_toArray, List.getElem_toArray, k1, k2]
    have := I.cellEq (A := X.A.in1) (by show X.A.units + 1 < cLine; omega) g2 g4
    rw [List.getElem?_eq_getElem (show j < cs.length by omega), List.getElem?_eq_getElem (show j < ds.length by omega)]
    simpa using this
  · have : ((List.range (min its.toArray.size its2.toArray.size)).all (fun j => decide (cs[j]? = ds[j]?)) && its.toArray.size == its2.toArray.size) = decide (cs = ds) := by
      rw [List.size_toArray, List.size_toArray, l1, l2, Bool.eq_iff_iff, decide_eq_true_iff, Bool.and_eq_true, List.all_eq_true, beq_iff_eq]
      constructor
      · rintro ⟨h1, h2⟩
        apply List.ext_getElem?
        intro i
        by_cases hi : i < cs.length
        · exact of_decide_eq_true (h1 i (List.mem_range.mpr (by omega)))
        · rw [List.getElem?_eq_none (by omega), List.getElem?_eq_none (by omega)]
      · rintro rfl
        exact ⟨fun j _ => by simp, rfl⟩
    rw [this]
    exact q
end
end L2
set_option Elab.async false
set_option linter.all false
set_option maxRecDepth 100000
namespace L2
open PySem PySem.Spec PyProof.Rows PySem.W
section
variable {X : Cx}
theorem call_anyB (hc : X.calm = true) : CallR X (.builtin "any") (fun xs H Q => ∃ l bs, xs = [.ref l] ∧ H l = some (.lst (List.map V.bl bs)) ∧ Q (.bl (bs.any id)) H) := by
  intro pins s σ H xs us Q I r h
  obtain ⟨l, bs, rfl, hl, q⟩ := h
  obtain ⟨u, rfl, ru⟩ := vals1 r
  cases ru
  obtain ⟨z, its, n, rv, e⟩ := I.hok l _ hl
  have isl : s.heap.IsList l its.toArray := ⟨_, e, rfl, n, rfl⟩
  refine call_any_walk (wpAny_pyIter_list isl ⟨s.heap.objs.size, [s.heap.objs.size, l], [s.heap.objs.size], its.toArray.size, _, _, fun i => (bs[i]?).getD false, rfl, Walks.list (A := X.A.in1) (I.ok.hd hc) _ l (Nat.ne_of_lt (Heap.lt_size e)) its.toArray,
    ⟨⟨_, Heap.get?_push_size _ rfl, rfl, rfl⟩, isl.push _⟩, fun i v s' Q' E' hP hQ => ?_, fun h' tk hk => ?_⟩)
  · obtain ⟨b, eb, rfl⟩ := bools_get rv i v (by simpa using hP)
    simp only [eb, Option.getD_some] at hQ
    exact wpAny_truthy_bool hQ
  · have el : its.toArray.size = bs.length := by
      have := rv.length
      rw [List.length_map] at this
      rw [List.size_toArray, this]
    rw [el, LSm.range_any]
    exact ⟨.bl _, H, I.kept (LSm.kept_iter hk), rfl, q⟩
theorem op_neP (hu : X.A.units + 2 < cLine) : OpR X (compareOp .NotEq) (fun x y H Q => ∃ (a b : Addr) (c d : Int × Int), x = .ref a ∧ y = .ref b ∧ H a = some (.tup [.int c.1, .int c.2]) ∧ H b = some (.tup [.int d.1, .int d.2]) ∧ Q (.bl (!decide (c = d))) H) := by
  intro pins s σ H x y v u Q I rx ry h
  obtain ⟨a, b, c, d, rfl, rfl, ha, hb, q⟩ := h
  cases rx
  cases ry
  obtain ⟨t, u, h1⟩ := I.cellT ha
  obtain ⟨t', u', h2⟩ := I.cellT hb
  refine SeqAt.RcNeAt.tuples (e := fun j => if j = 0 then c.1 == d.1 else c.2 == d.2) h1 h2 (by omega) (fun j j1 j2 => ?_) X.prog X.w _ _ ⟨.bl _, H, I, rfl, ?_⟩
  · have : j = 0 ∨ j = 1 := by
      have : j < 2 := j1
      omega
    rcases this with rfl | rfl
    · exact SeqAt.EqAt.int_int _ _ _ _
    · exact SeqAt.EqAt.int_int _ _ _ _
  · have e2 : ((List.range (min (#[Value.int c.1 t, Value.int c.2 u] : Array Value).size (#[Value.int d.1 t', Value.int d.2 u'] : Array Value).size)).all (fun j => if j = 0 then c.1 == d.1 else c.2 == d.2) && (#[Value.int c.1 t, Value.int c.2 u] : Array Value).size == (#[Value.int d.1 t', Value.int d.2 u'] : Array Value).size) = decide (c = d) := by
      show (([0, 1] : List Nat).all (fun j => if j = 0 then c.1 == d.1 else c.2 == d.2) && true) = _
      obtain ⟨c1, c2⟩ := c
      obtain ⟨d1, d2⟩ := d
      by_cases h1 : c1 = d1 <;> by_cases h2 : c2 = d2 <;> simp [h1, h2]
    rw [e2]
    exact q
theorem op_notInC (hu : X.A.units + 2 < cLine) : OpR X (compareOp .NotIn) (fun x y H Q => ∃ (a : Addr) (c : Int × Int) (b : Addr) (ys : List V) (cs : List (Int × Int)), x = .ref a ∧ H a = some (.tup [.int c.1, .int c.2]) ∧ y = .ref b ∧ SqT X.K H b ys ∧ Cells H ys cs ∧ Q (.bl (!decide (c ∈ cs))) H) := by
  intro pins s σ H x y v u Q I rx ry h
  obtain ⟨a, c, b, ys, cs, rfl, ha, rfl, hb, hC, q⟩ := h
  cases rx
  cases ry
  obtain ⟨its, rv, p, hz⟩ := I.tuple hb
  have hl : its.length = cs.length := by rw [← rv.length, hC.length]
  have item : ∀ (i : Nat) w, its[i]? = some w → ∃ d a', cs[i]? = some d ∧ w = .ref a' ∧ H a' = some (.tup [.int d.1, .int d.2]) := fun i w hw => by
    have hi : i < cs.length := by rw [← hl]; exact (List.getElem?_eq_some_iff.mp hw).1
    obtain ⟨a', h1, h2⟩ := hC.get (i := i) (c := cs[i]) (by simp [hi])
    obtain ⟨u, h3, h4⟩ := rv.get h1
    rw [hw] at h3
    cases h3
    exact ⟨cs[i], a', by simp [hi], h4, h2⟩
  refine SeqAt.notIn_tupleAt (cellB H c) (show s.heap.IsTuple b its.toArray from p) (fun w hw => ?_) ⟨.bl _, H, I, rfl, ?_⟩
  · obtain ⟨i, hi, rfl⟩ := List.mem_iff_getElem.mp (show w ∈ its by simpa using hw)
    obtain ⟨d, a', _, e, h2⟩ := item i its[i] (by simp [hi])
    rw [e, cellB_of h2]
    exact I.cellEq (A := X.A.in1) (by show X.A.units + 1 < cLine; omega) h2 ha
  · have : its.toArray.any (cellB H c) = decide (c ∈ cs) := by
      rw [Bool.eq_iff_iff, decide_eq_true_iff, List.any_toArray, List.any_eq_true]
      constructor
      · rintro ⟨w, hw, hb⟩
        obtain ⟨i, hi, rfl⟩ := List.mem_iff_getElem.mp hw
        obtain ⟨d, a', h1, e, h2⟩ := item i its[i] (by simp [hi])
        rw [e, cellB_of h2, decide_eq_true_iff] at hb
        rw [← hb]
        exact List.mem_of_getElem? h1
      · intro hc
        obtain ⟨i, hi, rfl⟩ := List.mem_iff_getElem.mp hc
        refine ⟨its[i]'(by omega), List.getElem_mem _, ?_⟩
        obtain ⟨d, a', h1, e, h2⟩ := item i (its[i]'(by omega)) (by simp [show i < its.length by omega])
        rw [e, cellB_of h2, decide_eq_true_iff]
        rw [List.getElem?_eq_getElem hi] at h1
        exact (Option.some.inj h1).symm
    rw [this]
    exact q
end
end L2
set_option Elab.async false
set_option linter.all false
set_option maxRecDepth 100000
namespace L2
open PySem PySem.Spec PyProof.Rows
section
variable {X : Cx}
theorem ps_setC {i0 : Nat} {x0 : Str} {pos' spos : Pos} {tg iter elt : Expr} {ifs : List Expr} {scope : Scope} {pos : Pos} {own : List Str} {caps : List Nat} {wi : TI} {g : Blk → TG} {tt : Blk → TT} {te : Blk → TE}
    (hN : X.N.Nodup) (hi0 : X.N[i0]? = some x0) (hx0 : Loc X.env.scope x0) (hc : X.calm = true) (S : CompScope X scope own caps) (hi : PI X tg iter wi)
    (hg : ∀ Y, PG (X.blk (capN X own caps) scope Y) tg (g Y)) (ht : ∀ Y, PTs (X.blk (capN X own caps) scope Y) ifs (tt Y)) (he : ∀ Y, PE (X.blk (capN X own caps) scope Y) elt (te Y))
    (hs : ∀ x, foldedSetIterable iter X.env x = pure x := by intro _; rfl) (hsw : swapsWith (.ListComp elt [⟨tg, iter, ifs, 0⟩] scope pos) (some (.Name x0 pos')) spos.line X.env = pure true := by rfl)
    (hf0 : X.fn x0 = true ∨ X.env.scope.names.lookup x0 = some .local := by first | exact .inl rfl | exact .inr rfl | assumption) :
    PS X (.Assign [.Name x0 pos'] (.ListComp elt [⟨tg, iter, ifs, 0⟩] scope pos) spos) (tAsg (tComp own caps wi g tt te) (gName i0)) := by
  intro pins s σ H Dn I h
  rw [exec_Assign_Name_used _ _ _ _ hsw]
  refine wpAny_bind (wpAny_standAt (wpAny_bind ?_))
  show wpAny _ X.A (do let _ ← comprehension (.ListComp elt [⟨tg, iter, ifs, 0⟩] scope pos) scope X.env _ (newList []) false (eval iter X.env) (some (assign (.Name x0 pos') X.env))) _ _ s
  refine wpAny_bind (wpAny_mono (wpAny_comprehension_free (use := some (assign (.Name x0 pos') X.env)) (Q := fun _ s' => SP X pins Dn .next s') rfl hs (closL_eq (S.cells I.ok)) S.kind S.loc
    (thn (hi pins s σ H _ I h) fun v s1 h1 => thn h1 fun itv s2 h2 => ?_)) (fun _ s' hq => wpAny_pure (wpAny_pure hq)) fun _ _ e => e)
  obtain ⟨it, fp, tn, J, H2, e, I2, T, st2, f2, hW⟩ := h2
  subst e
  have hlt : ∀ b ∈ fp, b < s2.heap.objs.size := fun b hb => by
    obtain ⟨o, e, _⟩ := T.obj _ _ st2 b hb
    exact Heap.lt_size e
  refine wpAny_newObj_type (wpAny_newFunctionEnv S.cell (by intro y hy; simp at hy) (fun h₁ hns₁ hsb₁ => ?_) S.kind)
  dsimp only at hns₁ hsb₁ ⊢
  generalize hHq : s2.heap.push { cls := .type "list", dict := none, data := .seq ([] : List Value).toArray } = Hq at hns₁ hsb₁ ⊢
  have hC : Hq.objs.size = s2.heap.objs.size + 1 := by rw [← hHq, Heap.size_push]
  have hDC : s2.heap.objs.size ≠ Hq.objs.size := by rw [hC]; exact Nat.ne_of_lt (Nat.lt_succ_self _)
  have hCle : s2.heap.objs.size ≤ Hq.objs.size := by rw [hC]; exact Nat.le_succ _
  have old : ∀ b o, s2.heap.get? b = some o → h₁.get? b = some o := fun b o e =>
    hsb₁.extBut b o (by rw [hC]; exact Nat.ne_of_lt (Nat.lt_succ_of_lt (Heap.lt_size e))) (Heap.get?_push_of_some _ (hHq ▸ Heap.get?_push_of_some _ e))
  have hacc : h₁.get? s2.heap.objs.size = some { cls := .type "list", data := .seq ([] : List Value).toArray 0 } := hsb₁.extBut _ _ hDC (Heap.get?_push_of_some _ (hHq ▸ Heap.get?_push_size _ rfl))
  generalize hCq : Hq.objs.size = C at hns₁ hsb₁ hC hDC hCle ⊢
  generalize hDq : s2.heap.objs.size = D at hacc hC hDC hCle ⊢
  have hCs : s2.heap.objs.size ≤ C := by rw [hDq]; exact hCle
  obtain ⟨W, ⟨m0, w0⟩, turn⟩ := hW ⟨C, s2, H2, fp⟩
  have hX' := fun (tk : Nat) => blk_inv (tk := tk) S I2 hCs f2 hlt old hns₁
  have hgY := hg ⟨C, s2, H2, fp⟩
  have htY := ht ⟨C, s2, H2, fp⟩
  have heY := he ⟨C, s2, H2, fp⟩
  have hok' := blk_ok S I2 hCs f2 hlt
  generalize hX'q : X.blk (capN X own caps) scope ⟨C, s2, H2, fp⟩ = X' at hX' hgY htY heY hok'
  have eP : X'.prog = X.prog := by rw [← hX'q]; rfl
  have ew : X'.w = X.w := by rw [← hX'q]; rfl
  have eK : X'.K = X.K := by rw [← hX'q]; rfl
  have eA : X'.A = X.A := by rw [← hX'q]; rfl
  have ec : X'.calm = true := by rw [← hX'q]; exact hc
  have eL : X'.env.locals = C := by rw [← hX'q]; rfl
  have eex : X'.ex = fp := by rw [← hX'q]; rfl
  have es0 : X'.s₀ = s2 := by rw [← hX'q]; rfl
  have eH0 : X'.H₀ = H2 := by rw [← hX'q]; rfl
  have efs : X'.fs = frs X.stack := by rw [← hX'q]; rfl
  have epn : X'.pn = [] := by rw [← hX'q]; rfl
  have exe : X'.xe = fun _ _ => False := by rw [← hX'q]; rfl
  have eenv : X'.env = compEnvC scope (closL X.env scope.names) C X.env := by rw [← hX'q]; rfl
  have ecell : ∀ x c, X'.env.cells.lookup x = some c → X.env.cells.lookup x = some c := fun x c h => (S.sub I2.ok (by rw [eenv] at h; exact h)).1
  -- a cell is no new thing
  have nD : ∀ x c, X'.env.cells.lookup x = some c → c ≠ D := fun x c h z => by
    obtain ⟨v, o, ho, _⟩ := I2.cell x c (ecell x c h)
    have := Heap.lt_size ho
    rw [z, ← hDq] at this
    exact Nat.lt_irrefl _ this
  have fpD : ∀ b ∈ fp, b ≠ D := fun b hb z => by
    have := hlt b hb
    rw [z, ← hDq] at this
    exact Nat.lt_irrefl _ this
  have fsD : D ∉ X'.fs := fun z => by
    obtain ⟨_, o, ho, _⟩ := hok'.funs.mem z
    rw [es0] at ho
    have := Heap.lt_size ho
    rw [hDq] at this
    exact Nat.lt_irrefl _ this
  have fpo : ∀ (H' : Hp) (o : Obj), (∀ b ∈ fp, H' b = none) → ∀ b ∈ fp, FpOk X' [(D, o)] H' b := fun H' o hn b hb => by
    refine ⟨hn b hb, ?_, ?_, .inl (by rw [eex]; exact hb), fun x c h => (f2 b hb).2.2.2.2.1 x c (ecell x c h), fun p hp => ?_⟩
    · rw [eL]
      exact Nat.ne_of_lt (Nat.lt_of_lt_of_le (hlt b hb) hCs)
    · exact hok'.exfs b (by rw [eex]; exact hb)
    · rw [epn] at hp
      have : p = (D, o) := by simpa using hp
      rw [this]
      exact Ne.symm (fpD b hb)
  have loop : ∀ s₃ : Shared, s₃ = { s2 with heap := h₁, toks := s2.toks + ([] : List (Str × Value)).length } →
      codeAny (model X.prog X.w) X.A (.compLoop (.ListComp elt [⟨tg, iter, ifs, 0⟩] scope pos) 0 (.ref it) (.ref D) X'.env)
        (compPost (model X.prog X.w) X.A X.xe (some (assign (.Name x0 pos') X.env)) (fun _ s' => SP X pins Dn .next s') (.ref D) C) s₃ := by
    rintro s₃ rfl
    refine comp_loop (fun n s' => ∃ (i : Nat) (ys : List V) (H' : Hp) (its : List Value) (k : Nat), Inv X' [(D, { cls := .type "list", data := .seq its.toArray k })] (capS own caps σ) H' s' ∧ Vals ys its ∧ ys.length ≤ sizeLine ∧ tn i s'.heap ∧
      (∀ b ∈ fp, H' b = none) ∧ W i n ys H') ?_ m0 ?_
    · rintro n s3 ⟨i, ys, H3, its, k, I3, rv, hz, st3, fr3, w3⟩
      rcases turn i n ys H3 w3 with ⟨stop, qn⟩ | ⟨go, N, hN, step⟩
      · have := T.done X' eP ew eK ec i _ s3 _ H3 (fun _ _ => False) I3 (fpo H3 _ fr3) st3 stop
        rw [eA] at this
        refine thn this fun r s4 ⟨hr, I4⟩ => ?_
        subst hr
        obtain ⟨m, hn, _⟩ := I4.loc
        have hnC : s4.heap.Ns C m := by rw [← eL]; exact hn
        have hp := I4.pin (D, { cls := .type "list", data := .seq its.toArray k }) (by rw [epn]; simp)
        have hD0 : H3 D = none := hp.2.1
        have kp : ∀ b, b ≠ C → s4.heap.get? b = s4.heap.get? b := fun b hb => rfl
        have nC : ∀ b o, s2.heap.get? b = some o → b ≠ C := fun b o e => Nat.ne_of_lt (Nat.lt_of_lt_of_le (Heap.lt_size e) hCs)
        have nDs : ∀ b o, s2.heap.get? b = some o → b ≠ D := fun b o e => by rw [← hDq]; exact Nat.ne_of_lt (Heap.lt_size e)
        have ub : Un (frs X.stack) fp H2 H3 s2.heap s4.heap := by
          have := I4.base
          rw [efs, eex, eH0, es0] at this
          exact this
        have u : Un (frs X.stack) fp H2 (upd H3 D (.lst ys)) s2.heap s4.heap :=
          ⟨fun b o e n hb hx => (kp b (nC b o e)).trans (ub.keep b o e n hb hx),
           fun b o e n hb hx => by
            obtain ⟨sl, q⟩ := ub.slot b o e n hb hx
            exact ⟨sl, (kp b (nC b o e)).trans q⟩,
           fun b o e n hx => by rw [upd_ne (nDs b o e)]; exact ub.free b o e n hx,
           fun b o e hx => by
            obtain ⟨o', q⟩ := ub.there b o e hx
            exact ⟨o', (kp b (nC b o e)).trans q⟩,
           fun b xs e => by rw [upd_ne (ne_of_none (ub.tups b xs e) hD0)]; exact ub.tups b xs e,
           fun b o xs e => by rw [upd_ne (ne_of_none (ub.frzs b o xs e) hD0)]; exact ub.frzs b o xs e,
           fun b ps e => by
            obtain ⟨more, q⟩ := ub.tbls b ps e
            exact ⟨more, by rw [upd_ne (ne_of_none q hD0)]; exact q⟩⟩
        have hokC : ∀ b o, H3 b = some o → b ≠ C := fun b o e z => by
          have := I4.free
          rw [eL, ← z, e] at this
          cases this
        have hk : HOk X.prog X.w (upd H3 D (.lst ys)) s4.heap := fun a o e => by
          by_cases ha : a = D
          · subst ha
            rw [upd_same] at e
            cases e
            exact ⟨hz, its, k, rv, (kp _ hDC).trans hp.1⟩
          · rw [upd_ne ha] at e
            have := I4.hok a o e
            rw [eP, ew] at this
            refine this.stay (fun b u hb q => (kp b ?_).trans q) (fun b q => by rw [upd_ne (ne_of_none q hD0)]; exact q) fun b xs q => by rw [upd_ne (ne_of_none q hD0)]; exact q
            rcases hb with z | z
            · rw [z]; exact hokC a o e
            · exact hokC b _ z
        have I4' : Inv X pins σ (upd H3 D (.lst ys)) s4 := I2.call' (s' := s4) (ch := fp) (by have := I4.os; rw [es0] at this; exact this) u hk I4.bare fun b hb => ⟨(f2 b hb).2.2.2.1, (f2 b hb).2.1, (f2 b hb).2.2.2.2.1, (f2 b hb).2.2.2.2.2⟩
        have nLC : X.env.locals ≠ C := by
          obtain ⟨m2, hn2, _⟩ := I2.loc
          obtain ⟨o, _, _, ho, _⟩ := hn2
          exact nC _ _ ho
        have nCC : ∀ x c, X.env.cells.lookup x = some c → c ≠ C := fun x c h => by
          obtain ⟨v, o, ho, _⟩ := I2.cell x c h
          exact nC _ _ ho
        show wpAny _ X.A (assign (.Name x0 pos') X.env (.ref D)) _ _ s4
        refine wpAny_assign_Name (store_ok2 I4' hN hi0 hx0 (v := .ref D) rfl (fun s5 I5 h5 => ?_) hf0)
        obtain ⟨a, sb5, ha⟩ := h5
        have naC : C ≠ a := by
          rcases ha with rfl | ha
          · exact Ne.symm nLC
          · exact Ne.symm (nCC _ _ ha)
        refine ⟨m, hnC.sameBut sb5 naC, fun h' sb => ?_⟩
        refine ⟨_, _, ?_, qn D hD0⟩
        refine I5.turned (it := C) (t' := s5.toks) (fun b o hb e => (sb.2 b hb).trans e) ?_ (Ne.symm nLC) (.inr ?_) nCC (fun p hp => ?_)
        · rw [upd_ne (Ne.symm hDC)]
          have := I4.free
          rwa [eL] at this
        · exact Nat.le_trans I2.sz hCs
        · exact nC _ _ (I2.pin p hp).1
      · have := T.item X' eP ew eK ec i _ s3 _ H3 (fun _ _ => False) I3 (fpo H3 _ fr3) st3 go
        rw [eA] at this
        refine thn this fun r s4 ⟨u, hr, h4⟩ => ?_
        subst hr
        refine thn h4 fun _ s5 ⟨x, H5, I5, r5, y5, st5, fr5⟩ => ?_
        have I5' := I5.pinned (fpo H5 _ fr5) (T.obj _ _ st5)
        have a6 := hgY _ s5 _ H5 x u _ I5' r5 (step x H5 y5)
        rw [eP, ew, eA, exe] at a6
        refine thn a6 fun _ s6 ⟨σ6, H6, I6, keepσ, q6⟩ => ?_
        have a7 := htY _ s6 σ6 H6 _ I6 q6
        rw [eP, ew, eA, exe] at a7
        refine thn a7 fun b s7 ⟨H7, I7, q7⟩ => ?_
        -- the next turn's state
        have keep2 : ∀ {σ' : St} {H' : Hp} {s' : Shared}, Inv X' ([(D, { cls := .type "list", data := .seq its.toArray k })] ++ pinsAt fp s5.heap) σ' H' s' → (∀ b ∈ fp, H' b = none) ∧ tn (i + 1) s'.heap := fun {σ' H' s'} I' => by
          refine ⟨fun b hb => ?_, T.keep _ _ _ st5 fun b hb o e => (I'.pin (b, o) (List.mem_append_right _ (List.mem_append_right _ (mem_pinsAt hb e)))).1⟩
          obtain ⟨o, e, _⟩ := T.obj _ _ st5 b hb
          exact (I'.pin (b, o) (List.mem_append_right _ (List.mem_append_right _ (mem_pinsAt hb e)))).2.1
        have wk : ∀ {pins' : List (Addr × Obj)} {H' : Hp} {s' : Shared}, Inv X' pins' σ6 H' s' → Inv X' pins' (capS own caps σ) H' s' := fun {pins' H' s'} I' =>
          I'.weak (by rw [I'.len, I3.len]) keepσ
        cases b with
        | false =>
          rw [if_neg Bool.false_ne_true] at q7
          obtain ⟨m', hm, w7⟩ := hN _ _ q7
          rw [if_neg Bool.false_ne_true]
          obtain ⟨k1, k2⟩ := keep2 I7
          exact ⟨m', hm, i + 1, ys, H7, its, k, wk (I7.pins_of fun p hp => I7.pin p (by
            rw [epn]
            simp at hp ⊢
            exact .inl hp)), rv, hz, k2, k1, w7⟩
        | true =>
          rw [if_pos rfl] at q7 ⊢
          have a8 := heY _ s7 σ6 H7 _ I7 q7
          rw [eP, ew, eA, exe] at a8
          refine thn a8 fun uv s8 ⟨v8, H8, I8, r8, hz8, n8⟩ => ?_
          obtain ⟨m', hm, w8⟩ := hN _ _ n8
          have hp := I8.pin (D, { cls := .type "list", data := .seq its.toArray k }) (List.mem_append_right _ (List.mem_append_left _ (by simp)))
          have eD := hp.1
          refine call_meets F.slot_list_append ⟨_, eD, rfl⟩ F.entry_list_append (F.args_list_append_2 _ _) (PySem.list_append D its.toArray k uv (by rw [List.size_toArray, ← rv.length]; omega)) ⟨eD, ?_⟩
          have q := PySem.IsL.update eD (fun a => a.push uv)
          obtain ⟨k1, k2⟩ := keep2 I8
          have I8' : Inv X' (pinsAt fp s5.heap) σ6 H8 s8 := I8.pins_of fun p hp => I8.pin p (List.mem_append_right _ (List.mem_append_right _ hp))
          have oth : ∀ b o, b ≠ D → s8.heap.get? b = some o → (s8.heap.update D (Obj.mapSeq fun a => a.push uv)).get? b = some o := fun b o hb e => (Heap.get?_update_other s8.heap _ (Ne.symm hb)).trans e
          have I9 : Inv X' (pinsAt fp s5.heap) σ6 H8 { s8 with heap := s8.heap.update D (Obj.mapSeq fun a => a.push uv), toks := s8.toks } :=
            I8'.turned (it := D) oth hp.2.1 (by rw [eL]; exact hDC) (.inr (by rw [es0, hDq]; exact Nat.le_refl _)) nD fun p hp' => by
              rw [epn] at hp'
              obtain ⟨hb, _⟩ := of_pinsAt (show p ∈ pinsAt fp s5.heap by simpa using hp')
              exact fpD _ hb
          refine ⟨m', hm, i + 1, ys ++ [v8], H8, its ++ [uv], k + 1, wk (I9.pins_of fun p hp' => ?_), rv.append (.cons r8 .nil), ?_, ?_, k1, w8⟩
          · have e : p = (D, { cls := .type "list", data := .seq (its ++ [uv]).toArray (k + 1) }) := by simpa using hp'
            subst e
            refine ⟨?_, hp.2.1, hp.2.2.1, hp.2.2.2.1, fun v z => by cases z⟩
            have e2 : its.toArray.push uv = (its ++ [uv]).toArray := by simp
            rw [← e2]
            have q' : IsL (s8.heap.update D (Obj.mapSeq fun a => a.push uv)) D (its.toArray.push uv) (if (its.toArray.push uv).size == its.toArray.size then k else k + 1) := q
            rw [if_neg (by simp)] at q'
            exact q'
          · rw [List.length_append, List.length_singleton]
            omega
          · refine T.keep _ _ _ k2 fun b hb o e => oth b o (fpD b hb) e
    · refine ⟨0, [], H2, [], 0, ?_, .nil, Nat.zero_le _, T.keep _ _ _ st2 fun b _ o e => old b o e, fun b hb => (f2 b hb).1, w0⟩
      refine (hX' _).pins_of fun p hp => ?_
      have e : p = (D, { cls := .type "list", data := .seq ([] : List Value).toArray 0 }) := by simpa using hp
      subst e
      exact ⟨hacc, I2.hok.fresh (by rw [hDq]; exact Nat.le_refl _), by rw [eL]; exact hDC, fsD, fun v z => by cases z⟩
  have eenv' : compEnvC scope (closL X.env scope.names) C X.env = X'.env := eenv.symm
  show codeAny (model X.prog X.w) X.A (.compStart _ 0 (.ref it) (.ref D) (compEnvC scope (closL X.env scope.names) C X.env)) _ _
  rw [eenv']
  exact codeAny_compStart_list (loop _ rfl) (T.self X.A 0 _ _ _ (T.keep _ _ _ st2 fun b _ o e => old b o e) (loop _ rfl))
end
end L2
set_option Elab.async false
set_option linter.all false
set_option maxRecDepth 100000
namespace L2
open PySem PySem.Spec PyProof.Rows PySem.W
section
variable {K : Type} [DecidableEq K]
def mergedH (xs more : List (K × Addr × Value)) : List (K × Addr × Value) := more.foldl (fun acc x => storedH acc x.1 x.2.1 x.2.2) xs
theorem mergedH_succ (xs more : List (K × Addr × Value)) (i : Nat) (x : K × Addr × Value) (h : more[i]? = some x) : mergedH xs (more.take (i + 1)) = storedH (mergedH xs (more.take i)) x.1 x.2.1 x.2.2 := by
  simp [mergedH, List.take_add_one, h, List.foldl_append]
theorem storedH_len (xs : List (K × Addr × Value)) (k : K) (a : Addr) (v : Value) : (storedH xs k a v).length ≤ xs.length + 1 := by
  unfold storedH
  split
  · rw [List.length_map]; omega
  · rw [List.length_append, List.length_singleton]; exact Nat.le_refl _
theorem mergedH_len (xs more : List (K × Addr × Value)) : (mergedH xs more).length ≤ xs.length + more.length := by
  induction more generalizing xs with
  | nil => exact Nat.le_refl _
  | cons kv rest ih =>
    have e1 := ih (storedH xs kv.1 kv.2.1 kv.2.2)
    have e2 := storedH_len xs kv.1 kv.2.1 kv.2.2
    show (mergedH (storedH xs kv.1 kv.2.1 kv.2.2) rest).length ≤ _
    rw [List.length_cons]
    omega
theorem mergedH_fresh (acc more : List (K × Addr × Value)) (hn : ((acc ++ more).map (·.1)).Nodup) : mergedH acc more = acc ++ more := by
  induction more generalizing acc with
  | nil => simp [mergedH]
  | cons kv rest ih =>
    have hno : atKey acc kv.1 = none := by
      refine atKey_none_of_get fun j p hj => ?_
      rw [List.map_append, List.map_cons, List.nodup_append] at hn
      exact hn.2.2 kv.1 (List.mem_map.mpr ⟨_, List.mem_of_getElem? hj, rfl⟩) kv.1 List.mem_cons_self rfl
    have : mergedH acc (kv :: rest) = mergedH (acc ++ [kv]) rest := by
      show mergedH (storedH acc kv.1 kv.2.1 kv.2.2) rest = _
      rw [storedH_new hno]
    rw [this, ih (acc ++ [kv]) (by simpa using hn)]
    simp
end
section
variable {prog : Program} {w : World} {K : Type} [DecidableEq K] {knd : HeapKind prog w K} {A : Around} {E : Value → Shared → Prop} {s : Shared}
theorem setHashedH {d a : Addr} {xs : List (K × Addr × Value)} {k : K} {v : Value} {Q : Unit → Shared → Prop} (hu : knd.room A) (hkey : knd.is s.heap k a) (hm : s.heap.DictOfH knd d xs)
    (hQ : ∀ h', h'.DictOfH knd d (storedH xs k a v) → Heap.SameBut d s.heap h' → Q () { s with heap := h' }) (hsz : xs.length ≤ sizeLine) :
    wpAny (model prog w) A (dictSetHashed d (.ref a) (knd.hash k) v) Q E s := by
  obtain ⟨o, es, ep, ho, hc, hd, he, his, hn⟩ := hm
  unfold dictSetHashed
  try with_reducible refine wpAny_holding ?_
  refine wpAny_bind (wpAny_dictFind_heap hu hkey ho hd he his hn ?_ ?_)
  · intro hno
    have hnot : k ∉ xs.map (·.1) := not_mem_keys_of_get hno
    refine wpAny_bind (wpAny_rule (wpAny_updateDictKeys (hz := by have e := size_of_entries he; omega) ho hd (hQ _ ⟨_, _, ep + 1, Heap.get?_update_self _ ho (Obj.isFreed_of_dict (Obj.data_mapDictKeys hd _)),
      hc.mapDictKeys _, Obj.data_mapDictKeys hd _, ?_, ?_, ?_⟩ (Heap.SameBut.update ..))))
    · rw [storedH_new (atKey_none_of_get hno)]
      simp [he, entryOfKey]
    · rw [storedH_new (atKey_none_of_get hno)]
      intro x hx
      rcases List.mem_append.mp hx with hx | hx
      · exact knd.keeps (his x hx) ho hd (Heap.SameBut.update ..)
      · simp only [List.mem_singleton] at hx
        subst hx
        exact knd.keeps hkey ho hd (Heap.SameBut.update ..)
    · rw [storedH_new (atKey_none_of_get hno)]
      rw [List.map_append, List.nodup_append]
      refine ⟨hn, by simp, ?_⟩
      intro x hx y hy
      simp only [List.map_cons, List.map_nil, List.mem_singleton] at hy
      subst hy
      exact fun e => hnot (e ▸ hx)
  · intro j p hj
    refine wpAny_bind (wpAny_rule (wpAny_bind (wpAny_updateDict ho hd (wpAny_point (hQ _ ⟨_, _, ep, Heap.get?_update_self _ ho (Obj.isFreed_of_dict (Obj.data_mapDict hd _)),
      hc.mapDict _, Obj.data_mapDict hd _, ?_, ?_, ?_⟩ (Heap.SameBut.update ..))))))
    · rw [storedH_old (atKey_of_get hn hj)]
      have := modify_map_putAt (entryOfKey knd) (fun e : DictEntry => { e with val := v }) k v (fun _ _ => rfl) hn hj
      rw [← he] at this
      obtain ⟨l⟩ := es
      simpa using this
    · rw [storedH_old (atKey_of_get hn hj)]
      intro x hx
      obtain ⟨y, hy, rfl⟩ := List.mem_map.mp hx
      unfold putAt
      split <;> exact knd.keeps (his y hy) ho hd (Heap.SameBut.update ..)
    · rw [storedH_old (atKey_of_get hn hj)]
      rw [keys_map_putAt]; exact hn
theorem hash_one {xs : List (K × Addr × Value)} {es : Array DictEntry} (he : es.toList = xs.map (entryOfKey knd)) (hh : (xs.map fun x => knd.hash x.1).Nodup) (e : DictEntry) (hin : e ∈ es) : ¬ (es.filter (·.hash == e.hash)).size > 1 := by
  have e1 : (es.filter (·.hash == e.hash)).size = ((es.toList.filter (·.hash == e.hash)).map (·.hash)).length := by
    rw [List.length_map, ← Array.toList_filter, Array.length_toList]
  have e2 : (es.toList.map (·.hash)) = xs.map fun x => knd.hash x.1 := by
    rw [he, List.map_map]
    rfl
  have nd : ((es.toList.filter (·.hash == e.hash)).map (·.hash)).Nodup := List.Nodup.sublist ((List.filter_sublist).map _) (e2 ▸ hh)
  have al : ∀ h ∈ (es.toList.filter (·.hash == e.hash)).map (·.hash), h = e.hash := fun h hh => by
    obtain ⟨x, hx, rfl⟩ := List.mem_map.mp hh
    exact beq_iff_eq.mp (List.mem_filter.mp hx).2
  rw [e1]
  generalize (es.toList.filter (·.hash == e.hash)).map (·.hash) = l at nd al
  match l, nd, al with
  | [], _, _ => simp
  | [_], _, _ => simp
  | x :: y :: r, nd, al =>
    have h1 := (List.nodup_cons.mp nd).1
    rw [al x (.head _), ← al y (.tail _ (.head _))] at h1
    exact absurd (.head _) h1
theorem mergeDictH {nm : String} {d o : Addr} {kvs more : List (K × Addr × Value)} {Q : Unit → Shared → Prop} (hu : knd.room A) (hdo : d ≠ o) (hoS : (o == sysModules) = false)
    (hd : s.heap.DictOfH knd d kvs) (ho : s.heap.DictOfH knd o more) (hh : (more.map fun x => knd.hash x.1).Nodup) (hty : ∀ x ∈ more, ∀ (Q' : Bool → Shared → Prop), Q' false s → wpAny (model prog w) A (Builtin.Dict.quietEq (.ref x.2.1)) Q' E s)
    (hQ : ∀ h', h'.DictOfH knd d (mergedH kvs more) → Heap.SameBut d s.heap h' → Q () { s with heap := h' })
    (hsz : kvs.length + more.length ≤ sizeLine) :
    wpAny (model prog w) A (Builtin.Dict.mergeDict nm d o) Q E s := by
  obtain ⟨od, esd, epd, hod, hcd, hdd, hed, hisd, hnd⟩ := id hd
  obtain ⟨oo, eso, epo, hoo, hco, hdo', heo, hiso, hno⟩ := id ho
  unfold Builtin.Dict.mergeDict
  rw [if_neg (by simpa using hdo)]
  unfold Builtin.Dict.showsAll
  rw [if_neg (by rw [hoS]; exact Bool.false_ne_true)]
  refine wpAny_bind (wpAny_pure ?_)
  refine wpAny_bind (wpAny_dictEntries hoo hdo' ?_)
  have hlen : more.length = eso.size := by rw [size_of_entries heo]
  have loop : wpAny (model prog w) A (do
      let epoch ← dictEpoch o
      let l ← dictEntries o
      forIn [:l.size] PUnit.unit fun i (_ : PUnit) => (do
          let l' ← dictEntries o
          match l'[i]? with
            | some e => do
              holding [e.key, e.val] (dictSetHashed d e.key e.hash e.val)
              let ep' ← dictEpoch o
              if (ep' != epoch) = true then do
                  (unsupported (toString nm ++ toString ":source-changed-during-callback") : Sem PUnit)
                  pure (ForInStep.yield PUnit.unit)
                else pure (ForInStep.yield PUnit.unit)
            | _ => do
              (unsupported "internal:dict-merge" : Sem PUnit)
              pure (ForInStep.yield PUnit.unit) : Sem (ForInStep PUnit))
      pure ()) Q E s := by
    refine wpAny_bind (wpAny_dictEpoch hoo hdo' ?_)
    refine wpAny_bind (wpAny_dictEntries hoo hdo' ?_)
    refine wpAny_bind ?_
    rw [Std.Legacy.Range.forIn_eq_forIn_range']
    simp only [Std.Legacy.Range.size, Nat.sub_zero, Nat.add_sub_cancel, Nat.div_one]
    refine wpAny_forIn_list _
      (fun rest _ s' => ∃ h' i, s' = { s with heap := h' } ∧ rest = List.range' i (eso.size - i) ∧ i ≤ eso.size ∧ h'.DictOfH knd d (mergedH kvs (more.take i)) ∧ h'.get? o = some oo ∧ Heap.SameBut d s.heap h')
      _ ?_ ?_ _ _ ⟨s.heap, 0, rfl, by simp, Nat.zero_le _, by simpa [mergedH] using hd, hoo, Heap.SameBut.refl _ _⟩
    · rintro x rest b s' ⟨h', i, rfl, hr, hi, hd', hoo', hs'⟩
      have hlt : i < eso.size := by
        rcases Nat.lt_or_ge i eso.size with h | h
        · exact h
        · rw [Nat.sub_eq_zero_of_le h] at hr; simp at hr
      obtain ⟨rfl, hrest⟩ : x = i ∧ rest = List.range' (i + 1) (eso.size - (i + 1)) := by
        have e : eso.size - i = (eso.size - (i + 1)) + 1 := by omega
        rw [e, List.range'_succ] at hr
        injection hr with h1 h2
        exact ⟨h1, h2⟩
      refine wpAny_bind (wpAny_dictEntries hoo' hdo' ?_)
      obtain ⟨kv, hkv⟩ : ∃ kv, more[x]? = some kv := ⟨more[x]'(by rw [hlen]; exact hlt), List.getElem?_eq_getElem _⟩
      rw [entry_at heo x, hkv]
      show wpAny _ _ (holding [(entryOfKey knd kv).key, (entryOfKey knd kv).val] (dictSetHashed d (.ref kv.2.1) (knd.hash kv.1) kv.2.2) >>= _) _ _ _
      have hmx : (mergedH kvs (more.take x)).length ≤ sizeLine := by
        have e1 := mergedH_len kvs (more.take x)
        have e2 : (more.take x).length ≤ more.length := by rw [List.length_take]; omega
        omega
      have hkey : knd.is h' kv.1 kv.2.1 := knd.keeps (hiso kv (List.mem_of_getElem? hkv)) hod hdd hs'
      refine wpAny_bind (wpAny_holding (setHashedH (s := { s with heap := h' }) hu hkey hd' (fun h'' hd'' hs'' => ?_) hmx))
      have hoo'' : h''.get? o = some oo := (hs''.2 o (Ne.symm hdo)).trans hoo'
      refine wpAny_bind (wpAny_dictEpoch hoo'' hdo' ?_)
      rw [if_neg (by simp)]
      exact wpAny_pure ⟨h'', x + 1, rfl, hrest, hlt, by rw [mergedH_succ kvs more x kv hkv]; exact hd'', hoo'', hs'.trans hs''⟩
    · rintro b s' ⟨h', i, rfl, hr, hi, hd', hoo', hs'⟩
      have hin : i = eso.size := by
        rcases Nat.lt_or_ge i eso.size with h | h
        · have e : eso.size - i = (eso.size - (i + 1)) + 1 := by omega
          rw [e, List.range'_succ] at hr; exact nomatch hr
        · exact Nat.le_antisymm hi h
      refine wpAny_pure (hQ h' ?_ hs')
      rw [hin, ← hlen, List.take_length] at hd'; exact hd'
  dsimp only
  split
  · refine wpAny_bind (wpAny_dictEntries hod hdd ?_)
    split
    · rename_i hemp
      have hkvs : kvs = [] := by
        have h0 : esd = #[] := Array.isEmpty_iff.mp hemp
        have := size_of_entries hed
        rw [h0] at this
        exact List.length_eq_zero_iff.mp (by simpa using this.symm)
      subst hkvs
      have forE : wpAny (model prog w) A (Builtin.Dict.entriesForEmpty nm o) (fun es s' => es = eso ∧ s' = s) E s := by
        unfold Builtin.Dict.entriesForEmpty
        refine wpAny_bind (wpAny_dictEntries hoo hdo' ?_)
        refine wpAny_bind ?_
        rw [← Array.forIn_toList]
        refine wpAny_forIn_list _ (fun rest _ s' => s' = s ∧ ∀ e ∈ rest, e ∈ eso) _ ?_ ?_ _ _ ⟨rfl, fun e he => Array.mem_toList_iff.mp he⟩
        · rintro e rest b s' ⟨rfl, hr⟩
          have hin := hr e List.mem_cons_self
          have hm : e ∈ more.map (entryOfKey knd) := heo ▸ Array.mem_toList_iff.mpr hin
          obtain ⟨x, hx, rfl⟩ := List.mem_map.mp hm
          refine wpAny_bind (hty x hx _ ?_)
          rw [if_pos (by rfl), if_neg (hash_one heo hh _ hin)]
          exact wpAny_pure ⟨rfl, fun e he => hr e (List.mem_cons_of_mem _ he)⟩
        · rintro b s' ⟨rfl, _⟩
          exact wpAny_pure ⟨rfl, rfl⟩
      refine wpAny_bind (wpAny_mono forE (fun es s' hes => ?_) fun _ _ e => e)
      obtain ⟨rfl, rfl⟩ := hes
      rw [mergedH_fresh [] more (by simpa using hno), List.nil_append] at hQ
      split
      · have hto : es.size ≤ sizeLine + 1 := by
          simp only [List.length_nil, Nat.zero_add] at hsz
          omega
        refine wpAny_bind (wpAny_updateDictKeysTo hod hdd (wpAny_pure (hQ _ ⟨_, _, epd + 1, Heap.get?_update_self _ hod (Obj.isFreed_of_dict (Obj.data_mapDictKeys hdd _)), hcd.mapDictKeys _,
          Obj.data_mapDictKeys hdd _, heo, fun x hx => knd.keeps (hiso x hx) hod hdd (Heap.SameBut.update ..), hno⟩ (Heap.SameBut.update ..))) hto)
      · rename_i hne
        have h0 : es = #[] := Array.isEmpty_iff.mp (by simpa using hne)
        have hm0 : more = [] := List.length_eq_zero_iff.mp (by rw [hlen, h0]; rfl)
        subst hm0
        exact wpAny_pure (hQ _ hd (Heap.SameBut.refl _ _))
    · exact loop
  · exact loop
end
section
variable {X : Cx}
theorem typeIs_key {P : Program} {w : World} {s : Shared} {ks : List Key} {b : Addr} (h : (tupleKind (mixKind P w)).is s.heap ks b) : s.TypeIs (.ref b) "tuple" := by
  obtain ⟨o, items, n, h1, h2, _⟩ := h
  exact ⟨o, h1, h2⟩
theorem quiet_tuple {P : Program} {w : World} {A : Around} {E : Value → Shared → Prop} {s : Shared} {b : Addr} {Q : Bool → Shared → Prop} (h : s.TypeIs (.ref b) "tuple") (q : Q false s) : wpAny (model P w) A (Builtin.Dict.quietEq (.ref b)) Q E s := by
  unfold Builtin.Dict.quietEq
  exact wpAny_bind (wpAny_specialOf h PySem.F.slot_tuple_eq.lookup (wpAny_pure q))
def hI (i : Int) : Int := hashInt i
def hsh (c : Int × Int) : Int := reduceHash (Builtin.Tuple.tupleHashOf [hI c.1, hI c.2])
theorem hsh_eq {P : Program} {w : World} (c : Int × Int) : (tupleKind (mixKind P w)).hash (kC c) = hsh c := by
  show tupleKeyHash (mixKind P w) (kC c) = hsh c
  unfold tupleKeyHash hsh kC
  rfl
theorem mapFst {α β γ : Type} (f : α → γ) : ∀ (l : List (α × β)), (l.map fun x => f x.1) = (l.map (·.1)).map f
  | [] => rfl
  | x :: l => by rw [List.map_cons, List.map_cons, List.map_cons, mapFst f l]
theorem mapHash {P : Program} {w : World} : ∀ (l : List (Int × Int)), (l.map kC).map (tupleKind (mixKind P w)).hash = l.map hsh
  | [] => rfl
  | c :: l => by rw [List.map_cons, List.map_cons, List.map_cons, hsh_eq, mapHash l]
def okH : List Int → Nat → Bool
  | [], _ => true
  | h :: t, m => !m.testBit (h % 6473).toNat && okH t (m ||| (1 <<< (h % 6473).toNat))
theorem okH_mem : ∀ {l : List Int} {m : Nat}, okH l m = true → ∀ h ∈ l, m.testBit (h % 6473).toNat = false
  | x :: l, m, ok, h, hh => by
    rw [okH, Bool.and_eq_true, Bool.not_eq_true'] at ok
    rcases List.mem_cons.mp hh with rfl | hh
    · exact ok.1
    · have := okH_mem ok.2 h hh
      rw [Nat.testBit_or, Bool.or_eq_false_iff] at this
      exact this.1
theorem okH_nodup : ∀ {l : List Int} {m : Nat}, okH l m = true → l.Nodup
  | [], _, _ => .nil
  | x :: l, m, ok => by
    rw [okH, Bool.and_eq_true, Bool.not_eq_true'] at ok
    refine List.nodup_cons.mpr ⟨fun hin => ?_, okH_nodup ok.2⟩
    have := okH_mem ok.2 x hin
    rw [Nat.testBit_or, Nat.one_shiftLeft, Nat.testBit_two_pow_self, Bool.or_true] at this
    cases this
def allC : List (Int × Int) := (List.range 31).flatMap fun r => (List.range 31).map fun (c : Nat) => (Int.ofNat r, Int.ofNat c)
theorem allC_nodup : (allC.map hsh).Nodup := okH_nodup (m := 0) (by decide +kernel)
theorem allC_mem {c : Int × Int} (h : 0 ≤ c.1 ∧ c.1 ≤ 30 ∧ 0 ≤ c.2 ∧ c.2 ≤ 30) : c ∈ allC := by
  unfold allC
  rw [List.mem_flatMap]
  refine ⟨c.1.toNat, List.mem_range.mpr (by omega), List.mem_map.mpr ⟨c.2.toNat, List.mem_range.mpr (by omega), ?_⟩⟩
  exact Prod.ext (Int.toNat_of_nonneg h.1) (Int.toNat_of_nonneg h.2.2.1)
theorem hsh_inj {c d : Int × Int} (hc : 0 ≤ c.1 ∧ c.1 ≤ 30 ∧ 0 ≤ c.2 ∧ c.2 ≤ 30) (hd : 0 ≤ d.1 ∧ d.1 ≤ 30 ∧ 0 ≤ d.2 ∧ d.2 ≤ 30) (e : hsh c = hsh d) : c = d := by
  obtain ⟨i, hi, ei⟩ := List.mem_iff_getElem.mp (allC_mem hc)
  obtain ⟨j, hj, ej⟩ := List.mem_iff_getElem.mp (allC_mem hd)
  have := (List.getElem_inj (h₀ := by rw [List.length_map]; exact hi) (h₁ := by rw [List.length_map]; exact hj) allC_nodup).mp (by rw [List.getElem_map, List.getElem_map, ei, ej, e])
  subst this
  rw [← ei, ← ej]
theorem hsh_nodup : ∀ {ks : List (Int × Int)}, ks.Nodup → (∀ c ∈ ks, 0 ≤ c.1 ∧ c.1 ≤ 30 ∧ 0 ≤ c.2 ∧ c.2 ≤ 30) → (ks.map hsh).Nodup
  | [], _, _ => .nil
  | c :: ks, hn, hb => by
    obtain ⟨h1, h2⟩ := List.nodup_cons.mp hn
    refine List.nodup_cons.mpr ⟨fun hm => ?_, hsh_nodup h2 fun d hd => hb d (.tail _ hd)⟩
    obtain ⟨d, hd, e⟩ := List.mem_map.mp hm
    rw [hsh_inj (hb d (.tail _ hd)) (hb c (.head _)) e] at hd
    exact h1 hd
theorem kt_merge {H : Hp} : ∀ {more : List (List Key × Addr × Value)} {kvs2 : List (List Key × V)}, KT H kvs2 more → ∀ {kvs : List (List Key × V)} {xs : List (List Key × Addr × Value)}, KT H kvs xs →
    KT H (kvs2.foldl (fun acc p => putK acc p.1 p.2) kvs) (mergedH xs more)
  | _, _, .nil, _, _, r => r
  | _, _, .cons (l₁ := kvs2) (a := p) (b := x) r t, kvs, xs, r0 => by
    obtain ⟨k, b, u⟩ := x
    obtain ⟨k', y⟩ := p
    obtain ⟨rfl, hb, ry⟩ := r
    exact kt_merge t (KT.put r0 k' hb ry)
theorem keys_put {kvs : List (List Key × V)} {ks : List (Int × Int)} {c : Int × Int} (y : V) (hk : kvs.map (·.1) = ks.map kC) (hn : ks.Nodup) : ∃ ks' : List (Int × Int), (putK kvs (kC c) y).map (·.1) = ks'.map kC ∧ ks'.Nodup ∧ (∀ e, e ∈ ks' ↔ e ∈ ks ∨ e = c) ∧ ks'.length ≤ ks.length + 1 := by
  by_cases hc : c ∈ ks
  · refine ⟨ks, ?_, hn, fun e => ⟨.inl, fun h => h.elim id (fun z => z ▸ hc)⟩, by omega⟩
    rw [← hk]
    exact keysT_old _ (by rw [hk]; exact kCmem.mpr hc)
  · refine ⟨ks ++ [c], ?_, List.nodup_append.mpr ⟨hn, List.pairwise_singleton _ _, fun x hx y hy => ?_⟩, fun e => by rw [List.mem_append, List.mem_singleton], by rw [List.length_append]; exact Nat.le_refl _⟩
    · rw [keysT_new y (by rw [hk]; exact fun z => hc (kCmem.mp z)), hk, List.map_append]
      rfl
    · rw [List.mem_singleton.mp hy]
      rintro rfl
      exact hc hx
theorem keys_merge : ∀ {ks2 : List (Int × Int)} {kvs2 : List (List Key × V)}, kvs2.map (·.1) = ks2.map kC → ∀ {kvs : List (List Key × V)} {ks : List (Int × Int)}, kvs.map (·.1) = ks.map kC → ks.Nodup →
    ∃ ks' : List (Int × Int), (kvs2.foldl (fun acc p => putK acc p.1 p.2) kvs).map (·.1) = ks'.map kC ∧ ks'.Nodup ∧ (∀ e, e ∈ ks' ↔ e ∈ ks ∨ e ∈ ks2) ∧ ks'.length ≤ ks.length + ks2.length
  | [], [], _, kvs, ks, hk, hn => ⟨ks, hk, hn, fun e => by simp, by simp⟩
  | [], _ :: _, h2, _, _, _, _ => by cases h2
  | _ :: _, [], h2, _, _, _, _ => by cases h2
  | c :: ks2, (k, y) :: kvs2, h2, kvs, ks, hk, hn => by
    rw [List.map_cons, List.map_cons] at h2
    injection h2 with e1 e2
    dsimp only at e1
    subst e1
    obtain ⟨ks1, h3, h4, h5, h6⟩ := keys_put (c := c) y hk hn
    obtain ⟨ks', h7, h8, h9, h10⟩ := keys_merge e2 h3 h4
    refine ⟨ks', h7, h8, fun e => ?_, by rw [List.length_cons]; omega⟩
    rw [h9, h5, List.mem_cons]
    constructor
    · rintro ((h | h) | h)
      · exact .inl h
      · exact .inr (.inl h)
      · exact .inr (.inr h)
    · rintro (h | h | h)
      · exact .inl (.inl h)
      · exact .inl (.inr h)
      · exact .inr h
end
end L2
set_option Elab.async false
set_option linter.all false
set_option maxRecDepth 100000
namespace L2
open PySem PySem.Spec PyProof.Rows PySem.W
section
variable {X : Cx}
theorem mt_updateT (hu : X.A.units + 3 < cLine) : MtR X "dict.update" (fun x vs H Q => ∃ (d o : Addr) (kvs kvs2 : List (List Key × V)) (ks ks2 : List (Int × Int)), x = .ref d ∧ vs = [.ref o] ∧ d ≠ o ∧ H d = some (.dT kvs) ∧ kvs.map (·.1) = ks.map kC ∧ ks.Nodup ∧
    H o = some (.dT kvs2) ∧ kvs2.map (·.1) = ks2.map kC ∧ ks2.Nodup ∧ (∀ c ∈ ks2, 0 ≤ c.1 ∧ c.1 ≤ 30 ∧ 0 ≤ c.2 ∧ c.2 ≤ 30) ∧ ks.length ≤ 1000 ∧ ks2.length ≤ 1000 ∧
    ∀ (kvs' : List (List Key × V)) (ks' : List (Int × Int)), kvs'.map (·.1) = ks'.map kC → ks'.Nodup → (∀ e, e ∈ ks' ↔ e ∈ ks ∨ e ∈ ks2) → Q .non (upd H d (.dT kvs'))) := by
  intro pins s σ H x vs v us Q I rx rv h
  obtain ⟨d, o, kvs, kvs2, ks, ks2, rfl, rfl, hne, hd, hk, hn, ho, hk2, hn2, hb2, l1, l2, q⟩ := h
  cases rx
  obtain ⟨u, rfl, ru⟩ := rv.one
  cases ru
  obtain ⟨z, hsys, xs, kt, dd⟩ := dt_of I.hok hd
  obtain ⟨z2, hsys2, more, kt2, dd2⟩ := dt_of I.hok ho
  have hT : s.TypeIs (.ref d) "dict" := by
    obtain ⟨o, es, ep, h1, h2, _⟩ := dd
    exact ⟨o, h1, h2.1⟩
  have hT2 : s.TypeIs (.ref o) "dict" := by
    obtain ⟨o, es, ep, h1, h2, _⟩ := dd2
    exact ⟨o, h1, h2.1⟩
  have ekk : ∀ {kvs : List (List Key × V)} {xs : List (List Key × Addr × Value)}, KT H kvs xs → xs.map (·.1) = kvs.map (·.1) := fun {kvs xs} r => by
    induction r with
    | nil => rfl
    | cons r _ ih => rw [List.map_cons, List.map_cons, ih, r.1]
  have lx : xs.length = ks.length := by
    have := congrArg List.length ((ekk kt).trans hk)
    rwa [List.length_map, List.length_map] at this
  have lm : more.length = ks2.length := by
    have := congrArg List.length ((ekk kt2).trans hk2)
    rwa [List.length_map, List.length_map] at this
  have zz : 2000 ≤ sizeLine := by decide
  have his2 : ∀ x ∈ more, (tupleKind (mixKind X.prog X.w)).is s.heap x.1 x.2.1 := by
    obtain ⟨_, _, _, _, _, _, _, h, _⟩ := dd2
    exact h
  have hh : (more.map fun x => (tupleKind (mixKind X.prog X.w)).hash x.1).Nodup := by
    have e : (more.map fun x => (tupleKind (mixKind X.prog X.w)).hash x.1) = ks2.map hsh := by
      rw [mapFst (tupleKind (mixKind X.prog X.w)).hash more, (ekk kt2).trans hk2, mapHash]
    rw [e]
    exact hsh_nodup hn2 hb2
  refine wpAny_call_entry PySem.F.slot_dict_update hT PySem.F.entry_dict_update ?_ (PySem.F.args_dict_update_2 _ _)
  unfold Builtin.«dict.update»
  refine wpAny_bind ?_
  unfold Builtin.Dict.selfAndRest
  refine wpAny_bind (wpAny_notOrdered_dict hT ?_)
  show wpAny _ _ (pure (d, [Value.ref o])) _ _ s
  refine wpAny_pure ?_
  show wpAny _ _ (Builtin.Dict.updateFrom "dict.update" d (.ref o) [] .none) _ _ s
  unfold Builtin.Dict.updateFrom
  refine wpAny_bind (wpAny_typeOf hT2 ?_)
  rw [if_neg (by decide)]
  refine wpAny_bind ?_
  unfold Builtin.Dict.merge
  refine wpAny_bind ?_
  unfold Builtin.Dict.readDirectly
  refine wpAny_bind (wpAny_isInstance hT2 isSubtype_dict_dict ?_)
  simp only [Bool.not_true, Bool.false_eq_true, if_false]
  refine wpAny_bind (wpAny_specialOf hT2 PySem.F.slot_dict_iter.lookup (wpAny_pure ?_))
  simp only [beq_self_eq_true, if_true]
  refine wpAny_bind (wpAny_pure ?_)
  refine mergeDictH (tupleKind_room_in1 (by omega)) hne hsys2 dd dd2 hh (fun x hx Q' q' => quiet_tuple (typeIs_key (his2 x hx)) q') (fun h' dd' sb => ?_) (by omega)
  show wpAny _ _ (Builtin.Dict.addKeywords d [] >>= _) _ _ _
  obtain ⟨ks', h1, h2, h3, h4⟩ := keys_merge hk2 hk hn
  refine wpAny_bind (wpAny_pure (wpAny_pure ⟨.none, rfl, .non, _, ?_, rfl, q _ ks' h1 h2 h3⟩))
  obtain ⟨q', es, ep, hq, g2, g3, g4, _, g5⟩ := dd'
  have lk : (kvs2.foldl (fun acc p => putK acc p.1 p.2) kvs).length = ks'.length := by
    have := congrArg List.length h1
    rwa [List.length_map, List.length_map] at this
  refine d_write (s := s) I (by rw [hd]; exact True.intro) sb ⟨q', hq⟩ ⟨by omega, hsys, _, KT.keeps (kt_merge kt2 kt) fun cc ys ec => ?_, q', es, ep, hq, g2, g3, g4, g5⟩
  rw [upd_ne (ne_of ec hd (fun z => nomatch z))]
  exact ec
end
end L2
set_option Elab.async false
set_option linter.all false
set_option maxRecDepth 100000
namespace L2
open PySem PySem.Spec PyProof.Rows PySem.W
def PartsAt (H : Hp) (ys : List V) (ps : List (List (Int × Int))) : Prop := Paired (fun v r => ∃ t zs, v = .ref t ∧ H t = some (.tup zs) ∧ Cells H zs r) ys ps
section
variable {X : Cx}
theorem kat_same {pins : List (Addr × Obj)} {σ : L2.St} {H : Hp} {s : Shared} {A : Around} {C : Bool → Shared → Prop} {b z : Bool} (I : Inv X pins σ H s) (hu : A.units < cLine) (hC : C z s) :
    ∀ {zs : List V} {us : List Value} {r : List (Int × Int)} (k : Nat), Vals zs us → Cells H zs r → KatLex X.prog X.w A b z C (us.zip us) k s
  | _, _, _, k, .nil, .nil => kat_nil hC
  | _, _, _, k, .cons rv t, .cons rc tc => by
    obtain ⟨x, rfl, hx⟩ := rc
    cases rv
    refine kat_cons (I.cellEq hu hx hx _ _ _ _ ?_)
    rw [decide_eq_true rfl]
    exact kat_yes (kat_same I hu hC (k + 1) t tc)
theorem call_sortedP (hc : X.calm = true) (hu : X.A.units + 5 < cLine) : CallR X (.builtin "sorted") (fun xs H Q => ∃ (a : Addr) (ys : List V) (ps : List (List (Int × Int))), xs = [.ref a] ∧ H a = some (.lst ys) ∧ PartsAt H ys ps ∧ (∀ r ∈ ps, r ≠ []) ∧ (ps.map fun r => r.getD 0 (0, 0)).Pairwise ltC ∧
    ps.length ≤ 1000 ∧ ∀ l, H l = none → Q (.ref l) (upd H l (.lst ys))) := by
  intro pins s σ H xs us Q I r h
  obtain ⟨a, ys, ps, rfl, ha, hL, hne, hp, hz, q⟩ := h
  obtain ⟨u, rfl, ru⟩ := vals1 r
  cases ru
  obtain ⟨z, its, n, rv, e⟩ := I.hok a _ ha
  have ly : ys.length = ps.length := Paired.length hL
  have li : its.length = ps.length := by rw [← rv.length, ly]
  have item : ∀ i, i < ps.length → ∃ t x zs rr, its[i]? = some (.ref t) ∧ H t = some (.tup (.ref x :: zs)) ∧ H x = some (.tup [.int ((ps.getD i []).getD 0 (0, 0)).1, .int ((ps.getD i []).getD 0 (0, 0)).2]) ∧ Cells H (.ref x :: zs) rr := fun i hi => by
    obtain ⟨v, m, g1, g2, t, zs, rfl, g3, g4⟩ := pairedGet hL i (by omega)
    obtain ⟨w', g6, g7⟩ := rv.get g1
    cases g7
    have hm : m ≠ [] := hne m (List.mem_of_getElem? g2)
    cases g4 with
    | nil => exact absurd rfl hm
    | cons r0 r1 =>
      obtain ⟨x, rfl, hx⟩ := r0
      refine ⟨t, x, _, _, g6, g3, ?_, .cons ⟨x, rfl, hx⟩ r1⟩
      rw [show ps.getD i [] = _ from by rw [List.getD_eq_getElem?_getD, g2]]
      exact hx
  have tupAt : ∀ {h6 : Heap} {t x : Addr} {zs : List V}, (∀ b o, s.heap.get? b = some o → h6.get? b = some o) → H t = some (.tup (.ref x :: zs)) → ∃ o m us, h6.get? t = some o ∧ o.cls = .type "tuple" ∧ o.data = .seq (.ref x :: us).toArray m ∧ Vals zs us := fun {h6 t x zs} k ht => by
    obtain ⟨_, its, rv, o, ho, hc, m, hd⟩ := I.hok _ _ ht
    cases rv with
    | cons r1 rr =>
      cases r1
      exact ⟨o, m, _, k _ _ ho, hc, hd, rr⟩
  refine sorted_by hc (fun i => (i : Int)) (tuples' false) I rv (.inl rfl) e rfl rfl (by omega) (fun h2 h6 tk k A E Q hq => ?_) (fun h6 tk k => ?_) (fun i j _ _ e => by omega) (.inr fun j _ _ => by omega) fun p l r1 r2 fl => ?_
  · have I6 : Inv X pins σ H { s with heap := h6, toks := tk } := I.kept k
    have tu : ∀ (m : List Value) (k0 : Nat), (∀ i v, m[i]? = some v → its[k0 + i]? = some v) → ∃ fs, KatTups h6 m fs ∧ fs.length = m.length ∧ ∀ v ∈ fs, Looks (model X.prog X.w) h6 (typeOf v) (Value.type "tuple") := by
      intro m
      induction m with
      | nil => exact fun _ _ => ⟨[], trivial, rfl, fun _ h => nomatch h⟩
      | cons v m ih =>
        intro k0 hm
        obtain ⟨fs, f1, f2, f3⟩ := ih (k0 + 1) fun i v' hv => by
          have := hm (i + 1) v' (by simpa using hv)
          rw [show k0 + 1 + i = k0 + (i + 1) by omega]
          exact this
        have h0 := hm 0 v rfl
        have hk0 : k0 < ps.length := by
          have := (List.getElem?_eq_some_iff.mp h0).1
          omega
        obtain ⟨t, x, zs, rr, g1, g2, g3, g4⟩ := item k0 hk0
        rw [Nat.add_zero, g1] at h0
        cases h0
        obtain ⟨o, mm, us, o1, o2, o3, o4⟩ := tupAt k g2
        obtain ⟨t1, t2, oo, p1, p2, _⟩ := I6.cellT g3
        refine ⟨.ref x :: fs, KatTups.cons o1 o2 o3 rfl f1, by simp [f2], fun v hv => ?_⟩
        rcases List.mem_cons.mp hv with rfl | hv
        · exact fun A Q E s' ks hq => wpAny_typeOf (show s'.TypeIs (.ref x) "tuple" from ⟨oo, ks _ _ p1, p2⟩) hq
        · exact f3 v hv
    obtain ⟨fs, t1, t2, t3⟩ := tu its 0 fun i v hv => by rw [Nat.zero_add]; exact hv
    refine kat_kind (s := { s with heap := h6, toks := tk }) (T := Value.type "tuple") t1 (by omega) t3 rfl ?_
    rw [show (Value.type "tuple" != Value.type "tuple") = false by decide]
    exact hq
  · have I6 : Inv X pins σ H { s with heap := h6, toks := tk } := I.kept k
    intro i j C hi hj hq
    have hq : C (decide ((i : Int) < (j : Int))) { s with heap := h6, toks := tk } := hq
    rw [li] at hi hj
    have hu3 : X.A.in1.in1.units < cLine := by show X.A.units + 1 + 1 < cLine; omega
    obtain ⟨t, x, zs, rr, g1, g2, g3, g4⟩ := item i hi
    obtain ⟨o, m, us, o1, o2, o3, o4⟩ := tupAt k g2
    by_cases eij : i = j
    · subst eij
      unfold kas_cmp
      rw [kat_item rfl, List.getD_eq_getElem?_getD, g1]
      refine kat_lt (b := false) (s := { s with heap := h6, toks := tk }) o1 o3 o1 o3 ?_
      refine kat_same I6 hu3 ?_ 0 (show Vals (V.ref x :: zs) (Value.ref x :: us) from .cons rfl o4) g4
      rw [decide_eq_false (by omega)] at hq
      simpa using hq
    · obtain ⟨t', x', zs', rr', g1', g2', g3', g4'⟩ := item j hj
      obtain ⟨o', m', us', o1', o2', o3', o4'⟩ := tupAt k g2'
      unfold kas_cmp
      rw [kat_item rfl, kat_item rfl, List.getD_eq_getElem?_getD, List.getD_eq_getElem?_getD, g1, g1']
      refine kat_lt (b := false) (s := { s with heap := h6, toks := tk }) o1 o3 o1' o3' ?_
      have rel : ∀ a b, a < b → b < ps.length → ltC ((ps.getD a []).getD 0 (0, 0)) ((ps.getD b []).getD 0 (0, 0)) := fun a b hab hb => by
        have := List.pairwise_iff_getElem.mp hp a b (by rw [List.length_map]; omega) (by rw [List.length_map]; exact hb) hab
        rw [List.getElem_map, List.getElem_map] at this
        rw [List.getD_eq_getElem?_getD (l := ps), List.getD_eq_getElem?_getD (l := ps), List.getElem?_eq_getElem (show a < ps.length by omega), List.getElem?_eq_getElem hb]
        exact this
      show KatLex X.prog X.w X.A.in1.in1 false _ C ((.ref x, .ref x') :: us.zip us') 0 _
      refine kat_cons (I6.cellEq hu3 g3 g3' _ _ _ _ ?_)
      rcases Nat.lt_trichotomy i j with h | h | h
      · have hl := rel i j h hj
        have ne : ¬ ((ps.getD i []).getD 0 (0, 0) = (ps.getD j []).getD 0 (0, 0)) := ltC_irr hl
        rw [decide_eq_false ne]
        refine kat_no (I6.ltCells hu3 g3 g3' ?_)
        rw [lexC_yes hl]
        rw [decide_eq_true (by omega)] at hq
        exact hq
      · exact absurd h eij
      · have hl := rel j i h hi
        have ne : ¬ ((ps.getD i []).getD 0 (0, 0) = (ps.getD j []).getD 0 (0, 0)) := fun z => ltC_irr hl z.symm
        rw [decide_eq_false ne]
        refine kat_no (I6.ltCells hu3 g3 g3' ?_)
        rw [lexC_no hl]
        rw [decide_eq_false (by omega)] at hq
        exact hq
  · have ep : p.toList = List.range its.length := by
      have hs := r1.size
      have st : ∀ i j, i < j → j < its.length → p.getD i 0 < p.getD j 0 := fun i j hij hj => by
        have h1 := r2 i j (by omega) hj
        have h2 := r1.ne (key := fun i => (i : Int)) (fun i j _ _ e => by have e : (i : Int) = (j : Int) := e; omega) hij hj
        have h1 : ((p.getD i 0 : Nat) : Int) ≤ ((p.getD j 0 : Nat) : Int) := h1
        have h2 : ((p.getD i 0 : Nat) : Int) ≠ ((p.getD j 0 : Nat) : Int) := h2
        omega
      have lo : ∀ i, i < its.length → i ≤ p.getD i 0 := fun i => by
        induction i with
        | zero => exact fun _ => Nat.zero_le _
        | succ i ih =>
          intro hi
          have h1 := ih (by omega)
          have h2 := st i (i + 1) (by omega) hi
          omega
      have hi' : ∀ d i, i + d < its.length → p.getD i 0 + d ≤ p.getD (i + d) 0 := fun d => by
        induction d with
        | zero => exact fun i _ => Nat.le_refl _
        | succ d ih =>
          intro i hi
          have h1 := ih i (by omega)
          have h2 := st (i + d) (i + (d + 1)) (by omega) hi
          omega
      apply List.ext_getElem
      · simp [hs]
      · intro i h1 h2
        have hin : i < its.length := by simpa using h2
        rw [List.getElem_range]
        have e1 : p.toList[i] = p.getD i 0 := by simp [Array.getD, hs, hin]
        rw [e1]
        have a1 := lo i hin
        have a2 := hi' (its.length - 1 - i) i (by omega)
        have a3 := r1.lt (i := i + (its.length - 1 - i)) (by omega)
        omega
    rw [ep, ← rv.length]
    have := q l fl
    rwa [map_getD_range]
end
end L2
set_option Elab.async false
set_option linter.all false
set_option maxRecDepth 100000
namespace L2
theorem valT_mem {kvs : List (List Key × V)} {k : List Key} : (valV kvs k).isSome = true ↔ k ∈ kvs.map (·.1) := by
  rw [← valV_any, List.any_eq_true, List.mem_map]
  exact ⟨fun ⟨p, hp, e⟩ => ⟨p, hp, of_decide_eq_true e⟩, fun ⟨p, hp, e⟩ => ⟨p, hp, decide_eq_true e⟩⟩
end L2
namespace K4
open PySem L2 PyProof.Rows
def top (i : Nat) : Stmt := PySem.Challenge.pw_mowfloor_k04_parts.main.body.getD i (.Pass ⟨0, 0, 0, 0⟩)
abbrev sLookup : Stmt := top 1
abbrev sAround : Stmt := top 2
abbrev sReached : Stmt := top 3
abbrev sParts : Stmt := top 5
abbrev sHand : Stmt := top 7
abbrev sTake : Stmt := top 8
abbrev sOf : Stmt := top 9
abbrev sFloor : Stmt := top 10
abbrev sBeside : Stmt := top 11
abbrev sPart : Stmt := top 12
abbrev sSame : Stmt := top 13
abbrev sLParts : Stmt := top 14
abbrev sLaw : Stmt := top 15
structure Txt (mg : Str → Option Value) : Prop where
  tuple : mg "tuple" = none
  len : mg "len" = none
  int : mg "int" = none
  range : mg "range" = none
  min : mg "min" = none
  max : mg "max" = none
  sorted : mg "sorted" = none
  abs : mg "abs" = none
  isinstance : mg "isinstance" = none
  zip : mg "zip" = none
  all : mg "all" = none
  str : mg "str" = none
  bool : mg "bool" = none
  any : mg "any" = none
theorem hu0 {A : Around} {k : Nat} (hr : Room k A) : A.units < cLine := by have := hr.un; omega
theorem hu1 {A : Around} {k : Nat} (hr : Room k A) : A.units + 1 < cLine := by have := hr.un; omega
theorem hu2 {A : Around} {k : Nat} (hr : Room k A) : A.units + 2 < cLine := by have := hr.un; omega
theorem hu3 {A : Around} {k : Nat} (hr : Room k A) : A.units + 3 < cLine := by have := hr.un; omega
theorem pss_imp {X : Cx} {st : List Stmt} {t t' : TS} (h : PSs X st t) (i : ∀ D σ H, t' D σ H → t D σ H) : PSs X st t' := fun pins s σ H D I hw => h pins s σ H D I (i D σ H hw)
def arL (c : Int × Int) : List (Int × Int) := [(c.1 - 1, c.2), (c.1, c.2 - 1), (c.1, c.2 + 1), (c.1 + 1, c.2)]
def LookAt (H : Hp) (d : Addr) (cs : List (Int × Int)) : Prop := ∃ kvs, H d = some (.dT kvs) ∧ kvs.map (·.1) = cs.map kC
theorem LookAt.get {H : Hp} {d b : Addr} {cs : List (Int × Int)} {c : Int × Int} (h : LookAt H d cs) (hb : H b = some (.tup [.int c.1, .int c.2])) : ∃ o, DGet H d (.ref b) o ∧ o.isSome = decide (c ∈ cs) := by
  obtain ⟨kvs, h1, h2⟩ := h
  refine ⟨valV kvs (kC c), DGet.t (k := kC c) h1 hb, ?_⟩
  rw [Bool.eq_iff_iff, valT_mem, h2, kCmem, decide_eq_true_iff]
theorem LookAt.same {H H' : Hp} {d : Addr} {cs : List (Int × Int)} (h : LookAt H d cs) (s : Same H H') : LookAt H' d cs := by
  obtain ⟨kvs, h1, h2⟩ := h
  exact ⟨kvs, s _ _ h1, h2⟩
def spAround : Sp := fun vs H Q _ => ∃ a c, vs = [.ref a] ∧ H a = some (.tup [.int (c : Int × Int).1, .int c.2]) ∧ ∀ l ys H', Same H H' → H' l = some (.lst ys) → H l = none → Cells H' ys (arL c) → Q (.ref l) H'
def spLookup : Sp := fun vs H Q _ => ∃ a ys cs, vs = [.ref a] ∧ H a = some (.tup ys) ∧ Cells H ys cs ∧ cs.Nodup ∧ cs.length ≤ 1000 ∧ ∀ d H', Same H H' → H d = none → LookAt H' d cs → Q (.ref d) H'
section
variable {P : Program} {w : World} {K : PySem.W.Frag} {mg : Str → Option Value} {base : Heap}
theorem scAround : FnScope ["cell", "row", "column"] ["cell"] (defScope sAround) := ⟨rfl, rfl, rfl, by decide +kernel, rfl, by decide +kernel, by decide +kernel⟩
theorem ok_around {f : Addr} {fd : FuncData} (F : Fun K "around" "around" sAround f fd) : FnOk P w K mg base CX0 1 f fd ["cell"] spAround := by
  refine F.ok scAround (fun vs H Q E h => ?_) (fun cdv A outer s H vs Q E hr h => ?_)
  · obtain ⟨a, c, rfl, _⟩ := h
    rfl
  · obtain ⟨a, c, rfl, ha, k⟩ := h
    have nd := scAround.nd
    refine ⟨_, pss_cons (ps_set (i := 1) nd rfl (Or.inl rfl) (pe_ix ix_tup (pv 0) pe_int (fun _ _ => rfl))) (pss_cons (ps_set (i := 2) nd rfl (Or.inl rfl) (pe_ix ix_tup (pv 0) pe_int (fun _ _ => rfl)))
      (pss_one (ps_ret (pe_lst (pa_cons (pe_tup (pa_cons (pe_op op_sub (pv 1) pe_int) (pa_cons (pv 2) pa_nil))) (pa_cons (pe_tup (pa_cons (pv 1) (pa_cons (pe_op op_sub (pv 2) pe_int) pa_nil)))
        (pa_cons (pe_tup (pa_cons (pv 1) (pa_cons (pe_op op_add (pv 2) pe_int) pa_nil))) (pa_cons (pe_tup (pa_cons (pe_op op_add (pv 1) pe_int) (pa_cons (pv 2) pa_nil))) pa_nil)))))))), ?_⟩
    refine ⟨_, rfl, a, _, 0, _, rfl, rfl, SqT.of ha, rfl, _, rfl, a, _, 1, _, rfl, rfl, SqT.of ha, rfl, ?_⟩
    have z2 : 2 ≤ sizeLine := by decide
    refine ⟨_, rfl, _, _, rfl, rfl, _, rfl, z2, fun t1 f1 => ⟨_, rfl, _, rfl, _, _, rfl, rfl, z2, fun t2 f2 => ⟨_, rfl, _, rfl, _, _, rfl, rfl, z2, fun t3 f3 => ⟨_, rfl, _, _, rfl, rfl, _, rfl, z2, fun t4 f4 => ⟨by show 4 ≤ sizeLine; decide, fun l fl => ?_⟩⟩⟩⟩⟩
    have s1 : Same H _ := (Same.refl H).upd (o := .tup [.int (c.1 - 1), .int c.2]) f1
    have s2 := s1.upd (o := .tup [.int c.1, .int (c.2 - 1)]) f2
    have s3 := s2.upd (o := .tup [.int c.1, .int (c.2 + 1)]) f3
    have s4 := s3.upd (o := .tup [.int (c.1 + 1), .int c.2]) f4
    refine k l _ _ (s4.upd fl) upd_same (by
      cases e : H l with
      | none => rfl
      | some o => rw [s4 l o e] at fl; cases fl) ?_
    exact .cons ⟨t1, rfl, keepU (keepU (keepU (keepU upd_same f2) f3) f4) fl⟩ (.cons ⟨t2, rfl, keepU (keepU (keepU upd_same f3) f4) fl⟩ (.cons ⟨t3, rfl, keepU (keepU upd_same f4) fl⟩ (.cons ⟨t4, rfl, keepU upd_same fl⟩ .nil)))
theorem scLookup : FnScope ["things", "found", "thing"] ["things"] (defScope sLookup) := ⟨rfl, rfl, rfl, by decide +kernel, rfl, by decide +kernel, by decide +kernel⟩
theorem ok_lookup {f : Addr} {fd : FuncData} (F : Fun K "lookup" "lookup" sLookup f fd) : FnOk P w K mg base CX0 1 f fd ["things"] spLookup := by
  refine F.ok scLookup (fun vs H Q E h => ?_) (fun cdv A outer s H vs Q E hr h => ?_)
  · obtain ⟨a, ys, cs, rfl, _⟩ := h
    rfl
  · obtain ⟨a, ys, cs, rfl, ha, hC, hS, hL, q⟩ := h
    have nd := scLookup.nd
    refine ⟨_, pss_cons (ps_set (i := 1) nd rfl (Or.inl rfl) pe_dnewT) (pss_cons (ps_for PassesOwn.never rfl (pi_tup (pv 0)) (pg_name (i := 2) nd rfl (Or.inl rfl)) (pss_one (ps_dput (hu1 hr) (pv 1) (pv 2) pe_bl rfl))) (pss_one (ps_ret (pv 1)))), ?_⟩
    refine fun d hd => ⟨_, rfl, a, rfl, ⟨ys, SqT.of (keepU ha hd)⟩, ?_⟩
    refine for_tup (K := K) (a := a) (xs := ys) (fun i σ H2 => ∃ o2 kvs, σ = [some (.ref a), some (.ref d), o2] ∧ Same H H2 ∧ H2 d = some (.dT kvs) ∧ kvs.map (·.1) = (cs.take i).map kC) ⟨_, [], rfl, (Same.refl H).upd hd, upd_same, rfl⟩ (fun i σ H2 _ ⟨_, _, _, s2, _⟩ => SqT.of (s2 _ _ ha)) ?_ ?_
    · rintro i x σ H2 hx ⟨o2, kvs, rfl, s2, h2, hk⟩
      have hi : i < cs.length := by rw [← hC.length]; exact (List.getElem?_eq_some_iff.mp hx).1
      obtain ⟨b, hb, hbt⟩ := hC.get (i := i) (c := cs[i]) (by simp [hi])
      rw [hx] at hb
      cases hb
      have hl : kvs.length = i := by
        have := congrArg List.length hk
        rw [List.length_map, List.length_map, List.length_take] at this
        omega
      refine ⟨_, rfl, _, rfl, d, _, rfl, DPut.t (k := kC cs[i]) h2 (s2 _ _ hbt) (by rw [hl]; exact Nat.lt_of_lt_of_le (show i < 1000 by omega) (by decide)), ?_⟩
      have hdn : H d = none := hd
      refine ⟨_, _, rfl, fun b' o e => ?_, upd_same, ?_⟩
      · rw [upd_ne (ne_of_none e hdn)]
        exact s2 b' o e
      · rw [keysT_new, hk, List.take_succ_eq_append_getElem hi, List.map_append]
        · rfl
        · rw [hk, kCmem]
          intro hm
          obtain ⟨j, hj, e⟩ := List.mem_iff_getElem.mp hm
          rw [List.length_take] at hj
          rw [List.getElem_take] at e
          exact List.pairwise_iff_getElem.mp hS j i (by omega) hi (by omega) e
    · rintro σ H2 ⟨o2, kvs, rfl, s2, h2, hk⟩
      rw [List.take_of_length_le (by rw [hC.length]; exact Nat.le_refl _)] at hk
      exact ⟨_, rfl, q d H2 s2 hd ⟨kvs, h2, hk⟩⟩
end
end K4
set_option Elab.async false
set_option linter.all false
set_option maxRecDepth 100000
namespace K4
open PySem L2 PyProof.Rows
inductive Rch (cs : List (Int × Int)) (a : Int × Int) : Int × Int → Prop
  | refl : Rch cs a a
  | step {c d : Int × Int} : Rch cs a c → d ∈ cs → d ∈ arL c → Rch cs a d
structure DF (cs : List (Int × Int)) (a : Int × Int) (fs ws : List (Int × Int)) (o : Option ((Int × Int) × Nat)) : Prop where
  nd : fs.Nodup
  sub : ∀ c ∈ fs, Rch cs a c
  inc : ∀ c ∈ fs, c ∈ cs
  st : a ∈ fs
  wf : ∀ c ∈ ws, c ∈ fs
  cl : ∀ c ∈ fs, c ∉ ws → (∀ p, o = some p → c ≠ p.1) → ∀ d ∈ cs, d ∈ arL c → d ∈ fs
  at' : ∀ p, o = some p → p.1 ∈ fs ∧ ∀ d ∈ cs, d ∈ (arL p.1).take p.2 → d ∈ fs
theorem DF.done {cs : List (Int × Int)} {a : Int × Int} {fs : List (Int × Int)} (h : DF cs a fs [] none) (c : Int × Int) : c ∈ fs ↔ Rch cs a c := by
  refine ⟨h.sub c, fun r => ?_⟩
  induction r with
  | refl => exact h.st
  | step _ hd hn ih => exact h.cl _ ih (by simp) (fun p e => by cases e) _ hd hn
theorem DF.pop {cs : List (Int × Int)} {a c : Int × Int} {fs ws : List (Int × Int)} (h : DF cs a fs (ws ++ [c]) none) : DF cs a fs ws (some (c, 0)) := by
  refine ⟨h.nd, h.sub, h.inc, h.st, fun x hx => h.wf x (List.mem_append_left _ hx), fun x hx hw hp => h.cl x hx (fun z => ?_) (fun p e => by cases e), fun p e => ?_⟩
  · rcases List.mem_append.mp z with z | z
    · exact hw z
    · exact hp _ rfl (List.mem_singleton.mp z)
  · cases e
    exact ⟨h.wf c (List.mem_append_right _ (.head _)), fun d _ hd => by simp at hd⟩
theorem DF.end' {cs : List (Int × Int)} {a c : Int × Int} {fs ws : List (Int × Int)} (h : DF cs a fs ws (some (c, 4))) : DF cs a fs ws none := by
  refine ⟨h.nd, h.sub, h.inc, h.st, h.wf, fun x hx hw _ d hd hn => ?_, fun p e => by cases e⟩
  by_cases e : x = c
  · subst e
    exact (h.at' _ rfl).2 d hd hn
  · exact h.cl x hx hw (fun p ep => by cases ep; exact e) d hd hn
theorem DF.skip {cs : List (Int × Int)} {a c : Int × Int} {fs ws : List (Int × Int)} {i : Nat} (h : DF cs a fs ws (some (c, i))) (hi : i < (arL c).length) (hs : (arL c)[i] ∈ cs → (arL c)[i] ∈ fs) : DF cs a fs ws (some (c, i + 1)) := by
  refine ⟨h.nd, h.sub, h.inc, h.st, h.wf, fun x hx hw hp => h.cl x hx hw (fun p e => by cases e; exact hp (c, i + 1) rfl), fun p e => ?_⟩
  cases e
  refine ⟨(h.at' _ rfl).1, fun d hd hn => ?_⟩
  dsimp only at hn
  rw [List.take_succ_eq_append_getElem hi] at hn
  rcases List.mem_append.mp hn with hn | hn
  · exact (h.at' _ rfl).2 d hd hn
  · rw [List.mem_singleton.mp hn] at hd ⊢
    exact hs hd
theorem DF.put {cs : List (Int × Int)} {a c : Int × Int} {fs ws : List (Int × Int)} {i : Nat} (h : DF cs a fs ws (some (c, i))) (hi : i < (arL c).length) (hs : (arL c)[i] ∈ cs) (hn : (arL c)[i] ∉ fs) : DF cs a (fs ++ [(arL c)[i]]) (ws ++ [(arL c)[i]]) (some (c, i + 1)) := by
  have hc := (h.at' _ rfl).1
  refine ⟨List.nodup_append.mpr ⟨h.nd, List.pairwise_singleton _ _, fun x hx y hy => ?_⟩, fun x hx => ?_, fun x hx => ?_, List.mem_append_left _ h.st, fun x hx => ?_, fun x hx hw hp d hd hn' => ?_, fun p e => ?_⟩
  · rw [List.mem_singleton.mp hy]
    rintro rfl
    exact hn hx
  · rcases List.mem_append.mp hx with hx | hx
    · exact h.sub x hx
    · rw [List.mem_singleton.mp hx]
      exact .step (h.sub c hc) hs (List.getElem_mem _)
  · rcases List.mem_append.mp hx with hx | hx
    · exact h.inc x hx
    · rw [List.mem_singleton.mp hx]
      exact hs
  · rcases List.mem_append.mp hx with hx | hx
    · exact List.mem_append_left _ (h.wf x hx)
    · exact List.mem_append_right _ hx
  · rcases List.mem_append.mp hx with hx | hx
    · exact List.mem_append_left _ (h.cl x hx (fun z => hw (List.mem_append_left _ z)) (fun p e => by cases e; exact hp (c, i + 1) rfl) d hd hn')
    · exact absurd (List.mem_append_right _ hx) hw
  · cases e
    refine ⟨List.mem_append_left _ hc, fun d hd hn' => ?_⟩
    dsimp only at hn'
    rw [List.take_succ_eq_append_getElem hi] at hn'
    rcases List.mem_append.mp hn' with hn' | hn'
    · exact List.mem_append_left _ ((h.at' _ rfl).2 d hd hn')
    · exact List.mem_append_right _ hn'
theorem unsnoc {H : Hp} : ∀ {cs : List (Int × Int)} {ys : List V} {c : Int × Int}, Cells H ys (cs ++ [c]) → ∃ ys' e, ys = ys' ++ [.ref e] ∧ Cells H ys' cs ∧ H e = some (.tup [.int c.1, .int c.2])
  | [], _, c, h => by
    cases h with
    | cons r t =>
      cases t
      obtain ⟨e, rfl, he⟩ := r
      exact ⟨[], e, rfl, .nil, he⟩
  | x :: cs, _, c, h => by
    cases h with
    | cons r t =>
      obtain ⟨ys', e, rfl, h1, h2⟩ := unsnoc (cs := cs) t
      exact ⟨_ :: ys', e, rfl, .cons r h1, h2⟩
theorem len_sub {α : Type} [DecidableEq α] : ∀ {l m : List α}, l.Nodup → (∀ x ∈ l, x ∈ m) → l.length ≤ m.length
  | [], m, _, _ => Nat.zero_le _
  | x :: l, m, hn, hs => by
    have hx := hs x (.head _)
    have ⟨h1, h2⟩ := List.nodup_cons.mp hn
    have := len_sub (l := l) (m := m.erase x) h2 fun y hy => (List.mem_erase_of_ne (fun e => h1 (by rw [← e]; exact hy))).mpr (hs y (.tail _ hy))
    rw [List.length_erase_of_mem hx] at this
    have : 0 < m.length := List.length_pos_of_mem hx
    rw [List.length_cons]
    omega
def BB (cs : List (Int × Int)) : Prop := ∀ c ∈ cs, 0 ≤ c.2 ∧ c.2 < 1000
def spReached : Sp := fun vs H Q _ => ∃ d b cs a, vs = [.ref d, .ref b] ∧ LookAt H d cs ∧ cs.length ≤ 1000 ∧ BB cs ∧ H b = some (.tup [.int (a : Int × Int).1, .int a.2]) ∧ a ∈ cs ∧
  ∀ p ys rs H', Same H H' → H p = none → H' p = some (.tup ys) → Cells H' ys rs → rs.Pairwise ltC → (∀ c, c ∈ rs ↔ Rch cs a c) → (∀ c ∈ rs, c ∈ cs) → Q (.ref p) H'
theorem boot_sorted' : bootBuiltins "sorted" = some (.builtin "sorted") := by decide +kernel
structure DH (H0 : Hp) (cs : List (Int × Int)) (a : Int × Int) (f l : Addr) (fs ws : List (Int × Int)) (o : Option ((Int × Int) × Nat)) (H : Hp) : Prop where
  same : Same H0 H
  look : LookAt H f fs
  row : ∃ ys, H l = some (.lst ys) ∧ Cells H ys ws
  df : DF cs a fs ws o
  f0 : H0 f = none
  l0 : H0 l = none
theorem DH.ne {H0 H : Hp} {cs fs ws : List (Int × Int)} {a : Int × Int} {f l : Addr} {o : Option ((Int × Int) × Nat)} (h : DH H0 cs a f l fs ws o H) : f ≠ l := by
  rintro rfl
  obtain ⟨kvs, h1, _⟩ := h.look
  obtain ⟨ys, h2, _⟩ := h.row
  rw [h1] at h2
  cases h2
theorem DH.go {H0 H H' : Hp} {cs fs ws : List (Int × Int)} {a : Int × Int} {f l : Addr} {o : Option ((Int × Int) × Nat)} (h : DH H0 cs a f l fs ws o H) (s : Same H H') : DH H0 cs a f l fs ws o H' := by
  obtain ⟨h1, h2, ⟨ys, h3, h4⟩, h5, h6, h7⟩ := h
  exact ⟨h1.trans s, h2.same s, ⟨ys, s _ _ h3, h4.mono s.tups⟩, h5, h6, h7⟩
theorem DH.keep {H0 H : Hp} {cs fs ws : List (Int × Int)} {a : Int × Int} {f l : Addr} {o : Option ((Int × Int) × Nat)} (h : DH H0 cs a f l fs ws o H) {e : Addr} {xs : List V} (he : H e = some (.tup xs)) : e ≠ f ∧ e ≠ l := by
  obtain ⟨kvs, h1, _⟩ := h.look
  obtain ⟨ys, h2, _⟩ := h.row
  exact ⟨fun z => (by rw [z, h1] at he; cases he), fun z => (by rw [z, h2] at he; cases he)⟩
theorem DH.pop {H0 H : Hp} {cs fs ws : List (Int × Int)} {a c : Int × Int} {f l : Addr} {ys : List V} (h : DH H0 cs a f l fs (ws ++ [c]) none H) (hC : Cells H ys ws) : DH H0 cs a f l fs ws (some (c, 0)) (upd H l (.lst ys)) := by
  have hn := h.ne
  have hk := @DH.keep H0 H cs fs (ws ++ [c]) a f l none h
  obtain ⟨h1, ⟨kvs, h2, h2'⟩, _, h5, h6, h7⟩ := h
  refine ⟨fun b o e => ?_, ⟨kvs, (upd_ne hn).trans h2, h2'⟩, ⟨ys, upd_same, hC.mono fun b xs eb => (upd_ne (hk eb).2).trans eb⟩, h5.pop, h6, h7⟩
  rw [upd_ne (ne_of_none e h7)]
  exact h1 b o e
theorem DH.put {H0 H : Hp} {cs fs ws : List (Int × Int)} {a c : Int × Int} {f l b : Addr} {ys : List V} {kvs : List (List Key × V)} {i : Nat} {v : V} (h : DH H0 cs a f l fs ws (some (c, i)) H) (hi : i < (arL c).length) (hs : (arL c)[i] ∈ cs) (hn : (arL c)[i] ∉ fs)
    (hk : H f = some (.dT kvs)) (hkk : kvs.map (·.1) = fs.map kC) (hC : Cells H ys ws) (hb : H b = some (.tup [.int (arL c)[i].1, .int (arL c)[i].2])) :
    DH H0 cs a f l (fs ++ [(arL c)[i]]) (ws ++ [(arL c)[i]]) (some (c, i + 1)) (upd (upd H f (.dT (putK kvs (kC (arL c)[i]) v))) l (.lst (ys ++ [.ref b]))) := by
  have hne := h.ne
  have hkp := @DH.keep H0 H cs fs ws a f l _ h
  obtain ⟨h1, _, _, h5, h6, h7⟩ := h
  have ku : ∀ e xs, H e = some (.tup xs) → upd (upd H f (.dT (putK kvs (kC (arL c)[i]) v))) l (.lst (ys ++ [.ref b])) e = some (.tup xs) := fun e xs ee => by
    rw [upd_ne (hkp ee).2, upd_ne (hkp ee).1]
    exact ee
  refine ⟨fun b o e => ?_, ⟨_, (upd_ne hne).trans upd_same, ?_⟩, ⟨_, upd_same, (hC.mono ku).snoc (ku _ _ hb)⟩, h5.put hi hs hn, h6, h7⟩
  · rw [upd_ne (ne_of_none e h7), upd_ne (ne_of_none e h6)]
    exact h1 b o e
  · rw [keysT_new _ (by rw [hkk, kCmem]; exact hn), hkk, List.map_append]
    rfl
theorem DH.skip {H0 H : Hp} {cs fs ws : List (Int × Int)} {a c : Int × Int} {f l : Addr} {i : Nat} (h : DH H0 cs a f l fs ws (some (c, i)) H) (hi : i < (arL c).length) (hs : (arL c)[i] ∈ cs → (arL c)[i] ∈ fs) : DH H0 cs a f l fs ws (some (c, i + 1)) H := ⟨h.same, h.look, h.row, h.df.skip hi hs, h.f0, h.l0⟩
section
variable {P : Program} {w : World} {K : PySem.W.Frag} {mg : Str → Option Value} {base : Heap}
theorem scReached : FnScope ["free", "start", "found", "waiting", "cell"] ["free", "start"] (defScope sReached) := ⟨rfl, rfl, rfl, by decide +kernel, rfl, by decide +kernel, by decide +kernel⟩
set_option maxHeartbeats 4000000 in
theorem ok_reached {f fA : Addr} {fd fdA : FuncData} (F : Fun K "reached" "reached" sReached f fd) (T : Txt mg) (FA : Fun K "around" "around" sAround fA fdA) (bA : Binds K fdA ["cell"] []) (mA : mg "around" = some (.ref fA)) :
    FnOk P w K mg base CX0 2 f fd ["free", "start"] spReached := by
  have GA : FnOk P w K mg base CX0 1 fA fdA ["cell"] spAround := ok_around FA
  refine F.ok scReached (fun vs H Q E h => ?_) (fun cdv A outer s H vs Q E hr h => ?_)
  · obtain ⟨d, b, cs, a, rfl, _⟩ := h
    rfl
  · obtain ⟨d, b, cs, a, rfl, hd, hL, hB, hb, ha, q⟩ := h
    have nd := scReached.nd
    refine ⟨_, pss_cons (ps_set (i := 2) nd rfl (Or.inl rfl) (pe_disp1T (hu2 hr) (pv 1) pe_bl))
      (pss_cons (ps_set (i := 3) nd rfl (Or.inl rfl) (pe_lst (pa_cons (pv 1) pa_nil)))
      (pss_cons (ps_while PassesOwn.never (pt_truth (pv 3) (fun _ => rfl))
        (pss_one (ps_for PassesOwn.never rfl (pi_list (pe_call GA hr rfl mA FA.kp bA .nil pass0 (pa_cons (pe_bm0 PySem.F.plainAttrs_list PySem.F.slot_list_pop PySem.F.type_list_pop mt_pop (pv 3)) pa_nil))) (pg_name (i := 4) nd rfl (Or.inl rfl))
          (pss_one (ps_if (PW.pt (pw_and (pt_cmp (pc_din (hu1 hr) (pv 4) (pv 0))) (pw_and1 (pt_cmp (pc_dnotin (hu1 hr) (pv 4) (pv 2))))))
            (pss_cons (ps_dput (hu1 hr) (pv 2) (pv 4) pe_bl rfl) (pss_one (ps_expr (pe_bm PySem.F.plainAttrs_list PySem.F.slot_list_append PySem.F.type_list_append mt_append (pv 3) (pa_cons (pv 4) pa_nil))))) pss_nil)))))
      (pss_one (ps_ret (pe_callTy call_tuple_of rfl T.tuple boot_tuple (pa_cons (pe_callB (call_sortedT rfl) (by rfl) T.sorted boot_sorted' (pa_cons (pv 2) pa_nil)) pa_nil)))))), ?_⟩
    intro fo hfo
    refine ⟨_, rfl, b, a, rfl, keepU hb hfo, upd_same, ?_⟩
    have s1 : Same H (upd (upd H fo (.dT [])) fo (.dT (putK [] (kC a) (.bl true)))) := fun e o ee => by
      rw [upd_ne (ne_of_none ee hfo), upd_ne (ne_of_none ee hfo)]
      exact ee
    have hf1 : upd (upd H fo (.dT [])) fo (.dT (putK [] (kC a) (.bl true))) fo = some (.dT (putK [] (kC a) (.bl true))) := upd_same
    generalize upd (upd H fo (.dT [])) fo (.dT (putK [] (kC a) (.bl true))) = H1 at s1 hf1 ⊢
    refine ⟨_, rfl, (by show 1 ≤ sizeLine; decide), fun l hl => ?_⟩
    have l0 : H l = none := by
      cases e : H l with
      | none => rfl
      | some o => rw [s1 l o e] at hl; cases hl
    have dh0 : DH H cs a fo l [a] [a] none (upd H1 l (.lst [.ref b])) := by
      refine ⟨s1.upd hl, ⟨_, keepU hf1 hl, rfl⟩, ⟨_, upd_same, .cons ⟨b, rfl, keepU (s1 _ _ hb) hl⟩ .nil⟩, ⟨List.pairwise_singleton _ _, fun c hc => ?_, fun c hc => ?_, .head _, fun c hc => hc, fun c hc hw => absurd hc hw, fun p e => by cases e⟩, hfo, l0⟩
      · rw [List.mem_singleton.mp hc]
        exact .refl
      · rw [List.mem_singleton.mp hc]
        exact ha
    refine ⟨fun m σ H' => ∃ fs ws o4, m = (cs.length - fs.length) + ws.length ∧ ws.length ≤ fs.length ∧ σ = [some (.ref d), some (.ref b), some (.ref fo), some (.ref l), o4] ∧ DH H cs a fo l fs ws none H', ⟨_, [a], [a], none, rfl, Nat.le_refl _, rfl, dh0⟩, ?_⟩
    clear dh0 hl hf1 s1
    rintro m σ H2 ⟨fs, ws, o4, rfl, hle, rfl, h2⟩
    obtain ⟨ys, hy, hC⟩ := h2.row
    have ly := hC.length
    have lfs := len_sub h2.df.nd h2.df.inc
    refine ⟨_, rfl, !ys.isEmpty, .inl ⟨ys, SqL.of hy, rfl⟩, ?_⟩
    rcases List.eq_nil_or_concat ws with rfl | ⟨ws', c, rfl⟩
    · have ye : ys = [] := List.eq_nil_of_length_eq_zero ly
      subst ye
      refine iteF ?_
      obtain ⟨kvs, hk1, hk2⟩ := h2.look
      refine ⟨_, rfl, fo, kvs, fs, rfl, hk1, hk2, (fun c hc => hB c (h2.df.inc c hc)), .inl (by omega), by omega, fun p2 ys2 cs2 hp2 hC2 hpm hpw => ⟨p2, ys2, rfl, .inl ⟨SqL.of upd_same, fun tp htp => ?_⟩⟩⟩
      refine q tp ys2 cs2 _ (h2.same.trans (((Same.refl H2).upd hp2).upd htp)) ?_ upd_same (hC2.mono fun e xs ee => keepU (keepU ee hp2) htp) hpw (fun c => (hpm.mem_iff).trans (h2.df.done c)) (fun c hc => h2.df.inc c (hpm.mem_iff.mp hc))
      cases e : H tp with
      | none => rfl
      | some o => rw [((h2.same.trans ((Same.refl H2).upd hp2))) tp o e] at htp; cases htp
    · rw [List.concat_eq_append] at hC h2 hle ⊢
      rw [List.length_append, List.length_singleton] at hle
      obtain ⟨ys', e, rfl, hC', he⟩ := unsnoc hC
      rw [show (!(ys' ++ [V.ref e]).isEmpty) = true by simp]
      refine iteT ?_
      refine ⟨fun σ' H' => ∃ fs' ws2 o4', ws2.length + fs.length = ws'.length + fs'.length ∧ σ' = [some (.ref d), some (.ref b), some (.ref fo), some (.ref l), o4'] ∧ DH H cs a fo l fs' ws2 none H', fun σ' H' ⟨fs', ws2, o4', e1, e2, e3⟩ => ⟨(cs.length - fs'.length) + ws2.length, (by
        have := len_sub e3.df.nd e3.df.inc
        rw [List.length_append, List.length_singleton]
        omega), fs', ws2, o4', rfl, (by omega), e2, e3⟩, ?_⟩
      have h3 := h2.pop hC'
      have hel := (h2.keep he).2
      refine ⟨_, rfl, .inl ⟨rfl, _, SqL.of hy⟩, l, _, .ref e, rfl, rfl, hy, by simp, ?_⟩
      rw [List.dropLast_concat]
      have he3 : upd H2 l (.lst ys') e = some (.tup [.int c.1, .int c.2]) := (upd_ne hel).trans he
      generalize upd H2 l (.lst ys') = H3 at h3 he3 ⊢
      refine ⟨e, c, rfl, he3, fun al zs H4 s4 hal fal hA => ⟨al, rfl, ⟨zs, SqL.of hal⟩, ?_⟩⟩
      have nal : al ≠ fo := by
        obtain ⟨kvs, z, _⟩ := h3.look
        exact (ne_of_none z fal).symm
      have nall : al ≠ l := by
        obtain ⟨ys, z, _⟩ := h3.row
        exact (ne_of_none z fal).symm
      refine for_list (K := K) (a := al) (xs := zs) (fun i σ H5 => ∃ fs' ws2 o4', ws2.length + fs.length = ws'.length + fs'.length ∧ σ = [some (.ref d), some (.ref b), some (.ref fo), some (.ref l), o4'] ∧ DH H cs a fo l fs' ws2 (some (c, i)) H5 ∧ H5 al = some (.lst zs) ∧ Cells H5 zs (arL c))
        ⟨fs, ws', o4, by omega, rfl, h3.go s4, hal, hA⟩ (fun i σ H5 _ ⟨_, _, _, _, _, _, z, _⟩ => SqL.of z) ?_ ?_
      · rintro i x σ H5 hx ⟨fs', ws2, o4', e1, rfl, h5, hal5, hA5⟩
        have hi : i < (arL c).length := by rw [← hA5.length]; exact (List.getElem?_eq_some_iff.mp hx).1
        obtain ⟨t, ht, htc⟩ := hA5.get (i := i) (c := (arL c)[i]) (by simp [hi])
        rw [hx] at ht
        cases ht
        obtain ⟨o, g1, g2⟩ := (hd.same h5.same).get htc
        obtain ⟨o', g1', g2'⟩ := h5.look.get htc
        have lfs' := len_sub h5.df.nd h5.df.inc
        refine ⟨_, rfl, _, rfl, d, o, rfl, g1, _, rfl, ?_⟩
        rw [g2]
        refine ite2 (fun hin => ?_) (fun hin => ?_)
        · refine ⟨_, rfl, _, rfl, fo, o', rfl, g1', _, rfl, ?_⟩
          rw [g2']
          by_cases hf : (arL c)[i] ∈ fs'
          · rw [decide_eq_true hf]
            refine iteF ?_
            exact ⟨fs', ws2, _, e1, rfl, h5.skip hi (fun _ => hf), hal5, hA5⟩
          · rw [decide_eq_false hf]
            refine iteT ?_
            obtain ⟨kvs, hk1, hk2⟩ := h5.look
            obtain ⟨ys5, hy5, hC5⟩ := h5.row
            have lk : kvs.length = fs'.length := by
              have := congrArg List.length hk2
              rwa [List.length_map, List.length_map] at this
            refine ⟨_, rfl, _, rfl, fo, _, rfl, DPut.t (k := kC (arL c)[i]) hk1 htc (by rw [lk]; exact Nat.lt_of_le_of_lt (show fs'.length ≤ 1000 by omega) (by decide)), ?_⟩
            have hy6 : upd H5 fo (.dT (putK kvs (kC (arL c)[i]) (.bl true))) l = some (.lst ys5) := (upd_ne (Ne.symm h5.ne)).trans hy5
            refine ⟨_, rfl, .inl ⟨rfl, _, SqL.of hy6⟩, _, rfl, l, ys5, _, rfl, rfl, hy6, ?_, ?_⟩
            · rw [hC5.length]
              exact Nat.lt_of_le_of_lt (show ws2.length ≤ 1000 by omega) (by decide)
            · exact ⟨_, _, _, (by rw [List.length_append, List.length_append]; omega), rfl, h5.put hi (of_decide_eq_true hin) hf hk1 hk2 hC5 htc, (upd_ne nall).trans ((upd_ne nal).trans hal5), hA5.mono fun e xs ee => (upd_ne (h5.keep ee).2).trans ((upd_ne (h5.keep ee).1).trans ee)⟩
        · exact ⟨fs', ws2, _, e1, rfl, h5.skip hi (fun z => absurd (decide_eq_true z) hin), hal5, hA5⟩
      · rintro σ H5 ⟨fs', ws2, o4', e1, rfl, h5, hal5, hA5⟩
        rw [hA5.length] at h5
        exact ⟨fs', ws2, o4', e1, rfl, ⟨h5.same, h5.look, h5.row, h5.df.end', h5.f0, h5.l0⟩⟩
end
end K4
set_option Elab.async false
set_option linter.all false
set_option maxRecDepth 100000
namespace K4
open PySem L2 PyProof.Rows
def HandAt (H : Hp) (l : Addr) (d m t : Int) : Prop := H l = some (.lst [.int d, .int m, .int t]) ∧ 0 ≤ d ∧ 0 ≤ m ∧ m < 2 ^ 62 ∧ 0 ≤ t ∧ t ≤ 100000
def spHand (K : PySem.W.Frag) : Sp := fun vs H Q _ => ∃ (a : Addr) (ns : List Int) (k : Nat), vs = [.ref a, .int k] ∧ SqL K H a (ns.map V.int) ∧ ns.length ≤ 63 ∧ k ≤ 20 ∧
  ∀ l d m, H l = none → HandAt (upd H l (.lst [.int d, .int m, .int 0])) l d m 0 → Q (.ref l) (upd H l (.lst [.int d, .int m, .int 0]))
def spTake : Sp := fun vs H Q _ => ∃ l d m t n, vs = [.ref l, .int n] ∧ HandAt H l d m t ∧ t < 100000 ∧ 0 < n ∧ n < 1000000 ∧
  ∀ r d' t', 0 ≤ r → r < n → t ≤ t' → t' ≤ t + 1 → HandAt (upd H l (.lst [.int d', .int m, .int t'])) l d' m t' → Q (.int r) (upd H l (.lst [.int d', .int m, .int t']))
def spOf (K : PySem.W.Frag) : Sp := fun vs H Q _ => ∃ l d m t b xs, vs = [.ref l, .ref b] ∧ HandAt H l d m t ∧ t < 100000 ∧ H b = some (.lst xs) ∧ b ≠ l ∧ xs ≠ [] ∧ xs.length < 1000000 ∧
  ∀ (r : Nat) v d' t', xs[r]? = some v → t ≤ t' → t' ≤ t + 1 → HandAt (upd H l (.lst [.int d', .int m, .int t'])) l d' m t' → Q v (upd H l (.lst [.int d', .int m, .int t']))
section
variable {P : Program} {w : World} {K : PySem.W.Frag} {mg : Str → Option Value} {base : Heap}
theorem scHand : FnScope ["_law_script", "_law_k", "_law_cell", "_law_bound", "_law_digits"] ["_law_script", "_law_k"] (defScope sHand) := ⟨rfl, rfl, rfl, by decide +kernel, rfl, by decide +kernel, by decide +kernel⟩
theorem ok_hand {f : Addr} {fd : FuncData} (F : Fun K "_law_hand" "_law_hand" sHand f fd) (T : Txt mg) : FnOk P w K mg base CX0 1 f fd ["_law_script", "_law_k"] (spHand K) := by
  refine F.ok scHand (fun vs H Q E h => ?_) (fun cdv A outer s H vs Q E hr h => ?_)
  · obtain ⟨a, ns, k, rfl, _⟩ := h
    rfl
  · obtain ⟨a, ns, k, rfl, ha, hn, hk, q⟩ := h
    have nd := scHand.nd
    refine ⟨_, pss_cons (ps_set (i := 2) nd rfl (Or.inl rfl) pe_int)
      (pss_cons (ps_if (pt_cmpR op_lt (pv 1) (pe_callB call_len_seq (by rfl) T.len PySem.boot_len (pa_cons (pv 0) pa_nil)) (nomark _)) (pss_one (ps_set (i := 2) nd rfl (Or.inl rfl) (pe_ix ix_list (pv 0) (pv 1) (fun _ _ => rfl)))) pss_nil)
      (pss_cons (ps_set (i := 3) nd rfl (Or.inl rfl) (pe_op op_mulC (pe_op op_mulC (pe_op op_pow pe_int pe_int) (pe_op op_pow pe_int pe_int)) (pe_op op_pow pe_int pe_int)))
      (pss_cons (ps_set (i := 4) nd rfl (Or.inl rfl) (pe_op op_mul (pe_op op_mod (pv 2) (pv 3)) (pe_callTy call_int1 rfl T.int boot_int (pa_cons (pe_cmpR op_ge (pv 2) (pe_op op_pow pe_int pe_int) (nomark _)) pa_nil))))
      (pss_one (ps_ret (pe_lst (pa_cons (pv 4) (pa_cons (pe_op op_add (pe_op op_add (pe_op op_mod (pv 2) pe_int) (pe_op op_mul pe_int (pv 1))) pe_int) (pa_cons pe_int pa_nil))))))))), ?_⟩
    have cp60 : CPow 10 60 := ⟨by decide, by decide, by decide⟩
    have cp18 : CPow 10 18 := ⟨by decide, by decide, by decide⟩
    have bp : (0 : Int) < 10 ^ (60 : Int).toNat * 10 ^ (60 : Int).toNat * 10 ^ (60 : Int).toNat := by decide +kernel
    have fin : ∀ (c : Int), HandAt (upd H 0 (.lst [])) 0 0 0 0 ∨ (0 ≤ c % (10 ^ (60 : Int).toNat * 10 ^ (60 : Int).toNat * 10 ^ (60 : Int).toNat) * (if decide ((10 : Int) ^ (18 : Int).toNat ≤ c) then 1 else 0) ∧
        0 ≤ c % 2305843009213693951 + 7919 * (k : Int) + 3 ∧ c % 2305843009213693951 + 7919 * (k : Int) + 3 < 2 ^ 62) := fun c => by
      right
      have h1 := Int.emod_nonneg c (show (2305843009213693951 : Int) ≠ 0 by decide)
      have h2 := Int.emod_lt_of_pos c (show (0 : Int) < 2305843009213693951 by decide)
      generalize (10 : Int) ^ (60 : Int).toNat * 10 ^ (60 : Int).toNat * 10 ^ (60 : Int).toNat = bnd at bp ⊢
      have h3 := Int.emod_nonneg c (show bnd ≠ 0 by omega)
      refine ⟨?_, by omega, by omega⟩
      split <;> omega
    refine ⟨_, rfl, _, rfl, a, _, rfl, .inl ha, _, _, rfl, rfl, _, rfl, ?_⟩
    have lm : (ns.map V.int).length = ns.length := List.length_map _
    refine ite2 (fun hlt => ?_) (fun hlt => ?_)
    · have hlt : k < ns.length := by
        have := of_decide_eq_true hlt
        rw [lm] at this
        omega
      refine ⟨_, rfl, _, rfl, a, _, (k : Int), V.int ns[k], rfl, rfl, ha, atI_nat (by simp [hlt]), ?_⟩
      refine ⟨10, 60, rfl, rfl, cp60, 10, 60, rfl, rfl, cp60, _, _, rfl, rfl, mulok1, 10, 60, rfl, rfl, cp60, _, _, rfl, rfl, mulok2, ?_⟩
      refine ⟨_, rfl, _, rfl, _, _, rfl, rfl, bp, _, rfl, 10, 18, rfl, rfl, cp18, _, _, rfl, rfl, .inr ⟨_, rfl, _, _, rfl, rfl, .inr ⟨by split <;> decide, by split <;> decide⟩, ?_⟩⟩
      refine ⟨_, rfl, _, rfl, _, _, rfl, rfl, (by show (0 : Int) < 2305843009213693951; decide), _, rfl, _, _, rfl, rfl, .inl ⟨by decide, by decide⟩, _, _, rfl, rfl, _, _, rfl, rfl, (by show 3 ≤ sizeLine; decide), fun l fl => q l _ _ fl ?_⟩
      obtain ⟨h1, h2, h3⟩ := (fin ns[k]).resolve_left fun ⟨e, _⟩ => by rw [upd_same] at e; cases e
      exact ⟨upd_same, h1, h2, h3, Int.le_refl _, by decide⟩
    · refine ⟨10, 60, rfl, rfl, cp60, 10, 60, rfl, rfl, cp60, _, _, rfl, rfl, mulok1, 10, 60, rfl, rfl, cp60, _, _, rfl, rfl, mulok2, ?_⟩
      refine ⟨_, rfl, _, rfl, _, _, rfl, rfl, bp, _, rfl, 10, 18, rfl, rfl, cp18, _, _, rfl, rfl, .inr ⟨_, rfl, _, _, rfl, rfl, .inr ⟨by split <;> decide, by split <;> decide⟩, ?_⟩⟩
      refine ⟨_, rfl, _, rfl, _, _, rfl, rfl, (by show (0 : Int) < 2305843009213693951; decide), _, rfl, _, _, rfl, rfl, .inl ⟨by decide, by decide⟩, _, _, rfl, rfl, _, _, rfl, rfl, (by show 3 ≤ sizeLine; decide), fun l fl => q l _ _ fl ?_⟩
      obtain ⟨h1, h2, h3⟩ := (fin 0).resolve_left fun ⟨e, _⟩ => by rw [upd_same] at e; cases e
      exact ⟨upd_same, h1, h2, h3, Int.le_refl _, by decide⟩
theorem scTake : FnScope ["_law_hand_here", "_law_many", "_law_digit", "_law_turn", "_law_mixed", "_law_odd"] ["_law_hand_here", "_law_many"] (defScope sTake) := ⟨rfl, rfl, rfl, by decide +kernel, rfl, by decide +kernel, by decide +kernel⟩
theorem ok_take {f : Addr} {fd : FuncData} (F : Fun K "_law_take" "_law_take" sTake f fd) : FnOk P w K mg base CX0 1 f fd ["_law_hand_here", "_law_many"] spTake := by
  refine F.ok scTake (fun vs H Q E h => ?_) (fun cdv A outer s H vs Q E hr h => ?_)
  · obtain ⟨l, d, m, t, n, rfl, _⟩ := h
    rfl
  · obtain ⟨l, d, m, t, n, rfl, ⟨hl, d0, m0, m1, t0, t1⟩, ht, n0, n1, q⟩ := h
    have nd := scTake.nd
    refine ⟨_, pss_cons (ps_if (pt_cmpR op_gt (pe_ix ix_list (pv 0) pe_int (fun _ _ => rfl)) pe_int (nomark _))
        (pss_cons (ps_set (i := 2) nd rfl (Or.inl rfl) (pe_op op_mod (pe_ix ix_list (pv 0) pe_int (fun _ _ => rfl)) (pv 1)))
          (pss_cons (ps_asg (pe_op op_fdiv (pe_ix ix_list (pv 0) pe_int (fun _ _ => rfl)) (pv 1)) (pg_sub (pv 0) pe_int set_list)) (pss_one (ps_ret (pv 2))))) pss_nil)
      (pss_cons (ps_asg (pe_op op_add (pe_ix ix_list (pv 0) pe_int (fun _ _ => rfl)) pe_int) (pg_sub (pv 0) pe_int set_list))
      (pss_cons (ps_set (i := 3) nd rfl (Or.inl rfl) (pe_ix ix_list (pv 0) pe_int (fun _ _ => rfl)))
      (pss_cons (ps_set (i := 4) nd rfl (Or.inl rfl) (pe_op op_mod (pe_op op_mul (pe_ix ix_list (pv 0) pe_int (fun _ _ => rfl)) (pe_op op_add (pe_op op_add pe_int (pe_op op_mul (pe_op op_mul pe_int (pv 3)) (pv 3))) (pe_op op_mul pe_int (pv 3)))) pe_int))
      (pss_cons (ps_set (i := 5) nd rfl (Or.inl rfl) (pe_op op_add (pe_op op_add (pe_op op_mod (pv 4) pe_int) (pe_op op_mul (pv 3) pe_int)) pe_int))
      (pss_cons (ps_set (i := 4) nd rfl (Or.inl rfl) (pe_op op_mod (pe_op op_mul (pv 4) (pv 5)) pe_int))
      (pss_one (ps_ret (pe_op op_mod (pe_op op_add (pe_op op_fdiv (pv 4) pe_int) (pe_op op_fdiv (pv 4) pe_int)) (pv 1))))))))), ?_⟩
    refine ⟨_, rfl, l, _, 0, _, rfl, rfl, SqL.of hl, rfl, _, _, rfl, rfl, _, rfl, ?_⟩
    refine ite2 (fun hp => ?_) (fun hp => ?_)
    · have hp : 0 < d := of_decide_eq_true hp
      refine ⟨_, rfl, l, _, 0, _, rfl, rfl, SqL.of hl, rfl, _, rfl, _, _, rfl, rfl, n0, ?_⟩
      refine ⟨_, rfl, l, _, 0, _, rfl, rfl, SqL.of hl, rfl, _, rfl, _, _, rfl, rfl, ⟨n0, by omega⟩, _, rfl, l, _, 0, 0, rfl, rfl, hl, rfl, ?_⟩
      refine ⟨_, rfl, ?_⟩
      exact q (d % n) (d / n) t (Int.emod_nonneg _ (by omega)) (Int.emod_lt_of_pos _ n0) (Int.le_refl _) (by omega) ⟨upd_same, Int.ediv_nonneg d0 (by omega), m0, m1, t0, t1⟩
    · have hl' : upd H l (.lst [.int d, .int m, .int (t + 1)]) l = some (.lst [.int d, .int m, .int (t + 1)]) := upd_same
      refine ⟨_, rfl, l, _, 2, _, rfl, rfl, SqL.of hl, rfl, _, _, rfl, rfl, _, rfl, l, _, 2, 2, rfl, rfl, hl, rfl, ?_⟩
      refine ⟨_, rfl, l, _, 2, V.int (t + 1), rfl, rfl, SqL.of hl', rfl, ?_⟩
      refine ⟨_, rfl, l, _, 1, V.int m, rfl, rfl, SqL.of hl', rfl, _, rfl, _, _, rfl, rfl, .inl ⟨by decide, by decide⟩, _, rfl, _, _, rfl, rfl, .inl ⟨by omega, by omega⟩, _, _, rfl, rfl, _, rfl, _, _, rfl, rfl, .inl ⟨by decide, by decide⟩, _, _, rfl, rfl, _, _, rfl, rfl, .inl ⟨by omega, by omega⟩, _, _, rfl, rfl, (by show (0 : Int) < 2305843009213693921; decide), ?_⟩
      generalize m * (48271 + 2 * (t + 1) * (t + 1) + 65537 * (t + 1)) = g1
      have h1 := Int.emod_nonneg g1 (show (2305843009213693921 : Int) ≠ 0 by decide)
      have h2 := Int.emod_lt_of_pos g1 (show (0 : Int) < 2305843009213693921 by decide)
      refine ⟨_, rfl, _, _, rfl, rfl, (by show (0 : Int) < 1000003; decide), _, rfl, _, _, rfl, rfl, .inl ⟨by omega, by omega⟩, _, _, rfl, rfl, _, _, rfl, rfl, ?_⟩
      refine ⟨_, rfl, _, rfl, _, _, rfl, rfl, .inl ⟨by omega, by omega⟩, _, _, rfl, rfl, (by show (0 : Int) < 2305843009213693907; decide), ?_⟩
      refine ⟨_, rfl, _, _, rfl, rfl, ⟨by decide, by decide⟩, _, rfl, _, _, rfl, rfl, ⟨by decide, by decide⟩, _, _, rfl, rfl, _, rfl, _, _, rfl, rfl, n0, ?_⟩
      exact q _ d (t + 1) (Int.emod_nonneg _ (by omega)) (Int.emod_lt_of_pos _ n0) (by omega) (Int.le_refl _) ⟨upd_same, d0, m0, m1, by omega, by omega⟩
theorem scOf : FnScope ["_law_hand_here", "_law_some"] ["_law_hand_here", "_law_some"] (defScope sOf) := ⟨rfl, rfl, rfl, by decide +kernel, rfl, by decide +kernel, by decide +kernel⟩
theorem ok_of {f fT : Addr} {fd fdT : FuncData} (F : Fun K "_law_of" "_law_of" sOf f fd) (T : Txt mg) (FT : Fun K "_law_take" "_law_take" sTake fT fdT) (bT : Binds K fdT ["_law_hand_here", "_law_many"] []) (mT : mg "_law_take" = some (.ref fT)) :
    FnOk P w K mg base CX0 2 f fd ["_law_hand_here", "_law_some"] (spOf K) := by
  have GT : FnOk P w K mg base CX0 1 fT fdT ["_law_hand_here", "_law_many"] spTake := ok_take FT
  refine F.ok scOf (fun vs H Q E h => ?_) (fun cdv A outer s H vs Q E hr h => ?_)
  · obtain ⟨l, d, m, t, b, xs, rfl, _⟩ := h
    rfl
  · obtain ⟨l, d, m, t, b, xs, rfl, hA, ht, hb, nbl, hne, hlen, q⟩ := h
    have hr1 : Room 1 _ := hr
    refine ⟨_, pss_one (ps_ret (pe_ix ix_list (pv 1) (pe_call GT hr1 rfl mT FT.kp bT .nil pass0 (pa_cons (pv 0) (pa_cons (pe_callB call_len_seq (by rfl) T.len PySem.boot_len (pa_cons (pv 1) pa_nil)) pa_nil))) (fun _ _ => rfl))), ?_⟩
    have hpos : 0 < xs.length := List.length_pos_iff.mpr hne
    refine ⟨_, rfl, _, rfl, _, rfl, b, _, rfl, .inl (SqL.of hb), l, d, m, t, _, rfl, hA, ht, by omega, by omega, fun r d' t' r0 r1 t0 t1 hA' => ?_⟩
    obtain ⟨j, rfl⟩ := Int.eq_ofNat_of_zero_le r0
    have hj : j < xs.length := by omega
    exact ⟨b, xs, (j : Int), xs[j], rfl, rfl, SqL.of ((upd_ne nbl).trans hb), atI_nat (by simp [hj]), q j xs[j] d' t' (by simp [hj]) t0 t1 hA'⟩
end
end K4
set_option Elab.async false
set_option linter.all false
set_option maxRecDepth 100000
namespace K4
open PySem L2 PyProof.Rows
theorem keys_putK_old {kvs : List (List Key × V)} {k : List Key} (v : V) (h : k ∈ kvs.map (·.1)) : (putK kvs k v).map (·.1) = kvs.map (·.1) := by
  unfold putK
  obtain ⟨p, hp, e⟩ := List.mem_map.mp h
  rw [if_pos (by
    rw [List.any_eq_true]
    exact ⟨p, hp, decide_eq_true e⟩), List.map_map]
  apply List.map_congr_left
  intro q hq
  show (if q.1 = k then (q.1, v) else q).1 = q.1
  split <;> rfl
theorem keys_putK_new {kvs : List (List Key × V)} {k : List Key} (v : V) (h : ¬ k ∈ kvs.map (·.1)) : (putK kvs k v).map (·.1) = kvs.map (·.1) ++ [k] := by
  unfold putK
  rw [if_neg (by
    rw [List.any_eq_true]
    rintro ⟨p, hp, e⟩
    exact h (List.mem_map.mpr ⟨p, hp, of_decide_eq_true e⟩)), List.map_append]
  rfl
structure FI (H0 : Hp) (l dd : Addr) (m tb : Int) (cs : List (Int × Int)) (H' : Hp) : Prop where
  hand : ∃ d t, HandAt H' l d m t ∧ t ≤ tb
  keep : ∀ b o, H0 b = some o → b ≠ l → H' b = some o
  dict : ∃ kvs, H' dd = some (.dT kvs) ∧ kvs.map (·.1) = cs.map kC
  new : H0 dd = none
  ne : dd ≠ l
theorem FI.laid {H0 H' : Hp} {l dd p : Addr} {m tb : Int} {cs : List (Int × Int)} {o : HO} (h : FI H0 l dd m tb cs H') (hp : H' p = none) : FI H0 l dd m tb cs (upd H' p o) := by
  obtain ⟨⟨d, t, ⟨h1, h2⟩, ht⟩, h3, ⟨kvs, h4, h5⟩, h6, h7⟩ := h
  exact ⟨⟨d, t, ⟨keepU h1 hp, h2⟩, ht⟩, fun b u e n => keepU (h3 b u e n) hp, ⟨kvs, keepU h4 hp, h5⟩, h6, h7⟩
theorem FI.took {H0 H' : Hp} {l dd : Addr} {m tb d' t' : Int} {cs : List (Int × Int)} (h : FI H0 l dd m tb cs H') (ht : t' ≤ tb + 1) (hA : HandAt (upd H' l (.lst [.int d', .int m, .int t'])) l d' m t') :
    FI H0 l dd m (tb + 1) cs (upd H' l (.lst [.int d', .int m, .int t'])) := by
  obtain ⟨_, h3, ⟨kvs, h4, h5⟩, h6, h7⟩ := h
  exact ⟨⟨d', t', hA, ht⟩, fun b u e n => by rw [upd_ne n]; exact h3 b u e n, ⟨kvs, by rw [upd_ne h7]; exact h4, h5⟩, h6, h7⟩
theorem FI.mono {H0 H' : Hp} {l dd : Addr} {m tb tb' : Int} {cs : List (Int × Int)} (h : FI H0 l dd m tb cs H') (ht : tb ≤ tb') : FI H0 l dd m tb' cs H' := by
  obtain ⟨⟨d, t, h1, h2⟩, h3, h4, h6, h7⟩ := h
  exact ⟨⟨d, t, h1, by omega⟩, h3, h4, h6, h7⟩
theorem kC_mem {c : Int × Int} {cs : List (Int × Int)} : kC c ∈ cs.map kC ↔ c ∈ cs := by
  constructor
  · intro h
    obtain ⟨d, hd, e⟩ := List.mem_map.mp h
    rw [← kC_inj e]
    exact hd
  · exact fun h => List.mem_map.mpr ⟨c, h, rfl⟩
theorem FI.put {H0 H' : Hp} {l dd p : Addr} {m tb : Int} {cs : List (Int × Int)} {kvs : List (List Key × V)} {c : Int × Int} {v : V} (h : FI H0 l dd m tb cs H') (hk : H' dd = some (.dT kvs)) :
    FI H0 l dd m tb (if c ∈ cs then cs else cs ++ [c]) (upd H' dd (.dT (putK kvs (kC c) v))) := by
  obtain ⟨⟨d, t, ⟨h1, h2⟩, ht⟩, h3, ⟨kvs', h4, h5⟩, h6, h7⟩ := h
  rw [hk] at h4
  cases h4
  refine ⟨⟨d, t, ⟨(upd_ne (Ne.symm h7)).trans h1, h2⟩, ht⟩, fun b u e n => ?_, ⟨_, upd_same, ?_⟩, h6, h7⟩
  · rw [upd_ne (ne_of_none e h6)]
    exact h3 b u e n
  · by_cases hc : c ∈ cs
    · rw [if_pos hc, keys_putK_old v (by rw [h5]; exact kC_mem.mpr hc), h5]
    · rw [if_neg hc, keys_putK_new v (by rw [h5]; exact fun z => hc (kC_mem.mp z)), h5, List.map_append]
      rfl
def BD (cs : List (Int × Int)) : Prop := ∀ c ∈ cs, 0 ≤ c.1 ∧ c.1 ≤ 30 ∧ 0 ≤ c.2 ∧ c.2 ≤ 30
def spFloor : Sp := fun vs H Q _ => ∃ l d m t, vs = [.ref l] ∧ HandAt H l d m t ∧ t ≤ 1000 ∧
  ∀ p ys cs H' d' t', (∀ b o, H b = some o → b ≠ l → H' b = some o) → HandAt H' l d' m t' → t' ≤ t + 400 → H' p = some (.tup ys) → Cells H' ys cs → cs.Pairwise ltC → BD cs → cs.length ≤ 200 → Q (.ref p) H'
end K4
set_option Elab.async false
set_option linter.all false
set_option maxRecDepth 100000
namespace K4
open PySem L2 PyProof.Rows
def forBody (s : Stmt) : List Stmt := match s with
  | .For _ _ b _ _ => b
  | _ => []
abbrev NF : List Str := ["_law_hand_here", "_law_most", "_law_high", "_law_wide", "_law_top", "_law_side", "_law_way", "_law_cells", "_law_row", "_law_column", "_law_free", "_law_turn", "_law_down", "_law_right"]
abbrev sF (i : Nat) : Stmt := (defBody sFloor).getD i (.Pass ⟨0, 0, 0, 0⟩)
abbrev bIn : List Stmt := forBody ((forBody (sF 6)).getD 0 (.Pass ⟨0, 0, 0, 0⟩))
abbrev bWalk : List Stmt := forBody (sF 8)
def putC (cs : List (Int × Int)) (c : Int × Int) : List (Int × Int) := if c ∈ cs then cs else cs ++ [c]
section
variable {P : Program} {w : World} {K : PySem.W.Frag} {mg : Str → Option Value} {base : Heap} {f fT fO : Addr} {fd fdT fdO : FuncData} {cdv : Value} {A : Around} {outer : List Env} {s : Shared} {HH : Hp} {E : XK}
theorem scFloor : FnScope NF ["_law_hand_here"] (defScope sFloor) := ⟨rfl, rfl, rfl, by decide +kernel, rfl, by decide +kernel, by decide +kernel⟩
abbrev XF (P : Program) (w : World) (K : PySem.W.Frag) (mg : Str → Option Value) (base : Heap) (f : Addr) (cdv : Value) (A : Around) (outer : List Env) (s : Shared) (HH : Hp) (E : XK) : Cx := (cxOf CX0 P w K mg base NF "_law_floor" (defScope sFloor) f cdv A outer s HH E).nox
def FS (l dd : Addr) (most high wide top side way : Int) (o8 o9 o10 o11 o12 o13 : Option V) : L2.St := [some (.ref l), some (.int most), some (.int high), some (.int wide), some (.int top), some (.int side), some (.int way), some (.ref dd), o8, o9, o10, o11, o12, o13]
theorem menu (way : Nat) (b1 b2 b3 b4 b5 : Bool) (h : way ≤ 5) : ∃ c, (([.bl b1, .bl b2, .bl b3] ++ [.bl b4]) ++ [.bl b5, .bl false] : List V)[way]? = some (V.bl c) ∧ (way = 5 → c = false) := by
  have : way = 0 ∨ way = 1 ∨ way = 2 ∨ way = 3 ∨ way = 4 ∨ way = 5 := by omega
  rcases this with rfl | rfl | rfl | rfl | rfl | rfl
  · exact ⟨b1, rfl, by simp⟩
  · exact ⟨b2, rfl, by simp⟩
  · exact ⟨b3, rfl, by simp⟩
  · exact ⟨b4, rfl, by simp⟩
  · exact ⟨b5, rfl, by simp⟩
  · exact ⟨false, rfl, fun _ => rfl⟩
def tIn : TS := fun D σ H' => ∃ (H0 : Hp) (l dd : Addr) (m tb most high wide top side : Int) (way : Nat) (row col : Int) (cs : List (Int × Int)) (o10 o11 o12 o13 : Option V), σ = FS l dd most high wide top side way (some (.int row)) (some (.int col)) o10 o11 o12 o13 ∧
  FI H0 l dd m tb cs H' ∧ tb < 90000 ∧ 0 < wide ∧ way ≤ 5 ∧ cs.length ≤ 1000 ∧
  (∀ o H'', FI H0 l dd m (tb + 2) cs H'' → D.nx (FS l dd most high wide top side way (some (.int row)) (some (.int col)) o o11 o12 o13) H'') ∧
  (way ≠ 5 → ∀ o H'', FI H0 l dd m (tb + 2) (putC cs (row + top, col + side)) H'' → D.nx (FS l dd most high wide top side way (some (.int row)) (some (.int col)) o o11 o12 o13) H'')
set_option maxHeartbeats 4000000 in
theorem ps_in (T : Txt mg) (FT : Fun K "_law_take" "_law_take" sTake fT fdT) (bT : Binds K fdT ["_law_hand_here", "_law_many"] []) (mT : mg "_law_take" = some (.ref fT)) (hr : Room 2 (A.deeper (envOfC "_law_floor" (defScope sFloor) s.heap.objs.size f cdv))) :
    PSs (XF P w K mg base f cdv A outer s HH E) bIn tIn := by
  have GT : FnOk P w K mg base CX0 1 fT fdT ["_law_hand_here", "_law_many"] spTake := ok_take FT
  have nd := scFloor.nd
  have hu := hu_of hr
  have hr1 : Room 1 (XF P w K mg base f cdv A outer s HH E).A := hr.mono (by decide)
  refine pss_imp (pss_cons (ps_set (i := 10) nd rfl (Or.inl rfl) (pe_lst (pa_cons (pe_cmpR op_eq (pe_call GT hr1 rfl mT FT.kp bT .nil pass0 (pa_cons (pv 0) (pa_cons pe_int pa_nil))) pe_int (nomark _)) (pa_cons (pe_cmpR op_gt (pe_call GT hr1 rfl mT FT.kp bT .nil pass0 (pa_cons (pv 0) (pa_cons pe_int pa_nil))) pe_int (nomark _)) (pa_cons pe_bl pa_nil)))))
        (pss_cons (ps_expr (pe_bm PySem.F.plainAttrs_list PySem.F.slot_list_append PySem.F.type_list_append mt_append (pv 10) (pa_cons (pe_or (pe_cmpR op_eq (pe_op op_mod (pv 8) pe_int) pe_int (nomark _)) (pe_one (pe_cmpR op_eq (pv 9) (pe_op op_mod (pe_op op_fdiv (pv 8) pe_int) (pv 3)) (nomark _)))) pa_nil)))
        (pss_cons (ps_set (i := 10) nd rfl (Or.inl rfl) (pe_op op_cat (pv 10) (pe_lst (pa_cons (pe_or (pe_cmpR op_in_seq (pv 8) (pe_tup (pa_cons pe_int (pa_cons (pe_op op_sub (pv 2) pe_int) pa_nil))) rfl) (pe_one (pe_cmpR op_in_seq (pv 9) (pe_tup (pa_cons pe_int (pa_cons (pe_op op_sub (pv 3) pe_int) pa_nil))) rfl))) (pa_cons pe_bl pa_nil)))))
        (pss_one (ps_if (pt_val (pe_ix ix_list (pv 10) (pv 6) (fun _ _ => rfl))) (pss_one (ps_dput hu (pv 7) (pe_tup (pa_cons (pe_op op_add (pv 8) (pv 4)) (pa_cons (pe_op op_add (pv 9) (pv 5)) pa_nil))) pe_bl rfl)) pss_nil))))) ?_
  rintro D σ H' ⟨H0, l, dd, m, tb, most, high, wide, top, side, way, row, col, cs, o10, o11, o12, o13, rfl, fi, htb, hw, hway, hcs, q1, q2⟩
  obtain ⟨⟨d, t, hA, ht⟩, _⟩ := id fi
  refine ⟨_, rfl, l, d, m, t, 2, rfl, hA, by omega, by decide, by decide, fun r d1 t1 _ _ _ ht1 hA1 => ⟨rfl, ?_⟩⟩
  have f1 := fi.took (by omega) hA1
  refine ⟨_, rfl, l, d1, m, t1, 6, rfl, hA1, by omega, by decide, by decide, fun r2 d2 t2 _ _ _ ht2 hA2 => ⟨_, _, rfl, rfl, (by show 3 ≤ sizeLine; decide), fun fr hfr => ?_⟩⟩
  have f2 := f1.took (by omega) hA2
  have f3 := f2.laid (o := .lst [.bl (decide (V.int r = V.int 0)), .bl (decide (0 < r2)), .bl true]) hfr
  have z2 : 2 ≤ sizeLine := by decide
  -- what the cell's row and column say
  refine ⟨_, rfl, .inl ⟨rfl, _, SqL.of upd_same⟩, _, rfl, _, _, rfl, rfl, (by show (0 : Int) < 2; decide), rfl, _, rfl, ite2 (fun _ => ?_) (fun _ => ⟨_, rfl, _, rfl, _, _, rfl, rfl, ⟨by decide, by decide⟩, _, rfl, _, _, rfl, rfl, hw, rfl, ?_⟩)⟩
  all_goals
    refine ⟨fr, _, _, rfl, rfl, upd_same, (by show 3 < sizeLine; decide), ?_⟩
    rw [upd_upd]
    have f4 := fun (o : HO) => (f2.mono (tb' := tb + 2) (by omega)).laid (o := o) hfr
    refine ⟨_, rfl, _, rfl, _, rfl, _, _, rfl, rfl, z2, fun t1 ht1 => ⟨t1, _, rfl, .inr (SqT.of upd_same), rfl, rfl, _, rfl, ite2 (fun _ => ?_) (fun _ => ⟨_, rfl, _, rfl, _, _, rfl, rfl, z2, fun t2 ht2 => ⟨t2, _, rfl, .inr (SqT.of upd_same), rfl, rfl, ?_⟩⟩)⟩⟩
    all_goals
      refine ⟨z2, fun fr2 hfr2 => ⟨fr, fr2, _, _, rfl, rfl, keepU (by first | exact keepU (keepU upd_same ht1) ht2 | exact keepU upd_same ht1) hfr2, upd_same, (by show 6 ≤ sizeLine; decide), fun fr3 hfr3 => ?_⟩⟩
      obtain ⟨c, hc, h5⟩ := menu way _ _ _ _ _ hway
      refine ⟨_, rfl, _, rfl, fr3, _, (way : Int), V.bl c, rfl, rfl, SqL.of upd_same, atI_nat hc, c, rfl, ite2 (fun hct => ?_) (fun _ => ?_)⟩
      · have w5 : way ≠ 5 := fun e => by rw [h5 e] at hct; cases hct
        refine ⟨_, rfl, _, rfl, _, rfl, _, _, rfl, rfl, _, rfl, _, rfl, _, _, rfl, rfl, z2, fun kt hkt => ?_⟩
        have f9 : FI H0 l dd m (tb + 2) cs _ := FI.laid (o := .tup [.int (row + top), .int (col + side)]) (FI.laid (FI.laid (by first | exact ((f4 _).laid ht1).laid ht2 | exact (f4 _).laid ht1) hfr2) hfr3) hkt
        obtain ⟨kvs, g1, g2⟩ := f9.dict
        exact ⟨dd, _, rfl, DPut.t (k := kC (row + top, col + side)) g1 upd_same (by
          have : kvs.length = cs.length := by have := congrArg List.length g2; simpa using this
          exact Nat.lt_of_le_of_lt (by omega) (show 1000 < sizeLine by decide)), q2 w5 _ _ (f9.put (p := kt) g1)⟩
      · exact q1 _ _ (FI.laid (FI.laid (by first | exact ((f4 _).laid ht1).laid ht2 | exact (f4 _).laid ht1) hfr2) hfr3)
end
end K4
set_option Elab.async false
set_option linter.all false
set_option maxRecDepth 100000
namespace K4
open PySem L2 PyProof.Rows
section
variable {P : Program} {w : World} {K : PySem.W.Frag} {mg : Str → Option Value} {base : Heap} {f fT fO : Addr} {fd fdT fdO : FuncData} {cdv : Value} {A : Around} {outer : List Env} {s : Shared} {HH : Hp} {E : XK}
def tWalk : TS := fun D σ H' => ∃ (H0 : Hp) (l dd : Addr) (m tb most high wide top side : Int) (way : Nat) (row col : Int) (cs : List (Int × Int)) (o10 o11 o12 o13 : Option V), σ = FS l dd most high wide top side way (some (.int row)) (some (.int col)) o10 o11 o12 o13 ∧
  FI H0 l dd m tb cs H' ∧ tb < 90000 ∧ cs.length ≤ 900 ∧ 0 < high ∧ 0 < wide ∧
  ∀ row' col' o12' o13' H'', 0 ≤ row' → row' < high → 0 ≤ col' → col' < wide → FI H0 l dd m (tb + 1) (putC cs (row + top, col + side)) H'' → D.nx (FS l dd most high wide top side way (some (.int row')) (some (.int col')) o10 o11 o12' o13') H''
theorem clampB (n z : Int) (h : 0 < n) : 0 ≤ (if (if z > 0 then z else 0) < n - 1 then (if z > 0 then z else 0) else n - 1) ∧ (if (if z > 0 then z else 0) < n - 1 then (if z > 0 then z else 0) else n - 1) < n := by
  split <;> split <;> omega
set_option maxHeartbeats 4000000 in
theorem ps_walk (T : Txt mg) (FT : Fun K "_law_take" "_law_take" sTake fT fdT) (bT : Binds K fdT ["_law_hand_here", "_law_many"] []) (mT : mg "_law_take" = some (.ref fT))
    (FO : Fun K "_law_of" "_law_of" sOf fO fdO) (bO : Binds K fdO ["_law_hand_here", "_law_some"] []) (mO : mg "_law_of" = some (.ref fO)) (hr : Room 2 (A.deeper (envOfC "_law_floor" (defScope sFloor) s.heap.objs.size f cdv))) :
    PSs (XF P w K mg base f cdv A outer s HH E) bWalk tWalk := by
  have GO : FnOk P w K mg base CX0 2 fO fdO ["_law_hand_here", "_law_some"] (spOf K) := ok_of FO T FT bT mT
  have nd := scFloor.nd
  have hu := hu_of hr
  have hr2 : Room 2 (XF P w K mg base f cdv A outer s HH E).A := hr
  refine pss_imp (pss_cons (ps_dput hu (pv 7) (pe_tup (pa_cons (pe_op op_add (pv 8) (pv 4)) (pa_cons (pe_op op_add (pv 9) (pv 5)) pa_nil))) pe_bl rfl)
        (pss_cons (ps_asg (pe_call GO hr2 rfl mO FO.kp bO .nil pass0 (pa_cons (pv 0) (pa_cons (pe_lst (pa_cons (pe_tup (pa_cons pe_int (pa_cons pe_int pa_nil))) (pa_cons (pe_tup (pa_cons pe_int (pa_cons pe_int pa_nil))) (pa_cons (pe_tup (pa_cons pe_int (pa_cons pe_int pa_nil)))
            (pa_cons (pe_tup (pa_cons (pe_un un_neg pe_int) (pa_cons pe_int pa_nil))) (pa_cons (pe_tup (pa_cons pe_int (pa_cons (pe_un un_neg pe_int) pa_nil))) (pa_cons (pe_tup (pa_cons pe_int (pa_cons pe_int pa_nil))) pa_nil))))))) pa_nil)))
          (pg_tup rfl (pgs_cons (pg_name (i := 12) nd rfl (Or.inl rfl)) (pgs_cons (pg_name (i := 13) nd rfl (Or.inl rfl)) pgs_nil))))
        (pss_cons (ps_set (i := 8) nd rfl (Or.inl rfl) (pe_callB (call_min2 rfl) (by rfl) T.min boot_min (pa_cons (pe_op op_sub (pv 2) pe_int) (pa_cons (pe_callB (call_max2 rfl) (by rfl) T.max boot_max (pa_cons pe_int (pa_cons (pe_op op_add (pv 8) (pv 12)) pa_nil))) pa_nil))))
        (pss_one (ps_set (i := 9) nd rfl (Or.inl rfl) (pe_callB (call_min2 rfl) (by rfl) T.min boot_min (pa_cons (pe_op op_sub (pv 3) pe_int) (pa_cons (pe_callB (call_max2 rfl) (by rfl) T.max boot_max (pa_cons pe_int (pa_cons (pe_op op_add (pv 9) (pv 13)) pa_nil))) pa_nil)))))))) ?_
  rintro D σ H' ⟨H0, l, dd, m, tb, most, high, wide, top, side, way, row, col, cs, o10, o11, o12, o13, rfl, fi, htb, hcs, hh, hw, q⟩
  have z2 : 2 ≤ sizeLine := by decide
  refine ⟨_, rfl, _, rfl, _, rfl, _, _, rfl, rfl, _, rfl, _, rfl, _, _, rfl, rfl, z2, fun kt hkt => ?_⟩
  have f1 := fi.laid (o := .tup [.int (row + top), .int (col + side)]) hkt
  obtain ⟨kvs, g1, g2⟩ := f1.dict
  refine ⟨dd, _, rfl, DPut.t (k := kC (row + top, col + side)) g1 upd_same (by
    have : kvs.length = cs.length := by have := congrArg List.length g2; simpa using this
    exact Nat.lt_of_le_of_lt (by omega) (show 1000 < sizeLine by decide)), ?_⟩
  have f2 := f1.put (p := kt) (c := (row + top, col + side)) (v := .bl true) g1
  refine ⟨_, rfl, z2, fun a1 h1 => ⟨z2, fun a2 h2 => ⟨z2, fun a3 h3 => ⟨_, rfl, z2, fun a4 h4 => ⟨_, rfl, z2, fun a5 h5 => ⟨z2, fun a6 h6 => ⟨by show 6 ≤ sizeLine; decide, fun ls hls => ?_⟩⟩⟩⟩⟩⟩⟩
  have f8 := ((((((f2.laid (o := .tup [.int 1, .int 0]) h1).laid (o := .tup [.int 0, .int 1]) h2).laid (o := .tup [.int 0, .int 1]) h3).laid (o := .tup [.int (-1), .int 0]) h4).laid (o := .tup [.int 0, .int (-1)]) h5).laid (o := .tup [.int 1, .int 0]) h6)
  have f9 := f8.laid (o := .lst [.ref a1, .ref a2, .ref a3, .ref a4, .ref a5, .ref a6]) hls
  obtain ⟨d, t, hA, ht⟩ := f9.hand
  have nl : ls ≠ l := by
    obtain ⟨d, t, hA, _⟩ := f8.hand
    exact (ne_of_none hA.1 hls).symm
  have hC : Cells _ [.ref a1, .ref a2, .ref a3, .ref a4, .ref a5, .ref a6] [(1, 0), (0, 1), (0, 1), (-1, 0), (0, -1), (1, 0)] :=
    .cons ⟨a1, rfl, keepU (u := .lst [.ref a1, .ref a2, .ref a3, .ref a4, .ref a5, .ref a6]) (keepU (keepU (keepU (keepU (keepU (upd_same (o := .tup [.int 1, .int 0])) h2) h3) h4) h5) h6) hls⟩ (.cons ⟨a2, rfl, keepU (keepU (keepU (keepU (keepU upd_same h3) h4) h5) h6) hls⟩ (.cons ⟨a3, rfl, keepU (keepU (keepU (keepU upd_same h4) h5) h6) hls⟩
      (.cons ⟨a4, rfl, keepU (keepU (keepU upd_same h5) h6) hls⟩ (.cons ⟨a5, rfl, keepU (keepU upd_same h6) hls⟩ (.cons ⟨a6, rfl, keepU upd_same hls⟩ .nil)))))
  refine ⟨l, d, m, t, ls, _, rfl, hA, by omega, upd_same, nl, by simp, by simp, fun r v d' t' hv _ ht1 hA1 => ?_⟩
  have f10 := f9.took (by omega) hA1
  have hr6 : r < 6 := (List.getElem?_eq_some_iff.mp hv).1
  obtain ⟨a, ha1, ha2⟩ := hC.get (i := r) (c := [((1 : Int), (0 : Int)), (0, 1), (0, 1), (-1, 0), (0, -1), (1, 0)][r]'hr6) (by simp [List.getElem?_eq_getElem, hr6])
  rw [hv] at ha1
  cases ha1
  generalize ([((1 : Int), (0 : Int)), (0, 1), (0, 1), (-1, 0), (0, -1), (1, 0)][r]'hr6) = dc at ha2
  have nal : a ≠ l := fun e => by rw [e, hA.1] at ha2; cases ha2
  refine ⟨a, _, rfl, SqT.of ((upd_ne nal).trans ha2), rfl, _, _, rfl, _, _, rfl, rfl, ?_⟩
  refine ⟨_, rfl, _, _, rfl, rfl, _, rfl, _, rfl, _, _, rfl, rfl, _, _, rfl, _, _, rfl, ?_⟩
  refine ⟨_, rfl, _, _, rfl, rfl, _, rfl, _, rfl, _, _, rfl, rfl, _, _, rfl, _, _, rfl, ?_⟩
  exact q _ _ _ _ _ (clampB high (row + dc.1) hh).1 (clampB high (row + dc.1) hh).2 (clampB wide (col + dc.2) hw).1 (clampB wide (col + dc.2) hw).2 f10
end
end K4
set_option Elab.async false
set_option linter.all false
set_option maxRecDepth 100000
namespace K4
open PySem L2 PyProof.Rows
def KB (H H' : Hp) (l : Addr) : Prop := ∀ b o, H b = some o → b ≠ l → H' b = some o
theorem KB.refl (H : Hp) (l : Addr) : KB H H l := fun _ _ e _ => e
theorem KB.took {H H' : Hp} {l : Addr} {o : HO} (h : KB H H' l) : KB H (upd H' l o) l := fun b u e n => by rw [upd_ne n]; exact h b u e n
theorem KB.laid {H H' : Hp} {l p : Addr} {o : HO} (h : KB H H' l) (hp : H' p = none) : KB H (upd H' p o) l := fun b u e n => keepU (h b u e n) hp
theorem KB.trans {H H1 H2 : Hp} {l : Addr} (a : KB H H1 l) (b : KB H1 H2 l) : KB H H2 l := fun c o e n => b c o (a c o e n) n
theorem HandAt.laid {H : Hp} {l p : Addr} {d m t : Int} {o : HO} (h : HandAt H l d m t) (hp : H p = none) : HandAt (upd H p o) l d m t := ⟨keepU h.1 hp, h.2⟩
theorem tops {high x : Int} (h1 : 1 ≤ high) (h2 : high ≤ 12) (hx : 0 ≤ x) (hx2 : x ≤ 2) {r : Nat} {v : V} (h : ([.int 0, .int 0, .int x, .int (31 - high)] : List V)[r]? = some v) : ∃ z, v = .int z ∧ 0 ≤ z ∧ z + high ≤ 31 := by
  have hr : r < 4 := (List.getElem?_eq_some_iff.mp h).1
  have : r = 0 ∨ r = 1 ∨ r = 2 ∨ r = 3 := by omega
  rcases this with rfl | rfl | rfl | rfl <;> cases h
  · exact ⟨0, rfl, by omega, by omega⟩
  · exact ⟨0, rfl, by omega, by omega⟩
  · exact ⟨x, rfl, by omega, by omega⟩
  · exact ⟨_, rfl, by omega, by omega⟩
structure PA (way : Nat) (R C : Int) (cs : List (Int × Int)) : Prop where
  up : cs.Pairwise ltC
  lt : ∀ x ∈ cs, ltC x (R, C)
  bd : BD cs
  no : way = 5 → cs = []
theorem PA.put {way : Nat} {R C : Int} {cs : List (Int × Int)} (h : PA way R C cs) (w5 : way ≠ 5) (b1 : 0 ≤ R ∧ R ≤ 30) (b2 : 0 ≤ C ∧ C ≤ 30) : PA way R (C + 1) (putC cs (R, C)) ∧ (putC cs (R, C)).length = cs.length + 1 := by
  have nin : ¬ (R, C) ∈ cs := fun hm => by
    have := h.lt _ hm
    unfold ltC at this
    simp at this
  have e : putC cs (R, C) = cs ++ [(R, C)] := by unfold putC; rw [if_neg nin]
  rw [e]
  refine ⟨⟨?_, ?_, ?_, fun z => absurd z w5⟩, by simp⟩
  · rw [List.pairwise_append]
    exact ⟨h.up, List.pairwise_singleton _ _, fun a ha b hb => by rw [List.mem_singleton.mp hb]; exact h.lt a ha⟩
  · intro x hx
    rcases List.mem_append.mp hx with hx | hx
    · have := h.lt x hx
      unfold ltC at this ⊢
      simp only at this ⊢
      omega
    · rw [List.mem_singleton.mp hx]
      exact .inr ⟨rfl, by show C < C + 1; omega⟩
  · intro c hc
    rcases List.mem_append.mp hc with hc | hc
    · exact h.bd c hc
    · rw [List.mem_singleton.mp hc]
      exact ⟨b1.1, b1.2, b2.1, b2.2⟩
theorem PA.mono {way : Nat} {R C C' : Int} {cs : List (Int × Int)} (h : PA way R C cs) (hc : C ≤ C') : PA way R C' cs := ⟨h.up, fun x hx => by
  have := h.lt x hx
  unfold ltC at this ⊢
  simp only at this ⊢
  omega, h.bd, h.no⟩
theorem PA.row {way : Nat} {R C C' : Int} {cs : List (Int × Int)} (h : PA way R C cs) : PA way (R + 1) C' cs := ⟨h.up, fun x hx => by
  have := h.lt x hx
  unfold ltC at this ⊢
  simp only at this ⊢
  omega, h.bd, h.no⟩
theorem PA.rowC {way : Nat} {R R' C C' : Int} {cs : List (Int × Int)} (h : PA way R C cs) (hh : ∀ x ∈ cs, x.1 < R') : PA way R' C' cs := ⟨h.up, fun x hx => .inl (hh x hx), h.bd, h.no⟩
theorem putC_bd {cs : List (Int × Int)} {c : Int × Int} (h : BD cs) (hc : 0 ≤ c.1 ∧ c.1 ≤ 30 ∧ 0 ≤ c.2 ∧ c.2 ≤ 30) : BD (putC cs c) := by
  unfold putC
  split
  · exact h
  · intro x hx
    rcases List.mem_append.mp hx with hx | hx
    · exact h x hx
    · rw [List.mem_singleton.mp hx]
      exact hc
theorem putC_len (cs : List (Int × Int)) (c : Int × Int) : (putC cs c).length ≤ cs.length + 1 := by
  unfold putC
  split
  · omega
  · simp
section
variable {P : Program} {w : World} {K : PySem.W.Frag} {mg : Str → Option Value} {base : Heap} {f fT fO : Addr} {fd fdT fdO : FuncData} {cdv : Value} {A : Around} {outer : List Env} {s : Shared} {HH : Hp} {E : XK}
abbrev bRest : List Stmt := (defBody sFloor).drop 2
def tRest : TS := fun D σ H1 => ∃ (l : Addr) (d m t most : Int), σ = [some (.ref l), some (.int most), none, none, none, none, none, none, none, none, none, none, none, none] ∧ HandAt H1 l d m t ∧ t ≤ 2000 ∧ 0 < most ∧ most ≤ 12 ∧
  ∀ p ys cs H' d' t', KB H1 H' l → HandAt H' l d' m t' → t' ≤ t + 390 → H' p = some (.tup ys) → Cells H' ys cs → cs.Pairwise ltC → BD cs → cs.length ≤ 200 → D.rt (.ref p) H'
set_option maxHeartbeats 8000000 in
theorem ps_rest (T : Txt mg) (FT : Fun K "_law_take" "_law_take" sTake fT fdT) (bT : Binds K fdT ["_law_hand_here", "_law_many"] []) (mT : mg "_law_take" = some (.ref fT))
    (FO : Fun K "_law_of" "_law_of" sOf fO fdO) (bO : Binds K fdO ["_law_hand_here", "_law_some"] []) (mO : mg "_law_of" = some (.ref fO)) (hr : Room 2 (A.deeper (envOfC "_law_floor" (defScope sFloor) s.heap.objs.size f cdv))) :
    PSs (XF P w K mg base f cdv A outer s HH E) bRest tRest := by
  have GT : FnOk P w K mg base CX0 1 fT fdT ["_law_hand_here", "_law_many"] spTake := ok_take FT
  have GO : FnOk P w K mg base CX0 2 fO fdO ["_law_hand_here", "_law_some"] (spOf K) := ok_of FO T FT bT mT
  have nd := scFloor.nd
  have hr1 : Room 1 (XF P w K mg base f cdv A outer s HH E).A := hr.mono (by decide)
  have hr2 : Room 2 (XF P w K mg base f cdv A outer s HH E).A := hr
  refine pss_imp (pss_cons (ps_par (i := 2) (j := 3) rfl nd rfl rfl (by decide) rfl rfl (pa_cons (pe_op op_add pe_int (pe_call GT hr1 rfl mT FT.kp bT .nil pass0 (pa_cons (pv 0) (pa_cons (pv 1) pa_nil)))) (pa_cons (pe_op op_add pe_int (pe_call GT hr1 rfl mT FT.kp bT .nil pass0 (pa_cons (pv 0) (pa_cons (pv 1) pa_nil)))) pa_nil)) rfl)
      (pss_cons (ps_par (i := 4) (j := 5) rfl nd rfl rfl (by decide) rfl rfl (pa_cons (pe_call GO hr2 rfl mO FO.kp bO .nil pass0 (pa_cons (pv 0) (pa_cons (pe_lst (pa_cons pe_int (pa_cons pe_int (pa_cons pe_int (pa_cons (pe_op op_sub pe_int (pv 2)) pa_nil))))) pa_nil)))
          (pa_cons (pe_call GO hr2 rfl mO FO.kp bO .nil pass0 (pa_cons (pv 0) (pa_cons (pe_lst (pa_cons pe_int (pa_cons pe_int (pa_cons pe_int (pa_cons (pe_op op_sub pe_int (pv 3)) pa_nil))))) pa_nil))) pa_nil)) rfl)
      (pss_cons (ps_set (i := 6) nd rfl (Or.inl rfl) (pe_call GT hr1 rfl mT FT.kp bT .nil pass0 (pa_cons (pv 0) (pa_cons pe_int pa_nil))))
      (pss_cons (ps_set (i := 7) nd rfl (Or.inl rfl) pe_dnewT)
      (pss_cons (ps_for PassesOwn.never rfl (pi_range1 rfl T.range (pa_cons (pv 2) pa_nil)) (pg_name (i := 8) nd rfl (Or.inl rfl)) (pss_one (ps_for PassesOwn.never rfl (pi_range1 rfl T.range (pa_cons (pv 3) pa_nil)) (pg_name (i := 9) nd rfl (Or.inl rfl)) (ps_in T FT bT mT hr))))
      (pss_cons (ps_asg (pe_tup (pa_cons pe_int (pa_cons pe_int pa_nil))) (pg_tup rfl (pgs_cons (pg_name (i := 8) nd rfl (Or.inl rfl)) (pgs_cons (pg_name (i := 9) nd rfl (Or.inl rfl)) pgs_nil))))
      (pss_cons (ps_for PassesOwn.never rfl (pi_range1 rfl T.range (pa_cons (pe_op op_mul pe_int (pe_callTy call_int1 rfl T.int boot_int (pa_cons (pe_cmpR op_eq (pv 6) pe_int (nomark _)) pa_nil))) pa_nil)) (pg_name (i := 11) nd rfl (Or.inl rfl)) (ps_walk T FT bT mT FO bO mO hr))
      (pss_one (ps_ret (pe_callTy call_tuple_of rfl T.tuple boot_tuple (pa_cons (pe_callB (call_sortedT rfl) (by rfl) T.sorted boot_sorted (pa_cons (pv 7) pa_nil)) pa_nil)))))))))))  ?_
  rintro D σ H1 ⟨l, d, m, t, most, rfl, hA, ht, hm0, hm1, q⟩
  have z2 : 2 ≤ sizeLine := by decide
  have z4 : 4 ≤ sizeLine := by decide
  refine ⟨_, rfl, _, rfl, l, d, m, t, most, rfl, hA, by omega, hm0, by omega, fun r1 d1 t1 r10 r11 _ ht1 hA1 => ⟨_, _, rfl, rfl, _, rfl, _, rfl, l, d1, m, t1, most, rfl, hA1, by omega, hm0, by omega, fun r2 d2 t2 r20 r21 _ ht2 hA2 => ⟨_, _, rfl, rfl, _, _, rfl, ?_⟩⟩⟩
  refine ⟨_, rfl, _, rfl, _, _, rfl, rfl, z4, fun b1 hb1 => ⟨l, d2, m, t2, b1, _, rfl, hA2.laid hb1, by omega, upd_same, (ne_of_none hA2.1 hb1).symm, by simp, by simp, fun i3 v3 d3 t3 hv3 _ ht3 hA3 =>
    ⟨_, rfl, _, rfl, _, _, rfl, rfl, z4, fun b2 hb2 => ⟨l, d3, m, t3, b2, _, rfl, hA3.laid hb2, by omega, upd_same, (ne_of_none hA3.1 hb2).symm, by simp, by simp, fun i4 v4 d4 t4 hv4 _ ht4 hA4 => ⟨_, _, rfl, ?_⟩⟩⟩⟩⟩
  obtain ⟨top, rfl, top0, top1⟩ := tops (high := 1 + r1) (by omega) (by omega) (by decide) (by decide) hv3
  obtain ⟨side, rfl, side0, side1⟩ := tops (high := 1 + r2) (by omega) (by omega) (by decide) (by decide) hv4
  refine ⟨_, rfl, l, d4, m, t4, 6, rfl, hA4, by omega, by decide, by decide, fun wi d5 t5 w0 w1 _ ht5 hA5 => ?_⟩
  obtain ⟨way, rfl⟩ := Int.eq_ofNat_of_zero_le w0
  intro dd hdd
  have kb5 : KB H1 _ l := ((((((KB.refl H1 l).took (o := .lst [.int d1, .int m, .int t1])).took (o := .lst [.int d2, .int m, .int t2])).laid (o := .lst [.int 0, .int 0, .int 1, .int (31 - (1 + r1))]) hb1).took (o := .lst [.int d3, .int m, .int t3])).laid (o := .lst [.int 0, .int 0, .int 2, .int (31 - (1 + r2))]) hb2).took (o := .lst [.int d4, .int m, .int t4])
  have kb6 := (kb5.took (o := .lst [.int d5, .int m, .int t5])).laid (o := .dT []) hdd
  have nl : dd ≠ l := (ne_of_none hA5.1 hdd).symm
  have newd : H1 dd = none := by
    cases e : H1 dd with
    | none => rfl
    | some o =>
      have := (kb5.took (o := .lst [.int d5, .int m, .int t5])) dd o e nl
      rw [hdd] at this
      cases this
  have fi0 : FI H1 l dd m (t + 5) [] _ := ⟨⟨d5, t5, hA5.laid (o := .dT []) hdd, by omega⟩, kb6, ⟨[], upd_same, rfl⟩, newd, nl⟩
  have n1 : ((1 + r1).toNat : Int) = 1 + r1 := Int.toNat_of_nonneg (by omega)
  have n2 : ((1 + r2).toNat : Int) = 1 + r2 := Int.toNat_of_nonneg (by omega)
  refine ⟨_, rfl, _, rfl, by omega, by omega, for_range (lo := 0) (n := (1 + r1).toNat) (fun r σ H' => ∃ cs o8 o9 o10, σ = FS l dd most (1 + r1) (1 + r2) top side way o8 o9 o10 none none none ∧ FI H1 l dd m (t + 5 + 24 * r) cs H' ∧ PA way (top + r) side cs ∧ cs.length ≤ 12 * r)
    ⟨[], none, none, none, rfl, by simpa using fi0, ⟨List.Pairwise.nil, List.forall_mem_nil _, List.forall_mem_nil _, fun _ => rfl⟩, by simp⟩ ?_ ?_⟩
  · -- a row
    rintro r σ H' hr' ⟨cs, o8, o9, o10, rfl, fi, pa, hl⟩
    refine ⟨_, rfl, _, rfl, by omega, by omega, for_range (lo := 0) (n := (1 + r2).toNat) (fun c σ H' => ∃ cs o9 o10, σ = FS l dd most (1 + r1) (1 + r2) top side way (some (.int (0 + r))) o9 o10 none none none ∧ FI H1 l dd m (t + 5 + 24 * r + 2 * c) cs H' ∧ PA way (top + r) (side + c) cs ∧ cs.length ≤ 12 * r + c)
      ⟨cs, o9, o10, rfl, by simpa using fi, by simpa using pa, by omega⟩ ?_ ?_⟩
    · rintro c σ H' hc' ⟨cs, o9, o10, rfl, fi, pa, hl⟩
      have eR : (0 : Int) + r + top = top + r := by omega
      have eC : (0 : Int) + c + side = side + c := by omega
      refine ⟨H1, l, dd, m, t + 5 + 24 * r + 2 * c, most, 1 + r1, 1 + r2, top, side, way, 0 + r, 0 + c, cs, o10, none, none, none, rfl, fi, by omega, by omega, by omega, by omega, fun o H'' f' => ?_, fun w5 o H'' f' => ?_⟩
      · exact ⟨cs, _, _, rfl, f'.mono (by push_cast; omega), pa.mono (by push_cast; omega), by omega⟩
      · rw [eR, eC] at f'
        obtain ⟨pa', hl'⟩ := pa.put w5 ⟨by omega, by omega⟩ ⟨by omega, by omega⟩
        exact ⟨_, _, _, rfl, f'.mono (by push_cast; omega), pa'.mono (by push_cast; omega), by omega⟩
    · rintro σ H' ⟨cs, o9, o10, rfl, fi, pa, hl⟩
      refine ⟨cs, _, _, _, rfl, fi.mono (by push_cast; omega), ?_, by omega⟩
      have := pa.row (C' := side)
      rw [show top + (r : Int) + 1 = top + ((r + 1 : Nat) : Int) by push_cast; omega] at this
      exact this
  · -- behind the rectangle
    rintro σ H' ⟨cs, o8, o9, o10, rfl, fi, pa, hl⟩
    refine ⟨z2, fun t7 h7 => ⟨t7, _, rfl, SqT.of upd_same, rfl, _, _, rfl, _, _, rfl, rfl, ?_⟩⟩
    have fi7 := fi.laid (o := .tup [.int 0, .int 0]) h7
    refine ⟨_, rfl, rfl, .inr ⟨_, rfl, _, _, rfl, rfl, .inl ⟨by decide, by decide⟩, _, rfl, ?_, ?_, for_range (lo := 0) (fun i σ H' => ∃ cs row col o10 o11 o12 o13, σ = FS l dd most (1 + r1) (1 + r2) top side way (some (.int row)) (some (.int col)) o10 o11 o12 o13 ∧ FI H1 l dd m (t + 5 + 24 * 12 + i) cs H' ∧ 0 ≤ row ∧ row < 1 + r1 ∧ 0 ≤ col ∧ col < 1 + r2 ∧ BD cs ∧
      ((way ≠ 5 ∧ cs.Pairwise ltC ∧ cs.length ≤ 150) ∨ (way = 5 ∧ cs.length ≤ i ∧ i ≤ 40))) ?_ ?_ ?_⟩⟩
    · split <;> decide
    · split <;> decide
    · refine ⟨cs, 0, 0, _, _, _, _, rfl, fi7.mono (by push_cast; omega), by omega, by omega, by omega, by omega, pa.bd, ?_⟩
      by_cases w5 : way = 5
      · exact .inr ⟨w5, by rw [pa.no w5]; simp, by omega⟩
      · exact .inl ⟨w5, pa.up, by omega⟩
    · rintro i σ H' hi ⟨cs, row, col, o10, o11, o12, o13, rfl, fi, row0, row1, col0, col1, bd, alt⟩
      have w5 : way = 5 ∧ i < 40 := by
        by_cases e : (way : Int) = 5
        · refine ⟨by omega, ?_⟩
          have : decide (V.int (way : Int) = V.int 5) = true := decide_eq_true (congrArg V.int e)
          rw [this] at hi
          simpa using hi
        · have : decide (V.int (way : Int) = V.int 5) = false := decide_eq_false fun z => e (V.int.inj z)
          rw [this] at hi
          simp at hi
      have hcs : cs.length ≤ i := by
        rcases alt with ⟨a, _⟩ | ⟨_, a, _⟩
        · exact absurd w5.1 a
        · exact a
      refine ⟨H1, l, dd, m, t + 5 + 24 * 12 + i, most, 1 + r1, 1 + r2, top, side, way, row, col, cs, o10, _, o12, o13, rfl, fi, by omega, by omega, by omega, by omega, fun row' col' o12' o13' H'' a1 a2 a3 a4 f' => ?_⟩
      exact ⟨_, row', col', _, _, _, _, rfl, f'.mono (by push_cast; omega), a1, a2, a3, a4, putC_bd bd ⟨by show 0 ≤ row + top; omega, by show row + top ≤ 30; omega, by show 0 ≤ col + side; omega, by show col + side ≤ 30; omega⟩, .inr ⟨w5.1, by have := putC_len cs (row + top, col + side); omega, by omega⟩⟩
    · rintro σ H' ⟨cs, row, col, o10, o11, o12, o13, rfl, fi, row0, row1, col0, col1, bd, alt⟩
      obtain ⟨kvs, g1, g2⟩ := fi.dict
      have hn : (40 * (if decide (V.int (way : Int) = V.int 5) = true then 1 else 0) : Int).toNat ≤ 40 := by split <;> decide
      have len : cs.length ≤ 150 := by
        rcases alt with ⟨_, _, a⟩ | ⟨_, a, a2⟩
        · exact a
        · omega
      refine ⟨_, rfl, dd, kvs, cs, rfl, g1, g2, fun c hc => ⟨(bd c hc).2.2.1, by have := (bd c hc).2.2.2; omega⟩, ?_, by omega, fun ls ys cs' hls hC hP hS => ⟨ls, ys, rfl, .inl ⟨SqL.of upd_same, fun p hp => ?_⟩⟩⟩
      · rcases alt with ⟨_, a, _⟩ | ⟨_, a, a2⟩
        · exact .inr a
        · exact .inl (by omega)
      · obtain ⟨d9, t9, hA9, ht9⟩ := fi.hand
        refine q p ys cs' _ d9 t9 (KB.laid (KB.laid fi.keep hls) hp) ((hA9.laid hls).laid hp) (by omega) upd_same (hC.mono fun b xs eb => keepU (keepU eb hls) hp) hS (fun c hc => bd c (hP.mem_iff.mp hc)) (by rw [hP.length_eq]; omega)
end
end K4
set_option Elab.async false
set_option linter.all false
set_option maxRecDepth 100000
namespace K4
open PySem L2 PyProof.Rows
section
variable {P : Program} {w : World} {K : PySem.W.Frag} {mg : Str → Option Value} {base : Heap}
def besB (c d : Int × Int) : Bool := decide ((if c.1 - d.1 < 0 then -(c.1 - d.1) else c.1 - d.1) + (if c.2 - d.2 < 0 then -(c.2 - d.2) else c.2 - d.2) = 1)
def spBeside : Sp := fun vs H Q _ => ∃ a b c d, vs = [.ref a, .ref b] ∧ H a = some (.tup [.int (c : Int × Int).1, .int c.2]) ∧ H b = some (.tup [.int (d : Int × Int).1, .int d.2]) ∧ Q (.bl (besB c d)) H
theorem scBeside : FnScope ["_law_one", "_law_other"] ["_law_one", "_law_other"] (defScope sBeside) := ⟨rfl, rfl, rfl, by decide +kernel, rfl, by decide +kernel, by decide +kernel⟩
theorem ok_beside {f : Addr} {fd : FuncData} (F : Fun K "_law_are_beside" "_law_are_beside" sBeside f fd) (T : Txt mg) : FnOk P w K mg base CX0 1 f fd ["_law_one", "_law_other"] spBeside := by
  refine F.ok scBeside (fun vs H Q E h => ?_) (fun cdv A outer s H vs Q E hr h => ?_)
  · obtain ⟨a, b, c, d, rfl, _⟩ := h
    rfl
  · obtain ⟨a, b, c, d, rfl, ha, hb, q⟩ := h
    refine ⟨_, pss_one (ps_ret (pe_cmpR op_eq (pe_op op_add
      (pe_callB call_abs (by rfl) T.abs boot_abs (pa_cons (pe_op op_sub (pe_ix ix_tup (pv 0) pe_int (fun _ _ => rfl)) (pe_ix ix_tup (pv 1) pe_int (fun _ _ => rfl))) pa_nil))
      (pe_callB call_abs (by rfl) T.abs boot_abs (pa_cons (pe_op op_sub (pe_ix ix_tup (pv 0) pe_int (fun _ _ => rfl)) (pe_ix ix_tup (pv 1) pe_int (fun _ _ => rfl))) pa_nil))) pe_int (nomark _))), ?_⟩
    refine ⟨_, rfl, a, _, 0, _, rfl, rfl, SqT.of ha, rfl, _, rfl, b, _, 0, _, rfl, rfl, SqT.of hb, rfl, _, _, rfl, rfl, _, rfl, _, rfl, a, _, 1, _, rfl, rfl, SqT.of ha, rfl, _, rfl, b, _, 1, _, rfl, rfl, SqT.of hb, rfl, _, _, rfl, rfl, _, rfl, _, _, rfl, rfl, ?_⟩
    refine ⟨rfl, ?_⟩
    have e : decide (V.int ((if c.1 - d.1 < 0 then -(c.1 - d.1) else c.1 - d.1) + (if c.2 - d.2 < 0 then -(c.2 - d.2) else c.2 - d.2)) = V.int 1) = besB c d := by
      unfold besB
      exact decide_eq_decide.mpr ⟨fun h => V.int.inj h, fun h => congrArg V.int h⟩
    rw [e]
    exact q
end
theorem tyes {σ : L2.St} {H : Hp} {A B : Hp → Prop} (h : A H) : tYes σ H fun b H3 => if b = true then A H3 else B H3 := by
  show if true = true then A H else B H
  rw [if_pos rfl]
  exact h
def Alike : Nat → Hp → V → V → Prop
  | 0, _, x, y => ∃ i, x = .int i ∧ y = .int i
  | n + 1, H, x, y => ∃ a b xs ys, x = .ref a ∧ y = .ref b ∧ H a = some (.tup xs) ∧ H b = some (.tup ys) ∧ xs.length ≤ 1000 ∧ Paired (Alike n H) xs ys
theorem Alike.mono : ∀ {n : Nat} {H H' : Hp} {x y : V}, Alike n H x y → Same H H' → Alike n H' x y
  | 0, _, _, _, _, h, _ => h
  | n + 1, H, H', _, _, ⟨a, b, xs, ys, e1, e2, h1, h2, h3, h4⟩, s => ⟨a, b, xs, ys, e1, e2, s _ _ h1, s _ _ h2, h3, Paired.mapP h4 fun _ _ z => Alike.mono z s⟩
def spSame (n : Nat) : Sp := fun vs H Q _ => ∃ x y, vs = [x, y] ∧ Alike n H x y ∧ ∀ H', Same H H' → Q (.bl true) H'
theorem boot_all' : bootBuiltins "all" = some (.builtin "all") := by decide +kernel
theorem boot_str' : bootBuiltins "str" = some (.type "str") := by decide +kernel
theorem boot_bool' : bootBuiltins "bool" = some (.type "bool") := by decide +kernel
section
variable {P : Program} {w : World} {K : PySem.W.Frag} {mg : Str → Option Value} {base : Heap}
theorem scSame : FnScope ["_law_told", "_law_due"] ["_law_told", "_law_due"] (defScope sSame) := ⟨rfl, rfl, rfl, by decide +kernel, rfl, by decide +kernel, by decide +kernel⟩
theorem ok_same0 {f : Addr} {fd : FuncData} (F : Fun K "_law_same" "_law_same" sSame f fd) (T : Txt mg) : FnOk P w K mg base CX0 1 f fd ["_law_told", "_law_due"] (spSame 0) := by
  refine F.ok scSame (fun vs H Q E h => ?_) (fun cdv A outer s H vs Q E hr h => ?_)
  · obtain ⟨x, y, rfl, _⟩ := h
    rfl
  · obtain ⟨x, y, rfl, ⟨i, rfl, rfl⟩, q⟩ := h
    refine ⟨_, pss_cons (ps_if (pt_val (pe_callB call_isi (by rfl) T.isinstance boot_isinstance (pa_cons (pv 1) (pa_cons (pe_bltn (v := .ty "tuple") rfl T.tuple boot_tuple rfl) pa_nil)))) pss_never pss_nil)
      (pss_cons (ps_if (pt_cmp (pc_isN (pv 1))) pss_never pss_nil)
      (pss_cons (ps_if (pt_val (pe_callB call_isi (by rfl) T.isinstance boot_isinstance (pa_cons (pv 1) (pa_cons (pe_bltn (v := .ty "str") rfl T.str boot_str' rfl) pa_nil)))) pss_never pss_nil)
      (pss_one (ps_ret (pe_and (pe_callB call_isi (by rfl) T.isinstance boot_isinstance (pa_cons (pv 0) (pa_cons (pe_bltn (v := .ty "int") rfl T.int boot_int rfl) pa_nil)))
        (pe_and (pe_not (pe_callB call_isi (by rfl) T.isinstance boot_isinstance (pa_cons (pv 0) (pa_cons (pe_bltn (v := .ty "bool") rfl T.bool boot_bool' rfl) pa_nil)))) (pe_one (pe_cmpR op_eq (pv 0) (pv 1) (nomark _))))))))), ?_⟩
    refine ⟨_, rfl, _, "tuple", false, rfl, .inl ⟨i, rfl, .inr (.inl ⟨rfl, rfl⟩)⟩, _, rfl, iteF ?_⟩
    refine ⟨_, rfl, _, rfl, ite2 (fun h => absurd (of_decide_eq_true h) (by simp)) fun _ => ?_⟩
    refine ⟨_, rfl, _, "str", false, rfl, .inl ⟨i, rfl, .inr (.inr (.inl ⟨rfl, rfl⟩))⟩, _, rfl, iteF ?_⟩
    refine ⟨_, rfl, _, "int", true, rfl, .inl ⟨i, rfl, .inl ⟨rfl, rfl⟩⟩, _, rfl, iteT ?_⟩
    refine ⟨_, rfl, _, "bool", false, rfl, .inl ⟨i, rfl, .inr (.inr (.inr (.inl ⟨rfl, rfl⟩)))⟩, _, rfl, _, rfl, iteT ?_⟩
    refine ⟨_, rfl, _, rfl, rfl, ?_⟩
    rw [decide_eq_true rfl]
    exact q H (Same.refl H)
theorem all_rep (n : Nat) : (List.replicate n true).all id = true := by
  induction n with
  | zero => rfl
  | succ n ih => rw [List.replicate_succ, List.all_cons, ih]; rfl
theorem ok_sameS {f : Addr} {fd : FuncData} {n : Nat} (F : Fun K "_law_same" "_law_same" sSame f fd) (T : Txt mg) (b : Binds K fd ["_law_told", "_law_due"] []) (mS : mg "_law_same" = some (.ref f))
    (G : FnOk P w K mg base CX0 (n + 1) f fd ["_law_told", "_law_due"] (spSame n)) : FnOk P w K mg base CX0 (n + 2) f fd ["_law_told", "_law_due"] (spSame (n + 1)) := by
  refine F.ok scSame (fun vs H Q E h => ?_) (fun cdv A outer s H vs Q E hr h => ?_)
  · obtain ⟨x, y, rfl, _⟩ := h
    rfl
  · obtain ⟨x, y, rfl, ⟨a, c, xs, ys, rfl, rfl, ha, hc, hl, hA⟩, q⟩ := h
    have nd2 : (["_law_one", "_law_other"] : List Str).Nodup := by decide +kernel
    refine ⟨_, pss_cons (ps_if (pt_val (pe_callB call_isi (by rfl) T.isinstance boot_isinstance (pa_cons (pv 1) (pa_cons (pe_bltn (v := .ty "tuple") rfl T.tuple boot_tuple rfl) pa_nil))))
      (pss_cons (ps_if (PW.pt (pw_or (pt_not (pt_val (pe_callB call_isi (by rfl) T.isinstance boot_isinstance (pa_cons (pv 0) (pa_cons (pe_bltn (v := .ty "tuple") rfl T.tuple boot_tuple rfl) pa_nil)))))
          (pw_or1 (pt_cmpR op_ne (pe_callB call_len_seq (by rfl) T.len PySem.boot_len (pa_cons (pv 0) pa_nil)) (pe_callB call_len_seq (by rfl) T.len PySem.boot_len (pa_cons (pv 1) pa_nil)) (nomark _))))) pss_never pss_nil)
        (pss_one (ps_ret (pe_callB (call_allB rfl) (by rfl) T.all boot_all' (pa_cons (pe_comp (own := ["_law_one", "_law_other"]) (caps := []) rfl (cscope (defScope sSame) ["_law_told", "_law_due"] (by decide +kernel))
          (pi_zip rfl T.zip (pa_cons (pv 0) (pa_cons (pv 1) pa_nil)))
          (fun Y => pg_tup rfl (pgs_cons (pg_name (i := 0) nd2 rfl (Or.inl rfl)) (pgs_cons (pg_name (i := 1) nd2 rfl (Or.inl rfl)) pgs_nil))) (fun Y => pts_nil)
          (fun Y => pe_call G hr rfl mS F.kp b .nil pass0 (pa_cons (pv 0) (pa_cons (pv 1) pa_nil)))) pa_nil))))) pss_nil) pss_never, ?_⟩
    have lxy : xs.length = ys.length := hA.length
    refine ⟨_, rfl, _, "tuple", true, rfl, .inr (.inr (.inr (.inl ⟨c, ys, rfl, SqT.of hc, .inl ⟨rfl, rfl⟩⟩))), _, rfl, iteT ?_⟩
    refine ⟨_, rfl, _, "tuple", true, rfl, .inr (.inr (.inr (.inl ⟨a, xs, rfl, SqT.of ha, .inl ⟨rfl, rfl⟩⟩))), _, rfl, iteF ?_⟩
    refine ⟨_, rfl, a, xs, rfl, .inr (SqT.of ha), _, rfl, c, ys, rfl, .inr (SqT.of hc), rfl, _, rfl, ?_⟩
    refine iteNS (by rw [lxy]) ?_
    refine ⟨_, rfl, _, rfl, a, c, rfl, ⟨xs, SqT.of ha⟩, ⟨ys, SqT.of hc⟩, fun Y => ?_⟩
    refine comp_zip (K := K) (a := a) (b := c) (xs := xs) (zs := ys) lxy (fun i zs H2 => Same H H2 ∧ zs = (List.replicate i true).map V.bl) ⟨Same.refl H, rfl⟩ (fun i zs H2 ⟨s2, _⟩ => ⟨SqT.of (s2 _ _ ha), SqT.of (s2 _ _ hc)⟩) ?_ ?_
    · rintro i x z zs H2 T' hx hz ⟨s2, rfl⟩ fT
      have hi : i < xs.length := (List.getElem?_eq_some_iff.mp hx).1
      obtain ⟨x', z', g1, g2, g3⟩ := pairedGet hA i hi
      rw [hx] at g1
      rw [hz] at g2
      cases g1
      cases g2
      refine ⟨T', [x, z], rfl, SqT.of upd_same, rfl, x, [z], rfl, z, [], rfl, rfl, fun j v e => ?_, ?_⟩
      · rcases j with _ | _ | j <;> simp [capS] at e
      · refine tyes ?_
        refine ⟨_, rfl, _, rfl, x, z, rfl, (g3.mono s2).mono ((Same.refl H2).upd fT), fun H3 s3 => ⟨?_, (s2.upd fT).trans s3, ?_⟩⟩
        · rw [List.length_map, List.length_replicate]
          exact Nat.lt_of_lt_of_le hi (Nat.le_trans hl (by decide))
        · rw [List.replicate_succ', List.map_append]
          rfl
    · rintro zs H2 ⟨s2, rfl⟩ D fD
      refine ⟨D, List.replicate xs.length true, rfl, upd_same, ?_⟩
      rw [all_rep]
      exact q _ (s2.upd fD)
theorem ok_same {f : Addr} {fd : FuncData} (F : Fun K "_law_same" "_law_same" sSame f fd) (T : Txt mg) (b : Binds K fd ["_law_told", "_law_due"] []) (mS : mg "_law_same" = some (.ref f)) :
    ∀ n, FnOk P w K mg base CX0 (n + 1) f fd ["_law_told", "_law_due"] (spSame n)
  | 0 => ok_same0 F T
  | n + 1 => ok_sameS F T b mS (ok_same F T b mS n)
theorem alike_cells {H : Hp} {a b : Addr} {xs ys : List V} {cs : List (Int × Int)} (ha : H a = some (.tup xs)) (hb : H b = some (.tup ys)) (hx : Cells H xs cs) (hy : Cells H ys cs) (hl : cs.length ≤ 1000) : Alike 2 H (.ref a) (.ref b) := by
  refine ⟨a, b, xs, ys, rfl, rfl, ha, hb, by rw [hx.length]; exact hl, paired_of (by rw [hx.length, hy.length]) fun i x y h1 h2 => ?_⟩
  have hi : i < cs.length := by rw [← hx.length]; exact (List.getElem?_eq_some_iff.mp h1).1
  obtain ⟨p, e1, e2⟩ := hx.get (i := i) (c := cs[i]) (by simp [hi])
  obtain ⟨r, e3, e4⟩ := hy.get (i := i) (c := cs[i]) (by simp [hi])
  rw [h1] at e1
  rw [h2] at e3
  cases e1
  cases e3
  exact ⟨p, r, _, _, rfl, rfl, e2, e4, by simp, .cons ⟨_, rfl, rfl⟩ (.cons ⟨_, rfl, rfl⟩ .nil)⟩
end
theorem eq_of_ltC : ∀ (l1 l2 : List (Int × Int)), l1.Pairwise ltC → l2.Pairwise ltC → (∀ x, x ∈ l1 ↔ x ∈ l2) → l1 = l2
  | [], [], _, _, _ => rfl
  | [], b :: r, _, _, h => by have := (h b).mpr List.mem_cons_self; cases this
  | a :: r, [], _, _, h => by have := (h a).mp List.mem_cons_self; cases this
  | a :: r, b :: q, h1, h2, h => by
    obtain ⟨a1, a2⟩ := List.pairwise_cons.mp h1
    obtain ⟨b1, b2⟩ := List.pairwise_cons.mp h2
    have irr : ∀ x y : Int × Int, ltC x y → ltC y x → False := fun x y p q => by unfold ltC at p q; omega
    have e : a = b := by
      rcases List.mem_cons.mp ((h a).mp List.mem_cons_self) with e | m
      · exact e
      · rcases List.mem_cons.mp ((h b).mpr List.mem_cons_self) with e | m'
        · exact e.symm
        · exact (irr _ _ (b1 a m) (a1 b m')).elim
    subst e
    have : r = q := eq_of_ltC r q a2 b2 fun x => by
      constructor
      · intro hx
        rcases List.mem_cons.mp ((h x).mp (List.mem_cons_of_mem _ hx)) with e | m
        · subst e
          exact (irr _ _ (a1 _ hx) (a1 _ hx)).elim
        · exact m
      · intro hx
        rcases List.mem_cons.mp ((h x).mpr (List.mem_cons_of_mem _ hx)) with e | m
        · subst e
          exact (irr _ _ (b1 _ hx) (b1 _ hx)).elim
        · exact m
    rw [this]
theorem bes_ar (c d : Int × Int) : besB d c = true ↔ d ∈ arL c := by
  obtain ⟨c1, c2⟩ := c
  obtain ⟨d1, d2⟩ := d
  unfold besB arL
  rw [decide_eq_true_iff]
  simp only [List.mem_cons, Prod.mk.injEq, List.mem_nil_iff, or_false]
  split <;> split <;> omega
section
variable {P : Program} {w : World} {K : PySem.W.Frag} {mg : Str → Option Value} {base : Heap}
set_option maxHeartbeats 8000000 in
theorem ok_floor {f fT fO : Addr} {fd fdT fdO : FuncData} (F : Fun K "_law_floor" "_law_floor" sFloor f fd) (T : Txt mg) (FT : Fun K "_law_take" "_law_take" sTake fT fdT) (bT : Binds K fdT ["_law_hand_here", "_law_many"] []) (mT : mg "_law_take" = some (.ref fT))
    (FO : Fun K "_law_of" "_law_of" sOf fO fdO) (bO : Binds K fdO ["_law_hand_here", "_law_some"] []) (mO : mg "_law_of" = some (.ref fO)) : FnOk P w K mg base CX0 3 f fd ["_law_hand_here"] spFloor := by
  have GT : FnOk P w K mg base CX0 1 fT fdT ["_law_hand_here", "_law_many"] spTake := ok_take FT
  refine F.ok scFloor (fun vs H Q E h => ?_) (fun cdv A outer s H vs Q E hr h => ?_)
  · obtain ⟨l, d, m, t, rfl, _⟩ := h
    rfl
  · obtain ⟨l, d, m, t, rfl, hA, ht, q⟩ := h
    have nd := scFloor.nd
    have hr1 : Room 1 _ := hr.mono (by decide)
    refine ⟨_, pss_cons (ps_set (i := 1) nd rfl (Or.inl rfl) pe_int)
      (pss_cons (ps_if (pt_cmpR op_eq (pe_call GT hr1 rfl mT FT.kp bT .nil pass0 (pa_cons (pv 0) (pa_cons pe_int pa_nil))) pe_int (nomark _)) (pss_one (ps_set (i := 1) nd rfl (Or.inl rfl) pe_int)) pss_nil)
      (ps_rest T FT bT mT FO bO mO hr)), ?_⟩
    refine ⟨_, rfl, l, d, m, t, 8, rfl, hA, by omega, by decide, by decide, fun r d1 t1 _ _ _ ht1 hA1 => ⟨rfl, _, rfl, ite2 (fun _ => ?_) (fun _ => ?_)⟩⟩
    all_goals
      refine ⟨l, d1, m, t1, _, rfl, hA1, by omega, by decide, by decide, fun p ys cs H' d' t' kb hA' ht' hp hC hS hB hL => ?_⟩
      exact q p ys cs H' d' t' (((KB.refl H l).took).trans kb) hA' (by omega) hp hC hS hB hL
end
end K4
set_option Elab.async false
set_option linter.all false
set_option maxRecDepth 100000
namespace K4
open PySem L2 PyProof.Rows
def adj (last : List (Int × Int)) (c : Int × Int) : Bool := last.any fun o => besB c o
structure PF (cs : List (Int × Int)) (a : Int × Int) (part last rest : List (Int × Int)) : Prop where
  perm : (part ++ rest).Perm cs
  sub : ∀ c ∈ part, Rch cs a c
  st : a ∈ part
  lp : ∀ c ∈ last, c ∈ part
  cl : ∀ c ∈ part, c ∉ last → ∀ d ∈ cs, d ∈ arL c → d ∈ part
  ll : last.length ≤ cs.length
theorem PF.done {cs : List (Int × Int)} {a : Int × Int} {part rest : List (Int × Int)} (h : PF cs a part [] rest) (c : Int × Int) : c ∈ part ↔ Rch cs a c := by
  refine ⟨h.sub c, fun r => ?_⟩
  induction r with
  | refl => exact h.st
  | step _ hd hn ih => exact h.cl _ ih (by simp) _ hd hn
theorem filter_more {rest : List (Int × Int)} (p : Int × Int → Bool) : rest.filter (fun c => !decide (c ∈ rest.filter p)) = rest.filter (fun c => !p c) := by
  refine List.filter_congr fun c hc => ?_
  congr 1
  rw [Bool.eq_iff_iff, decide_eq_true_iff, List.mem_filter]
  exact ⟨fun h => h.2, fun h => ⟨hc, h⟩⟩
theorem PF.go {cs : List (Int × Int)} {a : Int × Int} {part last rest : List (Int × Int)} (h : PF cs a part last rest) : PF cs a (part ++ rest.filter (adj last)) (rest.filter (adj last)) (rest.filter fun c => !decide (c ∈ rest.filter (adj last))) := by
  have inC : ∀ c, c ∈ cs ↔ c ∈ part ∨ c ∈ rest := fun c => by rw [← h.perm.mem_iff, List.mem_append]
  refine ⟨?_, fun c hc => ?_, List.mem_append_left _ h.st, fun c hc => List.mem_append_right _ hc, fun c hc hl d hd hn => ?_, ?_⟩
  · rw [filter_more, List.append_assoc]
    exact (List.Perm.append_left _ (List.filter_append_perm _ _)).trans h.perm
  · rcases List.mem_append.mp hc with hc | hc
    · exact h.sub c hc
    · obtain ⟨h1, h2⟩ := List.mem_filter.mp hc
      obtain ⟨o, ho, hb⟩ := List.any_eq_true.mp h2
      exact .step (h.sub o (h.lp o ho)) ((inC c).mpr (.inr h1)) ((bes_ar o c).mp hb)
  · rcases List.mem_append.mp hc with hc | hc
    · by_cases hla : c ∈ last
      · rcases (inC d).mp hd with hd | hd
        · exact List.mem_append_left _ hd
        · exact List.mem_append_right _ (List.mem_filter.mpr ⟨hd, List.any_eq_true.mpr ⟨c, hla, (bes_ar c d).mpr hn⟩⟩)
      · exact List.mem_append_left _ (h.cl c hc hla d hd hn)
    · exact absurd hc hl
  · have h1 := List.length_filter_le (adj last) rest
    have h2 := h.perm.length_eq
    rw [List.length_append] at h2
    omega
theorem take_filter {α : Type} {l : List α} {p : α → Bool} {i : Nat} (hi : i < l.length) : (l.take (i + 1)).filter p = (l.take i).filter p ++ (if p l[i] = true then [l[i]] else []) := by
  rw [List.take_succ_eq_append_getElem hi, List.filter_append]
  simp [List.filter_cons]
theorem appC {H : Hp} : ∀ {ys zs : List V} {cs ds : List (Int × Int)}, Cells H ys cs → Cells H zs ds → Cells H (ys ++ zs) (cs ++ ds)
  | _, _, _, _, .nil, h => h
  | _, _, _, _, .cons r t, h => .cons r (appC t h)
def spPart : Sp := fun vs H Q _ => ∃ p b ys cs a, vs = [.ref p, .ref b] ∧ H p = some (.tup ys) ∧ Cells H ys cs ∧ cs.Nodup ∧ cs.length ≤ 1000 ∧ BB cs ∧ H b = some (.tup [.int (a : Int × Int).1, .int a.2]) ∧ a ∈ cs ∧
  ∀ t zs rs H', Same H H' → H t = none → H' t = some (.tup zs) → Cells H' zs rs → rs.Pairwise ltC → (∀ c, c ∈ rs ↔ Rch cs a c) → (∀ c ∈ rs, c ∈ cs) → Q (.ref t) H'
theorem boot_any' : bootBuiltins "any" = some (.builtin "any") := by decide +kernel
abbrev NP : List Str := ["_law_floor_here", "_law_cell", "_law_part_here", "_law_last", "_law_rest", "_law_more", "_law_one"]
def PS' (p b pt la re : Addr) (o5 o6 : Option V) : L2.St := [some (.ref p), some (.ref b), some (.ref pt), some (.ref la), some (.ref re), o5, o6]
structure PH (H0 : Hp) (cs : List (Int × Int)) (a : Int × Int) (pt la re : Addr) (part last rest : List (Int × Int)) (H : Hp) : Prop where
  same : Same H0 H
  p : ∃ ys, H pt = some (.lst ys) ∧ Cells H ys part
  l : ∃ ys, H la = some (.lst ys) ∧ Cells H ys last
  r : ∃ ys, H re = some (.lst ys) ∧ Cells H ys rest
  f : PF cs a part last rest
theorem PH.go {H0 H H' : Hp} {cs : List (Int × Int)} {a : Int × Int} {pt la re : Addr} {part last rest : List (Int × Int)} (h : PH H0 cs a pt la re part last rest H) (s : Same H H') : PH H0 cs a pt la re part last rest H' := by
  obtain ⟨h1, ⟨y1, p1, p2⟩, ⟨y2, q1, q2⟩, ⟨y3, r1, r2⟩, h5⟩ := h
  exact ⟨h1.trans s, ⟨y1, s _ _ p1, p2.mono s.tups⟩, ⟨y2, s _ _ q1, q2.mono s.tups⟩, ⟨y3, s _ _ r1, r2.mono s.tups⟩, h5⟩
section
variable {P : Program} {w : World} {K : PySem.W.Frag} {mg : Str → Option Value} {base : Heap}
theorem scPart : FnScope NP ["_law_floor_here", "_law_cell"] (defScope sPart) := ⟨rfl, rfl, rfl, by decide +kernel, rfl, by decide +kernel, by decide +kernel⟩
set_option maxHeartbeats 8000000 in
theorem ok_part {f fB : Addr} {fd fdB : FuncData} (F : Fun K "_law_part" "_law_part" sPart f fd) (T : Txt mg) (FB : Fun K "_law_are_beside" "_law_are_beside" sBeside fB fdB) (bB : Binds K fdB ["_law_one", "_law_other"] []) (mB : mg "_law_are_beside" = some (.ref fB)) :
    FnOk P w K mg base CX0 2 f fd ["_law_floor_here", "_law_cell"] spPart := by
  have GB : FnOk P w K mg base CX0 1 fB fdB ["_law_one", "_law_other"] spBeside := ok_beside FB T
  refine F.ok scPart (fun vs H Q E h => ?_) (fun cdv A outer s H vs Q E hr h => ?_)
  · obtain ⟨p, b, ys, cs, a, rfl, _⟩ := h
    rfl
  · obtain ⟨p, b, ys, cs, a, rfl, hp, hC, hN, hL, hB, hb, ha, q⟩ := h
    have nd := scPart.nd
    refine ⟨_, pss_cons (ps_par (i := 2) (j := 3) rfl nd rfl rfl (by decide) rfl rfl (pa_cons (pe_lst (pa_cons (pv 1) pa_nil)) (pa_cons (pe_lst (pa_cons (pv 1) pa_nil)) pa_nil)) rfl)
      (pss_cons (ps_setC (i0 := 4) (own := ["_law_one"]) (caps := [1]) nd rfl (Or.inl rfl) rfl (cscope (defScope sPart) NP (by decide +kernel)) (pi_tup (pv 0))
        (fun Y => pg_name (i := 0) (show (["_law_one", "_law_cell"] : List Str).Nodup by decide +kernel) rfl (Or.inl rfl)) (fun Y => pts_one (pt_cmpR (op_neP (hu2 hr)) (pv 0) (pv 1) (nomark _))) (fun Y => pv 0))
      (pss_cons (ps_while PassesOwn.never (pt_cmpR (op_neN (hu0 hr)) (pv 3) (pe_lst pa_nil) (nomark _))
        (pss_cons (ps_set (i := 5) nd rfl (Or.inr rfl) (pe_lst pa_nil))
        (pss_cons (ps_for PassesOwn.never rfl (pi_list (pv 4)) (pg_name (i := 6) nd rfl (Or.inr rfl))
          (pss_one (ps_if (pt_val (pe_callB (call_anyB rfl) (by rfl) T.any boot_any' (pa_cons (pe_comp (own := ["_law_other"]) (caps := [6]) rfl (cscope (defScope sPart) NP (by decide +kernel)) (pi_list (pv 3))
              (fun Y => pg_name (i := 0) (show (["_law_other", "_law_one"] : List Str).Nodup by decide +kernel) rfl (Or.inl rfl)) (fun Y => pts_nil) (fun Y => pe_call GB hr rfl mB FB.kp bB .nil pass0 (pa_cons (pv 1) (pa_cons (pv 0) pa_nil)))) pa_nil)))
            (pss_one (ps_expr (pe_bm PySem.F.plainAttrs_list PySem.F.slot_list_append PySem.F.type_list_append mt_append (pv 5) (pa_cons (pv 6) pa_nil)))) pss_nil)))
        (pss_cons (ps_set (i := 2) nd rfl (Or.inl rfl) (pe_op op_cat (pv 2) (pv 5)))
        (pss_cons (ps_setC (i0 := 4) (own := ["_law_one"]) (caps := [5]) nd rfl (Or.inl rfl) rfl (cscope (defScope sPart) NP (by decide +kernel)) (pi_list (pv 4))
          (fun Y => pg_name (i := 0) (show (["_law_one", "_law_more"] : List Str).Nodup by decide +kernel) rfl (Or.inl rfl)) (fun Y => pts_one (pt_cmpR (op_notInL (hu2 hr)) (pv 0) (pv 1) rfl)) (fun Y => pv 0))
        (pss_one (ps_set (i := 3) nd rfl (Or.inl rfl) (pv 5))))))))
      (pss_one (ps_ret (pe_callTy call_tuple_of rfl T.tuple boot_tuple (pa_cons (pe_callB (call_sortedL rfl) (by rfl) T.sorted boot_sorted' (pa_cons (pv 2) pa_nil)) pa_nil)))))), ?_⟩
    have z1 : 1 ≤ sizeLine := by decide
    have z2 : 2 ≤ sizeLine := by decide
    have z0 : 0 ≤ sizeLine := Nat.zero_le _
    refine ⟨_, rfl, z1, fun pt hpt => ⟨_, rfl, z1, fun la hla => ⟨.ref pt, .ref la, rfl, ?_⟩⟩⟩
    have s1 : Same H _ := ((Same.refl H).upd (o := .lst [.ref b]) hpt).upd (o := .lst [.ref b]) hla
    have hpt1 : upd (upd H pt (.lst [.ref b])) la (.lst [.ref b]) pt = some (.lst [.ref b]) := keepU upd_same hla
    have hla1 : upd (upd H pt (.lst [.ref b])) la (.lst [.ref b]) la = some (.lst [.ref b]) := upd_same
    generalize upd (upd H pt (.lst [.ref b])) la (.lst [.ref b]) = H1 at s1 hpt1 hla1 ⊢
    have hC1 := hC.mono s1.tups
    have hb1 := s1 _ _ hb
    have ly := hC.length
    refine ⟨_, rfl, p, rfl, ⟨ys, SqT.of (s1 _ _ hp)⟩, fun Y => ?_⟩
    refine comp_tup (K := K) (a := p) (xs := ys) (fun i zs H2 => H2 = H1 ∧ Cells H1 zs ((cs.take i).filter fun c => !decide (c = a)) ∧ zs.length ≤ i) ⟨rfl, .nil, Nat.le_refl _⟩ (fun i zs H2 ⟨e, _⟩ => by subst e; exact SqT.of (s1 _ _ hp)) ?_ ?_
    · rintro i x zs H2 hx ⟨rfl, hz1, hz2⟩
      have hi : i < cs.length := by rw [← ly]; exact (List.getElem?_eq_some_iff.mp hx).1
      obtain ⟨e, he, hec⟩ := hC1.get (i := i) (c := cs[i]) (by simp [hi])
      rw [hx] at he
      cases he
      refine ⟨keep_set rfl, ⟨_, rfl, _, rfl, e, b, cs[i], a, rfl, rfl, hec, hb1, _, rfl, ?_⟩⟩
      refine ite2 (fun hin => ⟨_, rfl, ?_, rfl, ?_, ?_⟩) (fun hin => ⟨rfl, ?_, by omega⟩)
      · exact Nat.lt_of_le_of_lt (show zs.length ≤ 1000 by omega) (by decide)
      · rw [take_filter hi, if_pos hin]
        exact hz1.snoc hec
      · rw [List.length_append, List.length_singleton]
        omega
      · rw [take_filter hi, if_neg hin, List.append_nil]
        exact hz1
    rintro zs H2 ⟨rfl, hz1, hz2⟩ re hre
    rw [List.take_of_length_le (by rw [ly]; exact Nat.le_refl _)] at hz1
    have ph0 : PH H cs a pt la re [a] [a] (cs.filter fun c => !decide (c = a)) (upd H2 re (.lst zs)) := by
      refine ⟨s1.upd hre, ⟨_, keepU hpt1 hre, .cons ⟨b, rfl, keepU hb1 hre⟩ .nil⟩, ⟨_, keepU hla1 hre, .cons ⟨b, rfl, keepU hb1 hre⟩ .nil⟩, ⟨_, upd_same, hz1.mono fun e xs ee => keepU ee hre⟩, ⟨?_, fun c hc => ?_, .head _, fun c hc => hc, fun c hc hl => absurd hc hl, List.length_pos_of_mem ha⟩⟩
      · have e1 : cs.filter (fun c => decide (c = a)) = [a] := by
          have hm : a ∈ cs.filter (fun c => decide (c = a)) := List.mem_filter.mpr ⟨ha, decide_eq_true rfl⟩
          have hnn : (cs.filter (fun c => decide (c = a))).Nodup := List.Nodup.sublist List.filter_sublist hN
          have hal : ∀ c ∈ cs.filter (fun c => decide (c = a)), c = a := fun c hc => of_decide_eq_true (List.mem_filter.mp hc).2
          revert hm hnn hal
          generalize cs.filter (fun c => decide (c = a)) = l
          intro hm hnn hal
          match l, hm, hnn, hal with
          | [x], _, _, hal => rw [hal x (.head _)]
          | x :: y :: r, _, hnn, hal =>
            have := (List.nodup_cons.mp hnn).1
            rw [hal x (.head _), ← hal y (.tail _ (.head _))] at this
            exact absurd (.head _) this
        have := List.filter_append_perm (fun c => decide (c = a)) cs
        rw [e1] at this
        exact this
      · rw [List.mem_singleton.mp hc]
        exact .refl
    refine ⟨fun m σ H' => ∃ pt la re part last rest o5 o6, m = rest.length + (if last.isEmpty then 0 else 1) ∧ σ = PS' p b pt la re o5 o6 ∧ PH H cs a pt la re part last rest H', ⟨_, pt, la, re, _, _, _, none, none, rfl, rfl, ph0⟩, ?_⟩
    clear ph0 hz1 hz2 hre hpt1 hla1 hpt hla s1 hC1 hb1
    rintro m σ H3 ⟨pt, la, re, part, last, rest, o5, o6, rfl, rfl, h3⟩
    obtain ⟨yp, hyp, hCp⟩ := h3.p
    obtain ⟨yl, hyl, hCl⟩ := h3.l
    obtain ⟨yr, hyr, hCr⟩ := h3.r
    have lsum : part.length + rest.length = cs.length := by rw [← h3.f.perm.length_eq, List.length_append]
    have lyp := hCp.length
    have lyl := hCl.length
    have lyr := hCr.length
    refine ⟨_, rfl, z0, fun e0 he0 => ⟨la, e0, yl, rfl, rfl, keepU hyl he0, upd_same, _, rfl, ?_⟩⟩
    have h4 := h3.go ((Same.refl H3).upd (o := .lst []) he0)
    have hyp4 : upd H3 e0 (.lst []) pt = some (.lst yp) := keepU hyp he0
    have hyl4 : upd H3 e0 (.lst []) la = some (.lst yl) := keepU hyl he0
    have hyr4 : upd H3 e0 (.lst []) re = some (.lst yr) := keepU hyr he0
    have hCp4 : Cells (upd H3 e0 (.lst [])) yp part := hCp.mono fun e xs ee => keepU ee he0
    have hCl4 : Cells (upd H3 e0 (.lst [])) yl last := hCl.mono fun e xs ee => keepU ee he0
    have hCr4 : Cells (upd H3 e0 (.lst [])) yr rest := hCr.mono fun e xs ee => keepU ee he0
    generalize upd H3 e0 (.lst []) = H4 at h4 hyp4 hyl4 hyr4 hCp4 hCl4 hCr4 ⊢
    have ndA : (part ++ rest).Nodup := (h3.f.perm.nodup_iff).mpr hN
    have inC : ∀ c ∈ part, c ∈ cs := fun c hc => h3.f.perm.mem_iff.mp (List.mem_append_left _ hc)
    have lpl : last.length ≤ 1000 := Nat.le_trans h3.f.ll hL
    cases last with
    | nil =>
      have ye : yl = [] := List.eq_nil_of_length_eq_zero lyl
      subst ye
      refine iteF ?_
      refine ⟨_, rfl, pt, yp, part, rfl, hyp4, hCp4, (List.nodup_append.mp ndA).1, (fun c hc => hB c (inC c hc)), .inl (by omega), by omega, fun p2 ys2 cs2 hp2 hC2 hpm hpw => ⟨p2, ys2, rfl, .inl ⟨SqL.of upd_same, fun tp htp => ?_⟩⟩⟩
      refine q tp ys2 cs2 _ (h4.same.trans (((Same.refl H4).upd hp2).upd htp)) ?_ upd_same (hC2.mono fun e xs ee => keepU (keepU ee hp2) htp) hpw (fun c => (hpm.mem_iff).trans (h4.f.done c)) (fun c hc => inC c (hpm.mem_iff.mp hc))
      cases e : H tp with
      | none => rfl
      | some o => rw [(h4.same.trans ((Same.refl H4).upd hp2)) tp o e] at htp; cases htp
    | cons l0 lr =>
      have yne : (!yl.isEmpty) = true := by
        cases yl with
        | nil => cases lyl
        | cons _ _ => rfl
      rw [yne]
      refine iteT ?_
      refine ⟨fun σ' H' => ∃ pt la re part' last' rest' o5 o6, rest'.length + (if last'.isEmpty then 0 else 1) < rest.length + 1 ∧ σ' = PS' p b pt la re o5 o6 ∧ PH H cs a pt la re part' last' rest' H', fun σ' H' ⟨pt, la, re, part', last', rest', o5, o6, e1, e2, e3⟩ => ⟨_, e1, pt, la, re, part', last', rest', o5, o6, rfl, e2, e3⟩, ?_⟩
      have lyl' : yl.length = (l0 :: lr).length := lyl
      generalize l0 :: lr = last at h4 hCl4 lpl lyl' ⊢
      refine ⟨z0, fun mo hmo => ?_⟩
      have hyp5 := keepU (u := .lst []) hyp4 hmo
      have hyl5 := keepU (u := .lst []) hyl4 hmo
      have hyr5 := keepU (u := .lst []) hyr4 hmo
      refine ⟨_, rfl, re, rfl, ⟨yr, SqL.of hyr5⟩, ?_⟩
      refine for_list (K := K) (a := re) (xs := yr) (fun j σ H5 => ∃ o6 zs, σ = PS' p b pt la re (some (.ref mo)) o6 ∧ Same H4 H5 ∧ H5 mo = some (.lst zs) ∧ Cells H5 zs ((rest.take j).filter (adj last)) ∧ zs.length ≤ j)
        ⟨o6, [], rfl, (Same.refl H4).upd hmo, upd_same, .nil, Nat.le_refl _⟩ (fun j σ H5 _ ⟨_, _, _, s5, _⟩ => SqL.of (s5 _ _ hyr4)) ?_ ?_
      · rintro j x σ H5 hx ⟨o6', zs, rfl, s5, hmo5, hz5, lz5⟩
        have hj : j < rest.length := by rw [← lyr]; exact (List.getElem?_eq_some_iff.mp hx).1
        obtain ⟨e, he, hec⟩ := (hCr4.mono s5.tups).get (i := j) (c := rest[j]) (by simp [hj])
        rw [hx] at he
        cases he
        have hyl6 := s5 _ _ hyl4
        have hCl6 := hCl4.mono s5.tups
        refine ⟨_, rfl, la, rfl, ⟨yl, SqL.of hyl6⟩, fun Y => ?_⟩
        refine comp_list (K := K) (a := la) (xs := yl) (fun i us H6 => Same H5 H6 ∧ us = ((last.take i).map fun o => besB rest[j] o).map V.bl) ⟨Same.refl H5, rfl⟩ (fun i us H6 ⟨s6, _⟩ => SqL.of (s6 _ _ hyl6)) ?_ ?_
        · rintro i x us H6 hx ⟨s6, rfl⟩
          have hi : i < last.length := by rw [← lyl']; exact (List.getElem?_eq_some_iff.mp hx).1
          obtain ⟨g, hg, hgc⟩ := (hCl6.mono s6.tups).get (i := i) (c := last[i]) (by simp [hi])
          rw [hx] at hg
          cases hg
          refine ⟨keep_set rfl, tyes ⟨_, rfl, _, rfl, e, g, rest[j], last[i], rfl, s6 _ _ hec, hgc, ?_, s6, ?_⟩⟩
          · rw [List.length_map, List.length_map, List.length_take]
            exact Nat.lt_of_le_of_lt (show min i last.length ≤ 1000 by omega) (by decide)
          · rw [List.take_succ_eq_append_getElem hi, List.map_append, List.map_append]
            rfl
        · rintro us H6 ⟨s6, rfl⟩ D fD
          rw [List.take_of_length_le (by rw [lyl']; exact Nat.le_refl _)]
          refine ⟨D, last.map (fun o => besB rest[j] o), rfl, upd_same, _, rfl, ?_⟩
          have eA : (last.map fun o => besB rest[j] o).any id = adj last rest[j] := by
            unfold adj
            rw [List.any_map]
            rfl
          rw [eA]
          have s7 : Same H5 _ := s6.upd (o := .lst ((last.map fun o => besB rest[j] o).map V.bl)) fD
          generalize upd H6 D _ = H7 at s7 ⊢
          have hmo7 := s7 _ _ hmo5
          have hz7 := hz5.mono s7.tups
          have mo0 : H4 mo = none := hmo
          refine ite2 (fun hin => ?_) (fun hin => ?_)
          · refine ⟨_, rfl, .inl ⟨rfl, _, SqL.of hmo7⟩, _, rfl, mo, zs, _, rfl, rfl, hmo7, Nat.lt_of_le_of_lt (show zs.length ≤ 1000 by omega) (by decide), ?_⟩
            refine ⟨_, _, rfl, fun x o ex => ?_, upd_same, ?_, ?_⟩
            · rw [upd_ne (ne_of_none ex mo0)]
              exact s7 _ _ (s5 x o ex)
            · rw [take_filter hj, if_pos hin]
              exact (hz7.mono fun e xs ee => (upd_ne (fun z => by rw [z, hmo7] at ee; cases ee)).trans ee).snoc ((upd_ne (fun z => by have h8 := s7 _ _ hec; rw [z, hmo7] at h8; cases h8)).trans (s7 _ _ hec))
            · rw [List.length_append, List.length_singleton]
              omega
          · refine ⟨_, zs, rfl, s5.trans s7, hmo7, ?_, by omega⟩
            rw [take_filter hj, if_neg hin, List.append_nil]
            exact hz7
      · rintro σ H5 ⟨o6', zs, rfl, s5, hmo5, hz5, lz5⟩
        rw [List.take_of_length_le (by rw [lyr]; exact Nat.le_refl _)] at hz5
        have hyp6 := s5 _ _ hyp4
        have hyr6 := s5 _ _ hyr4
        have h6 := h4.go s5
        refine ⟨_, rfl, _, rfl, pt, mo, yp, zs, rfl, rfl, hyp6, hmo5, Nat.le_trans (show yp.length + zs.length ≤ 1000 by omega) (by decide), fun np hnp => ?_⟩
        have s7 : Same H5 _ := (Same.refl H5).upd (o := .lst (yp ++ zs)) hnp
        have hnp7 : upd H5 np (.lst (yp ++ zs)) np = some (.lst (yp ++ zs)) := upd_same
        generalize upd H5 np (.lst (yp ++ zs)) = H7 at s7 hnp7 ⊢
        have hmo7 := s7 _ _ hmo5
        have hyr7 := s7 _ _ hyr6
        have hz7 := hz5.mono s7.tups
        have hCr7 := (hCr4.mono s5.tups).mono s7.tups
        have hCp7 := (hCp4.mono s5.tups).mono s7.tups
        refine ⟨_, rfl, re, rfl, ⟨yr, SqL.of hyr7⟩, fun Y => ?_⟩
        refine comp_list (K := K) (a := re) (xs := yr) (fun i us H8 => H8 = H7 ∧ Cells H7 us ((rest.take i).filter fun c => !decide (c ∈ rest.filter (adj last))) ∧ us.length ≤ i) ⟨rfl, .nil, Nat.le_refl _⟩ (fun i us H8 ⟨e, _⟩ => by subst e; exact SqL.of hyr7) ?_ ?_
        · rintro i x us H8 hx ⟨rfl, hu1', hu2'⟩
          have hi : i < rest.length := by rw [← lyr]; exact (List.getElem?_eq_some_iff.mp hx).1
          obtain ⟨e, he, hec⟩ := hCr7.get (i := i) (c := rest[i]) (by simp [hi])
          rw [hx] at he
          cases he
          refine ⟨keep_set rfl, ⟨_, rfl, _, rfl, e, rest[i], mo, zs, _, rfl, hec, rfl, hmo7, hz7, _, rfl, ?_⟩⟩
          refine ite2 (fun hin => ⟨_, rfl, ?_, rfl, ?_, ?_⟩) (fun hin => ⟨rfl, ?_, by omega⟩)
          · exact Nat.lt_of_le_of_lt (show us.length ≤ 1000 by omega) (by decide)
          · rw [take_filter hi, if_pos hin]
            exact hu1'.snoc hec
          · rw [List.length_append, List.length_singleton]
            omega
          · rw [take_filter hi, if_neg hin, List.append_nil]
            exact hu1'
        · rintro us H8 ⟨rfl, hu1', hu2'⟩ nr hnr
          rw [List.take_of_length_le (by rw [lyr]; exact Nat.le_refl _)] at hu1'
          refine ⟨_, rfl, np, mo, nr, _, _, _, _, _, ?_, rfl, ((h6.same.trans s7).upd hnr), ⟨_, keepU hnp7 hnr, appC (hCp7.mono fun e xs ee => keepU ee hnr) (hz7.mono fun e xs ee => keepU ee hnr)⟩, ⟨_, keepU hmo7 hnr, hz7.mono fun e xs ee => keepU ee hnr⟩, ⟨_, upd_same, hu1'.mono fun e xs ee => keepU ee hnr⟩, h4.f.go⟩
          rw [filter_more]
          have hp := (List.filter_append_perm (adj last) rest).length_eq
          rw [List.length_append] at hp
          cases hm : rest.filter (adj last) with
          | nil =>
            rw [hm, List.length_nil, Nat.zero_add] at hp
            rw [hp, List.isEmpty_nil, if_pos rfl]
            omega
          | cons m0 mr =>
            rw [hm, List.length_cons] at hp
            rw [List.isEmpty_cons, if_neg Bool.false_ne_true]
            have hp' : mr.length + 1 + (rest.filter fun c => !adj last c).length = rest.length := hp
            omega
end
end K4
set_option Elab.async false
set_option linter.all false
set_option maxRecDepth 100000
namespace K4
open PySem L2 PyProof.Rows
def IsPart (cs : List (Int × Int)) (a : Int × Int) (rs : List (Int × Int)) : Prop := rs.Pairwise ltC ∧ (∀ c, c ∈ rs ↔ Rch cs a c) ∧ ∀ c ∈ rs, c ∈ cs
theorem IsPart.eq {cs : List (Int × Int)} {a : Int × Int} {rs ts : List (Int × Int)} (h : IsPart cs a rs) (k : IsPart cs a ts) : rs = ts := eq_of_ltC _ _ h.1 k.1 fun x => (h.2.1 x).trans (k.2.1 x).symm
inductive PL (cs : List (Int × Int)) : List (Int × Int) → List (List (Int × Int)) → Prop
  | nil : PL cs [] []
  | cons {a : Int × Int} {t r : List (Int × Int)} {ps : List (List (Int × Int))} : IsPart cs a r → PL cs (t.filter fun c => !decide (c ∈ r)) ps → PL cs (a :: t) (r :: ps)
theorem PL.eq {cs : List (Int × Int)} : ∀ {l : List (Int × Int)} {ps qs : List (List (Int × Int))}, PL cs l ps → PL cs l qs → ps = qs := by
  intro l ps qs h
  induction h generalizing qs with
  | nil => intro k; cases k; rfl
  | cons hr _ ih =>
    intro k
    cases k with
    | cons kr kt =>
      have e := hr.eq kr
      subst e
      rw [ih kt]
theorem _root_.L2.PartsAt.mono {H H' : Hp} {ys : List V} {ps : List (List (Int × Int))} (h : PartsAt H ys ps) (k : ∀ a xs, H a = some (.tup xs) → H' a = some (.tup xs)) : PartsAt H' ys ps :=
  Paired.mapP h fun v r ⟨t, zs, e, h1, h2⟩ => ⟨t, zs, e, k _ _ h1, h2.mono k⟩
theorem _root_.L2.PartsAt.snoc {H : Hp} : ∀ {ys : List V} {ps : List (List (Int × Int))} {t : Addr} {zs : List V} {r : List (Int × Int)}, PartsAt H ys ps → H t = some (.tup zs) → Cells H zs r → PartsAt H (ys ++ [.ref t]) (ps ++ [r])
  | _, _, t, zs, r, .nil, h1, h2 => .cons ⟨t, zs, rfl, h1, h2⟩ .nil
  | _, _, t, zs, r, .cons x y, h1, h2 => .cons x (L2.PartsAt.snoc y h1 h2)
theorem _root_.L2.PartsAt.length {H : Hp} {ys : List V} {ps : List (List (Int × Int))} (h : PartsAt H ys ps) : ys.length = ps.length := Paired.length h
def B30 (cs : List (Int × Int)) : Prop := ∀ c ∈ cs, 0 ≤ c.1 ∧ c.1 ≤ 30 ∧ 0 ≤ c.2 ∧ c.2 ≤ 30
theorem B30.bb {cs : List (Int × Int)} (h : B30 cs) : BB cs := fun c hc => by have := h c hc; omega
theorem nodup_of {cs : List (Int × Int)} (h : cs.Pairwise ltC) : cs.Nodup := h.imp fun {a b} h e => by subst e; unfold ltC at h; omega
def spParts : Sp := fun vs H Q _ => ∃ p ys cs, vs = [.ref p] ∧ H p = some (.tup ys) ∧ Cells H ys cs ∧ cs.Pairwise ltC ∧ cs.length ≤ 1000 ∧ B30 cs ∧
  ∀ t zs ps H', Same H H' → H' t = some (.tup zs) → PartsAt H' zs ps → PL cs cs ps → (∀ r ∈ ps, r.length ≤ 1000) → ps.length ≤ 1000 → Q (.ref t) H'
abbrev NPs : List Str := ["floor", "free", "placed", "found", "cell", "part"]
structure QH (H0 : Hp) (cs : List (Int × Int)) (fr pd fo : Addr) (i : Nat) (done : List (List (Int × Int))) (H : Hp) : Prop where
  same : Same H0 H
  look : LookAt H fr cs
  pl : ∃ (kvs : List (List Key × V)) (ks : List (Int × Int)), H pd = some (.dT kvs) ∧ kvs.map (·.1) = ks.map kC ∧ ks.Nodup ∧ (∀ e, e ∈ ks ↔ ∃ r ∈ done, e ∈ r) ∧ (∀ e ∈ ks, e ∈ cs)
  row : ∃ ys, H fo = some (.lst ys) ∧ PartsAt H ys done
  go : ∀ ps, PL cs ((cs.drop i).filter fun c => !decide (∃ r ∈ done, c ∈ r)) ps → PL cs cs (done ++ ps)
  len : done.length ≤ i
  dl : ∀ r ∈ done, r.length ≤ 1000
  p0 : H0 pd = none
  f0 : H0 fo = none
  nf : fr ≠ pd ∧ fr ≠ fo
theorem QH.go' {H0 H H' : Hp} {cs : List (Int × Int)} {fr pd fo : Addr} {i : Nat} {done : List (List (Int × Int))} (h : QH H0 cs fr pd fo i done H) (s : Same H H') : QH H0 cs fr pd fo i done H' := by
  obtain ⟨h1, h2, ⟨kvs, ks, p1, p2⟩, ⟨ys, q1, q2⟩, h5, h6, h7, h8, h9, h10⟩ := h
  exact ⟨h1.trans s, h2.same s, ⟨kvs, ks, s _ _ p1, p2⟩, ⟨ys, s _ _ q1, q2.mono s.tups⟩, h5, h6, h7, h8, h9, h10⟩
section
variable {P : Program} {w : World} {K : PySem.W.Frag} {mg : Str → Option Value} {base : Heap}
theorem scParts : FnScope NPs ["floor"] (defScope sParts) := ⟨rfl, rfl, rfl, by decide +kernel, rfl, by decide +kernel, by decide +kernel⟩
set_option maxHeartbeats 8000000 in
theorem ok_parts {f fK fR fA : Addr} {fd fdK fdR fdA : FuncData} (F : Fun K "parts" "parts" sParts f fd) (T : Txt mg) (FK : Fun K "lookup" "lookup" sLookup fK fdK) (bK : Binds K fdK ["things"] []) (mK : mg "lookup" = some (.ref fK))
    (FR : Fun K "reached" "reached" sReached fR fdR) (bR : Binds K fdR ["free", "start"] []) (mR : mg "reached" = some (.ref fR)) (FA : Fun K "around" "around" sAround fA fdA) (bA : Binds K fdA ["cell"] []) (mA : mg "around" = some (.ref fA)) :
    FnOk P w K mg base CX0 3 f fd ["floor"] spParts := by
  have GK : FnOk P w K mg base CX0 1 fK fdK ["things"] spLookup := ok_lookup FK
  have GR : FnOk P w K mg base CX0 2 fR fdR ["free", "start"] spReached := ok_reached FR T FA bA mA
  refine F.ok scParts (fun vs H Q E h => ?_) (fun cdv A outer s H vs Q E hr h => ?_)
  · obtain ⟨p, ys, cs, rfl, _⟩ := h
    rfl
  · obtain ⟨p, ys, cs, rfl, hp, hC, hS, hL, hB, q⟩ := h
    have nd := scParts.nd
    have hr1 : Room 1 _ := hr.mono (by decide)
    refine ⟨_, pss_cons (ps_set (i := 1) nd rfl (Or.inl rfl) (pe_call GK hr1 rfl mK FK.kp bK .nil pass0 (pa_cons (pv 0) pa_nil)))
      (pss_cons (ps_set (i := 2) nd rfl (Or.inl rfl) pe_dnewT)
      (pss_cons (ps_set (i := 3) nd rfl (Or.inl rfl) (pe_lst pa_nil))
      (pss_cons (ps_for PassesOwn.never rfl (pi_tup (pv 0)) (pg_name (i := 4) nd rfl (Or.inl rfl))
        (pss_one (ps_if (pt_cmp (pc_dnotin (hu1 hr) (pv 4) (pv 2)))
          (pss_cons (ps_set (i := 5) nd rfl (Or.inl rfl) (pe_call GR hr rfl mR FR.kp bR .nil pass0 (pa_cons (pv 1) (pa_cons (pv 4) pa_nil))))
          (pss_cons (ps_expr (pe_bm PySem.F.plainAttrs_dict PySem.F.slot_dict_update PySem.F.type_dict_update (mt_updateT (hu3 hr)) (pv 2) (pa_cons (pe_call GK hr1 rfl mK FK.kp bK .nil pass0 (pa_cons (pv 5) pa_nil)) pa_nil)))
          (pss_one (ps_expr (pe_bm PySem.F.plainAttrs_list PySem.F.slot_list_append PySem.F.type_list_append mt_append (pv 3) (pa_cons (pv 5) pa_nil)))))) pss_nil)))
      (pss_one (ps_ret (pe_callTy call_tuple_of rfl T.tuple boot_tuple (pa_cons (pv 3) pa_nil))))))), ?_⟩
    have z0 : 0 ≤ sizeLine := Nat.zero_le _
    have z1000 : 1000 < sizeLine := by decide
    have ly := hC.length
    have hN := nodup_of hS
    refine ⟨_, rfl, p, ys, cs, rfl, hp, hC, hN, hL, fun fr H1 s1 ffr hfr => ?_⟩
    refine fun pd hpd => ⟨z0, fun fo hfo => ?_⟩
    have s2 : Same H1 _ := ((Same.refl H1).upd (o := .dT []) hpd).upd (o := .lst []) hfo
    have fresh : ∀ {a : Addr} {Ha : Hp}, Same H Ha → Ha a = none → H a = none := fun {a Ha} sa ha => by
      cases e : H a with
      | none => rfl
      | some o => rw [sa a o e] at ha; cases ha
    have q0 : QH H cs fr pd fo 0 [] (upd (upd H1 pd (.dT [])) fo (.lst [])) := by
      refine ⟨s1.trans s2, hfr.same s2, ⟨[], [], keepU upd_same hfo, rfl, .nil, fun e => (by simp), fun e he => (by cases he)⟩, ⟨[], upd_same, .nil⟩, fun ps h => ?_, Nat.le_refl _, fun r hr => (by cases hr), fresh s1 hpd, fresh (s1.trans ((Same.refl H1).upd (o := .dT []) hpd)) hfo, ?_⟩
      · rw [List.drop_zero, List.filter_eq_self.mpr (fun c _ => by simp)] at h
        exact h
      · obtain ⟨kf, l1, _⟩ := hfr
        exact ⟨ne_of_none l1 hpd, ne_of_none (keepU l1 hpd) hfo⟩
    generalize upd (upd H1 pd (.dT [])) fo (.lst []) = H2 at q0 ⊢
    refine ⟨_, rfl, p, rfl, ⟨ys, SqT.of (q0.same _ _ hp)⟩, ?_⟩
    refine for_tup (K := K) (a := p) (xs := ys) (fun i σ H3 => ∃ o4 o5 done, σ = [some (.ref p), some (.ref fr), some (.ref pd), some (.ref fo), o4, o5] ∧ QH H cs fr pd fo i done H3) ⟨none, none, [], rfl, q0⟩ (fun i σ H3 _ ⟨_, _, _, _, h3⟩ => SqT.of (h3.same _ _ hp)) ?_ ?_
    · rintro i x σ H3 hx ⟨o4, o5, done, rfl, h3⟩
      have hi : i < cs.length := by rw [← ly]; exact (List.getElem?_eq_some_iff.mp hx).1
      obtain ⟨b, hb, hbc⟩ := (hC.mono h3.same.tups).get (i := i) (c := cs[i]) (by simp [hi])
      rw [hx] at hb
      cases hb
      obtain ⟨kvs, ks, k1, k2, k3, k4, k5⟩ := h3.pl
      obtain ⟨o, g1, g2⟩ := LookAt.get (H := H3) (d := pd) (cs := ks) ⟨kvs, k1, k2⟩ hbc
      have ddr : cs.drop i = cs[i] :: cs.drop (i + 1) := List.drop_eq_getElem_cons hi
      refine ⟨_, rfl, _, rfl, pd, o, rfl, g1, _, rfl, ?_⟩
      rw [g2]
      by_cases hin : cs[i] ∈ ks
      · rw [decide_eq_true hin]
        refine iteF ⟨_, o5, done, rfl, ?_⟩
        refine ⟨h3.same, h3.look, h3.pl, h3.row, fun ps h => h3.go ps ?_, by have := h3.len; omega, h3.dl, h3.p0, h3.f0, h3.nf⟩
        rw [ddr, List.filter_cons, if_neg (by rw [decide_eq_true ((k4 _).mp hin)]; exact Bool.false_ne_true)]
        exact h
      · rw [decide_eq_false hin]
        refine iteT ?_
        have hnot : ¬ ∃ r ∈ done, cs[i] ∈ r := fun z => hin ((k4 _).mpr z)
        refine ⟨_, rfl, _, rfl, fr, b, cs, cs[i], rfl, h3.look, hL, hB.bb, hbc, List.getElem_mem _, fun t zs rs H4 s4 ft ht hzs hw hm hsub => ?_⟩
        have h4 := h3.go' s4
        have ndr := nodup_of hw
        have lrs : rs.length ≤ 1000 := Nat.le_trans (len_sub ndr hsub) hL
        refine ⟨_, rfl, .inr (.inr (.inl ⟨rfl, .inr ⟨kvs, s4 _ _ k1⟩⟩)), _, rfl, t, zs, rs, rfl, ht, hzs, ndr, lrs, fun lk H5 s5 flk hlk => ?_⟩
        have h5 := h4.go' s5
        obtain ⟨kvs2, m1, m2⟩ := hlk
        have k15 := s5 _ _ (s4 _ _ k1)
        have nlk : pd ≠ lk := ne_of_none (s4 _ _ k1) flk
        have lks : ks.length ≤ 1000 := Nat.le_trans (len_sub k3 k5) hL
        refine ⟨pd, lk, kvs, kvs2, ks, rs, rfl, rfl, nlk, k15, k2, k3, m1, m2, ndr, fun c hc => hB c (hsub c hc), lks, lrs, fun kvs' ks' w1 w2 w3 => ?_⟩
        obtain ⟨yf, f1, f2⟩ := h5.row
        have nfo : fo ≠ pd := fun z => by rw [z, k15] at f1; cases f1
        have f1' : upd H5 pd (.dT kvs') fo = some (.lst yf) := (upd_ne nfo).trans f1
        have lyf := f2.length
        have hlen := h5.len
        refine ⟨_, rfl, .inl ⟨rfl, _, SqL.of f1'⟩, _, rfl, fo, yf, _, rfl, rfl, f1', Nat.lt_of_le_of_lt (show yf.length ≤ 1000 by omega) z1000, ?_⟩
        have ku : ∀ e xs, H5 e = some (.tup xs) → upd (upd H5 pd (.dT kvs')) fo (.lst (yf ++ [.ref t])) e = some (.tup xs) := fun e xs ee => by
          rw [upd_ne (fun z => by rw [z, f1] at ee; cases ee), upd_ne (fun z => by rw [z, k15] at ee; cases ee)]
          exact ee
        refine ⟨_, _, done ++ [rs], rfl, ?_⟩
        refine ⟨fun e o ee => ?_, ?_, ⟨kvs', ks', (upd_ne (Ne.symm nfo)).trans upd_same, w1, w2, fun e => ?_, fun e he => ?_⟩, ⟨_, upd_same, (f2.mono ku).snoc (ku _ _ (s5 _ _ ht)) ((hzs.mono s5.tups).mono ku)⟩, fun ps h => ?_, (by rw [List.length_append, List.length_singleton]; omega), fun r hr => ?_, h3.p0, h3.f0, h3.nf⟩
        · rw [upd_ne (ne_of_none ee h3.f0), upd_ne (ne_of_none ee h3.p0)]
          exact h5.same e o ee
        · obtain ⟨kf, l1, l2⟩ := h5.look
          exact ⟨kf, (upd_ne h3.nf.2).trans ((upd_ne h3.nf.1).trans l1), l2⟩
        · rw [w3, k4]
          constructor
          · rintro (⟨r, hr, he⟩ | he)
            · exact ⟨r, List.mem_append_left _ hr, he⟩
            · exact ⟨rs, List.mem_append_right _ (.head _), he⟩
          · rintro ⟨r, hr, he⟩
            rcases List.mem_append.mp hr with hr | hr
            · exact .inl ⟨r, hr, he⟩
            · rw [List.mem_singleton.mp hr] at he
              exact .inr he
        · rcases (w3 e).mp he with he | he
          · exact k5 e he
          · exact hsub e he
        · rw [List.append_assoc]
          refine h3.go _ ?_
          rw [ddr, List.filter_cons, if_pos (by rw [decide_eq_false hnot]; rfl)]
          refine .cons ⟨hw, hm, hsub⟩ ?_
          rw [List.filter_filter]
          have e : (cs.drop (i + 1)).filter (fun c => (!decide (c ∈ rs)) && !decide (∃ r ∈ done, c ∈ r)) = (cs.drop (i + 1)).filter (fun c => !decide (∃ r ∈ done ++ [rs], c ∈ r)) := by
            refine List.filter_congr fun c _ => ?_
            rw [Bool.eq_iff_iff]
            simp only [Bool.and_eq_true, Bool.not_eq_true', decide_eq_false_iff_not, List.mem_append, List.mem_singleton]
            constructor
            · rintro ⟨a1, a2⟩ ⟨r, hr | rfl, hc⟩
              · exact a2 ⟨r, hr, hc⟩
              · exact a1 hc
            · intro z
              exact ⟨fun hc => z ⟨rs, .inr rfl, hc⟩, fun ⟨r, hr, hc⟩ => z ⟨r, .inl hr, hc⟩⟩
          rw [e]
          exact h
        · rcases List.mem_append.mp hr with hr | hr
          · exact h3.dl r hr
          · rw [List.mem_singleton.mp hr]
            exact lrs
    · rintro σ H3 ⟨o4, o5, done, rfl, h3⟩
      obtain ⟨yf, f1, f2⟩ := h3.row
      have hlen := h3.len
      refine ⟨_, rfl, fo, yf, rfl, .inl ⟨SqL.of f1, fun t ft => ?_⟩⟩
      refine q t yf done _ (h3.same.upd ft) upd_same (f2.mono fun e xs ee => keepU ee ft) ?_ h3.dl (by rw [ly] at hlen; omega)
      have := h3.go [] (by rw [ly, List.drop_length]; exact .nil)
      rwa [List.append_nil] at this
end
end K4
set_option Elab.async false
set_option linter.all false
set_option maxRecDepth 100000
namespace K4
open PySem L2 PyProof.Rows
theorem ar_symm {c d : Int × Int} (h : d ∈ arL c) : c ∈ arL d := by
  obtain ⟨c1, c2⟩ := c
  obtain ⟨d1, d2⟩ := d
  unfold arL at *
  simp only [List.mem_cons, Prod.mk.injEq, List.mem_nil_iff, or_false] at *
  omega
theorem Rch.trans {cs : List (Int × Int)} {a b c : Int × Int} (h : Rch cs a b) (k : Rch cs b c) : Rch cs a c := by
  induction k with
  | refl => exact h
  | step _ h1 h2 ih => exact .step ih h1 h2
theorem Rch.mem {cs : List (Int × Int)} {a b : Int × Int} (ha : a ∈ cs) (h : Rch cs a b) : b ∈ cs := by
  cases h with
  | refl => exact ha
  | step _ h1 _ => exact h1
theorem Rch.symm {cs : List (Int × Int)} {a b : Int × Int} (ha : a ∈ cs) (h : Rch cs a b) : Rch cs b a := by
  induction h with
  | refl => exact .refl
  | step h0 h1 h2 ih => exact Rch.trans (.step .refl (h0.mem ha) (ar_symm h2)) ih
def hd (r : List (Int × Int)) : Int × Int := r.getD 0 (0, 0)
structure LP (cs rest : List (Int × Int)) (done : List (List (Int × Int))) : Prop where
  sub : rest.Sublist cs
  part : ∀ r ∈ done, ∃ a ∈ cs, IsPart cs a r
  out : ∀ c ∈ rest, ∀ r ∈ done, c ∉ r
  all : ∀ c ∈ cs, c ∈ rest ∨ ∃ r ∈ done, c ∈ r
  heads : (done.map hd).Pairwise ltC
  low : ∀ r ∈ done, ∀ c ∈ rest, ltC (hd r) c
  ne : ∀ r ∈ done, r ≠ []
  go : ∀ ps, PL cs rest ps → PL cs cs (done ++ ps)
  len : done.length + rest.length ≤ cs.length
theorem LP.init (cs : List (Int × Int)) : LP cs cs [] :=
  ⟨List.Sublist.refl _, fun r h => (by cases h), fun c _ r h => (by cases h), fun c h => .inl h, .nil, fun r h => (by cases h), fun r h => (by cases h), fun ps h => h, by simp⟩
theorem LP.step {cs t r : List (Int × Int)} {a : Int × Int} {done : List (List (Int × Int))} (hS : cs.Pairwise ltC) (h : LP cs (a :: t) done) (hr : IsPart cs a r) : LP cs ((a :: t).filter fun c => !decide (c ∈ r)) (done ++ [r]) := by
  have haC : a ∈ cs := h.sub.subset (.head _)
  have har : a ∈ r := (hr.2.1 a).mpr .refl
  have hrest := hS.sublist h.sub
  have rin : ∀ c ∈ r, c ∈ a :: t := fun c hc => by
    rcases h.all c (hr.2.2 c hc) with h1 | ⟨r', hr', hc'⟩
    · exact h1
    · obtain ⟨a', ha', hp'⟩ := h.part r' hr'
      have : a ∈ r' := (hp'.2.1 a).mpr (((hp'.2.1 c).mp hc').trans (((hr.2.1 c).mp hc).symm haC))
      exact absurd this (h.out a (.head _) r' hr')
  have hhd : hd r = a := by
    cases r with
    | nil => cases har
    | cons x xs =>
      show x = a
      rcases List.mem_cons.mp har with e | e
      · exact e.symm
      · have h1 := (List.pairwise_cons.mp hr.1).1 a e
        rcases List.mem_cons.mp (rin x (.head _)) with e' | e'
        · exact e'
        · have h2 := (List.pairwise_cons.mp hrest).1 x e'
          unfold ltC at h1 h2
          omega
  have low' : ∀ c ∈ (a :: t).filter (fun c => !decide (c ∈ r)), ltC a c := fun c hc => by
    obtain ⟨h1, h2⟩ := List.mem_filter.mp hc
    rcases List.mem_cons.mp h1 with rfl | h1
    · rw [decide_eq_true har] at h2
      cases h2
    · exact (List.pairwise_cons.mp hrest).1 c h1
  have ef : (a :: t).filter (fun c => !decide (c ∈ r)) = t.filter (fun c => !decide (c ∈ r)) := by
    rw [List.filter_cons, if_neg (by rw [decide_eq_true har]; exact Bool.false_ne_true)]
  refine ⟨(List.filter_sublist).trans h.sub, fun r' hr' => ?_, fun c hc r' hr' => ?_, fun c hc => ?_, ?_, fun r' hr' c hc => ?_, fun r' hr' => ?_, fun ps hp => ?_, ?_⟩
  · rcases List.mem_append.mp hr' with h1 | h1
    · exact h.part r' h1
    · rw [List.mem_singleton.mp h1]
      exact ⟨a, haC, hr⟩
  · obtain ⟨h1, h2⟩ := List.mem_filter.mp hc
    rcases List.mem_append.mp hr' with h3 | h3
    · exact h.out c h1 r' h3
    · rw [List.mem_singleton.mp h3]
      intro z
      rw [decide_eq_true z] at h2
      cases h2
  · rcases h.all c hc with h1 | ⟨r', h1, h2⟩
    · by_cases z : c ∈ r
      · exact .inr ⟨r, List.mem_append_right _ (.head _), z⟩
      · exact .inl (List.mem_filter.mpr ⟨h1, by rw [decide_eq_false z]; rfl⟩)
    · exact .inr ⟨r', List.mem_append_left _ h1, h2⟩
  · rw [List.map_append]
    refine List.pairwise_append.mpr ⟨h.heads, List.pairwise_singleton _ _, fun x hx y hy => ?_⟩
    obtain ⟨r', hr', rfl⟩ := List.mem_map.mp hx
    rw [show y = hd r from List.mem_singleton.mp hy, hhd]
    exact h.low r' hr' a (.head _)
  · rcases List.mem_append.mp hr' with h1 | h1
    · exact h.low r' h1 c (List.mem_filter.mp hc).1
    · rw [List.mem_singleton.mp h1, hhd]
      exact low' c hc
  · rcases List.mem_append.mp hr' with h1 | h1
    · exact h.ne r' h1
    · rw [List.mem_singleton.mp h1]
      intro z
      rw [z] at har
      cases har
  · rw [List.append_assoc]
    rw [ef] at hp
    exact h.go _ (.cons hr hp)
  · have h1 := h.len
    have h2 := List.length_filter_le (fun c => !decide (c ∈ r)) t
    rw [ef, List.length_append, List.length_singleton]
    rw [List.length_cons] at h1
    omega
def spLParts : Sp := fun vs H Q _ => ∃ p ys cs, vs = [.ref p] ∧ H p = some (.tup ys) ∧ Cells H ys cs ∧ cs.Pairwise ltC ∧ cs.length ≤ 1000 ∧ B30 cs ∧
  ∀ t zs ps H', Same H H' → H' t = some (.tup zs) → PartsAt H' zs ps → PL cs cs ps → Q (.ref t) H'
abbrev NL : List Str := ["_law_floor_here", "_law_some", "_law_rest", "_law_part_here"]
structure LH (H0 : Hp) (cs : List (Int × Int)) (so re : Addr) (rest : List (Int × Int)) (done : List (List (Int × Int))) (H : Hp) : Prop where
  same : Same H0 H
  row : ∃ ys, H so = some (.lst ys) ∧ PartsAt H ys done
  rst : ∃ zs, H re = some (.tup zs) ∧ Cells H zs rest
  lp : LP cs rest done
  s0 : H0 so = none
theorem LH.go {H0 H H' : Hp} {cs : List (Int × Int)} {so re : Addr} {rest : List (Int × Int)} {done : List (List (Int × Int))} (h : LH H0 cs so re rest done H) (s : Same H H') : LH H0 cs so re rest done H' := by
  obtain ⟨h1, ⟨ys, p1, p2⟩, ⟨zs, q1, q2⟩, h4, h5⟩ := h
  exact ⟨h1.trans s, ⟨ys, s _ _ p1, p2.mono s.tups⟩, ⟨zs, s _ _ q1, q2.mono s.tups⟩, h4, h5⟩
theorem hu5 {A : Around} {k : Nat} (hr : Room k A) : A.units + 5 < cLine := by have := hr.un; omega
section
variable {P : Program} {w : World} {K : PySem.W.Frag} {mg : Str → Option Value} {base : Heap}
theorem scLParts : FnScope NL ["_law_floor_here"] (defScope sLParts) := ⟨rfl, rfl, rfl, by decide +kernel, rfl, by decide +kernel, by decide +kernel⟩
set_option maxHeartbeats 8000000 in
theorem ok_lparts {f fP fB : Addr} {fd fdP fdB : FuncData} (F : Fun K "_law_parts" "_law_parts" sLParts f fd) (T : Txt mg) (FP : Fun K "_law_part" "_law_part" sPart fP fdP) (bP : Binds K fdP ["_law_floor_here", "_law_cell"] []) (mP : mg "_law_part" = some (.ref fP))
    (FB : Fun K "_law_are_beside" "_law_are_beside" sBeside fB fdB) (bB : Binds K fdB ["_law_one", "_law_other"] []) (mB : mg "_law_are_beside" = some (.ref fB)) :
    FnOk P w K mg base CX0 3 f fd ["_law_floor_here"] spLParts := by
  have GP : FnOk P w K mg base CX0 2 fP fdP ["_law_floor_here", "_law_cell"] spPart := ok_part FP T FB bB mB
  refine F.ok scLParts (fun vs H Q E h => ?_) (fun cdv A outer s H vs Q E hr h => ?_)
  · obtain ⟨p, ys, cs, rfl, _⟩ := h
    rfl
  · obtain ⟨p, ys, cs, rfl, hp, hC, hS, hL, hB, q⟩ := h
    have nd := scLParts.nd
    refine ⟨_, pss_cons (ps_set (i := 1) nd rfl (Or.inl rfl) (pe_lst pa_nil))
      (pss_cons (ps_set (i := 2) nd rfl (Or.inl rfl) (pv 0))
      (pss_cons (ps_while PassesOwn.never (pt_cmpR (op_neC (hu2 hr)) (pv 2) (pe_tup pa_nil) (nomark _))
        (pss_cons (ps_set (i := 3) nd rfl (Or.inr rfl) (pe_call GP hr rfl mP FP.kp bP .nil pass0 (pa_cons (pv 0) (pa_cons (pe_ix ix_tup (pv 2) pe_int (fun _ _ => rfl)) pa_nil))))
        (pss_cons (ps_expr (pe_bm PySem.F.plainAttrs_list PySem.F.slot_list_append PySem.F.type_list_append mt_append (pv 1) (pa_cons (pv 3) pa_nil)))
        (pss_one (ps_set (i := 2) nd rfl (Or.inl rfl) (pe_callTy call_tuple_of rfl T.tuple boot_tuple (pa_cons (pe_comp (own := ["_law_cell"]) (caps := [3]) rfl (cscope (defScope sLParts) NL (by decide +kernel)) (pi_tup (pv 2))
          (fun Y => pg_name (i := 0) (show (["_law_cell", "_law_part_here"] : List Str).Nodup by decide +kernel) rfl (Or.inl rfl)) (fun Y => pts_one (pt_cmpR (op_notInC (hu2 hr)) (pv 0) (pv 1) rfl)) (fun Y => pv 0)) pa_nil)))))))
      (pss_one (ps_ret (pe_callTy call_tuple_of rfl T.tuple boot_tuple (pa_cons (pe_callB (call_sortedP rfl (hu5 hr)) (by rfl) T.sorted boot_sorted' (pa_cons (pv 1) pa_nil)) pa_nil)))))), ?_⟩
    have z0 : 0 ≤ sizeLine := Nat.zero_le _
    have z1000 : 1000 < sizeLine := by decide
    have hN := nodup_of hS
    refine ⟨z0, fun so hso => ?_⟩
    refine ⟨_, rfl, ?_⟩
    have l0 : LH H cs so p cs [] (upd H so (.lst [])) := ⟨(Same.refl H).upd hso, ⟨[], upd_same, .nil⟩, ⟨ys, keepU hp hso, hC.mono fun e xs ee => keepU ee hso⟩, LP.init cs, hso⟩
    refine ⟨fun m σ H' => ∃ re rest done o3, m = rest.length ∧ σ = [some (.ref p), some (.ref so), some (.ref re), o3] ∧ LH H cs so re rest done H', ⟨_, p, cs, [], none, rfl, rfl, l0⟩, ?_⟩
    clear l0
    rintro m σ H1 ⟨re, rest, done, o3, rfl, rfl, h1⟩
    obtain ⟨zr, r1, r2⟩ := h1.rst
    refine ⟨_, rfl, z0, fun e0 he0 => ⟨re, e0, zr, [], rest, [], rfl, rfl, SqT.of (keepU r1 he0), SqT.of upd_same, r2.mono (fun e xs ee => keepU ee he0), .nil, _, rfl, ?_⟩⟩
    have h2 := h1.go ((Same.refl H1).upd (o := .tup []) he0)
    generalize upd H1 e0 (.tup []) = H2 at h2 ⊢
    clear r1 r2
    obtain ⟨zr, r1, r2⟩ := h2.rst
    obtain ⟨ys2, y1, y2⟩ := h2.row
    have lyd := y2.length
    have hlen := h2.lp.len
    cases rest with
    | nil =>
      rw [decide_eq_true rfl]
      refine iteF ?_
      refine ⟨_, rfl, so, ys2, done, rfl, y1, y2, h2.lp.ne, h2.lp.heads, (by omega), fun l hl => ⟨l, ys2, rfl, .inl ⟨SqL.of upd_same, fun t ht => ?_⟩⟩⟩
      refine q t ys2 done _ (h2.same.trans (((Same.refl H2).upd hl).upd ht)) upd_same (y2.mono fun e xs ee => keepU (keepU ee hl) ht) ?_
      have := h2.lp.go [] .nil
      rwa [List.append_nil] at this
    | cons a tl =>
      rw [decide_eq_false (by simp)]
      refine iteT ?_
      refine ⟨fun σ' H' => ∃ re rest' done o3, rest'.length < (a :: tl).length ∧ σ' = [some (.ref p), some (.ref so), some (.ref re), o3] ∧ LH H cs so re rest' done H', fun σ' H' ⟨re, rest', done, o3, e1, e2, e3⟩ => ⟨_, e1, re, rest', done, o3, rfl, e2, e3⟩, ?_⟩
      obtain ⟨b, hb, hbc⟩ := r2.get (i := 0) (c := a) rfl
      have at0 : atI zr 0 = some (.ref b) := atI_nat (by exact hb)
      refine ⟨_, rfl, _, rfl, re, zr, 0, _, rfl, rfl, SqT.of r1, at0, p, b, ys, cs, a, rfl, h2.same _ _ hp, hC.mono h2.same.tups, hN, hL, hB.bb, hbc, h2.lp.sub.subset (.head _), fun t zs rs H3 s3 ft ht hzs hw hm hsub => ?_⟩
      have h3 := h2.go s3
      have y13 := s3 _ _ y1
      have nst : so ≠ t := ne_of_none y1 ft
      have hpart : IsPart cs a rs := ⟨hw, hm, hsub⟩
      rw [List.length_cons] at hlen
      refine ⟨_, rfl, .inl ⟨rfl, _, SqL.of y13⟩, _, rfl, so, ys2, _, rfl, rfl, y13, Nat.lt_of_le_of_lt (show ys2.length ≤ 1000 by omega) z1000, ?_⟩
      have ku : ∀ e xs, H3 e = some (.tup xs) → upd H3 so (.lst (ys2 ++ [.ref t])) e = some (.tup xs) := fun e xs ee => by
        rw [upd_ne (fun z => by rw [z, y13] at ee; cases ee)]
        exact ee
      have r14 := ku _ _ (s3 _ _ r1)
      have r24 := (r2.mono s3.tups).mono ku
      have t4 := ku _ _ ht
      have hz4 := hzs.mono ku
      have y24 := ((y2.mono s3.tups).mono ku).snoc t4 hz4
      have sm4 : Same H (upd H3 so (.lst (ys2 ++ [.ref t]))) := fun e o ee => by
        rw [upd_ne (ne_of_none ee h2.s0)]
        exact h3.same e o ee
      have y14 : upd H3 so (.lst (ys2 ++ [.ref t])) so = some (.lst (ys2 ++ [.ref t])) := upd_same
      generalize upd H3 so (.lst (ys2 ++ [.ref t])) = H4 at r14 r24 t4 hz4 y24 sm4 y14 ⊢
      have lzr := r24.length
      refine ⟨_, rfl, re, rfl, ⟨zr, SqT.of r14⟩, fun Y => ?_⟩
      refine comp_tup (K := K) (a := re) (xs := zr) (fun i us H5 => H5 = H4 ∧ Cells H4 us (((a :: tl).take i).filter fun c => !decide (c ∈ rs)) ∧ us.length ≤ i) ⟨rfl, .nil, Nat.le_refl _⟩ (fun i us H5 ⟨e, _⟩ => by subst e; exact SqT.of r14) ?_ ?_
      · rintro i x us H5 hx ⟨rfl, u1, u2⟩
        have hi : i < (a :: tl).length := by rw [← lzr]; exact (List.getElem?_eq_some_iff.mp hx).1
        obtain ⟨e, he, hec⟩ := r24.get (i := i) (c := (a :: tl)[i]) (by simp [hi])
        rw [hx] at he
        cases he
        have hi' : i < 1000 := by rw [List.length_cons] at hi; omega
        refine ⟨keep_set rfl, ⟨_, rfl, _, rfl, e, (a :: tl)[i], t, zs, rs, rfl, hec, rfl, SqT.of t4, hz4, _, rfl, ?_⟩⟩
        refine ite2 (fun hin => ⟨_, rfl, ?_, rfl, ?_, ?_⟩) (fun hin => ⟨rfl, ?_, by omega⟩)
        · exact Nat.lt_of_le_of_lt (show us.length ≤ 1000 by omega) z1000
        · rw [take_filter hi, if_pos hin]
          exact u1.snoc hec
        · rw [List.length_append, List.length_singleton]
          omega
        · rw [take_filter hi, if_neg hin, List.append_nil]
          exact u1
      · rintro us H5 ⟨rfl, u1, u2⟩ D fD
        rw [List.take_of_length_le (by rw [lzr]; exact Nat.le_refl _)] at u1
        refine ⟨D, us, rfl, .inl ⟨SqL.of upd_same, fun nt hnt => ?_⟩⟩
        refine ⟨nt, _, done ++ [rs], _, ?_, rfl, ⟨(sm4.upd fD).upd hnt, ⟨_, keepU (keepU y14 fD) hnt, y24.mono fun e xs ee => keepU (keepU ee fD) hnt⟩, ⟨us, upd_same, u1.mono fun e xs ee => keepU (keepU ee fD) hnt⟩, h2.lp.step hS hpart, h2.s0⟩⟩
        rw [List.filter_cons, if_neg (by rw [decide_eq_true ((hm a).mpr .refl)]; exact Bool.false_ne_true), List.length_cons]
        exact Nat.lt_succ_of_le (List.length_filter_le _ _)
end
end K4
set_option Elab.async false
set_option linter.all false
set_option maxRecDepth 100000
namespace K4
open PySem L2 PyProof.Rows
def spLaw (K : PySem.W.Frag) : Sp := fun vs H Q _ => ∃ (a : Addr) (ns : List Int), vs = [.ref a] ∧ SqL K H a (ns.map V.int) ∧ ns.length ≤ 63 ∧ ∀ H', Q (.bl true) H'
theorem alike_parts {H : Hp} {a b : Addr} {xs ys : List V} {ps : List (List (Int × Int))} (ha : H a = some (.tup xs)) (hb : H b = some (.tup ys)) (hx : PartsAt H xs ps) (hy : PartsAt H ys ps) (hl : ps.length ≤ 1000) (hd : ∀ r ∈ ps, r.length ≤ 1000) : Alike 3 H (.ref a) (.ref b) := by
  refine ⟨a, b, xs, ys, rfl, rfl, ha, hb, by rw [hx.length]; exact hl, paired_of (by rw [hx.length, hy.length]) fun i x y h1 h2 => ?_⟩
  have hi : i < xs.length := (List.getElem?_eq_some_iff.mp h1).1
  have hi' : i < ys.length := (List.getElem?_eq_some_iff.mp h2).1
  obtain ⟨v, r, e1, e2, t, zs, rfl, f1, f2⟩ := pairedGet hx i hi
  obtain ⟨v', r', e3, e4, t', zs', rfl, f3, f4⟩ := pairedGet hy i hi'
  rw [h1] at e1
  rw [h2] at e3
  rw [e2] at e4
  cases e1
  cases e3
  cases e4
  exact alike_cells f1 f3 f2 f4 (hd _ (List.mem_of_getElem? e2))
section
variable {P : Program} {w : World} {K : PySem.W.Frag} {mg : Str → Option Value} {base : Heap}
theorem scLaw : FnScope ["_law_script", "_law_k", "_law_floor_here", "_law_due"] ["_law_script"] (defScope sLaw) := ⟨rfl, rfl, rfl, by decide +kernel, rfl, by decide +kernel, by decide +kernel⟩
set_option maxHeartbeats 8000000 in
theorem ok_law {f fK fA fR fP fH fT fO fF fB fX fS fY : Addr} {fd fdK fdA fdR fdP fdH fdT fdO fdF fdB fdX fdS fdY : FuncData} (F : Fun K "law" "law" sLaw f fd) (T : Txt mg)
    (FK : Fun K "lookup" "lookup" sLookup fK fdK) (bK : Binds K fdK ["things"] []) (mK : mg "lookup" = some (.ref fK))
    (FA : Fun K "around" "around" sAround fA fdA) (bA : Binds K fdA ["cell"] []) (mA : mg "around" = some (.ref fA))
    (FR : Fun K "reached" "reached" sReached fR fdR) (bR : Binds K fdR ["free", "start"] []) (mR : mg "reached" = some (.ref fR))
    (FP : Fun K "parts" "parts" sParts fP fdP) (bP : Binds K fdP ["floor"] []) (mP : mg "parts" = some (.ref fP))
    (FH : Fun K "_law_hand" "_law_hand" sHand fH fdH) (bH : Binds K fdH ["_law_script", "_law_k"] []) (mH : mg "_law_hand" = some (.ref fH))
    (FT : Fun K "_law_take" "_law_take" sTake fT fdT) (bT : Binds K fdT ["_law_hand_here", "_law_many"] []) (mT : mg "_law_take" = some (.ref fT))
    (FO : Fun K "_law_of" "_law_of" sOf fO fdO) (bO : Binds K fdO ["_law_hand_here", "_law_some"] []) (mO : mg "_law_of" = some (.ref fO))
    (FF : Fun K "_law_floor" "_law_floor" sFloor fF fdF) (bF : Binds K fdF ["_law_hand_here"] []) (mF : mg "_law_floor" = some (.ref fF))
    (FB : Fun K "_law_are_beside" "_law_are_beside" sBeside fB fdB) (bB : Binds K fdB ["_law_one", "_law_other"] []) (mB : mg "_law_are_beside" = some (.ref fB))
    (FX : Fun K "_law_part" "_law_part" sPart fX fdX) (bX : Binds K fdX ["_law_floor_here", "_law_cell"] []) (mX : mg "_law_part" = some (.ref fX))
    (FS : Fun K "_law_same" "_law_same" sSame fS fdS) (bS : Binds K fdS ["_law_told", "_law_due"] []) (mS : mg "_law_same" = some (.ref fS))
    (FY : Fun K "_law_parts" "_law_parts" sLParts fY fdY) (bY : Binds K fdY ["_law_floor_here"] []) (mY : mg "_law_parts" = some (.ref fY)) : FnOk P w K mg base CX0 5 f fd ["_law_script"] (spLaw K) := by
  have GH : FnOk P w K mg base CX0 1 fH fdH ["_law_script", "_law_k"] (spHand K) := ok_hand FH T
  have GF : FnOk P w K mg base CX0 3 fF fdF ["_law_hand_here"] spFloor := ok_floor FF T FT bT mT FO bO mO
  have GP : FnOk P w K mg base CX0 3 fP fdP ["floor"] spParts := ok_parts FP T FK bK mK FR bR mR FA bA mA
  have GY : FnOk P w K mg base CX0 3 fY fdY ["_law_floor_here"] spLParts := ok_lparts FY T FX bX mX FB bB mB
  have GS : FnOk P w K mg base CX0 4 fS fdS ["_law_told", "_law_due"] (spSame 3) := ok_same FS T bS mS 3
  refine F.ok scLaw (fun vs H Q E h => ?_) (fun cdv A outer s H vs Q E hr h => ?_)
  · obtain ⟨a, ns, rfl, _⟩ := h
    rfl
  · obtain ⟨a, ns, rfl, ha, hn, q⟩ := h
    have nd := scLaw.nd
    have hr1 : Room 1 _ := hr.mono (by decide)
    have hr3 : Room 3 _ := hr.mono (by decide)
    refine ⟨_, pss_cons (ps_for PassesOwn.never rfl (pi_range1 rfl T.range (pa_cons (pe_callB (call_max2 rfl) (by rfl) T.max boot_max (pa_cons pe_int (pa_cons (pe_callB (call_min2 rfl) (by rfl) T.min boot_min (pa_cons pe_int (pa_cons (pe_callB call_len_seq (by rfl) T.len PySem.boot_len (pa_cons (pv 0) pa_nil)) pa_nil))) pa_nil))) pa_nil)) (pg_name (i := 1) nd rfl (Or.inl rfl))
        (pss_cons (ps_set (i := 2) nd rfl (Or.inl rfl) (pe_call GF hr3 rfl mF FF.kp bF .nil pass0 (pa_cons (pe_call GH hr1 rfl mH FH.kp bH .nil pass0 (pa_cons (pv 0) (pa_cons (pv 1) pa_nil))) pa_nil)))
        (pss_cons (ps_set (i := 3) nd rfl (Or.inl rfl) (pe_call GY hr3 rfl mY FY.kp bY .nil pass0 (pa_cons (pv 2) pa_nil)))
        (pss_one (ps_if (PW.pt (pw_or (pt_not (pt_val (pe_call GS hr rfl mS FS.kp bS .nil pass0 (pa_cons (pe_call GP hr3 rfl mP FP.kp bP .nil pass0 (pa_cons (pv 2) pa_nil)) (pa_cons (pv 3) pa_nil)))))
          (pw_or1 (pt_not (pt_val (pe_call GS hr rfl mS FS.kp bS .nil pass0 (pa_cons (pe_call GP hr3 rfl mP FP.kp bP .nil pass0 (pa_cons (pv 2) pa_nil)) (pa_cons (pv 3) pa_nil)))))))) pss_never pss_nil)))))
      (pss_one (ps_ret (pe_cmpR (op_eqC (hu2 hr)) (pe_call GP hr3 rfl mP FP.kp bP .nil pass0 (pa_cons (pe_tup pa_nil) pa_nil)) (pe_tup pa_nil) (nomark _)))), ?_⟩
    have z0 : 0 ≤ sizeLine := Nat.zero_le _
    refine ⟨_, rfl, a, _, rfl, .inl ha, _, _, rfl, _, _, rfl, _, rfl, ?_, ?_, for_range (lo := 0) (fun i σ H2 => ∃ o1 o2 o3, σ = [some (.ref a), o1, o2, o3] ∧ Same H H2) ⟨none, none, none, rfl, Same.refl H⟩ ?_ ?_⟩
    · split <;> split <;> omega
    · split <;> split <;> omega
    · rintro i σ H2 hi ⟨o1, o2, o3, rfl, s2⟩
      have hi12 : i < 12 := by
        revert hi
        split <;> split <;> omega
      refine ⟨_, rfl, _, rfl, a, ns, i, (by simp), s2.seq ha, hn, by omega, fun l d m fl hA => ?_⟩
      refine ⟨l, d, m, 0, rfl, hA, by decide, fun p ys cs H3 d3 t3 kb hA3 ht3 hp hC hS hB hL => ?_⟩
      have s3 : Same H H3 := fun b o e => kb b o (keepU (s2 b o e) fl) (ne_of_none (s2 b o e) fl)
      have hL' : cs.length ≤ 1000 := by omega
      have hB' : B30 cs := fun c hc => by have := hB c hc; omega
      refine ⟨_, rfl, p, ys, cs, rfl, hp, hC, hS, hL', hB', fun td zd ps H4 s4 htd hzd hPL => ?_⟩
      refine ⟨_, rfl, p, ys, cs, rfl, s4 _ _ hp, hC.mono s4.tups, hS, hL', hB', fun t5 z5 ps5 H5 s5 ht5 hz5 hPL5 hd5 hl5 => ?_⟩
      obtain rfl := hPL.eq hPL5
      refine ⟨_, rfl, _, _, rfl, alike_parts ht5 (s5 _ _ htd) hz5 (hzd.mono s5.tups) hl5 hd5, fun H6 s6 => ⟨_, rfl, iteF ?_⟩⟩
      refine ⟨_, rfl, p, ys, cs, rfl, s6 _ _ (s5 _ _ (s4 _ _ hp)), ((hC.mono s4.tups).mono s5.tups).mono s6.tups, hS, hL', hB', fun t7 z7 ps7 H7 s7 ht7 hz7 hPL7 hd7 hl7 => ?_⟩
      obtain rfl := hPL.eq hPL7
      refine ⟨_, rfl, _, _, rfl, alike_parts ht7 (s7 _ _ (s6 _ _ (s5 _ _ htd))) hz7 (((hzd.mono s5.tups).mono s6.tups).mono s7.tups) hl7 hd7, fun H8 s8 => ⟨_, rfl, iteF ?_⟩⟩
      exact ⟨_, _, _, rfl, ((((s3.trans s4).trans s5).trans s6).trans s7).trans s8⟩
    · rintro σ H2 ⟨o1, o2, o3, rfl, s2⟩
      refine ⟨z0, fun p0 h0 => ⟨p0, [], [], rfl, upd_same, .nil, .nil, Nat.zero_le _, (fun c hc => nomatch hc), fun t zs ps H3 s3 ht hz hPL _ _ => ⟨z0, fun p1 h1 => ?_⟩⟩⟩
      cases hPL
      cases hz
      refine ⟨t, p1, [], [], [], [], rfl, rfl, SqT.of (keepU ht h1), SqT.of upd_same, .nil, .nil, ?_⟩
      rw [decide_eq_true rfl]
      exact q _
end
end K4
set_option Elab.async false
set_option linter.all false
set_option maxRecDepth 100000
namespace K4
open PySem L2 PyProof.Rows
theorem all_mk {l : PySem.W.OpenLaw} {w : World} {K : PySem.W.Frag} {h : Heap} {mg : Str → Option Value} {fa fK fA fR fP fH fT fO fF fB fX fS fY fL : Addr} (X : K.In h) (G : h.Ns mainGlobals mg) (hfa : mg "law" = some (.ref fa))
    {odK anK odA anA odR anR odP anP odH anH odT anT odO anO odF anF odB anB odX anX odS anS odY anY odL anL : Option Addr} {slK slA slR slP slH slT slO slF slB slX slS slY slL : Array (Option Value)} {ocK kVK dcK pmK cdK ctK ocA kVA dcA pmA cdA ctA ocR kVR dcR pmR cdR ctR ocP kVP dcP pmP cdP ctP ocH kVH dcH pmH cdH ctH ocT kVT dcT pmT cdT ctT ocO kVO dcO pmO cdO ctO ocF kVF dcF pmF cdF ctF ocB kVB dcB pmB cdB ctB ocX kVX dcX pmX cdX ctX ocS kVS dcS pmS cdS ctS ocY kVY dcY pmY cdY ctY ocL kVL dcL pmL cdL ctL : Value}
    (aK : PySem.W.nsIn K mainGlobals "lookup" = some (some (.ref fK))) (lK : K.lookup fK = some ⟨ocK, odK, .func (PySem.W.fnOf "lookup" "lookup" (defArgs sLookup) (defBody sLookup) (defScope sLookup) .none kVK dcK pmK anK cdK ctK), slK⟩) (cK : PySem.W.codeIn K cdK "lookup" = true) (kK : PySem.W.keepIn K (.ref fK) = true)
    (aA : PySem.W.nsIn K mainGlobals "around" = some (some (.ref fA))) (lA : K.lookup fA = some ⟨ocA, odA, .func (PySem.W.fnOf "around" "around" (defArgs sAround) (defBody sAround) (defScope sAround) .none kVA dcA pmA anA cdA ctA), slA⟩) (cA : PySem.W.codeIn K cdA "around" = true) (kA : PySem.W.keepIn K (.ref fA) = true)
    (aR : PySem.W.nsIn K mainGlobals "reached" = some (some (.ref fR))) (lR : K.lookup fR = some ⟨ocR, odR, .func (PySem.W.fnOf "reached" "reached" (defArgs sReached) (defBody sReached) (defScope sReached) .none kVR dcR pmR anR cdR ctR), slR⟩) (cR : PySem.W.codeIn K cdR "reached" = true) (kR : PySem.W.keepIn K (.ref fR) = true)
    (aP : PySem.W.nsIn K mainGlobals "parts" = some (some (.ref fP))) (lP : K.lookup fP = some ⟨ocP, odP, .func (PySem.W.fnOf "parts" "parts" (defArgs sParts) (defBody sParts) (defScope sParts) .none kVP dcP pmP anP cdP ctP), slP⟩) (cP : PySem.W.codeIn K cdP "parts" = true) (kP : PySem.W.keepIn K (.ref fP) = true)
    (aH : PySem.W.nsIn K mainGlobals "_law_hand" = some (some (.ref fH))) (lH : K.lookup fH = some ⟨ocH, odH, .func (PySem.W.fnOf "_law_hand" "_law_hand" (defArgs sHand) (defBody sHand) (defScope sHand) .none kVH dcH pmH anH cdH ctH), slH⟩) (cH : PySem.W.codeIn K cdH "_law_hand" = true) (kH : PySem.W.keepIn K (.ref fH) = true)
    (aT : PySem.W.nsIn K mainGlobals "_law_take" = some (some (.ref fT))) (lT : K.lookup fT = some ⟨ocT, odT, .func (PySem.W.fnOf "_law_take" "_law_take" (defArgs sTake) (defBody sTake) (defScope sTake) .none kVT dcT pmT anT cdT ctT), slT⟩) (cT : PySem.W.codeIn K cdT "_law_take" = true) (kT : PySem.W.keepIn K (.ref fT) = true)
    (aO : PySem.W.nsIn K mainGlobals "_law_of" = some (some (.ref fO))) (lO : K.lookup fO = some ⟨ocO, odO, .func (PySem.W.fnOf "_law_of" "_law_of" (defArgs sOf) (defBody sOf) (defScope sOf) .none kVO dcO pmO anO cdO ctO), slO⟩) (cO : PySem.W.codeIn K cdO "_law_of" = true) (kO : PySem.W.keepIn K (.ref fO) = true)
    (aF : PySem.W.nsIn K mainGlobals "_law_floor" = some (some (.ref fF))) (lF : K.lookup fF = some ⟨ocF, odF, .func (PySem.W.fnOf "_law_floor" "_law_floor" (defArgs sFloor) (defBody sFloor) (defScope sFloor) .none kVF dcF pmF anF cdF ctF), slF⟩) (cF : PySem.W.codeIn K cdF "_law_floor" = true) (kF : PySem.W.keepIn K (.ref fF) = true)
    (aB : PySem.W.nsIn K mainGlobals "_law_are_beside" = some (some (.ref fB))) (lB : K.lookup fB = some ⟨ocB, odB, .func (PySem.W.fnOf "_law_are_beside" "_law_are_beside" (defArgs sBeside) (defBody sBeside) (defScope sBeside) .none kVB dcB pmB anB cdB ctB), slB⟩) (cB : PySem.W.codeIn K cdB "_law_are_beside" = true) (kB : PySem.W.keepIn K (.ref fB) = true)
    (aX : PySem.W.nsIn K mainGlobals "_law_part" = some (some (.ref fX))) (lX : K.lookup fX = some ⟨ocX, odX, .func (PySem.W.fnOf "_law_part" "_law_part" (defArgs sPart) (defBody sPart) (defScope sPart) .none kVX dcX pmX anX cdX ctX), slX⟩) (cX : PySem.W.codeIn K cdX "_law_part" = true) (kX : PySem.W.keepIn K (.ref fX) = true)
    (aS : PySem.W.nsIn K mainGlobals "_law_same" = some (some (.ref fS))) (lS : K.lookup fS = some ⟨ocS, odS, .func (PySem.W.fnOf "_law_same" "_law_same" (defArgs sSame) (defBody sSame) (defScope sSame) .none kVS dcS pmS anS cdS ctS), slS⟩) (cS : PySem.W.codeIn K cdS "_law_same" = true) (kS : PySem.W.keepIn K (.ref fS) = true)
    (aY : PySem.W.nsIn K mainGlobals "_law_parts" = some (some (.ref fY))) (lY : K.lookup fY = some ⟨ocY, odY, .func (PySem.W.fnOf "_law_parts" "_law_parts" (defArgs sLParts) (defBody sLParts) (defScope sLParts) .none kVY dcY pmY anY cdY ctY), slY⟩) (cY : PySem.W.codeIn K cdY "_law_parts" = true) (kY : PySem.W.keepIn K (.ref fY) = true)
    (aL : PySem.W.nsIn K mainGlobals "law" = some (some (.ref fL))) (lL : K.lookup fL = some ⟨ocL, odL, .func (PySem.W.fnOf "law" "law" (defArgs sLaw) (defBody sLaw) (defScope sLaw) .none kVL dcL pmL anL cdL ctL), slL⟩) (cL : PySem.W.codeIn K cdL "law" = true) (kL : PySem.W.keepIn K (.ref fL) = true)
    (z_tuple : PySem.W.nsIn K mainGlobals "tuple" = some none) (z_len : PySem.W.nsIn K mainGlobals "len" = some none) (z_int : PySem.W.nsIn K mainGlobals "int" = some none) (z_range : PySem.W.nsIn K mainGlobals "range" = some none) (z_min : PySem.W.nsIn K mainGlobals "min" = some none) (z_max : PySem.W.nsIn K mainGlobals "max" = some none) (z_sorted : PySem.W.nsIn K mainGlobals "sorted" = some none) (z_abs : PySem.W.nsIn K mainGlobals "abs" = some none) (z_isinstance : PySem.W.nsIn K mainGlobals "isinstance" = some none) (z_zip : PySem.W.nsIn K mainGlobals "zip" = some none) (z_all : PySem.W.nsIn K mainGlobals "all" = some none) (z_str : PySem.W.nsIn K mainGlobals "str" = some none) (z_bool : PySem.W.nsIn K mainGlobals "bool" = some none) (z_any : PySem.W.nsIn K mainGlobals "any" = some none) :
    ∃ fd : FuncData, (∀ (s : Shared) (v : Value), BindsTo s fd ⟨[v], []⟩ [("_law_script", v)]) ∧ ∀ base : Heap, K.In base → base.Ns mainGlobals mg → FnOk l.prog w K mg base CX0 5 fa fd ["_law_script"] (spLaw K) := by
  have e := hfa.symm.trans (PySem.W.mg_of X G aL)
  cases e
  have T : Txt mg := ⟨PySem.W.mg_none_of X G z_tuple, PySem.W.mg_none_of X G z_len, PySem.W.mg_none_of X G z_int, PySem.W.mg_none_of X G z_range, PySem.W.mg_none_of X G z_min, PySem.W.mg_none_of X G z_max, PySem.W.mg_none_of X G z_sorted, PySem.W.mg_none_of X G z_abs, PySem.W.mg_none_of X G z_isinstance, PySem.W.mg_none_of X G z_zip, PySem.W.mg_none_of X G z_all, PySem.W.mg_none_of X G z_str, PySem.W.mg_none_of X G z_bool, PySem.W.mg_none_of X G z_any⟩
  have FK := fun_mk (st := sLookup) lK cK kK
  have FA := fun_mk (st := sAround) lA cA kA
  have FR := fun_mk (st := sReached) lR cR kR
  have FP := fun_mk (st := sParts) lP cP kP
  have FH := fun_mk (st := sHand) lH cH kH
  have FT := fun_mk (st := sTake) lT cT kT
  have FO := fun_mk (st := sOf) lO cO kO
  have FF := fun_mk (st := sFloor) lF cF kF
  have FB := fun_mk (st := sBeside) lB cB kB
  have FX := fun_mk (st := sPart) lX cX kX
  have FS := fun_mk (st := sSame) lS cS kS
  have FY := fun_mk (st := sLParts) lY cY kY
  have FL := fun_mk (st := sLaw) lL cL kL
  have bK := FK.binds (ps := ["things"]) fun _ _ _ _ _ _ us hl => match us, hl with | [_], _ => rfl
  have bA := FA.binds (ps := ["cell"]) fun _ _ _ _ _ _ us hl => match us, hl with | [_], _ => rfl
  have bR := FR.binds (ps := ["free", "start"]) fun _ _ _ _ _ _ us hl => match us, hl with | [_, _], _ => rfl
  have bP := FP.binds (ps := ["floor"]) fun _ _ _ _ _ _ us hl => match us, hl with | [_], _ => rfl
  have bH := FH.binds (ps := ["_law_script", "_law_k"]) fun _ _ _ _ _ _ us hl => match us, hl with | [_, _], _ => rfl
  have bT := FT.binds (ps := ["_law_hand_here", "_law_many"]) fun _ _ _ _ _ _ us hl => match us, hl with | [_, _], _ => rfl
  have bO := FO.binds (ps := ["_law_hand_here", "_law_some"]) fun _ _ _ _ _ _ us hl => match us, hl with | [_, _], _ => rfl
  have bF := FF.binds (ps := ["_law_hand_here"]) fun _ _ _ _ _ _ us hl => match us, hl with | [_], _ => rfl
  have bB := FB.binds (ps := ["_law_one", "_law_other"]) fun _ _ _ _ _ _ us hl => match us, hl with | [_, _], _ => rfl
  have bX := FX.binds (ps := ["_law_floor_here", "_law_cell"]) fun _ _ _ _ _ _ us hl => match us, hl with | [_, _], _ => rfl
  have bS := FS.binds (ps := ["_law_told", "_law_due"]) fun _ _ _ _ _ _ us hl => match us, hl with | [_, _], _ => rfl
  have bY := FY.binds (ps := ["_law_floor_here"]) fun _ _ _ _ _ _ us hl => match us, hl with | [_], _ => rfl
  exact ⟨PySem.W.fnOf "law" "law" (defArgs sLaw) (defBody sLaw) (defScope sLaw) .none kVL dcL pmL anL cdL ctL, fun s v => .of_eq rfl, fun base _ _ => ok_law FL T FK bK (PySem.W.mg_of X G aK) FA bA (PySem.W.mg_of X G aA) FR bR (PySem.W.mg_of X G aR) FP bP (PySem.W.mg_of X G aP) FH bH (PySem.W.mg_of X G aH) FT bT (PySem.W.mg_of X G aT) FO bO (PySem.W.mg_of X G aO) FF bF (PySem.W.mg_of X G aF) FB bB (PySem.W.mg_of X G aB) FX bX (PySem.W.mg_of X G aX) FS bS (PySem.W.mg_of X G aS) FY bY (PySem.W.mg_of X G aY)⟩
theorem walk {l : PySem.W.OpenLaw} {q : Program} {loose : List Str} {XP : (Str → Option Value) → Heap → Prop} {YP : World → Heap → Prop} {d : DefRec} {K : Params → PySem.W.Frag} (hn : l.most = some 63) (hdf : d.params.defaults = [])
    (hY : ∀ (w : World) (h : Heap), YP w h → (K w.params).In h)
    (F : ∀ (w : World) (mg : Str → Option Value) (fa : Addr) (h : Heap), (K w.params).In h → h.Ns mainGlobals mg → mg d.name = some (.ref fa) →
      ∃ fd : FuncData, (∀ (s : Shared) (u : Value), BindsTo s fd ⟨[u], []⟩ [("_law_script", u)]) ∧ ∀ base : Heap, (K w.params).In base → base.Ns mainGlobals mg → FnOk l.prog w (K w.params) mg base CX0 5 fa fd ["_law_script"] (spLaw (K w.params))) :
    PySem.W.WalkO q loose XP YP l.row.toRowW d [] (fun f vs => PySem.call f vs) :=
  L2.walk_of (n := 63) (k := 5) (x := "_law_script") (CX := fun _ => CX0) (sp := fun w => spLaw (K w.params)) hn (by decide) hdf ⟨rfl, by decide, by decide, rfl⟩ hY F (fun _ _ a ns hl _ hS => ⟨a, ns, rfl, hS, hl, fun _ => rfl⟩) fun _ _ _ _ _ z => z
end K4
open PySem PySem.W PyProof.Rows
set_option maxRecDepth 100000 in
set_option maxHeartbeats 0 in
theorem PySem.Challenge.cw_mowfloor_k04_parts_holds : PySem.Challenge.rw_mowfloor_k04_parts.Holds := by
  w_on; o_law; k_head; (case hw => w_witness2)
  k_fill
  refine K4.walk (l := PySem.Challenge.rw_mowfloor_k04_parts) rfl rfl (fun w h Y => PySem.W.kIn_of Y) ?F
  case F =>
    intro w mg fa h KX G hmg
    refine' K4.all_mk KX G hmg ?aK ?lK ?cK ?kK ?aA ?lA ?cA ?kA ?aR ?lR ?cR ?kR ?aP ?lP ?cP ?kP ?aH ?lH ?cH ?kH ?aT ?lT ?cT ?kT ?aO ?lO ?cO ?kO ?aF ?lF ?cF ?kF ?aB ?lB ?cB ?kB ?aX ?lX ?cX ?kX ?aS ?lS ?cS ?kS ?aY ?lY ?cY ?kY ?aL ?lL ?cL ?kL ?z_tuple ?z_len ?z_int ?z_range ?z_min ?z_max ?z_sorted ?z_abs ?z_isinstance ?z_zip ?z_all ?z_str ?z_bool ?z_any
    (case aK => k_is)
    (case lK => k_is)
    (case cK => k_is)
    (case kK => k_is)
    (case aA => k_is)
    (case lA => k_is)
    (case cA => k_is)
    (case kA => k_is)
    (case aR => k_is)
    (case lR => k_is)
    (case cR => k_is)
    (case kR => k_is)
    (case aP => k_is)
    (case lP => k_is)
    (case cP => k_is)
    (case kP => k_is)
    (case aH => k_is)
    (case lH => k_is)
    (case cH => k_is)
    (case kH => k_is)
    (case aT => k_is)
    (case lT => k_is)
    (case cT => k_is)
    (case kT => k_is)
    (case aO => k_is)
    (case lO => k_is)
    (case cO => k_is)
    (case kO => k_is)
    (case aF => k_is)
    (case lF => k_is)
    (case cF => k_is)
    (case kF => k_is)
    (case aB => k_is)
    (case lB => k_is)
    (case cB => k_is)
    (case kB => k_is)
    (case aX => k_is)
    (case lX => k_is)
    (case cX => k_is)
    (case kX => k_is)
    (case aS => k_is)
    (case lS => k_is)
    (case cS => k_is)
    (case kS => k_is)
    (case aY => k_is)
    (case lY => k_is)
    (case cY => k_is)
    (case kY => k_is)
    (case aL => k_is)
    (case lL => k_is)
    (case cL => k_is)
    (case kL => k_is)
    (case z_tuple => k_is)
    (case z_len => k_is)
    (case z_int => k_is)
    (case z_range => k_is)
    (case z_min => k_is)
    (case z_max => k_is)
    (case z_sorted => k_is)
    (case z_abs => k_is)
    (case z_isinstance => k_is)
    (case z_zip => k_is)
    (case z_all => k_is)
    (case z_str => k_is)
    (case z_bool => k_is)
    (case z_any => k_is)
