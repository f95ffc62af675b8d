import PyProof.Rows.All
import Wide.All
import OpenK.AllK
import Wide.FinOn
import Lean
import PyProof.EqAt
import PyProof.EqKinds
import PyProof.TupleCall
import PyProof.IsiNone
import PyProof.NeKinds
import PyProof.MaxThree
import PySem.Challenge.RW_mowfloor_k48_papers_of_time
set_option Elab.async false
set_option linter.all false
set_option maxRecDepth 100000
namespace L2
open PySem PySem.Spec PyProof.Rows
inductive Im where
  | non | bl (b : Bool) | int (i : Int) | str (x : Str) | tup (ds : List Im) | fn (a : Addr) | fl (ds : List Im)
mutual
def Im.beq : Im → Im → Bool
  | .non, .non => true
  | .bl a, .bl b => a == b
  | .int i, .int j => decide (i = j)
  | .str x, .str y => decide (x = y)
  | .tup a, .tup b => Im.beqs a b
  | .fn a, .fn b => decide (a = b)
  | .fl a, .fl b => Im.beqs a b
  | _, _ => false
def Im.beqs : List Im → List Im → Bool
  | [], [] => true
  | a :: r, b :: t => Im.beq a b && Im.beqs r t
  | _, _ => false
end
mutual
theorem Im.beq_iff : ∀ a b : Im, Im.beq a b = true ↔ a = b
  | .non, b => by cases b <;> simp [Im.beq]
  | .bl a, b => by cases b <;> simp [Im.beq]
  | .int i, b => by cases b <;> simp [Im.beq]
  | .str x, b => by cases b <;> simp [Im.beq]
  | .tup x, b => by
    cases b with
    | tup y => rw [Im.beq, Im.beqs_iff x y]; simp
    | _ => simp [Im.beq]
  | .fn a, b => by cases b <;> simp [Im.beq]
  | .fl x, b => by
    cases b with
    | fl y => rw [Im.beq, Im.beqs_iff x y]; simp
    | _ => simp [Im.beq]
theorem Im.beqs_iff : ∀ a b : List Im, Im.beqs a b = true ↔ a = b
  | [], b => by cases b <;> simp [Im.beqs]
  | x :: r, b => by
    cases b with
    | nil => simp [Im.beqs]
    | cons y t => rw [Im.beqs, Bool.and_eq_true, Im.beq_iff x y, Im.beqs_iff r t]; simp
end
instance : DecidableEq Im := fun a b => decidable_of_iff (Im.beq a b = true) (Im.beq_iff a b)
mutual
def ImV (h : Heap) : Im → Value → Prop
  | .non, v => v = .none
  | .bl b, v => v = .bool b
  | .int i, v => ∃ t, v = .int i t
  | .str x, v => ∃ t, v = .str x t
  | .fn a, v => v = .ref a
  | .fl _, v => ∃ a, v = .ref a
  | .tup ds, v => ∃ a o items n, v = .ref a ∧ h.get? a = some o ∧ o.cls = .type "tuple" ∧ o.data = .seq items n ∧ ImVs h ds items.toList
def ImVs (h : Heap) : List Im → List Value → Prop
  | [], vs => vs = []
  | d :: ds, vs => ∃ v r, vs = v :: r ∧ ImV h d v ∧ ImVs h ds r
end
mutual
def Im.key : Nat → Im → Bool
  | _, .int _ => true
  | _, .str _ => true
  | n + 1, .tup ds => Im.keys n ds
  | _, _ => false
def Im.keys : Nat → List Im → Bool
  | _, [] => true
  | n, d :: ds => Im.key n d && Im.keys n ds
end
mutual
def imH (w : World) : Im → Int
  | .int i => hashInt i
  | .str x => hashStr w x
  | .tup ds => reduceHash (Builtin.Tuple.tupleHashOf (imHs w ds))
  | _ => 0
def imHs (w : World) : List Im → List Int
  | [] => []
  | d :: ds => imH w d :: imHs w ds
end
mutual
def imD : Im → Nat
  | .tup ds => imDs ds + 1
  | _ => 1
def imDs : List Im → Nat
  | [] => 0
  | d :: ds => imD d + imDs ds
end
theorem imHs_app (w : World) : ∀ a b : List Im, imHs w (a ++ b) = imHs w a ++ imHs w b
  | [], b => rfl
  | d :: a, b => by rw [List.cons_append, imHs, imHs, imHs_app w a b, List.cons_append]
theorem imDs_app : ∀ a b : List Im, imDs (a ++ b) = imDs a + imDs b
  | [], b => by simp [imDs]
  | d :: a, b => by rw [List.cons_append, imDs, imDs, imDs_app a b]; omega
theorem keys_app {n : Nat} : ∀ {a b : List Im}, Im.keys n (a ++ b) = true → Im.keys n b = true
  | [], b, h => h
  | d :: a, b, h => by rw [List.cons_append, Im.keys, Bool.and_eq_true] at h; exact keys_app h.2
theorem ImVs.length {h : Heap} : ∀ {ds : List Im} {vs : List Value}, ImVs h ds vs → ds.length = vs.length
  | [], vs, e => by rw [show vs = [] from e]; rfl
  | d :: ds, vs, e => by
    obtain ⟨v, r, rfl, _, e⟩ := e
    rw [List.length_cons, List.length_cons, ImVs.length e]
def Tups (h h' : Heap) : Prop := ∀ a o items n, h.get? a = some o → o.cls = .type "tuple" → o.data = .seq items n → h'.get? a = some o
mutual
theorem ImV.keep {h h' : Heap} (k : Tups h h') : ∀ {d : Im} {v : Value}, ImV h d v → ImV h' d v
  | .non, _, e => e
  | .bl _, _, e => e
  | .int _, _, e => e
  | .str _, _, e => e
  | .fn _, _, e => e
  | .fl _, _, e => e
  | .tup ds, _, e => by
    obtain ⟨a, o, items, n, rfl, h1, h2, h3, h4⟩ := e
    exact ⟨a, o, items, n, rfl, k a o items n h1 h2 h3, h2, h3, ImVs.keep k h4⟩
theorem ImVs.keep {h h' : Heap} (k : Tups h h') : ∀ {ds : List Im} {vs : List Value}, ImVs h ds vs → ImVs h' ds vs
  | [], _, e => e
  | d :: ds, _, e => by
    obtain ⟨v, r, rfl, h1, h2⟩ := e
    exact ⟨v, r, rfl, ImV.keep k h1, ImVs.keep k h2⟩
end
theorem keyInj {h : Heap} : ∀ (n : Nat) {x y : Im} {v : Value}, Im.key n x = true → Im.key n y = true → ImV h x v → ImV h y v → x = y
  | n, .int i, y, v, _, ky, hx, hy => by
    obtain ⟨t, rfl⟩ := hx
    cases y with
    | int j => obtain ⟨u, e⟩ := hy; injection e with e; rw [e]
    | str z => obtain ⟨u, e⟩ := hy; cases e
    | tup ds => obtain ⟨_, _, _, _, e, _⟩ := hy; cases e
    | _ => cases n <;> cases ky
  | n, .str z, y, v, _, ky, hx, hy => by
    obtain ⟨t, rfl⟩ := hx
    cases y with
    | int j => obtain ⟨u, e⟩ := hy; cases e
    | str z => obtain ⟨u, e⟩ := hy; injection e with e; rw [e]
    | tup ds => obtain ⟨_, _, _, _, e, _⟩ := hy; cases e
    | _ => cases n <;> cases ky
  | n + 1, .tup ds, y, v, kx, ky, hx, hy => by
    obtain ⟨a, o, items, m, rfl, h1, h2, h3, h4⟩ := hx
    cases y with
    | int j => obtain ⟨u, e⟩ := hy; cases e
    | str z => obtain ⟨u, e⟩ := hy; cases e
    | tup es =>
      obtain ⟨a', o', items', m', e, g1, g2, g3, g4⟩ := hy
      cases e
      rw [h1] at g1
      cases g1
      rw [h3] at g3
      injection g3 with g3 _
      subst g3
      have all : ∀ (ds es : List Im) (vs : List Value), Im.keys n ds = true → Im.keys n es = true → ImVs h ds vs → ImVs h es vs → ds = es := by
        intro ds
        induction ds with
        | nil =>
          intro es vs _ _ a b
          cases es with
          | nil => rfl
          | cons e es => obtain ⟨_, _, q, _⟩ := b; rw [show vs = [] from a] at q; cases q
        | cons d ds ih =>
          intro es vs k1 k2 a b
          obtain ⟨v, r, rfl, a1, a2⟩ := a
          cases es with
          | nil => cases (show v :: r = [] from b)
          | cons e es =>
            obtain ⟨v', r', q, b1, b2⟩ := b
            cases q
            rw [Im.keys, Bool.and_eq_true] at k1 k2
            rw [keyInj n k1.1 k2.1 a1 b1, ih es r k1.2 k2.2 a2 b2]
      rw [all ds es _ kx ky h4 g4]
    | _ => cases ky
  | _, .non, _, _, k, _, _, _ => by cases ‹Nat› <;> cases k
  | _, .bl _, _, _, k, _, _, _ => by cases ‹Nat› <;> cases k
  | _, .fn _, _, _, k, _, _, _ => by cases ‹Nat› <;> cases k
  | _, .fl _, _, _, k, _, _, _ => by cases ‹Nat› <;> cases k
  | 0, .tup _, _, _, k, _, _, _ => by cases k
section
variable {prog : Program} {w : World}
theorem im_pyHash : ∀ (n : Nat) {A : Around} {E : Value → Shared → Prop} {s : Shared} {d : Im} {v : Value} {Q : Int → Shared → Prop}, Im.key n d = true → A.units + n < cLine → ImV s.heap d v → Q (imH w d) { s with toks := s.toks + imD d } →
    wpAny (model prog w) A (pyHash v) Q E s
  | n, A, E, s, .int i, v, Q, _, _, hv, h => by
    obtain ⟨t, rfl⟩ := hv
    exact wpAny_pyHash_int h
  | n, A, E, s, .str i, v, Q, _, _, hv, h => by
    obtain ⟨t, rfl⟩ := hv
    exact wpAny_pyHash_str h
  | n + 1, A, E, s, .tup ds, v, Q, k, hu, hv, h => by
    obtain ⟨a, o, items, m, rfl, ho, hc, hd, hi⟩ := hv
    have hT : s.TypeIs (.ref a) "tuple" := ⟨o, ho, hc⟩
    unfold pyHash
    first | unfold pyHashByItsType | skip
    first | refine wpAny_bind (wpAny_cRoomFor_or (.inr (by omega)) ?_) | skip
    refine wpAny_bind (wpAny_specialOf hT F.slot_tuple_hash.lookup ?_)
    show wpAny _ _ (if (some (Value.builtin "tuple.__hash__") == some Value.none) = true then _ else _) Q E s
    rw [if_neg (by rw [beq_builtin_none]; exact Bool.false_ne_true)]
    refine wpAny_bind (wpAny_specialOf hT F.slot_tuple_hash.lookup ?_)
    show wpAny _ _ (callSpecialIfBoundUnlessNone? (.ref a) "__hash__" _ >>= _) Q E s
    refine wpAny_bind (wpAny_callSpecialIfBoundUnlessNone?_slot hT F.slot_tuple_hash (wpAny_call_entry F.slot_tuple_hash hT F.entry_tuple_hash ?_ (F.args_tuple_hash_1 _)))
    show wpAny _ _ (Builtin.Tuple.tupleItemsOf (.ref a) >>= _) _ _ s
    refine wpAny_bind (wpAny_tupleItemsOf ho hd ?_)
    refine wpAny_bind ?_
    rw [← Array.forIn_toList]
    refine wpAny_forIn_list _
      (fun rest (b : Array Int) s' => ∃ done left, ds = done ++ left ∧ ImVs s.heap left rest ∧ b.toList = imHs w done ∧ s' = { s with toks := s.toks + imDs done })
      _ ?_ ?_ _ _ ⟨[], ds, rfl, hi, rfl, rfl⟩
    · rintro x rest b s' ⟨done, left, rfl, hl, hb, rfl⟩
      cases left with
      | nil => cases (show x :: rest = [] from hl)
      | cons d left =>
        obtain ⟨v, r, e, h1, hl'⟩ := hl
        cases e
        have k2 := keys_app (a := done) (show Im.keys n (done ++ d :: left) = true from k)
        rw [Im.keys, Bool.and_eq_true] at k2
        refine wpAny_bind (im_pyHash n k2.1 (by show A.units + 1 + n < cLine; omega) h1 ?_)
        first
          | exact wpAny_pure ⟨done ++ [d], left, by simp, hl', by simp [hb, imHs_app, imHs], by simp [imDs_app, imDs, Nat.add_assoc]⟩
          | exact wpAny_bind (wpAny_pure (wpAny_pure ⟨done ++ [d], left, by simp, hl', by simp [hb, imHs_app, imHs], by simp [imDs_app, imDs, Nat.add_assoc]⟩))
    · rintro b s' ⟨done, left, rfl, hl, hb, rfl⟩
      cases left with
      | cons d left => obtain ⟨_, _, e, _⟩ := hl; cases e
      | nil =>
      rw [List.append_nil] at h
      show wpAny _ _ (retInt (Builtin.Tuple.tupleHashOf b.toList)) _ _ _
      rw [hb]
      refine wpAny_ret_mkInt ?_
      show wpAny _ _ (if (decide (-(2 : Int) ^ 63 ≤ Builtin.Tuple.tupleHashOf (imHs w done)) && decide (Builtin.Tuple.tupleHashOf (imHs w done) < 2 ^ 63)) = true then _ else _) Q E _
      rw [imH, imD] at h
      unfold reduceHash at h
      by_cases hr : (decide (-(2 : Int) ^ 63 ≤ Builtin.Tuple.tupleHashOf (imHs w done)) && decide (Builtin.Tuple.tupleHashOf (imHs w done) < 2 ^ 63)) = true
      · rw [if_pos hr]
        rw [if_pos hr] at h
        exact wpAny_pure (by simpa [Nat.add_assoc] using h)
      · rw [if_neg hr]
        rw [if_neg hr] at h
        exact wpAny_bind (wpAny_rule (wpAny_pure (by simpa [Nat.add_assoc] using h)))
  | _, _, _, _, .non, _, _, k, _, _, _ => by cases ‹Nat› <;> cases k
  | _, _, _, _, .bl _, _, _, k, _, _, _ => by cases ‹Nat› <;> cases k
  | _, _, _, _, .fn _, _, _, k, _, _, _ => by cases ‹Nat› <;> cases k
  | _, _, _, _, .fl _, _, _, k, _, _, _ => by cases ‹Nat› <;> cases k
  | 0, _, _, _, .tup _, _, _, k, _, _, _ => by cases k
mutual
def pyEq : Im → Im → Bool
  | .non, .non => true
  | .bl a, .bl b => a == b
  | .bl a, .int j => (if a then 1 else 0) == j
  | .int i, .bl b => i == (if b then 1 else 0)
  | .int i, .int j => i == j
  | .str x, .str y => x == y
  | .tup a, .tup b => pyEqs a b
  | _, _ => false
def pyEqs : List Im → List Im → Bool
  | [], [] => true
  | a :: r, b :: t => pyEq a b && pyEqs r t
  | _, _ => false
end
mutual
def Im.pl : Nat → Im → Bool
  | _, .non => true
  | _, .bl _ => true
  | _, .int _ => true
  | _, .str _ => true
  | n + 1, .tup ds => Im.pls n ds
  | _, _ => false
def Im.pls : Nat → List Im → Bool
  | _, [] => true
  | n, d :: ds => Im.pl n d && Im.pls n ds
end
theorem pls_get {n : Nat} : ∀ {ds : List Im} {j : Nat} {d : Im}, Im.pls n ds = true → ds[j]? = some d → Im.pl n d = true
  | [], j, d, _, h => by simp at h
  | e :: ds, 0, d, k, h => by
    rw [Im.pls, Bool.and_eq_true] at k
    simp at h
    subst h
    exact k.1
  | e :: ds, j + 1, d, k, h => by
    rw [Im.pls, Bool.and_eq_true] at k
    exact pls_get k.2 (by simpa using h)
theorem ImVs.get {h : Heap} : ∀ {ds : List Im} {vs : List Value} {j : Nat} {v : Value}, ImVs h ds vs → vs[j]? = some v → ∃ d, ds[j]? = some d ∧ ImV h d v
  | [], vs, j, v, a, e => by rw [show vs = [] from a] at e; simp at e
  | d :: ds, vs, 0, v, a, e => by
    obtain ⟨u, r, rfl, a1, a2⟩ := a
    simp at e
    subst e
    exact ⟨d, rfl, a1⟩
  | d :: ds, vs, j + 1, v, a, e => by
    obtain ⟨u, r, rfl, a1, a2⟩ := a
    obtain ⟨d', h1, h2⟩ := ImVs.get (j := j) a2 (by simpa using e)
    exact ⟨d', by simpa using h1, h2⟩
theorem pyEq_same {h : Heap} : ∀ (n : Nat) {x y : Im} {v : Value}, Im.pl n x = true → Im.pl n y = true → ImV h x v → ImV h y v → pyEq x y = true
  | n, .non, y, v, _, ky, hx, hy => by
    cases (show v = .none from hx)
    cases y with
    | non => rfl
    | bl b => cases hy
    | int j => obtain ⟨u, e⟩ := hy; cases e
    | str z => obtain ⟨u, e⟩ := hy; cases e
    | tup ds => obtain ⟨_, _, _, _, e, _⟩ := hy; cases e
    | fn a => cases n <;> cases ky
    | fl a => cases n <;> cases ky
  | n, .bl b, y, v, _, ky, hx, hy => by
    cases (show v = .bool b from hx)
    cases y with
    | non => cases hy
    | bl c => cases hy; simp [pyEq]
    | int j => obtain ⟨u, e⟩ := hy; cases e
    | str z => obtain ⟨u, e⟩ := hy; cases e
    | tup ds => obtain ⟨_, _, _, _, e, _⟩ := hy; cases e
    | fn a => cases n <;> cases ky
    | fl a => cases n <;> cases ky
  | n, .int i, y, v, _, ky, hx, hy => by
    obtain ⟨t, rfl⟩ := hx
    cases y with
    | non => cases hy
    | bl c => cases hy
    | int j => obtain ⟨u, e⟩ := hy; cases e; simp [pyEq]
    | str z => obtain ⟨u, e⟩ := hy; cases e
    | tup ds => obtain ⟨_, _, _, _, e, _⟩ := hy; cases e
    | fn a => cases n <;> cases ky
    | fl a => cases n <;> cases ky
  | n, .str i, y, v, _, ky, hx, hy => by
    obtain ⟨t, rfl⟩ := hx
    cases y with
    | non => cases hy
    | bl c => cases hy
    | int j => obtain ⟨u, e⟩ := hy; cases e
    | str z => obtain ⟨u, e⟩ := hy; cases e; simp [pyEq]
    | tup ds => obtain ⟨_, _, _, _, e, _⟩ := hy; cases e
    | fn a => cases n <;> cases ky
    | fl a => cases n <;> cases ky
  | n + 1, .tup ds, y, v, kx, ky, hx, hy => by
    obtain ⟨a, o, items, m, rfl, h1, h2, h3, h4⟩ := hx
    cases y with
    | non => cases hy
    | bl c => cases hy
    | int j => obtain ⟨u, e⟩ := hy; cases e
    | str z => obtain ⟨u, e⟩ := hy; cases e
    | fn a => cases ky
    | fl a => cases ky
    | tup es =>
      obtain ⟨a', o', items', m', e, g1, g2, g3, g4⟩ := hy
      cases e
      rw [h1] at g1
      cases g1
      rw [h3] at g3
      injection g3 with g3 _
      subst g3
      have all : ∀ (ds es : List Im) (vs : List Value), Im.pls n ds = true → Im.pls n es = true → ImVs h ds vs → ImVs h es vs → pyEqs ds es = true := by
        intro ds
        induction ds with
        | nil =>
          intro es vs _ _ a b
          cases es with
          | nil => rfl
          | cons e es => obtain ⟨_, _, q, _⟩ := b; rw [show vs = [] from a] at q; cases q
        | cons d ds ih =>
          intro es vs k1 k2 a b
          obtain ⟨v, r, rfl, a1, a2⟩ := a
          cases es with
          | nil => cases (show v :: r = [] from b)
          | cons e es =>
            obtain ⟨v', r', q, b1, b2⟩ := b
            cases q
            rw [Im.pls, Bool.and_eq_true] at k1 k2
            rw [pyEqs, pyEq_same n k1.1 k2.1 a1 b1, ih es r k1.2 k2.2 a2 b2]
            rfl
      rw [pyEq]
      exact all ds es _ kx ky h4 g4
  | n, .fn _, _, _, k, _, _, _ => by cases n <;> cases k
  | n, .fl _, _, _, k, _, _, _ => by cases n <;> cases k
  | 0, .tup _, _, _, k, _, _, _ => by cases k
theorem pyEqs_range {e : Nat → Bool} : ∀ {ds es : List Im}, (∀ (j : Nat) (x y : Im), ds[j]? = some x → es[j]? = some y → e j = pyEq x y) → ((List.range (min ds.length es.length)).all e && ds.length == es.length) = pyEqs ds es := by
  have key : ∀ (ds es : List Im) (f : Nat → Bool), (∀ (j : Nat) (x y : Im), ds[j]? = some x → es[j]? = some y → f j = pyEq x y) → ((List.range (min ds.length es.length)).all f && ds.length == es.length) = pyEqs ds es := by
    intro ds
    induction ds with
    | nil => intro es f _; cases es <;> simp [pyEqs]
    | cons d ds ih =>
      intro es f h
      cases es with
      | nil => simp [pyEqs]
      | cons c es =>
        have := ih es (fun j => f (j + 1)) fun j x y a b => h (j + 1) x y (by simpa using a) (by simpa using b)
        rw [pyEqs, ← this, ← h 0 d c rfl rfl]
        rw [List.length_cons, List.length_cons, show min (ds.length + 1) (es.length + 1) = min ds.length es.length + 1 by omega, List.range_succ_eq_map, List.all_cons, List.all_map, Bool.and_assoc]
        congr 2
        rw [Bool.eq_iff_iff]
        simp
  exact fun {ds es} h => key ds es e h
theorem eqAt_im {s : Shared} : ∀ (n : Nat) {A : Around} {x y : Im} {u v : Value}, Im.pl n x = true → Im.pl n y = true → A.units + n + 1 < cLine → ImV s.heap x u → ImV s.heap y v → SeqAt.EqAt A s u v (pyEq x y)
  | n, A, .non, y, u, v, _, ky, hu, hx, hy => by
    cases (show u = .none from hx)
    cases y with
    | non => cases (show v = .none from hy); exact SeqAt.EqAt.same _
    | bl b => cases (show v = .bool b from hy); exact SeqAt.EqAt.none_bool b
    | int j => obtain ⟨t, rfl⟩ := hy; exact SeqAt.EqAt.none_int j t
    | str z => obtain ⟨t, rfl⟩ := hy; exact SeqAt.EqAt.none_str z t
    | tup ds => obtain ⟨a, o, items, m, rfl, h1, h2, h3, _⟩ := hy; exact SeqAt.EqAt.none_tuple ⟨o, h1, h2, m, h3⟩ (by omega)
    | fn a => cases n <;> cases ky
    | fl a => cases n <;> cases ky
  | n, A, .bl b, y, u, v, _, ky, hu, hx, hy => by
    cases (show u = .bool b from hx)
    cases y with
    | non => cases (show v = .none from hy); exact SeqAt.EqAt.bool_none b
    | bl c => cases (show v = .bool c from hy); exact SeqAt.EqAt.bool_bool b c
    | int j => obtain ⟨t, rfl⟩ := hy; exact SeqAt.EqAt.bool_int b j t
    | str z => obtain ⟨t, rfl⟩ := hy; exact SeqAt.EqAt.bool_str b z t
    | tup ds => obtain ⟨a, o, items, m, rfl, h1, h2, h3, _⟩ := hy; exact SeqAt.EqAt.bool_tuple b ⟨o, h1, h2, m, h3⟩ (by omega)
    | fn a => cases n <;> cases ky
    | fl a => cases n <;> cases ky
  | n, A, .int i, y, u, v, _, ky, hu, hx, hy => by
    obtain ⟨t0, rfl⟩ := hx
    cases y with
    | non => cases (show v = .none from hy); exact SeqAt.EqAt.int_none i t0
    | bl c => cases (show v = .bool c from hy); exact SeqAt.EqAt.int_bool i t0 c
    | int j => obtain ⟨t, rfl⟩ := hy; exact SeqAt.EqAt.int_int i t0 j t
    | str z => obtain ⟨t, rfl⟩ := hy; exact SeqAt.EqAt.int_str i t0 z t
    | tup ds => obtain ⟨a, o, items, m, rfl, h1, h2, h3, _⟩ := hy; exact SeqAt.EqAt.int_tuple i t0 ⟨o, h1, h2, m, h3⟩ (by omega)
    | fn a => cases n <;> cases ky
    | fl a => cases n <;> cases ky
  | n, A, .str i, y, u, v, _, ky, hu, hx, hy => by
    obtain ⟨t0, rfl⟩ := hx
    cases y with
    | non => cases (show v = .none from hy); exact SeqAt.EqAt.str_none i t0
    | bl c => cases (show v = .bool c from hy); exact SeqAt.EqAt.str_bool i t0 c
    | int j => obtain ⟨t, rfl⟩ := hy; exact SeqAt.EqAt.str_int i t0 j t
    | str z => obtain ⟨t, rfl⟩ := hy; exact SeqAt.EqAt.str_str i t0 z t
    | tup ds => obtain ⟨a, o, items, m, rfl, h1, h2, h3, _⟩ := hy; exact SeqAt.EqAt.str_tuple i t0 ⟨o, h1, h2, m, h3⟩ (by omega)
    | fn a => cases n <;> cases ky
    | fl a => cases n <;> cases ky
  | n + 1, A, .tup ds, y, u, v, kx, ky, hu, hx, hy => by
    have hx' := hx
    obtain ⟨a, o, items, m, rfl, h1, h2, h3, h4⟩ := hx
    have ta : s.heap.IsTuple a items := ⟨o, h1, h2, m, h3⟩
    cases y with
    | non => cases (show v = .none from hy); exact SeqAt.EqAt.tuple_none ta (by omega)
    | bl c => cases (show v = .bool c from hy); exact SeqAt.EqAt.tuple_bool c ta (by omega)
    | int j => obtain ⟨t, rfl⟩ := hy; exact SeqAt.EqAt.tuple_int j t ta (by omega)
    | str z => obtain ⟨t, rfl⟩ := hy; exact SeqAt.EqAt.tuple_str z t ta (by omega)
    | fn a => cases ky
    | fl a => cases ky
    | tup es =>
      have hy' := hy
      obtain ⟨b, o', items', m', rfl, g1, g2, g3, g4⟩ := hy
      by_cases e : a = b
      · subst e
        rw [pyEq_same (n + 1) kx ky hx' hy']
        exact SeqAt.EqAt.same _
      · have tb : s.heap.IsTuple b items' := ⟨o', g1, g2, m', g3⟩
        have l1 := h4.length
        have l2 := g4.length
        have l3 : items.toList.length = items.size := by simp
        have l4 : items'.toList.length = items'.size := by simp
        rw [l3] at l1
        rw [l4] at l2
        have q := SeqAt.EqAt.of_refs (A := A) e (SeqAt.RcAt.tuples (e := fun j => pyEq (ds.getD j .non) (es.getD j .non)) ta tb (by omega) fun j j1 j2 => by
          obtain ⟨d1, e1, r1⟩ := h4.get (j := j) (v := items[j]) (by rw [Array.getElem?_toList]; simp [j1])
          obtain ⟨d2, e2, r2⟩ := g4.get (j := j) (v := items'[j]) (by rw [Array.getElem?_toList]; simp [j2])
          rw [List.getD_eq_getElem?_getD, e1, List.getD_eq_getElem?_getD, e2]
          exact eqAt_im n (pls_get kx e1) (pls_get ky e2) (by show A.units + 1 + n + 1 < cLine; omega) r1 r2)
        rw [← l1, ← l2, pyEqs_range (ds := ds) (es := es) (fun j x y a b => by rw [List.getD_eq_getElem?_getD, a, List.getD_eq_getElem?_getD, b]; rfl)] at q
        rw [pyEq]
        exact q
  | n, A, .fn _, _, _, _, k, _, _, _, _ => by cases n <;> cases k
  | n, A, .fl _, _, _, _, k, _, _, _, _ => by cases n <;> cases k
  | 0, A, .tup _, _, _, _, k, _, _, _, _ => by cases k
mutual
theorem pl_of_key : ∀ {n : Nat} {d : Im}, Im.key n d = true → Im.pl n d = true
  | n, .int _, _ => by cases n <;> rfl
  | n, .str _, _ => by cases n <;> rfl
  | n + 1, .tup ds, h => by rw [Im.key] at h; rw [Im.pl]; exact pls_of_keys h
  | 0, .tup _, h => by cases h
  | n, .non, h => by cases n <;> cases h
  | n, .bl _, h => by cases n <;> cases h
  | n, .fn _, h => by cases n <;> cases h
  | n, .fl _, h => by cases n <;> cases h
theorem pls_of_keys : ∀ {n : Nat} {ds : List Im}, Im.keys n ds = true → Im.pls n ds = true
  | n, [], _ => by rw [Im.pls]
  | n, d :: ds, h => by rw [Im.keys, Bool.and_eq_true] at h; rw [Im.pls, pl_of_key h.1, pls_of_keys h.2]; rfl
end
mutual
theorem pyEq_key : ∀ {n : Nat} {x y : Im}, Im.key n x = true → Im.key n y = true → pyEq x y = decide (x = y)
  | n, .int i, y, _, hy => by
    cases y with
    | int j => rw [pyEq]; by_cases e : i = j <;> simp [e]
    | str z => simp [pyEq]
    | tup z => simp [pyEq]
    | _ => cases n <;> cases hy
  | n, .str i, y, _, hy => by
    cases y with
    | int j => simp [pyEq]
    | str z => rw [pyEq]; by_cases e : i = z <;> simp [e]
    | tup z => simp [pyEq]
    | _ => cases n <;> cases hy
  | n + 1, .tup ds, y, hx, hy => by
    cases y with
    | int j => simp [pyEq]
    | str z => simp [pyEq]
    | tup es =>
      rw [Im.key] at hx hy
      rw [pyEq, pyEqs_key hx hy]
      simp
    | _ => cases hy
  | 0, .tup _, _, h, _ => by cases h
  | n, .non, _, h, _ => by cases n <;> cases h
  | n, .bl _, _, h, _ => by cases n <;> cases h
  | n, .fn _, _, h, _ => by cases n <;> cases h
  | n, .fl _, _, h, _ => by cases n <;> cases h
theorem pyEqs_key : ∀ {n : Nat} {x y : List Im}, Im.keys n x = true → Im.keys n y = true → pyEqs x y = decide (x = y)
  | n, [], y, _, _ => by cases y <;> simp [pyEqs]
  | n, d :: ds, [], _, _ => by simp [pyEqs]
  | n, d :: ds, e :: es, hx, hy => by
    rw [Im.keys, Bool.and_eq_true] at hx hy
    rw [pyEqs, pyEq_key hx.1 hy.1, pyEqs_key hx.2 hy.2]
    by_cases h1 : d = e <;> by_cases h2 : ds = es <;> simp [h1, h2]
end
theorem im_quiet : ∀ (n : Nat) {A : Around} {E : Value → Shared → Prop} {s : Shared} {d : Im} {v : Value} {Q : Bool → Shared → Prop}, Im.key n d = true → ImV s.heap d v → Q true s → wpAny (model prog w) A (eqIsQuiet n v) Q E s
  | n, A, E, s, .int i, v, Q, _, hv, h => by
    obtain ⟨t, rfl⟩ := hv
    rw [eqIsQuiet_byValue n rfl]
    exact wpAny_pure h
  | n, A, E, s, .str i, v, Q, _, hv, h => by
    obtain ⟨t, rfl⟩ := hv
    rw [eqIsQuiet_byValue n rfl]
    exact wpAny_pure h
  | n + 1, A, E, s, .tup ds, v, Q, k, hv, h => by
    obtain ⟨a, o, items, m, rfl, ho, hc, hd, hi⟩ := hv
    have hT : s.TypeIs (.ref a) "tuple" := ⟨o, ho, hc⟩
    unfold eqIsQuiet
    refine wpAny_bind (wpAny_specialOf hT F.slot_tuple_eq.lookup ?_)
    show wpAny _ _ (isInstance (.ref a) (.type "tuple") >>= _) _ _ s
    refine wpAny_bind (wpAny_isInstance hT isSubtype_tuple_tuple ?_)
    simp only [Bool.not_true, Bool.false_eq_true, if_false]
    refine wpAny_bind (wpAny_seqItems ho hd ?_)
    refine wpAny_bind ?_
    show wpAny _ _ (forIn items _ _) _ _ s
    rw [← Array.forIn_toList]
    rw [Im.key] at k
    refine wpAny_forIn_list _ (fun rest r s' => r.1 = none ∧ s' = s ∧ ∃ left, Im.keys n left = true ∧ ImVs s.heap left rest) _ ?_ ?_ _ _ ⟨rfl, rfl, ds, k, hi⟩
    · rintro v rest r s' ⟨hr, rfl, left, hk, hl⟩
      cases left with
      | nil => cases (show v :: rest = [] from hl)
      | cons d left =>
        obtain ⟨v', r', e, h1, hl'⟩ := hl
        cases e
        rw [Im.keys, Bool.and_eq_true] at hk
        refine wpAny_bind (im_quiet n hk.1 h1 ?_)
        simp only [Bool.not_true, Bool.false_eq_true, if_false]
        exact wpAny_pure ⟨rfl, rfl, left, hk.2, hl'⟩
    · rintro ⟨r1, r2⟩ s' ⟨hr, rfl, _⟩
      simp only at hr
      subst hr
      exact wpAny_pure h
  | _, _, _, _, .non, _, _, k, _, _ => by cases ‹Nat› <;> cases k
  | _, _, _, _, .bl _, _, _, k, _, _ => by cases ‹Nat› <;> cases k
  | _, _, _, _, .fn _, _, _, k, _, _ => by cases ‹Nat› <;> cases k
  | _, _, _, _, .fl _, _, _, k, _, _ => by cases ‹Nat› <;> cases k
  | 0, _, _, _, .tup _, _, _, k, _, _ => by cases k
def imKind (prog : Program) (w : World) : HeapKind prog w (List Im) where
  is := fun h ds a => Im.keys 7 ds = true ∧ ImV h (.tup ds) (.ref a)
  hash := fun ds => imH w (.tup ds)
  draws := fun ds => imD (.tup ds)
  room := fun A => A.units + 10 < cLine
  inj := fun hx hy => by
    have := keyInj 8 (x := .tup _) (y := .tup _) hx.1 hy.1 hx.2 hy.2
    injection this
  keeps := fun {h h' k a d o es ep} x ho hd hs => ⟨x.1, x.2.keep fun b u items n hb hc hd' => by
    have hne : b ≠ d := by
      rintro rfl
      rw [ho] at hb
      cases hb
      rw [hd] at hd'
      cases hd'
    exact (hs.2 b hne).trans hb⟩
  pyHash := fun hu hk h => im_pyHash 8 (d := .tup _) hk.1 (show _ < _ by have : _ + 10 < cLine := hu; omega) hk.2 h
  eqBool := fun {A E s x y a b Q} hu hx hy h => by
    have q := eqAt_im (s := s) 8 (A := A) (x := .tup x) (y := .tup y) (pl_of_key (n := 8) (d := .tup x) hx.1) (pl_of_key (n := 8) (d := .tup y) hy.1) (show _ < _ by have : A.units + 10 < cLine := hu; omega) hx.2 hy.2
    rw [pyEq_key (n := 8) (x := .tup x) (y := .tup y) hx.1 hy.1] at q
    exact q _ _ E Q (by simpa using h)
  quiet := fun hk h => im_quiet 8 (d := .tup _) hk.1 hk.2 h
end
end L2
-- CHANGE: your row's module here, as the last of these rows
set_option Elab.async false
set_option linter.all false
set_option maxRecDepth 100000
namespace L2
open PySem PySem.Spec PyProof.Rows
abbrev Key := Sum Int Str
def keyIs : Key → Value → Bool
  | .inl k, v => Value.isInt k v
  | .inr x, v => Value.isStrOf x v
def keyH (w : World) : Key → Int
  | .inl k => hashInt k
  | .inr x => hashStr w x
theorem keyIs_shape : ∀ {k : Key} {v : Value}, keyIs k v = true → (∃ i t, k = Sum.inl i ∧ v = Value.int i t) ∨ (∃ x t, k = Sum.inr x ∧ v = Value.str x t)
  | .inl i, v, h => by
    obtain ⟨t, e⟩ := Value.isInt_shape (k := i) (v := v) h
    exact .inl ⟨i, t, rfl, e⟩
  | .inr x, v, h => by
    obtain ⟨t, e⟩ := Value.isStrOf_shape (x := x) (v := v) h
    exact .inr ⟨x, t, rfl, e⟩
theorem keyIs_int (i : Int) (t : Tok) : keyIs (.inl i) (.int i t) = true := by simp [keyIs, Value.isInt]
theorem keyIs_str (x : Str) (t : Tok) : keyIs (.inr x) (.str x t) = true := by simp [keyIs, Value.isStrOf]
theorem key_ll (a b : Int) : decide ((Sum.inl a : Key) = Sum.inl b) = (a == b) := by
  by_cases e : a = b
  · subst e; simp
  · have h : ¬ (Sum.inl a : Key) = Sum.inl b := fun q => e (Sum.inl.inj q)
    rw [decide_eq_false h]
    exact (beq_eq_false_iff_ne.mpr e).symm
theorem key_rr (a b : Str) : decide ((Sum.inr a : Key) = Sum.inr b) = decide (a = b) := by
  by_cases e : a = b
  · subst e; simp
  · have h : ¬ (Sum.inr a : Key) = Sum.inr b := fun q => e (Sum.inr.inj q)
    rw [decide_eq_false h, decide_eq_false e]
theorem key_lr (a : Int) (b : Str) : decide ((Sum.inl a : Key) = Sum.inr b) = false := decide_eq_false (fun q => nomatch q)
theorem key_rl (a : Str) (b : Int) : decide ((Sum.inr a : Key) = Sum.inl b) = false := decide_eq_false (fun q => nomatch q)
def mixKind (prog : Program) (w : World) : PySem.KeyKind prog w Key where
  is := keyIs
  hash := keyH w
  inj := fun v a b ha hb => by
    rcases keyIs_shape ha with ⟨i, t, rfl, rfl⟩ | ⟨x, t, rfl, rfl⟩
    · rcases keyIs_shape hb with ⟨j, u, rfl, e⟩ | ⟨y, u, rfl, e⟩
      · injection e with e1 _; rw [e1]
      · exact nomatch e
    · rcases keyIs_shape hb with ⟨j, u, rfl, e⟩ | ⟨y, u, rfl, e⟩
      · exact nomatch e
      · injection e with e1 _; rw [e1]
  byValue := fun k v h => by
    rcases keyIs_shape h with ⟨i, t, rfl, rfl⟩ | ⟨x, t, rfl, rfl⟩ <;> rfl
  pyHash := fun hv h => by
    rcases keyIs_shape hv with ⟨i, t, rfl, rfl⟩ | ⟨x, t, rfl, rfl⟩
    · exact wpAny_pyHash_int h
    · exact wpAny_pyHash_str h
  eqBool := fun hu hv h => by
    rcases keyIs_shape hu with ⟨i, t, rfl, rfl⟩ | ⟨x, t, rfl, rfl⟩
    · rcases keyIs_shape hv with ⟨j, u, rfl, rfl⟩ | ⟨y, u, rfl, rfl⟩
      · rw [key_ll] at h; exact wpAny_eqBool_int h
      · rw [key_lr] at h; exact SeqAt.EqAt.int_str i t y u _ _ _ _ h
    · rcases keyIs_shape hv with ⟨j, u, rfl, rfl⟩ | ⟨y, u, rfl, rfl⟩
      · rw [key_rl] at h; exact SeqAt.EqAt.str_int x t j u _ _ _ _ h
      · rw [key_rr] at h; exact wpAny_eqBool_str h
  «strs» := fun k x t v h => by
    rcases keyIs_shape h with ⟨i, u, rfl, e⟩ | ⟨y, u, rfl, e⟩
    · exact nomatch e
    · injection e with e1 _
      subst e1
      cases v <;> rfl
theorem mixKind_int (prog : Program) (w : World) (i : Int) (t : Tok) : (mixKind prog w).is (.inl i) (.int i t) = true := keyIs_int i t
theorem mixKind_str (prog : Program) (w : World) (x : Str) (t : Tok) : (mixKind prog w).is (.inr x) (.str x t) = true := keyIs_str x t
end L2
namespace L2
open PySem PySem.Spec PyProof.Rows
inductive V where
  | non | bl (b : Bool) | int (i : Int) | str (x : Str) | byt (b : Array UInt8) | flt (b : UInt64) | ref (a : Addr) | ty (n : String)
  deriving DecidableEq
def RelV : V → Value → Prop
  | .non, u => u = Value.none
  | .bl b, u => u = Value.bool b
  | .int i, u => ∃ t, u = Value.int i t
  | .str x, u => ∃ t, u = Value.str x t
  | .byt b, u => ∃ t, u = Value.bytes b t
  | .flt b, u => ∃ t, u = Value.float b t
  | .ref a, u => u = Value.ref a
  | .ty n, u => u = Value.type n
abbrev Vals : List V → List Value → Prop := Paired RelV
theorem Vals.length {xs : List V} {us : List Value} (r : Vals xs us) : xs.length = us.length := Paired.length r
theorem Vals.get : ∀ {xs : List V} {us : List Value} {i : Nat} {x : V}, Vals xs us → xs[i]? = some x → ∃ u, us[i]? = some u ∧ RelV x u
  | _, _, _, _, .nil, e => by simp at e
  | _, _, 0, _, .cons r _, e => by simp at e; subst e; exact ⟨_, rfl, r⟩
  | _, _, i + 1, x, .cons _ t, e => by
    obtain ⟨u, h1, h2⟩ := Vals.get (i := i) (x := x) t (by simpa using e)
    exact ⟨u, by simpa using h1, h2⟩
theorem Vals.set {x : V} {u : Value} (r : RelV x u) : ∀ {xs : List V} {us : List Value} (i : Nat), Vals xs us → Vals (xs.set i x) (us.set i u)
  | _, _, _, .nil => .nil
  | _, _, 0, .cons _ t => .cons r t
  | _, _, i + 1, .cons q t => .cons q (Vals.set r i t)
theorem Vals.append : ∀ {xs ys : List V} {us ws : List Value}, Vals xs us → Vals ys ws → Vals (xs ++ ys) (us ++ ws)
  | _, _, _, _, .nil, s => s
  | _, _, _, _, .cons r t, s => .cons r (Vals.append t s)
theorem Vals.take : ∀ {xs : List V} {us : List Value} (n : Nat), Vals xs us → Vals (xs.take n) (us.take n)
  | _, _, 0, _ => .nil
  | _, _, _ + 1, .nil => .nil
  | _, _, n + 1, .cons r t => .cons r (Vals.take n t)
theorem Vals.drop : ∀ {xs : List V} {us : List Value} (n : Nat), Vals xs us → Vals (xs.drop n) (us.drop n)
  | _, _, 0, r => r
  | _, _, _ + 1, .nil => .nil
  | _, _, n + 1, .cons _ t => Vals.drop n t
def RelO : Option V → Option Value → Prop
  | some v, some u => RelV v u
  | none, none => True
  | _, _ => False
def KV {κ : Type} : List (κ × V) → List (κ × Value) → Prop := Paired fun (p : κ × V) (q : κ × Value) => p.1 = q.1 ∧ RelV p.2 q.2
def kV : Key → V
  | .inl i => .int i
  | .inr x => .str x
inductive HO where
  /-- a list -/
  | lst (xs : List V)
  /-- a tuple (never changes) -/
  | tup (xs : List V)
  /-- a dict whose keys are ints and texts; one whose keys are tuples of ints and texts (the empty one is both) -/
  | dK (kvs : List (Key × V)) | dT (kvs : List (List Im × V))
  /-- a set of ints: its members, its size -/
  | set (S : Int → Bool) (n : Nat)
  /-- an instance of the class at C, its dict at dx, its attributes -/
  | ins (C dx : Addr) (fs : List (Str × V))
  /-- the dict of the instance at x -/
  | own (x : Addr)
  /-- the dict of an exception -/
  | xd (fs : List (Str × V))
  /-- a bound method, f of x -/
  | met (f x : Addr)
  /-- a range object lo, lo + 1, .. below hi -/
  | rng (lo hi : Int)
  /-- a thing that is known to the object (the script; a dict while a loop walks it): read, never written while it is so -/
  | frz (o : Obj) (u : HO)
  /-- a code object's table -/
  | tbl (ps : Array Value)
  /-- any other thing, by what is true of its one object (a def of one's own: SetO a S n := HO.ext fun h => ..) -/
  | ext (φ : Heap → Prop)
abbrev Hp := Addr → Option HO
def upd (H : Hp) (a : Addr) (o : HO) : Hp := fun b => if b = a then some o else H b
theorem upd_same {H : Hp} {a : Addr} {o : HO} : upd H a o a = some o := by unfold upd; rw [if_pos rfl]
theorem upd_ne {H : Hp} {a b : Addr} {o : HO} (h : b ≠ a) : upd H a o b = H b := by unfold upd; rw [if_neg h]
theorem ne_of_none {H : Hp} {a b : Addr} {o : HO} (h : H a = some o) (h' : H b = none) : a ≠ b := by
  intro e; subst e; rw [h] at h'; cases h'
mutual
def IsI (H : Hp) : Im → V → Prop
  | .non, v => v = .non
  | .bl b, v => v = .bl b
  | .int i, v => v = .int i
  | .str x, v => v = .str x
  | .fn a, v => v = .ref a
  | .fl ds, v => ∃ a xs o, v = .ref a ∧ H a = some (.frz o (.lst xs)) ∧ IsIs H ds xs
  | .tup ds, v => ∃ a xs, v = .ref a ∧ H a = some (.tup xs) ∧ IsIs H ds xs
def IsIs (H : Hp) : List Im → List V → Prop
  | [], vs => vs = []
  | d :: ds, vs => ∃ v r, vs = v :: r ∧ IsI H d v ∧ IsIs H ds r
end
def TupO (H H' : Hp) : Prop := ∀ a xs, H a = some (.tup xs) → H' a = some (.tup xs)
structure TupS (H H' : Hp) : Prop where
  t : TupO H H'
  z : ∀ a o u, H a = some (.frz o u) → H' a = some (.frz o u)
instance {H H' : Hp} : CoeFun (TupS H H') (fun _ => ∀ a xs, H a = some (.tup xs) → H' a = some (.tup xs)) := ⟨fun t => t.t⟩
mutual
theorem IsI.mono {H H' : Hp} (k : TupS H H') : ∀ {d : Im} {v : V}, IsI H d v → IsI H' d v
  | .non, _, e => e
  | .bl _, _, e => e
  | .int _, _, e => e
  | .str _, _, e => e
  | .fn _, _, e => e
  | .tup ds, _, e => by
    obtain ⟨a, xs, rfl, h1, h2⟩ := e
    exact ⟨a, xs, rfl, k.t a xs h1, IsIs.mono k h2⟩
  | .fl ds, _, e => by
    obtain ⟨a, xs, o, rfl, h1, h2⟩ := e
    exact ⟨a, xs, o, rfl, k.z a _ _ h1, IsIs.mono k h2⟩
theorem IsIs.mono {H H' : Hp} (k : TupS H H') : ∀ {ds : List Im} {vs : List V}, IsIs H ds vs → IsIs H' ds vs
  | [], _, e => e
  | d :: ds, _, e => by
    obtain ⟨v, r, rfl, h1, h2⟩ := e
    exact ⟨v, r, rfl, IsI.mono k h1, IsIs.mono k h2⟩
end
def KAd (H : Hp) (k : List Im) (b : Addr) : Prop := Im.keys 7 k = true ∧ IsI H (.tup k) (.ref b)
mutual
theorem IsI.monoK {H H' : Hp} (k : TupO H H') : ∀ {d : Im} {n : Nat} {v : V}, Im.key n d = true → IsI H d v → IsI H' d v
  | .non, _, _, _, e => e
  | .bl _, _, _, _, e => e
  | .int _, _, _, _, e => e
  | .str _, _, _, _, e => e
  | .fn _, _, _, _, e => e
  | .tup ds, n + 1, _, q, e => by
    obtain ⟨a, xs, rfl, h1, h2⟩ := e
    exact ⟨a, xs, rfl, k a xs h1, IsIs.monoK k q h2⟩
  | .tup ds, 0, _, q, e => nomatch q
  | .fl ds, 0, _, q, e => nomatch q
  | .fl ds, n + 1, _, q, e => nomatch q
theorem IsIs.monoK {H H' : Hp} (k : TupO H H') : ∀ {ds : List Im} {n : Nat} {vs : List V}, Im.keys n ds = true → IsIs H ds vs → IsIs H' ds vs
  | [], _, _, _, e => e
  | d :: ds, n, _, q, e => by
    obtain ⟨v, r, rfl, h1, h2⟩ := e
    rw [Im.keys, Bool.and_eq_true] at q
    exact ⟨v, r, rfl, IsI.monoK k q.1 h1, IsIs.monoK k q.2 h2⟩
end
theorem KAd.mono {H H' : Hp} {k : List Im} {b : Addr} (h : KAd H k b) (t : TupO H H') : KAd H' k b := by
  obtain ⟨h0, a, xs, e, h1, h2⟩ := h
  exact ⟨h0, a, xs, e, t a xs h1, h2.monoK t h0⟩
section
variable (P : Program) (w : World)
def ObjOk (H : Hp) (h : Heap) (a : Addr) : HO → Prop
  | .lst xs => xs.length ≤ sizeLine ∧ ∃ (its : List Value) (n : Nat), Vals xs its ∧ h.get? a = some { cls := .type "list", data := .seq its.toArray n }
  | .tup xs => xs.length ≤ sizeLine ∧ ∃ its : List Value, Vals xs its ∧ IsTup h a its.toArray
  | .dK kvs => kvs.length ≤ sizeLine ∧ (a == sysModules) = false ∧ ∃ vs, KV kvs vs ∧ h.DictOf (mixKind P w) a vs
  | .dT kvs => kvs.length ≤ sizeLine ∧ (a == sysModules) = false ∧ ∃ xs : List (List Im × Addr × Value),
      Paired (fun (p : List Im × V) (q : List Im × Addr × Value) => p.1 = q.1 ∧ KAd H p.1 q.2.1 ∧ RelV p.2 q.2.2) kvs xs ∧
      ∃ o es ep, h.get? a = some o ∧ o.ExactDict ∧ o.data = .dict es ep ∧ es.toList = xs.map (entryOfKey (imKind P w)) ∧ (xs.map (·.1)).Nodup
  | .set S n => h.SetOf (intKind P w) a S n
  | .ins C dx fs => H dx = some (.own a) ∧ fs.length ≤ 1000 ∧ dx ≠ a ∧ h.get? a = some (PySem.W.instObj C dx) ∧
      ∃ mA, h.Ns1 dx mA ∧ (∀ f, RelO (fs.lookup f) (mA f)) ∧ PySem.Within mA (fs.map (·.1))
  | .own _ => ∃ o, h.get? a = some o
  | .xd fs => ∃ mA, h.Ns1 a mA ∧ ∀ f, RelO (fs.lookup f) (mA f)
  | .rng lo hi => ∃ t u v, h.get? a = some { cls := .type "range", data := .fields #[.int lo t, .int hi u, .int 1 v] }
  | .frz o u => h.get? a = some o ∧ ObjOk H h a u
  | .tbl ps => h.get? a = some { cls := .none, data := .fields ps }
  | .met f x => h.get? a = some (PySem.W.methodObj (.ref f) (.ref x))
  | .ext φ => φ h ∧ (∃ o, h.get? a = some o) ∧ ∀ h1 h2 : Heap, φ h1 → (∀ o, h1.get? a = some o → h2.get? a = some o) → φ h2
def HOk (H : Hp) (h : Heap) : Prop := ∀ a o, H a = some o → ObjOk P w H h a o
end
section
variable {P : Program} {w : World} {H H' : Hp} {h h' : Heap} {a : Addr} {o : HO}
theorem ObjOk.lt (x : ObjOk P w H h a o) : a < h.objs.size := by
  cases o with
  | lst xs => obtain ⟨_, _, _, _, e⟩ := x; exact Heap.lt_size e
  | tup xs => obtain ⟨_, _, _, p⟩ := x; exact p.lt
  | dK kvs => obtain ⟨_, _, _, _, o, _, _, e, _⟩ := x; exact Heap.lt_size e
  | dT kvs => obtain ⟨_, _, _, _, o, _, _, e, _⟩ := x; exact Heap.lt_size e
  | set S n => obtain ⟨o, _, _, _, e, _⟩ := x; exact Heap.lt_size e
  | ins C dx fs => obtain ⟨_, _, _, e, _⟩ := x; exact Heap.lt_size e
  | own y => obtain ⟨_, e⟩ := x; exact Heap.lt_size e
  | xd fs => obtain ⟨_, ⟨_, _, _, e, _⟩, _⟩ := x; exact Heap.lt_size e
  | rng lo hi => obtain ⟨_, _, _, e⟩ := x; exact Heap.lt_size e
  | frz ob u => obtain ⟨e, _⟩ := x; exact Heap.lt_size e
  | tbl ps => exact Heap.lt_size (show h.get? a = some _ from x)
  | met f y => exact Heap.lt_size (show h.get? a = some _ from x)
  | ext φ => obtain ⟨_, ⟨_, e⟩, _⟩ := x; exact Heap.lt_size e
theorem Paired.mapP {α β : Type} {F G : α → β → Prop} : ∀ {l₁ : List α} {l₂ : List β}, Paired F l₁ l₂ → (∀ a b, F a b → G a b) → Paired G l₁ l₂
  | _, _, .nil, _ => .nil
  | _, _, .cons r t, f => .cons (f _ _ r) (Paired.mapP t f)
theorem ObjOk.stay (x : ObjOk P w H h a o) (k : ∀ b u, (b = a ∨ H b = some (.own a)) → h.get? b = some u → h'.get? b = some u)
    (ho : ∀ b, H b = some (.own a) → H' b = some (.own a)) (ht : ∀ b xs, H b = some (.tup xs) → H' b = some (.tup xs)) : ObjOk P w H' h' a o := by
  induction o with
  | lst xs => obtain ⟨z, its, n, r, e⟩ := x; exact ⟨z, its, n, r, k _ _ (.inl rfl) e⟩
  | tup xs => obtain ⟨z, its, r, ob, e, c⟩ := x; exact ⟨z, its, r, ob, k _ _ (.inl rfl) e, c⟩
  | dK kvs => obtain ⟨z, y, vs, r, ob, es, ep, e, c⟩ := x; exact ⟨z, y, vs, r, ob, es, ep, k _ _ (.inl rfl) e, c⟩
  | dT kvs =>
    obtain ⟨z, y, xs, r, ob, es, ep, e, c⟩ := x
    exact ⟨z, y, xs, Paired.mapP r fun p q z => ⟨z.1, z.2.1.mono ht, z.2.2⟩, ob, es, ep, k _ _ (.inl rfl) e, c⟩
  | set S n => obtain ⟨ob, es, ep, t, e, c⟩ := x; exact ⟨ob, es, ep, t, k _ _ (.inl rfl) e, c⟩
  | ins C dx fs =>
    obtain ⟨d, z, ne, e, mA, ⟨od, es, ep, e2, c⟩, r⟩ := x
    exact ⟨ho _ d, z, ne, k _ _ (.inl rfl) e, mA, ⟨od, es, ep, k _ _ (.inr d) e2, c⟩, r⟩
  | own y => obtain ⟨ob, e⟩ := x; exact ⟨ob, k _ _ (.inl rfl) e⟩
  | xd fs => obtain ⟨mA, ⟨od, es, ep, e, c⟩, r⟩ := x; exact ⟨mA, ⟨od, es, ep, k _ _ (.inl rfl) e, c⟩, r⟩
  | rng lo hi => obtain ⟨t, u, v, e⟩ := x; exact ⟨t, u, v, k _ _ (.inl rfl) e⟩
  | frz ob u ih => obtain ⟨e, q⟩ := x; exact ⟨k _ _ (.inl rfl) e, ih q⟩
  | tbl ps =>
    have e : h.get? a = some { cls := .none, data := .fields ps } := x
    show h'.get? a = some { cls := .none, data := .fields ps }
    exact k a _ (.inl rfl) e
  | met f y =>
    have e : h.get? a = some (PySem.W.methodObj (.ref f) (.ref y)) := x
    show h'.get? a = some (PySem.W.methodObj (.ref f) (.ref y))
    exact k a _ (.inl rfl) e
  | ext φ => obtain ⟨p, ⟨o, e⟩, st⟩ := x; exact ⟨st _ _ p fun o q => k _ _ (.inl rfl) q, ⟨o, k _ _ (.inl rfl) e⟩, st⟩
theorem HOk.lt (x : HOk P w H h) (e : H a = some o) : a < h.objs.size := (x a o e).lt
theorem HOk.fresh (x : HOk P w H h) (e : h.objs.size ≤ a) : H a = none := by
  cases q : H a with
  | none => rfl
  | some u => exact absurd (Nat.lt_of_lt_of_le (x.lt q) e) (Nat.lt_irrefl _)
theorem HOk.kept (x : HOk P w H h) (k : ∀ b u, h.get? b = some u → h'.get? b = some u) : HOk P w H h' := fun a o e =>
  (x a o e).stay (fun b u _ q => k b u q) (fun _ q => q) fun _ _ q => q
theorem HOk.laid (x : HOk P w H h) (k : ∀ b u, h.get? b = some u → h'.get? b = some u) (hp : h.objs.size ≤ a) (new : ObjOk P w (upd H a o) h' a o) : HOk P w (upd H a o) h' := fun b u e => by
  have hn := x.fresh hp
  by_cases hb : b = a
  · subst hb; rw [upd_same] at e; cases e; exact new
  · rw [upd_ne hb] at e
    exact (x b u e).stay (fun c v _ q => k c v q) (fun c q => by rw [upd_ne (ne_of_none q hn)]; exact q) fun c xs q => by rw [upd_ne (ne_of_none q hn)]; exact q
end
def Rd (H : Hp) (a : Addr) (u : HO) : Prop := H a = some u ∨ ∃ o, H a = some (.frz o u)
theorem Rd.ok {P : Program} {w : World} {H : Hp} {h : Heap} {a : Addr} {u : HO} (r : Rd H a u) (x : HOk P w H h) : ObjOk P w H h a u := by
  rcases r with r | ⟨o, r⟩
  · exact x a u r
  · obtain ⟨_, q⟩ := x a _ r
    exact q
def Mut : Option HO → Prop
  | some (.lst _) => True
  | some (.dK _) => True
  | some (.dT _) => True
  | some (.set _ _) => True
  | some (.ins _ _ _) => True
  | some (.ext _) => True
  | _ => False
section
variable {P : Program} {w : World} {H : Hp} {h h' : Heap} {x e : Addr} {o' : HO}
theorem HOk.write (ok : HOk P w H h) (mu : Mut (H x)) (he : e = x ∨ H e = some (.own x)) (k : ∀ b u, b ≠ e → h.get? b = some u → h'.get? b = some u) (heo : ∃ u, h'.get? e = some u)
    (new : ObjOk P w (upd H x o') h' x o') : HOk P w (upd H x o') h' := fun b u q => by
  have nown : ∀ c y, H c = some (.own y) → c ≠ x := fun c y r z => by subst z; rw [r] at mu; exact mu
  have ntup : ∀ c xs, H c = some (.tup xs) → c ≠ x := fun c xs r z => by subst z; rw [r] at mu; exact mu
  by_cases hb : b = x
  · subst hb; rw [upd_same] at q; cases q; exact new
  · rw [upd_ne hb] at q
    by_cases hbe : b = e
    · have q' : H b = some (.own x) := by
        rcases he with z | z
        · exact absurd (hbe.trans z) hb
        · rw [hbe]; exact z
      rw [q] at q'; cases q'
      obtain ⟨v, hv⟩ := heo
      exact ⟨v, by rw [hbe]; exact hv⟩
    · refine (ok b u q).stay (fun c v hc r => k c v ?_ r) (fun c r => by rw [upd_ne (nown c b r)]; exact r) fun c xs r => by rw [upd_ne (ntup c xs r)]; exact r
      rcases hc with rfl | hc
      · exact hbe
      · rintro rfl
        rcases he with z | z
        · exact nown c b hc z
        · rw [hc] at z; cases z; exact hb rfl
end
structure Un (fs ex : List Addr) (H H' : Hp) (h h' : Heap) : Prop where
  keep : ∀ b o, h.get? b = some o → H b = none → b ∉ fs → b ∉ ex → h'.get? b = some o
  slot : ∀ b o, h.get? b = some o → H b = none → b ∈ fs → b ∉ ex → ∃ sl, h'.get? b = some { o with slots := sl }
  free : ∀ b o, h.get? b = some o → H b = none → b ∉ ex → H' b = none
  there : ∀ b o, h.get? b = some o → b ∉ ex → ∃ o', h'.get? b = some o'
  tups : ∀ b xs, H b = some (.tup xs) → H' b = some (.tup xs)
  frzs : ∀ b o u, H b = some (.frz o u) → H' b = some (.frz o u)
  tbls : ∀ b ps, H b = some (.tbl ps) → ∃ more, H' b = some (.tbl (ps ++ more))
section
variable {fs fs' ex ex' : List Addr} {H H1 H2 : Hp} {h h1 h2 h' : Heap} {a x e : Addr} {o : HO}
theorem Un.any (u : Un fs ex H H1 h h1) {b : Addr} {ob : Obj} (q : h.get? b = some ob) (n : H b = none) (hx : b ∉ ex) : ∃ sl, h1.get? b = some { ob with slots := sl } := by
  by_cases hb : b ∈ fs
  · exact u.slot b ob q n hb hx
  · exact ⟨ob.slots, u.keep b ob q n hb hx⟩
theorem Un.kept (k : ∀ b u, h.get? b = some u → h'.get? b = some u) : Un fs ex H H h h' :=
  ⟨fun b ob q _ _ _ => k b ob q, fun b ob q _ _ _ => ⟨ob.slots, k b ob q⟩, fun _ _ _ n _ => n, fun b ob q _ => ⟨ob, k b ob q⟩, fun _ _ q => q, fun _ _ _ q => q, fun _ ps q => ⟨#[], by rw [q]; simp⟩⟩
theorem Un.refl : Un fs ex H H h h := Un.kept fun _ _ q => q
theorem Un.laid (k : ∀ b u, h.get? b = some u → h'.get? b = some u) (hp : h.objs.size ≤ a) (hn : H a = none) : Un fs ex H (upd H a o) h h' where
  keep := fun b u q _ _ _ => k b u q
  slot := fun b u q _ _ _ => ⟨u.slots, k b u q⟩
  free := fun b u q n _ => by rw [upd_ne (Nat.ne_of_lt (Nat.lt_of_lt_of_le (Heap.lt_size q) hp))]; exact n
  there := fun b u q _ => ⟨u, k b u q⟩
  tups := fun b xs q => by rw [upd_ne (ne_of_none q hn)]; exact q
  frzs := fun b u xs q => by rw [upd_ne (ne_of_none q hn)]; exact q
  tbls := fun b ps q => ⟨#[], by rw [upd_ne (ne_of_none q hn), q]; simp⟩
theorem Un.write (mu : Mut (H x)) (he : e = x ∨ H e = some (.own x)) (k : ∀ b u, b ≠ e → h.get? b = some u → h'.get? b = some u) (heo : ∃ u, h'.get? e = some u) : Un fs ex H (upd H x o) h h' := by
  have hx : ∀ b, H b = none → b ≠ x := fun b n z => by subst z; rw [n] at mu; exact mu
  have hb : ∀ b, H b = none → b ≠ e := fun b n z => by
    subst z
    rcases he with r | r
    · exact hx b n r
    · rw [n] at r; cases r
  have hm : ∀ b u, H b = some u → ¬ Mut (some u) → b ≠ x := fun b u q nm z => by subst z; rw [q] at mu; exact nm mu
  refine ⟨fun b u q n _ _ => k b u (hb b n) q, fun b u q n _ _ => ⟨u.slots, k b u (hb b n) q⟩, fun b u q n _ => by rw [upd_ne (hx b n)]; exact n, fun b u q _ => ?_,
    fun b xs q => by rw [upd_ne (hm b _ q fun z => z)]; exact q, fun b u xs q => by rw [upd_ne (hm b _ q fun z => z)]; exact q, fun b ps q => ⟨#[], by rw [upd_ne (hm b _ q fun z => z), q]; simp⟩⟩
  by_cases hbe : b = e
  · subst hbe; exact heo
  · exact ⟨u, k b u hbe q⟩
end
def trk (h : Heap) (H : Hp) : List Addr := (List.range h.objs.size).filter fun a => (H a).isSome
def hidT (h : Heap) (H : Hp) : Heap := PySem.W.hideAll h (trk h H)
theorem hidT_size (h : Heap) (H : Hp) : (hidT h H).objs.size = h.objs.size := PySem.W.hideAll_size _ _
theorem hidT_get {h : Heap} {H : Hp} {b : Addr} {o : Obj} (e : h.get? b = some o) (n : H b = none) : (hidT h H).get? b = some o :=
  PySem.W.hideAll_get _ e fun hm => by
    have q : (H b).isSome = true := (List.mem_filter.mp hm).2
    rw [n] at q; simp at q
theorem of_hidT {h : Heap} {H : Hp} {b : Addr} {o : Obj} (e : (hidT h H).get? b = some o) : h.get? b = some o ∧ H b = none := by
  have e' : h.get? b = some o := PySem.W.of_hideAll (trk h H) e
  refine ⟨e', ?_⟩
  cases q : H b with
  | none => rfl
  | some x =>
    have hm : b ∈ trk h H := List.mem_filter.mpr ⟨List.mem_range.mpr (Heap.lt_size e'), by simp [q]⟩
    have z : (hidT h H).get? b = none := PySem.W.hideAll_none (trk h H) hm
    rw [z] at e; cases e
def allNews (g h : Heap) (L : Addr) : List (Addr × Obj) := (List.range h.objs.size).filterMap fun a => if a = L ∨ (g.get? a).isSome = true then none else (h.get? a).map fun o => (a, o)
def rest (g h : Heap) (L d : Addr) : List (Addr × Obj) := (allNews g h L).filter fun p => decide (p.1 ≠ d)
end L2
namespace L2
open PySem PySem.Spec PyProof.Rows
structure Mod (K : PySem.W.Frag) (mg : Str → Option Value) (base : Heap) : Prop where
  kin : K.In base
  glob : base.Ns mainGlobals mg
  blt : ∃ mb, base.Ns builtinsNs mb ∧ ∀ x : Str, x ≠ "__name__" → mb x = bootBuiltins x
  nolimit : base.NoLimit
structure Cx where
  prog : Program
  w : World
  K : PySem.W.Frag
  mg : Str → Option Value
  base : Heap
  A : Around
  N : List Str
  s₀ : Shared
  H₀ : Hp
  env : Env
  outer : List Env
  stack : List Env
  ex : List Addr
  fn : Str → Bool
  calm : Bool
  pn : List (Addr × Obj)
  xe : Value → Shared → Prop
def frs (l : List Env) : List Addr := l.filterMap (·.frame)
abbrev Cx.fs (X : Cx) : List Addr := frs X.outer
def Vis (sc : Scope) (x : Str) : Prop := sc.names.lookup x = some .local ∨ sc.names.lookup x = some .cell ∨ sc.names.lookup x = some .free
def Loc (sc : Scope) (x : Str) : Prop := sc.names.lookup x = some .local ∨ sc.names.lookup x = some .cell
def Look (env : Env) (h : Heap) (m : Str → Option Value) (x : Str) (u : Value) : Prop :=
  (env.kindOf x = some .local ∧ m x = some u) ∨ ((env.kindOf x = some .cell ∨ env.kindOf x = some .free) ∧ ∃ c, env.cells.lookup x = some c ∧ h.IsCell c (some u))
structure Cx.Ok (X : Cx) : Prop where
  mod : Mod X.K X.mg X.base
  kind : X.env.scope.kind = .function
  glob : X.env.globals = mainGlobals
  blt : X.env.builtins = builtinsNs
  above : X.s₀.heap.objs.size ≤ X.env.locals
  inj : ∀ x y c, X.env.cells.lookup x = some c → X.env.cells.lookup y = some c → x = y
  has : ∀ x, (X.env.kindOf x = some .cell ∨ X.env.kindOf x = some .free) → ∃ c, X.env.cells.lookup x = some c
  cab : ∀ x c, X.fn x = true → X.env.cells.lookup x = some c → X.s₀.heap.objs.size ≤ c
  hd : X.calm = true → X.A.handled = none
  frames : X.A.frames = some X.stack
  stk : X.stack = X.outer ∨ (X.stack = X.env :: X.outer ∧ X.env.frame = some X.env.locals)
  exf : ∀ b ∈ X.ex, b ≠ X.env.locals ∧ ∀ x c, X.env.cells.lookup x = some c → c ≠ b
  bs : ∀ b o, X.base.get? b = some o → X.s₀.heap.get? b = some o ∧ X.H₀ b = none
  bsz : X.base.objs.size ≤ X.s₀.heap.objs.size
  noex : ∀ b o, X.base.get? b = some o → b ∉ X.ex
  exfs : ∀ b ∈ X.ex, b ∉ X.fs
  funs : X.s₀.heap.FunFrames X.base X.outer
  frf : ∀ b ∈ X.fs, X.H₀ b = none
structure Inv (X : Cx) (pins : List (Addr × Obj)) (σ : List (Option V)) (H : Hp) (s : Shared) : Prop where
  ok : X.Ok
  os : s.os = X.s₀.os
  bare : AllBare s.gens
  base : Un X.fs X.ex X.H₀ H X.s₀.heap s.heap
  loc : ∃ m, s.heap.Ns X.env.locals m ∧ ∀ (i : Nat) (x : Str) (v : V), X.N[i]? = some x → σ[i]? = some (some v) → Vis X.env.scope x → ∃ u, RelV v u ∧ Look X.env s.heap m x u
  cell : ∀ x c, X.env.cells.lookup x = some c → ∃ v, s.heap.IsCell c v
  free : H X.env.locals = none
  freeC : ∀ x c, X.env.cells.lookup x = some c → H c = none
  pin : ∀ p ∈ X.pn ++ pins, s.heap.get? p.1 = some p.2 ∧ H p.1 = none ∧ p.1 ≠ X.env.locals ∧ p.1 ∉ X.fs ∧ ∀ v, p.2.data ≠ .cell v
  hok : HOk X.prog X.w H s.heap
  len : σ.length = X.N.length
section
variable {X : Cx} {pins : List (Addr × Obj)} {σ : List (Option V)} {H H' : Hp} {s : Shared} {h' : Heap}
theorem Cx.Ok.nofr (ok : X.Ok) {b : Addr} {o : Obj} (e : X.base.get? b = some o) : b ∉ X.fs := fun hb => by
  have := (ok.funs.mem hb).1
  rw [e] at this; cases this
theorem Inv.bs (I : Inv X pins σ H s) : ∀ b o, X.base.get? b = some o → s.heap.get? b = some o ∧ H b = none := fun b o e =>
  ⟨I.base.keep b o (I.ok.bs b o e).1 (I.ok.bs b o e).2 (I.ok.nofr e) (I.ok.noex b o e), I.base.free b o (I.ok.bs b o e).1 (I.ok.bs b o e).2 (I.ok.noex b o e)⟩
theorem Inv.bk (I : Inv X pins σ H s) : ∀ b o, X.base.get? b = some o → s.heap.get? b = some o := fun b o e => (I.bs b o e).1
theorem Inv.mod (I : Inv X pins σ H s) : Mod X.K X.mg X.base := I.ok.mod
theorem Inv.kIn (I : Inv X pins σ H s) : X.K.In s.heap := I.ok.mod.kin.keeps I.bk
theorem Inv.fr (I : Inv X pins σ H s) : ∃ m, Fr X.base X.env.locals s.heap m :=
  let ⟨m, hn, _⟩ := I.loc
  ⟨m, hn, I.bk, Nat.le_trans I.ok.bsz I.ok.above⟩
theorem Inv.lt (I : Inv X pins σ H s) : X.env.locals < s.heap.objs.size := let ⟨_, hn, _⟩ := I.loc; hn.lt
theorem Inv.sz (I : Inv X pins σ H s) : X.s₀.heap.objs.size ≤ s.heap.objs.size := Nat.le_trans I.ok.above (Nat.le_of_lt I.lt)
theorem Inv.nofs (I : Inv X pins σ H s) {a : Addr} (h : s.heap.objs.size ≤ a) : a ∉ X.fs := fun hb => by
  obtain ⟨_, o, ho, _⟩ := I.ok.funs.mem hb
  exact absurd (Nat.lt_of_lt_of_le (Heap.lt_size ho) (Nat.le_trans I.sz h)) (Nat.lt_irrefl _)
theorem Inv.cne (I : Inv X pins σ H s) : ∀ x c, X.env.cells.lookup x = some c → c ≠ X.env.locals := fun x c e z => by
  obtain ⟨v, o, ho, hd⟩ := I.cell x c e
  obtain ⟨m, ⟨o', es, ep, ho', hd', _⟩, _⟩ := I.loc
  rw [z, ho'] at ho; cases ho; rw [hd'] at hd; cases hd
theorem Inv.funs (I : Inv X pins σ H s) : s.heap.FunFrames X.base X.outer := by
  have all : ∀ (l : List Env), (∀ b ∈ frs l, b ∈ X.fs) → X.s₀.heap.FunFrames X.base l → s.heap.FunFrames X.base l := by
    intro l
    induction l with
    | nil => intro _ _; trivial
    | cons env r ih =>
      intro hs hl
      obtain ⟨hk, ⟨L, o, hf, hn, ho, hd⟩, hr⟩ := hl
      have hL : L ∈ X.fs := hs L (by unfold frs; rw [List.filterMap_cons, hf]; exact List.mem_cons_self)
      obtain ⟨sl, e⟩ := I.base.slot L o ho (I.ok.frf L hL) hL fun z => I.ok.exfs L z hL
      exact ⟨hk, ⟨L, _, hf, hn, e, hd⟩, ih (fun b hb => hs b (by unfold frs; rw [List.filterMap_cons, hf]; exact List.mem_cons_of_mem _ hb)) hr⟩
  exact all X.outer (fun _ hb => hb) I.ok.funs
theorem Inv.stack (I : Inv X pins σ H s) : s.heap.FunFrames X.base X.stack := by
  rcases I.ok.stk with e | ⟨e, hf⟩
  · rw [e]; exact I.funs
  · rw [e]
    obtain ⟨m, hn, _⟩ := I.loc
    refine .cons (by rw [I.ok.kind]; decide) hf hn ?_ I.funs
    exact Heap.get?_none_of_le (Nat.le_trans I.ok.bsz I.ok.above)
theorem Inv.stkSub (I : Inv X pins σ H s) : ∀ b ∈ frs X.stack, b ∈ X.env.locals :: X.fs := fun b hb => by
  rcases I.ok.stk with e | ⟨e, hf⟩
  · rw [e] at hb; exact List.mem_cons_of_mem _ hb
  · rw [e] at hb
    unfold frs at hb
    rw [List.filterMap_cons, hf] at hb
    exact hb
theorem Inv.stkFree (I : Inv X pins σ H s) : ∀ b ∈ frs X.stack, H b = none := fun b hb => by
  rcases List.mem_cons.mp (I.stkSub b hb) with e | hb
  · rw [e]; exact I.free
  · obtain ⟨_, o, ho, _⟩ := I.ok.funs.mem hb
    exact I.base.free b o ho (I.ok.frf b hb) fun z => I.ok.exfs b z hb
theorem Inv.step {g' : Array GenState} {t' : Nat} {d' : Drawn} {ch : List Addr} (I : Inv X pins σ H s)
    (hch : ∀ b ∈ ch, (b ∈ X.ex ∨ X.s₀.heap.objs.size ≤ b) ∧ b ≠ X.env.locals ∧ (∀ x c, X.env.cells.lookup x = some c → c ≠ b) ∧ ∀ p ∈ X.pn ++ pins, p.1 ≠ b)
    (keep : ∀ b o, b ≠ X.env.locals → b ∉ X.fs → b ∉ ch → s.heap.get? b = some o → H b = none → h'.get? b = some o)
    (slot : ∀ b o, b ≠ X.env.locals → b ∈ X.fs → b ∉ ch → s.heap.get? b = some o → H b = none → ∃ sl, h'.get? b = some { o with slots := sl }) (free : ∀ b o, b ∉ ch → s.heap.get? b = some o → H b = none → H' b = none)
    (there : ∀ b o, b ∉ ch → s.heap.get? b = some o → ∃ o', h'.get? b = some o')
    (tups : ∀ b xs, H b = some (.tup xs) → H' b = some (.tup xs)) (frzs : ∀ b o u, H b = some (.frz o u) → H' b = some (.frz o u)) (tbls : ∀ b ps, H b = some (.tbl ps) → ∃ more, H' b = some (.tbl (ps ++ more)))
    (ns : ∀ m, s.heap.Ns X.env.locals m → h'.Ns X.env.locals m) (hok : HOk X.prog X.w H' h') (hg : AllBare g') :
    Inv X pins σ H' { s with heap := h', gens := g', drawn := d', toks := t' } := by
  have neL : ∀ b o, X.s₀.heap.get? b = some o → b ≠ X.env.locals := fun b o e => Nat.ne_of_lt (Nat.lt_of_lt_of_le (Heap.lt_size e) I.ok.above)
  have neC : ∀ b o, X.s₀.heap.get? b = some o → b ∉ X.ex → b ∉ ch := fun b o e hx hb => by
    rcases (hch b hb).1 with z | z
    · exact hx z
    · exact absurd (Nat.lt_of_lt_of_le (Heap.lt_size e) z) (Nat.lt_irrefl _)
  have cellK : ∀ x c, X.env.cells.lookup x = some c → ∀ v, s.heap.IsCell c v → h'.IsCell c v := fun x c e v ⟨o, ho, hd⟩ => by
    have nch : c ∉ ch := fun z => (hch c z).2.2.1 x c e rfl
    by_cases hc : c ∈ X.fs
    · obtain ⟨sl, q⟩ := slot c o (I.cne x c e) hc nch ho (I.freeC x c e)
      exact ⟨_, q, hd⟩
    · exact ⟨o, keep c o (I.cne x c e) hc nch ho (I.freeC x c e), hd⟩
  refine ⟨I.ok, I.os, hg, ⟨fun b o e n hb hx => ?_, fun b o e n hb hx => ?_, fun b o e n hx => ?_, fun b o e hx => ?_, fun b xs e => tups b xs (I.base.tups b xs e), fun b o xs e => frzs b o xs (I.base.frzs b o xs e), fun b ps e => ?_⟩, ?_, fun x c e => ?_, ?_, fun x c e => ?_, fun p hp => ?_, hok, I.len⟩
  · exact keep b o (neL b o e) hb (neC b o e hx) (I.base.keep b o e n hb hx) (I.base.free b o e n hx)
  · obtain ⟨sl, e1⟩ := I.base.slot b o e n hb hx
    obtain ⟨sl', e2⟩ := slot b _ (neL b o e) hb (neC b o e hx) e1 (I.base.free b o e n hx)
    exact ⟨sl', e2⟩
  · obtain ⟨o', e1⟩ := I.base.there b o e hx
    exact free b o' (neC b o e hx) e1 (I.base.free b o e n hx)
  · obtain ⟨o', e1⟩ := I.base.there b o e hx
    exact there b o' (neC b o e hx) e1
  · obtain ⟨m1, e1⟩ := I.base.tbls b ps e
    obtain ⟨m2, e2⟩ := tbls b _ e1
    exact ⟨m1 ++ m2, by rw [e2, Array.append_assoc]⟩
  · obtain ⟨m, hn, hl⟩ := I.loc
    refine ⟨m, ns m hn, fun i x v e1 e2 e3 => ?_⟩
    obtain ⟨u, r, l⟩ := hl i x v e1 e2 e3
    refine ⟨u, r, ?_⟩
    rcases l with l | ⟨k, c, e, z⟩
    · exact .inl l
    · exact .inr ⟨k, c, e, cellK x c e _ z⟩
  · obtain ⟨v, z⟩ := I.cell x c e
    exact ⟨v, cellK x c e v z⟩
  · obtain ⟨m, ⟨o, _, _, ho, _⟩, _⟩ := I.loc
    exact free _ o (fun z => (hch _ z).2.1 rfl) ho I.free
  · obtain ⟨v, o, ho, hd⟩ := I.cell x c e
    exact free c o (fun z => (hch c z).2.2.1 x c e rfl) ho (I.freeC x c e)
  · obtain ⟨e, n, ne, nf, d⟩ := I.pin p hp
    have nch : p.1 ∉ ch := fun z => (hch p.1 z).2.2.2 p hp rfl
    exact ⟨keep p.1 p.2 ne nf nch e n, free p.1 p.2 nch e n, ne, nf, d⟩
theorem Inv.un {t' : Nat} (I : Inv X pins σ H s) (u : Un X.fs [] H H' s.heap h') (hok : HOk X.prog X.w H' h') : Inv X pins σ H' { s with heap := h', toks := t' } := by
  obtain ⟨m, ⟨o, es, ep, ho, r⟩, _⟩ := id I.loc
  obtain ⟨sl, hL⟩ := u.any ho I.free (by simp)
  exact I.step (g' := s.gens) (d' := s.drawn) (ch := []) (fun _ z => nomatch z) (fun b o _ hb _ e n => u.keep b o e n hb (by simp)) (fun b o _ hb _ e n => u.slot b o e n hb (by simp)) (fun b o _ e n => u.free b o e n (by simp)) (fun b o _ e => u.there b o e (by simp)) u.tups u.frzs u.tbls (fun m' hm => by
    obtain ⟨o', es', ep', ho', r'⟩ := hm
    rw [ho] at ho'; cases ho'
    exact ⟨_, es', ep', hL, r'⟩) hok I.bare
theorem Inv.call {g' : Array GenState} {t' : Nat} {d' : Drawn} {ch : List Addr} (I : Inv X pins σ H s) (u : Un (frs X.stack) ch H H' s.heap h') (hok : HOk X.prog X.w H' h') (hg : AllBare g')
    (hch : ∀ b ∈ ch, (b ∈ X.ex ∨ X.s₀.heap.objs.size ≤ b) ∧ b ≠ X.env.locals ∧ (∀ x c, X.env.cells.lookup x = some c → c ≠ b) ∧ ∀ p ∈ X.pn ++ pins, p.1 ≠ b) :
    Inv X pins σ H' { s with heap := h', gens := g', drawn := d', toks := t' } := by
  obtain ⟨m, ⟨o, es, ep, ho, r⟩, _⟩ := id I.loc
  obtain ⟨sl, hL⟩ := u.any ho I.free fun z => (hch _ z).2.1 rfl
  exact I.step (ch := ch) hch (fun b o hL hb hc e n => u.keep b o e n (fun z => (List.mem_cons.mp (I.stkSub b z)).elim hL hb) hc) (fun b o _ _ hc e n => u.any e n hc) (fun b o hc e n => u.free b o e n hc) (fun b o hc e => u.there b o e hc) u.tups u.frzs u.tbls (fun m' hm => by
    obtain ⟨o', es', ep', ho', r'⟩ := hm
    rw [ho] at ho'; cases ho'
    exact ⟨_, es', ep', hL, r'⟩) hok hg
theorem Inv.turned {t' : Nat} {it : Addr} (I : Inv X pins σ H s) (k : ∀ b o, b ≠ it → s.heap.get? b = some o → h'.get? b = some o) (hn : H it = none) (hL : it ≠ X.env.locals)
    (h1 : it ∈ X.ex ∨ X.s₀.heap.objs.size ≤ it) (h2 : ∀ x c, X.env.cells.lookup x = some c → c ≠ it) (h3 : ∀ p ∈ X.pn ++ pins, p.1 ≠ it) : Inv X pins σ H { s with heap := h', toks := t' } := by
  have nit : ∀ b u, H b = some u → b ≠ it := fun b u e z => by rw [z, hn] at e; cases e
  refine I.step (g' := s.gens) (d' := s.drawn) (ch := [it]) (fun b hb => ?_) (fun b o _ _ hc e _ => k b o (fun z => hc (by simp [z])) e) (fun b o _ _ hc e _ => ⟨o.slots, k b o (fun z => hc (by simp [z])) e⟩) (fun _ _ _ _ n => n)
    (fun b o hc e => ⟨o, k b o (fun z => hc (by simp [z])) e⟩) (fun _ _ e => e) (fun _ _ _ e => e) (fun b ps e => ⟨#[], by rw [e]; simp⟩) (fun m hm => ?_) (fun b u e => ?_) I.bare
  · have e : b = it := by simpa using hb
    subst e
    exact ⟨h1, hL, h2, h3⟩
  · obtain ⟨o, es, ep, ho, r⟩ := hm
    exact ⟨o, es, ep, k _ o (Ne.symm hL) ho, r⟩
  · refine (I.hok b u e).stay (fun c v hc q => k c v ?_ q) (fun _ q => q) fun _ _ q => q
    rcases hc with z | z
    · rw [z]; exact nit b u e
    · exact nit c _ z
theorem Inv.tok (I : Inv X pins σ H s) (t : Nat) : Inv X pins σ H { s with toks := t } := I.un (h' := s.heap) (t' := t) Un.refl I.hok
theorem Inv.kept {t' : Nat} (I : Inv X pins σ H s) (k : ∀ b u, s.heap.get? b = some u → h'.get? b = some u) : Inv X pins σ H { s with heap := h', toks := t' } := I.un (Un.kept k) (I.hok.kept k)
theorem Inv.laid {a : Addr} {o : HO} {t' : Nat} (I : Inv X pins σ H s) (k : ∀ b u, s.heap.get? b = some u → h'.get? b = some u) (hp : s.heap.objs.size ≤ a) (new : ObjOk X.prog X.w (upd H a o) h' a o) :
    Inv X pins σ (upd H a o) { s with heap := h', toks := t' } := I.un (Un.laid k hp (I.hok.fresh hp)) (I.hok.laid k hp new)
theorem Inv.write {x e : Addr} {o : HO} {t' : Nat} (I : Inv X pins σ H s) (mu : Mut (H x)) (he : e = x ∨ H e = some (.own x)) (k : ∀ b u, b ≠ e → s.heap.get? b = some u → h'.get? b = some u) (heo : ∃ u, h'.get? e = some u)
    (new : ObjOk X.prog X.w (upd H x o) h' x o) : Inv X pins σ (upd H x o) { s with heap := h', toks := t' } := I.un (Un.write mu he k heo) (I.hok.write mu he k heo new)
theorem Inv.weak {σ' : List (Option V)} (I : Inv X pins σ H s) (hl : σ'.length = σ.length) (w : ∀ (i : Nat) v, σ'[i]? = some (some v) → σ[i]? = some (some v)) : Inv X pins σ' H s :=
  ⟨I.ok, I.os, I.bare, I.base, let ⟨m, hn, hl'⟩ := I.loc; ⟨m, hn, fun i x v e1 e2 e3 => hl' i x v e1 (w i v e2) e3⟩, I.cell, I.free, I.freeC, I.pin, I.hok, hl.trans I.len⟩
theorem Inv.pins_of {pins' : List (Addr × Obj)} (I : Inv X pins σ H s) (h : ∀ p ∈ pins', s.heap.get? p.1 = some p.2 ∧ H p.1 = none ∧ p.1 ≠ X.env.locals ∧ p.1 ∉ X.fs ∧ ∀ v, p.2.data ≠ .cell v) : Inv X pins' σ H s :=
  ⟨I.ok, I.os, I.bare, I.base, I.loc, I.cell, I.free, I.freeC, fun p hp => (List.mem_append.mp hp).elim (fun z => I.pin p (List.mem_append_left _ z)) (h p), I.hok, I.len⟩
theorem nodup_ix {N : List Str} (hN : N.Nodup) {i j : Nat} {x : Str} (a : N[i]? = some x) (b : N[j]? = some x) : i = j := by
  obtain ⟨h1, e1⟩ := List.getElem?_eq_some_iff.mp a
  obtain ⟨h2, e2⟩ := List.getElem?_eq_some_iff.mp b
  exact (List.getElem_inj hN).mp (e1.trans e2.symm)
theorem store_ok2 {M : Model} {A : Around} {E : Value → Shared → Prop} {i : Nat} {x : Str} {v : V} {u : Value} {Q : Unit → Shared → Prop} (I : Inv X pins σ H s) (hN : X.N.Nodup) (hi : X.N[i]? = some x) (hx : Loc X.env.scope x) (r : RelV v u)
    (h : ∀ s', Inv X pins (σ.set i (some v)) H s' → (∃ a, Heap.SameBut a s.heap s'.heap ∧ (a = X.env.locals ∨ X.env.cells.lookup x = some a)) → Q () s') (hf : X.fn x = true ∨ X.env.scope.names.lookup x = some .local := by first | exact .inl rfl | exact .inr rfl | assumption) : wpAny M A (storeName X.env x u) Q E s := by
  obtain ⟨m, hn, hl⟩ := id I.loc
  have hcls : (X.env.scope.kind == .class || (X.env.scope.kind == .module && X.env.locals != X.env.globals)) = false := by rw [I.ok.kind]; rfl
  have hiσ : i < σ.length := by rw [I.len]; exact (List.getElem?_eq_some_iff.mp hi).1
  have cne := I.cne
  have tracked : ∀ {a : Addr} {h' : Heap}, (∃ o, s.heap.get? a = some o ∧ H a = none) → Heap.SameBut a s.heap h' → HOk X.prog X.w H h' := fun {a h'} ha hs b ob e => by
    obtain ⟨_, _, hfree⟩ := ha
    refine (I.hok b ob e).stay (fun c w' hc q => (hs.2 c ?_).trans q) (fun _ q => q) fun _ _ q => q
    rintro rfl
    rcases hc with rfl | hc
    · rw [hfree] at e; cases e
    · rw [hfree] at hc; cases hc
  rcases hx with hk | hk
  · refine wpAny_storeName_local hk hn (fun h' hn' hs => ?_) hcls
    obtain ⟨oL, _, _, hoL, _⟩ := id hn
    refine h _ ⟨I.ok, I.os, I.bare, ⟨fun b o e n hb hx => ?_, fun b o e n hb hx => ?_, I.base.free, fun b o e hx => ?_, I.base.tups, I.base.frzs, I.base.tbls⟩, ⟨_, hn', fun j y v' e1 e2 e3 => ?_⟩, fun y c e => ?_, I.free, I.freeC, fun p hp => ?_, tracked ⟨oL, hoL, I.free⟩ hs, by simpa using I.len⟩ ⟨_, hs, .inl rfl⟩
    · exact (hs.2 b (Nat.ne_of_lt (Nat.lt_of_lt_of_le (Heap.lt_size e) I.ok.above))).trans (I.base.keep b o e n hb hx)
    · obtain ⟨sl, e1⟩ := I.base.slot b o e n hb hx
      exact ⟨sl, (hs.2 b (Nat.ne_of_lt (Nat.lt_of_lt_of_le (Heap.lt_size e) I.ok.above))).trans e1⟩
    · obtain ⟨o', e1⟩ := I.base.there b o e hx
      exact ⟨o', (hs.2 b (Nat.ne_of_lt (Nat.lt_of_lt_of_le (Heap.lt_size e) I.ok.above))).trans e1⟩
    · by_cases hj : j = i
      · subst hj
        rw [hi] at e1; cases e1
        rw [List.getElem?_set_self hiσ] at e2
        cases e2
        exact ⟨u, r, .inl ⟨hk, by simp⟩⟩
      · rw [List.getElem?_set_ne (Ne.symm hj)] at e2
        obtain ⟨u', r', q⟩ := hl j y v' e1 e2 e3
        refine ⟨u', r', ?_⟩
        rcases q with ⟨k, e⟩ | ⟨k, c, e, z⟩
        · refine .inl ⟨k, ?_⟩
          have : y ≠ x := fun e => hj (nodup_ix hN e1 (e ▸ hi))
          simp [this, e]
        · exact .inr ⟨k, c, e, z.sameBut hs (cne y c e)⟩
    · obtain ⟨w', z⟩ := I.cell y c e
      exact ⟨w', z.sameBut hs (cne y c e)⟩
    · obtain ⟨e, n, ne, nf, d⟩ := I.pin p hp
      exact ⟨(hs.2 p.1 ne).trans e, n, ne, nf, d⟩
  · have hfn : X.fn x = true := by
      rcases hf with z | z
      · exact z
      · rw [z] at hk; cases hk
    obtain ⟨c, hc⟩ := I.ok.has x (.inl hk)
    obtain ⟨w', z⟩ := I.cell x c hc
    refine wpAny_storeName_cell I.ok.kind hk hc z (fun h' hc' hs => ?_)
    obtain ⟨oc, hoc, hocd⟩ := id z
    refine h { s with heap := h' } ⟨I.ok, I.os, I.bare, ⟨fun b o e n hb hx => ?_, fun b o e n hb hx => ?_, I.base.free, fun b o e hx => ?_, I.base.tups, I.base.frzs, I.base.tbls⟩, ⟨m, hn.sameBut hs (Ne.symm (cne x c hc)), fun j y v' e1 e2 e3 => ?_⟩, fun y c' e => ?_, I.free, I.freeC, fun p hp => ?_, tracked ⟨oc, hoc, I.freeC x c hc⟩ hs, by simpa using I.len⟩ ⟨c, hs, .inr hc⟩
    · exact (hs.2 b (Nat.ne_of_lt (Nat.lt_of_lt_of_le (Heap.lt_size e) (I.ok.cab x c hfn hc)))).trans (I.base.keep b o e n hb hx)
    · obtain ⟨sl, e1⟩ := I.base.slot b o e n hb hx
      exact ⟨sl, (hs.2 b (Nat.ne_of_lt (Nat.lt_of_lt_of_le (Heap.lt_size e) (I.ok.cab x c hfn hc)))).trans e1⟩
    · obtain ⟨o', e1⟩ := I.base.there b o e hx
      exact ⟨o', (hs.2 b (Nat.ne_of_lt (Nat.lt_of_lt_of_le (Heap.lt_size e) (I.ok.cab x c hfn hc)))).trans e1⟩
    · by_cases hj : j = i
      · subst hj
        rw [hi] at e1; cases e1
        rw [List.getElem?_set_self hiσ] at e2
        cases e2
        exact ⟨u, r, .inr ⟨.inl hk, c, hc, hc'⟩⟩
      · rw [List.getElem?_set_ne (Ne.symm hj)] at e2
        obtain ⟨u', r', q⟩ := hl j y v' e1 e2 e3
        refine ⟨u', r', ?_⟩
        rcases q with q | ⟨k, c', e, z'⟩
        · exact .inl q
        · refine .inr ⟨k, c', e, z'.sameBut hs ?_⟩
          rintro rfl
          exact hj (nodup_ix hN e1 (I.ok.inj _ _ _ e hc ▸ hi))
    · by_cases hcc : c' = c
      · subst hcc; exact ⟨_, hc'⟩
      · obtain ⟨w2, z2⟩ := I.cell y c' e
        exact ⟨w2, z2.sameBut hs hcc⟩
    · obtain ⟨e, n, ne, nf, d⟩ := I.pin p hp
      refine ⟨(hs.2 p.1 ?_).trans e, n, ne, nf, d⟩
      intro q
      rw [q, hoc] at e
      have q' : oc = p.2 := Option.some.inj e
      exact d w' (by rw [← q']; exact hocd)
theorem store_ok {M : Model} {A : Around} {E : Value → Shared → Prop} {i : Nat} {x : Str} {v : V} {u : Value} {Q : Unit → Shared → Prop} (I : Inv X pins σ H s) (hN : X.N.Nodup) (hi : X.N[i]? = some x) (hx : Loc X.env.scope x) (r : RelV v u)
    (h : ∀ s', Inv X pins (σ.set i (some v)) H s' → Q () s') (hf : X.fn x = true ∨ X.env.scope.names.lookup x = some .local := by first | exact .inl rfl | exact .inr rfl | assumption) : wpAny M A (storeName X.env x u) Q E s :=
  store_ok2 I hN hi hx r (fun s' I' _ => h s' I') hf
theorem Inv.call' {s' : Shared} {ch : List Addr} (I : Inv X pins σ H s) (ho : s'.os = s.os) (u : Un (frs X.stack) ch H H' s.heap s'.heap) (hok : HOk X.prog X.w H' s'.heap) (hg : AllBare s'.gens)
    (hch : ∀ b ∈ ch, (b ∈ X.ex ∨ X.s₀.heap.objs.size ≤ b) ∧ b ≠ X.env.locals ∧ (∀ x c, X.env.cells.lookup x = some c → c ≠ b) ∧ ∀ p ∈ X.pn ++ pins, p.1 ≠ b) : Inv X pins σ H' s' := by
  obtain ⟨h', g', d', t', o'⟩ := s'
  have e : o' = s.os := ho
  subst e
  exact I.call (g' := g') (t' := t') (d' := d') u hok hg hch
end
abbrev XK := Value → Option Addr → Hp → Prop
abbrev St := List (Option V)
abbrev VK := V → Hp → Prop
abbrev TE := St → Hp → VK → Prop
abbrev TT := St → Hp → (Bool → Hp → Prop) → Prop
abbrev TA := St → Hp → (List V → Hp → Prop) → Prop
structure Ends where
  nx : St → Hp → Prop
  rt : VK
  bk : St → Hp → Prop := fun _ _ => False
  ct : St → Hp → Prop := fun _ _ => False
abbrev TS := Ends → St → Hp → Prop
def EP (X : Cx) (pins : List (Addr × Obj)) (σ : St) (Q : VK) (u : Value) (s' : Shared) : Prop := ∃ v H', Inv X pins σ H' s' ∧ RelV v u ∧ Q v H'
def TP (X : Cx) (pins : List (Addr × Obj)) (σ : St) (Q : Bool → Hp → Prop) (b : Bool) (s' : Shared) : Prop := ∃ H', Inv X pins σ H' s' ∧ Q b H'
def AP (X : Cx) (pins : List (Addr × Obj)) (σ : St) (Q : List V → Hp → Prop) (us : List Value) (s' : Shared) : Prop := ∃ vs H', Inv X pins σ H' s' ∧ Vals vs us ∧ Q vs H'
def SP (X : Cx) (pins : List (Addr × Obj)) (D : Ends) (f : Flow) (s' : Shared) : Prop :=
  match f with
  | .next => ∃ σ' H', Inv X pins σ' H' s' ∧ D.nx σ' H'
  | .brk => ∃ σ' H', Inv X pins σ' H' s' ∧ D.bk σ' H'
  | .cont => ∃ σ' H', Inv X pins σ' H' s' ∧ D.ct σ' H'
  | .ret u => ∃ v σ' H', Inv X pins σ' H' s' ∧ RelV v u ∧ D.rt v H'
def PE (X : Cx) (e : Expr) (t : TE) : Prop :=
  ∀ (pins : List (Addr × Obj)) (s : Shared) (σ : St) (H : Hp) (Q : VK), Inv X pins σ H s → t σ H Q → wpAny (model X.prog X.w) X.A (eval e X.env) (EP X pins σ Q) X.xe s
def PT (X : Cx) (e : Expr) (t : TT) : Prop :=
  ∀ (pins : List (Addr × Obj)) (s : Shared) (σ : St) (H : Hp) (Q : Bool → Hp → Prop), Inv X pins σ H s → t σ H Q → wpAny (model X.prog X.w) X.A (isTrue e X.env (eval e X.env)) (TP X pins σ Q) X.xe s
def PW (X : Cx) (e : Expr) (t : TT) : Prop :=
  ∀ (whole : Sem Value) (pins : List (Addr × Obj)) (s : Shared) (σ : St) (H : Hp) (Q : Bool → Hp → Prop), Inv X pins σ H s → t σ H Q → wpAny (model X.prog X.w) X.A (isTrue e X.env whole) (TP X pins σ Q) X.xe s
theorem PW.pt {X : Cx} {e : Expr} {t : TT} (h : PW X e t) : PT X e t := h _
def PA (X : Cx) (es : List Expr) (t : TA) : Prop :=
  ∀ (pos : Pos) (pins : List (Addr × Obj)) (s : Shared) (σ : St) (H : Hp) (Q : List V → Hp → Prop), Inv X pins σ H s → t σ H Q → wpAny (model X.prog X.w) X.A (spliced (backTo pos (starEach es X.env))) (AP X pins σ Q) X.xe s
def PS (X : Cx) (st : Stmt) (t : TS) : Prop :=
  ∀ (pins : List (Addr × Obj)) (s : Shared) (σ : St) (H : Hp) (D : Ends), Inv X pins σ H s → t D σ H → wpAny (model X.prog X.w) X.A (exec st X.env) (SP X pins D) X.xe s
def PSs (X : Cx) (st : List Stmt) (t : TS) : Prop :=
  ∀ (pins : List (Addr × Obj)) (s : Shared) (σ : St) (H : Hp) (D : Ends), Inv X pins σ H s → t D σ H → wpAny (model X.prog X.w) X.A (execs st X.env) (SP X pins D) X.xe s
theorem thn {α : Type} {t : Sem α} {Q Q' : α → Shared → Prop} {M : Model} {A : Around} {E : Value → Shared → Prop} {s : Shared} (h : wpAny M A t Q E s) (hQ : ∀ a s, Q a s → Q' a s) : wpAny M A t Q' E s := wpAny_mono h hQ fun _ _ x => x
end L2
namespace L2
open PySem PySem.Spec PyProof.Rows
section
variable {X : Cx}
theorem bin {a b : Expr} {ta tb : TE} (ha : PE X a ta) (hb : PE X b tb) {pins : List (Addr × Obj)} {s : Shared} {σ : St} {H : Hp} {R : V → V → Hp → Prop} (I : Inv X pins σ H s) (h : ta σ H fun x H1 => tb σ H1 fun y H2 => R x y H2)
    {α : Type} {Q : α → Shared → Prop} {f : Value → Value → Sem α}
    (hf : ∀ v u s2 x y H2, Inv X pins σ H2 s2 → RelV x v → RelV y u → R x y H2 → wpAny (model X.prog X.w) X.A (f v u) Q X.xe s2) :
    wpAny (model X.prog X.w) X.A (eval a X.env) (fun v s₁ => wpAny (model X.prog X.w) X.A (eval b X.env) (fun u s₂ => wpAny (model X.prog X.w) X.A (f v u) Q X.xe s₂) X.xe s₁) X.xe s := by
  refine thn (ha pins s σ H _ I h) fun v s1 ⟨x, H1, I1, r1, q1⟩ => ?_
  refine thn (hb pins s1 σ H1 _ I1 q1) fun u s2 ⟨y, H2, I2, r2, q2⟩ => ?_
  exact hf v u s2 x y H2 I2 r1 r2 q2
def tVar (i : Nat) : TE := fun σ H Q => ∃ v, σ[i]? = some (some v) ∧ Q v H
def tC (v : V) : TE := fun _ H Q => Q v H
theorem pe_var {i : Nat} {x : Str} {pos : Pos} (hN : X.N[i]? = some x) (hv : Vis X.env.scope x) (hd : (x == ("__debug__" : Str)) = false := by decide) (hcd : (x == ("__classdict__" : Str)) = false := by decide) : PE X (.Name x pos) (tVar i) := by
  intro pins s σ H Q I h
  obtain ⟨v, e, h⟩ := h
  obtain ⟨m, hn, hl⟩ := I.loc
  obtain ⟨u, r, l⟩ := hl i x v hN e hv
  have fin : EP X pins σ Q u s := ⟨v, H, I, r, h⟩
  rcases l with ⟨hk, hm⟩ | ⟨hk, c, hc, hcell⟩
  · exact wpAny_Name (wpAny_loadName_local I.ok.kind hk hn hm fin) hd
  · rcases hk with hk | hk
    · exact wpAny_Name (wpAny_loadName_cell I.ok.kind hk hc hcell fin) hd
    · exact wpAny_Name (wpAny_loadName_free I.ok.kind hk hc hcell fin hcd) hd
theorem pe_int {i j pos} : PE X (.Constant (.int i) j pos) (tC (.int i)) := fun _ _ _ H _ I h => wpAny_Constant_int ⟨.int i, H, I.tok _, ⟨_, rfl⟩, h⟩
theorem pe_bl {b j pos} : PE X (.Constant (.bool b) j pos) (tC (.bl b)) := fun _ _ _ H _ I h => Constant_bool ⟨.bl b, H, I, rfl, h⟩
theorem pe_non {j pos} : PE X (.Constant .none j pos) (tC .non) := fun _ _ _ H _ I h => Constant_none ⟨.non, H, I, rfl, h⟩
theorem pe_str {x j pos} : PE X (.Constant (.str x) j pos) (tC (.str x)) := fun _ _ _ H _ I h => Calls.Constant_str ⟨.str x, H, I.tok _, ⟨_, rfl⟩, h⟩
def Gl (X : Cx) (x : Str) : Prop := X.env.kindOf x = some .globalImplicit
theorem ld_glob {E : Value → Shared → Prop} {pins : List (Addr × Obj)} {s : Shared} {σ : St} {H : Hp} {x : Str} {u : Value} {pos : Pos} {Q : Value → Shared → Prop} (I : Inv X pins σ H s) (hg : Gl X x) (hm : X.mg x = some u) (h : Q u s)
    (hd : (x == ("__debug__" : Str)) = false := by decide) : wpAny (model X.prog X.w) X.A (eval (.Name x pos) X.env) Q E s :=
  Calls.Name_function_global I.ok.kind hg (Calls.loadGlobal_global (by rw [I.ok.glob]; exact I.mod.glob.keeps I.bk) hm h) hd
theorem ld_blt {E : Value → Shared → Prop} {pins : List (Addr × Obj)} {s : Shared} {σ : St} {H : Hp} {x : Str} {u : Value} {pos : Pos} {Q : Value → Shared → Prop} (I : Inv X pins σ H s) (hg : Gl X x) (hm : X.mg x = none) (hv : bootBuiltins x = some u) (h : Q u s)
    (hn : x ≠ "__name__" := by decide) (hd : (x == ("__debug__" : Str)) = false := by decide) : wpAny (model X.prog X.w) X.A (eval (.Name x pos) X.env) Q E s := by
  obtain ⟨mb, h1, h2⟩ := I.mod.blt
  exact Calls.Name_function_global I.ok.kind hg (Calls.loadGlobal_builtin (by rw [I.ok.glob]; exact I.mod.glob.keeps I.bk) hm (by rw [I.ok.blt]; exact h1.keeps I.bk) ((h2 x hn).trans hv) h) hd
theorem pe_glob {x : Str} {v : V} {u : Value} {pos : Pos} (hg : Gl X x) (hm : X.mg x = some u) (r : RelV v u) (hd : (x == ("__debug__" : Str)) = false := by decide) : PE X (.Name x pos) (tC v) :=
  fun _ _ _ H _ I h => ld_glob I hg hm ⟨v, H, I, r, h⟩ hd
theorem pe_bltn {x : Str} {v : V} {u : Value} {pos : Pos} (hg : Gl X x) (hm : X.mg x = none) (hv : bootBuiltins x = some u) (r : RelV v u) (hn : x ≠ "__name__" := by decide) (hd : (x == ("__debug__" : Str)) = false := by decide) : PE X (.Name x pos) (tC v) :=
  fun _ _ _ H _ I h => ld_blt I hg hm hv ⟨v, H, I, r, h⟩ hn hd
variable {a b : Expr} {ta tb : TE} {pos : Pos}
variable {tA tB' : TT} {rest : List Expr}
def tAnd (t u : TT) : TT := fun σ H Q => t σ H fun c H1 => if c = true then u σ H1 Q else Q false H1
def tOr (t u : TT) : TT := fun σ H Q => t σ H fun c H1 => if c = true then Q true H1 else u σ H1 Q
def tNot (t : TT) : TT := fun σ H Q => t σ H fun c H1 => Q (!c) H1
theorem pw_and1 (ha : PT X a tA) : PW X (.BoolOp .And [a] pos) tA := by
  intro wh pins s σ H Q I h
  refine isTrue_and (thn (ha pins s σ H Q I h) fun c s1 e => ?_)
  cases c with
  | true => exact isTrue_and_nil e
  | false => exact e
theorem pw_or1 (ha : PT X a tA) : PW X (.BoolOp .Or [a] pos) tA := by
  intro wh pins s σ H Q I h
  refine isTrue_or (thn (ha pins s σ H Q I h) fun c s1 e => ?_)
  cases c with
  | false => exact isTrue_or_nil e
  | true => exact e
theorem pw_and (ha : PT X a tA) (hb : PW X (.BoolOp .And (b :: rest) pos) tB') : PW X (.BoolOp .And (a :: b :: rest) pos) (tAnd tA tB') := by
  intro wh pins s σ H Q I h
  refine isTrue_and (thn (ha pins s σ H _ I h) fun c s1 ⟨H1, I1, q1⟩ => ?_)
  cases c with
  | true => exact hb wh pins s1 σ H1 Q I1 q1
  | false => exact ⟨H1, I1, q1⟩
theorem pw_or (ha : PT X a tA) (hb : PW X (.BoolOp .Or (b :: rest) pos) tB') : PW X (.BoolOp .Or (a :: b :: rest) pos) (tOr tA tB') := by
  intro wh pins s σ H Q I h
  refine isTrue_or (thn (ha pins s σ H _ I h) fun c s1 ⟨H1, I1, q1⟩ => ?_)
  cases c with
  | true => exact ⟨H1, I1, q1⟩
  | false => exact hb wh pins s1 σ H1 Q I1 q1
theorem pt_not (ha : PT X a tA) : PT X (.UnaryOp .Not a pos) (tNot tA) := by
  intro pins s σ H Q I h
  exact isTrue_not (ha pins s σ H (fun c H1 => Q (!c) H1) I h)
def tAndV (ta tb : TE) : TE := fun σ H Q => ta σ H fun x H1 => ∃ c, x = .bl c ∧ if c = true then tb σ H1 Q else Q (.bl false) H1
def tNotV (ta : TE) : TE := fun σ H Q => ta σ H fun x H1 => ∃ c, x = .bl c ∧ Q (.bl (!c)) H1
theorem pe_one {op} {t : TE} (h : PE X a t) : PE X (.BoolOp op [a] pos) t := fun pins s σ H Q I hw => BoolOp_one (h pins s σ H Q I hw)
theorem pe_and (ha : PE X a ta) (hb : PE X (.BoolOp .And (b :: rest) pos) tb) : PE X (.BoolOp .And (a :: b :: rest) pos) (tAndV ta tb) := by
  intro pins s σ H Q I h
  refine BoolOp_and (thn (ha pins s σ H _ I h) fun v s1 ⟨x, H1, I1, r1, q1⟩ => ?_)
  obtain ⟨c, rfl, q1⟩ := q1
  cases r1
  refine wpAny_truthy_bool ?_
  cases c with
  | true => exact hb pins s1 σ H1 Q I1 q1
  | false => exact ⟨.bl false, H1, I1, rfl, q1⟩
theorem pe_not (ha : PE X a ta) : PE X (.UnaryOp .Not a pos) (tNotV ta) := by
  intro pins s σ H Q I h
  refine UnaryOp_ (thn (ha pins s σ H _ I h) fun v s1 ⟨x, H1, I1, r1, q1⟩ => ?_)
  obtain ⟨c, rfl, q1⟩ := q1
  cases r1
  exact not_of (wpAny_truthy_bool ⟨.bl (!c), H1, I1, rfl, q1⟩)
end
end L2
namespace L2
open PySem PySem.Spec PyProof.Rows
def SqL (K : PySem.W.Frag) (H : Hp) (a : Addr) (xs : List V) : Prop :=
  Rd H a (.lst xs) ∨
    ∃ (o : Obj) (its : Array Value) (n : Nat), K.lookup a = some o ∧ o.cls = .type "list" ∧ o.dict = none ∧ o.data = .seq its n ∧ its.size ≤ sizeLine ∧ Vals xs its.toList
def SqT (K : PySem.W.Frag) (H : Hp) (a : Addr) (xs : List V) : Prop :=
  Rd H a (.tup xs) ∨
    ∃ (o : Obj) (its : Array Value) (n : Nat), K.lookup a = some o ∧ o.cls = .type "tuple" ∧ o.data = .seq its n ∧ its.size ≤ sizeLine ∧ Vals xs its.toList
def absV : Value → Option V
  | .none => some .non
  | .bool b => some (.bl b)
  | .int i _ => some (.int i)
  | .str x _ => some (.str x)
  | .bytes b _ => some (.byt b)
  | .float b _ => some (.flt b)
  | .ref a => some (.ref a)
  | .type n => some (.ty n)
  | _ => none
theorem RelV.abs {x : V} {u : Value} (r : RelV x u) : absV u = some x := by
  cases x with
  | non => cases r; rfl
  | bl _ => cases r; rfl
  | int _ => obtain ⟨t, rfl⟩ := r; rfl
  | str _ => obtain ⟨t, rfl⟩ := r; rfl
  | byt _ => obtain ⟨t, rfl⟩ := r; rfl
  | flt _ => obtain ⟨t, rfl⟩ := r; rfl
  | ref _ => cases r; rfl
  | ty _ => cases r; rfl
theorem RelV.inj {x y : V} {u : Value} (r : RelV x u) (q : RelV y u) : x = y := Option.some.inj (r.abs.symm.trans q.abs)
theorem Vals.inj : ∀ {xs ys : List V} {us : List Value}, Vals xs us → Vals ys us → xs = ys
  | _, _, _, .nil, .nil => rfl
  | _, _, _, .cons r t, .cons r' t' => by rw [r.inj r', Vals.inj t t']
section
variable {X : Cx} {pins : List (Addr × Obj)} {σ : St} {H : Hp} {s : Shared} {a : Addr} {xs ys : List V}
theorem SqL.of {K : PySem.W.Frag} (h : H a = some (.lst xs)) : SqL K H a xs := .inl (.inl h)
theorem SqT.of {K : PySem.W.Frag} (h : H a = some (.tup xs)) : SqT K H a xs := .inl (.inl h)
theorem Inv.list (I : Inv X pins σ H s) (h : SqL X.K H a xs) : ∃ its : List Value, Vals xs its ∧ PlainL s.heap a its.toArray ∧ xs.length ≤ sizeLine := by
  rcases h with h | ⟨o, its, n, hk, hc, hd, hs, hz, r⟩
  · obtain ⟨z, its, n, r, e⟩ := h.ok I.hok
    exact ⟨its, r, ⟨_, n, e, rfl, rfl, rfl⟩, z⟩
  · refine ⟨its.toList, r, ⟨o, n, I.kIn a o hk, hc, hd, by simpa using hs⟩, ?_⟩
    have e := r.length
    simp only [Array.length_toList] at e
    omega
theorem Inv.tuple (I : Inv X pins σ H s) (h : SqT X.K H a xs) : ∃ its : List Value, Vals xs its ∧ IsTup s.heap a its.toArray ∧ xs.length ≤ sizeLine := by
  rcases h with h | ⟨o, its, n, hk, hc, hs, hz, r⟩
  · obtain ⟨z, its, r, p⟩ := h.ok I.hok
    exact ⟨its, r, p, z⟩
  · refine ⟨its.toList, r, ⟨o, I.kIn a o hk, hc, n, by simpa using hs⟩, ?_⟩
    have e := r.length
    simp only [Array.length_toList] at e
    omega
theorem Inv.list_inj (I : Inv X pins σ H s) (h : SqL X.K H a xs) (h' : SqL X.K H a ys) : xs = ys := by
  obtain ⟨its, r, ⟨o, n, e, _, _, d⟩, _⟩ := I.list h
  obtain ⟨its', r', ⟨o', n', e', _, _, d'⟩, _⟩ := I.list h'
  rw [e] at e'; cases e'
  rw [d] at d'
  injection d' with d1 _
  have : its = its' := by simpa using congrArg Array.toList d1
  subst this
  exact r.inj r'
theorem Inv.tuple_inj (I : Inv X pins σ H s) (h : SqT X.K H a xs) (h' : SqT X.K H a ys) : xs = ys := by
  obtain ⟨its, r, ⟨o, e, _, n, d⟩, _⟩ := I.tuple h
  obtain ⟨its', r', ⟨o', e', _, n', d'⟩, _⟩ := I.tuple h'
  rw [e] at e'; cases e'
  rw [d] at d'
  injection d' with d1 _
  have : its = its' := by simpa using congrArg Array.toList d1
  subst this
  exact r.inj r'
end
abbrev Cx.wish (X : Cx) (E : Value → Shared → Prop) : Cx := { X with xe := E }
abbrev Cx.nox (X : Cx) : Cx := X.wish fun _ _ => False
theorem Cx.Ok.wish {X : Cx} (ok : X.Ok) (E : Value → Shared → Prop) : (X.wish E).Ok :=
  ⟨ok.mod, ok.kind, ok.glob, ok.blt, ok.above, ok.inj, ok.has, ok.cab, ok.hd, ok.frames, ok.stk, ok.exf, ok.bs, ok.bsz, ok.noex, ok.exfs, ok.funs, ok.frf⟩
theorem Cx.Ok.unwish {X : Cx} {E : Value → Shared → Prop} (ok : (X.wish E).Ok) : X.Ok :=
  ⟨ok.mod, ok.kind, ok.glob, ok.blt, ok.above, ok.inj, ok.has, ok.cab, ok.hd, ok.frames, ok.stk, ok.exf, ok.bs, ok.bsz, ok.noex, ok.exfs, ok.funs, ok.frf⟩
section
variable {X : Cx} {pins : List (Addr × Obj)} {σ : St} {H : Hp} {s : Shared} {E : Value → Shared → Prop}
theorem Inv.wish (I : Inv X pins σ H s) (E : Value → Shared → Prop) : Inv (X.wish E) pins σ H s := ⟨I.ok.wish E, I.os, I.bare, I.base, I.loc, I.cell, I.free, I.freeC, I.pin, I.hok, I.len⟩
theorem Inv.unwish (I : Inv (X.wish E) pins σ H s) : Inv X pins σ H s := ⟨I.ok.unwish, I.os, I.bare, I.base, I.loc, I.cell, I.free, I.freeC, I.pin, I.hok, I.len⟩
theorem SP.unwish {D : Ends} {f : Flow} {s' : Shared} (h : SP (X.wish E) pins D f s') : SP X pins D f s' := by
  cases f with
  | next => obtain ⟨σ', H', I, q⟩ := h; exact ⟨σ', H', I.unwish, q⟩
  | brk => obtain ⟨σ', H', I, q⟩ := h; exact ⟨σ', H', I.unwish, q⟩
  | cont => obtain ⟨σ', H', I, q⟩ := h; exact ⟨σ', H', I.unwish, q⟩
  | ret u => obtain ⟨v, σ', H', I, r, q⟩ := h; exact ⟨v, σ', H', I.unwish, r, q⟩
theorem PSs.nox {st : List Stmt} {t : TS} (h : PSs X.nox st t) : PSs X st t := fun pins s σ H D I hw =>
  wpAny_mono (h pins s σ H D (I.wish _) hw) (fun _ _ q => q.unwish) fun _ _ z => False.elim z
end
section
variable {X : Cx} {st : Stmt} {rest : List Stmt} {t u : TS} {e : Expr} {te : TE} {pos : Pos}
def tNext : TS := fun D σ H => D.nx σ H
def tSeq (t u : TS) : TS := fun D σ H => t { D with nx := u D } σ H
theorem pss_nil : PSs X [] tNext := fun _ _ σ H _ I h => wpAny_execs_nil ⟨σ, H, I, h⟩
theorem pss_cons (h1 : PS X st t) (h2 : PSs X rest u) : PSs X (st :: rest) (tSeq t u) := by
  intro pins s σ H D I h
  refine wpAny_execs_cons (thn (h1 pins s σ H { D with nx := u D } I h) fun f s1 q => ?_)
  cases f with
  | next =>
    obtain ⟨σ', H', I', q⟩ := q
    exact h2 pins s1 σ' H' D I' q
  | ret v => exact q
  | brk => exact q
  | cont => exact q
theorem pss_one (h1 : PS X st t) : PSs X [st] t := by
  intro pins s σ H D I h
  refine wpAny_execs_cons (thn (h1 pins s σ H D I h) fun f s1 q => ?_)
  cases f with
  | next => exact wpAny_execs_nil q
  | ret v => exact q
  | brk => exact q
  | cont => exact q
theorem Inv.quiet {pins : List (Addr × Obj)} {σ : St} {H : Hp} {s : Shared} (I : Inv X pins σ H s) : interactive X.env = false := by simp [interactive, I.ok.kind]
def tDrop (te : TE) : TS := fun D σ H => te σ H fun _ H1 => D.nx σ H1
theorem ps_expr (he : PE X e te) (hs : swapsWith e none pos.line X.env = pure false := by rfl) : PS X (.Expr e pos) (tDrop te) := by
  intro pins s σ H D I h
  exact wpAny_Expr_any (thn (he pins s σ H _ I h) fun v s1 ⟨x, H1, I1, r1, q1⟩ => ⟨σ, H1, I1, q1⟩) I.quiet hs
def tRet (te : TE) : TS := fun D σ H => te σ H D.rt
theorem ps_ret (he : PE X e te) : PS X (.Return (some e) pos) (tRet te) := by
  intro pins s σ H D I h
  exact wpAny_Return_some (thn (he pins s σ H _ I h) fun v s1 ⟨x, H1, I1, r1, q1⟩ => ⟨x, σ, H1, I1, r1, q1⟩)
def tIfS (c : TT) (t u : TS) : TS := fun D σ H => c σ H fun b H1 => if b = true then t D σ H1 else u D σ H1
theorem ps_if {c : Expr} {a b : List Stmt} {tc : TT} (hc : PT X c tc) (ha : PSs X a t) (hb : PSs X b u) : PS X (.If c a b pos) (tIfS tc t u) := by
  intro pins s σ H D I h
  refine wpAny_If (thn (hc pins s σ H _ I h) fun d s1 ⟨H1, I1, q1⟩ => ?_)
  cases d with
  | true => exact ha pins s1 σ H1 D I1 q1
  | false => exact hb pins s1 σ H1 D I1 q1
end
abbrev TG := V → St → Hp → (St → Hp → Prop) → Prop
abbrev TGs := List V → St → Hp → (St → Hp → Prop) → Prop
def PG (X : Cx) (target : Expr) (t : TG) : Prop :=
  ∀ (pins : List (Addr × Obj)) (s : Shared) (σ : St) (H : Hp) (v : V) (u : Value) (Q : St → Hp → Prop), Inv X pins σ H s → RelV v u → t v σ H Q →
    wpAny (model X.prog X.w) X.A (assign target X.env u) (fun _ s' => ∃ σ' H', Inv X pins σ' H' s' ∧ Q σ' H') X.xe s
def PGs (X : Cx) (ts : List Expr) (t : TGs) : Prop :=
  ∀ (pins : List (Addr × Obj)) (s : Shared) (σ : St) (H : Hp) (vs : List V) (us : List Value) (Q : St → Hp → Prop), Inv X pins σ H s → Vals vs us → t vs σ H Q →
    wpAny (model X.prog X.w) X.A (assignInOrder ((assignEach ts X.env).map (·.2)) us) (fun _ s' => ∃ σ' H', Inv X pins σ' H' s' ∧ Q σ' H') X.xe s
abbrev TSet := V → V → V → Hp → (Hp → Prop) → Prop
def PSet (X : Cx) (t : TSet) : Prop :=
  ∀ (pins : List (Addr × Obj)) (s : Shared) (σ : St) (H : Hp) (o i v : V) (ov iv u : Value) (Q : Hp → Prop), Inv X pins σ H s → RelV o ov → RelV i iv → RelV v u → t o i v H Q →
    wpAny (model X.prog X.w) X.A (setItem ov iv u) (fun _ s' => ∃ H', Inv X pins σ H' s' ∧ Q H') X.xe s
section
variable {X : Cx} {pos : Pos}
def gName (i : Nat) : TG := fun v σ H Q => Q (σ.set i (some v)) H
theorem pg_name {i : Nat} {x : Str} (hN : X.N.Nodup) (hi : X.N[i]? = some x) (hx : Loc X.env.scope x) (hf : X.fn x = true ∨ X.env.scope.names.lookup x = some .local := by first | exact .inl rfl | exact .inr rfl | assumption) : PG X (.Name x pos) (gName i) := by
  intro pins s σ H v u Q I r h
  exact wpAny_assign_Name (store_ok I hN hi hx r (fun s' I' => ⟨_, H, I', h⟩) hf)
def gNil : TGs := fun vs σ H Q => vs = [] ∧ Q σ H
def gCons (t : TG) (u : TGs) : TGs := fun vs σ H Q => ∃ v r, vs = v :: r ∧ t v σ H fun σ' H' => u r σ' H' Q
theorem pgs_nil : PGs X [] gNil := by
  intro pins s σ H vs us Q I r h
  obtain ⟨e, h⟩ := h
  subst e
  cases r
  exact assignInOrder_nil ⟨σ, H, I, h⟩
theorem pgs_cons {e : Expr} {es : List Expr} {t : TG} {u : TGs} (h1 : PG X e t) (h2 : PGs X es u)
    (hs : (assignEach (e :: es) X.env).map (·.2) = assign e X.env :: (assignEach es X.env).map (·.2) := by rfl) : PGs X (e :: es) (gCons t u) := by
  intro pins s σ H vs us Q I r h
  obtain ⟨v, vr, e1, h⟩ := h
  subst e1
  cases r with
  | cons r rr =>
    rw [hs]
    refine assignInOrder_cons (thn (h1 pins s σ H _ _ _ I r h) fun _ s1 ⟨σ1, H1, I1, q1⟩ => ?_)
    exact h2 pins s1 σ1 H1 _ _ Q I1 rr q1
def gTup (K : PySem.W.Frag) (n : Nat) (t : TGs) : TG := fun v σ H Q => ∃ a xs, v = .ref a ∧ SqT K H a xs ∧ xs.length = n ∧ t xs σ H Q
theorem pg_tup {es : List Expr} {k : Nat} {t : TGs} {n : Nat} (hc : X.calm = true) (h : PGs X es t)
    (hn : (assignEach es X.env).length = n := by rfl) (hst : (assignEach es X.env).findIdx? (·.1) = none := by rfl) : PG X (.Tuple es k pos) (gTup X.K n t) := by
  intro pins s σ H v u Q I r hw
  obtain ⟨a, xs, e1, hq, hl, hw⟩ := hw
  subst e1
  cases r
  obtain ⟨its, rv, ht, hz⟩ := I.tuple hq
  refine assign_Tuple_tuple (I.ok.hd hc) ht (by simp [hn, ← hl, rv.length]) hst fun h' hx => ?_
  have I1 : Inv X pins σ H { s with heap := h' } := I.kept (t' := s.toks) fun b o e => hx b o (Nat.ne_of_lt (Heap.lt_size e)) e
  exact h pins _ σ H xs _ Q I1 (by simpa using rv) hw
def gSub (to ti : TE) (t : TSet) : TG := fun v σ H Q => to σ H fun o H1 => ti σ H1 fun i H2 => t o i v H2 fun H3 => Q σ H3
theorem pg_sub {o i : Expr} {to ti : TE} {t : TSet} (ho : PE X o to) (hi : PE X i ti) (hs : PSet X t)
    (ha : ∀ v, assign (.Subscript o i pos) X.env v = (do
      let ov ← holding [v] (eval o X.env)
      let iv ← holding [v, ov] (eval i X.env)
      standAt pos
      holding [v, ov, iv] (setItem ov iv v)
      release [v, ov, iv] []) := by intro _; rfl) : PG X (.Subscript o i pos) (gSub to ti t) := by
  intro pins s σ H v u Q I r h
  rw [ha]
  refine wpAny_bind (wpAny_holding (thn (ho pins s σ H _ I h) fun ov s1 ⟨x, H1, I1, r1, q1⟩ => ?_))
  refine wpAny_bind (wpAny_holding (thn (hi pins s1 σ H1 _ I1 q1) fun iv s2 ⟨y, H2, I2, r2, q2⟩ => ?_))
  refine wpAny_bind (wpAny_standAt (wpAny_bind (wpAny_holding (thn (hs pins s2 σ H2 x y v ov iv u _ I2 r1 r2 r q2) fun _ s3 ⟨H3, I3, q3⟩ => ?_))))
  exact wpAny_release ⟨σ, H3, I3, q3⟩
def tAsg (te : TE) (g : TG) : TS := fun D σ H => te σ H fun x H1 => g x σ H1 D.nx
theorem ps_asg {tg e : Expr} {te : TE} {g : TG} (he : PE X e te) (hg : PG X tg g) (hs : swapsWithSole [tg] e pos.line X.env = pure false := by rfl) (hw : swappedStores [tg] e X.env = pure none := by rfl)
    (h1 : (assignEach [tg] X.env).map (·.2) = [assign tg X.env] := by rfl) : PS X (.Assign [tg] e pos) (tAsg te g) := by
  intro pins s σ H D I h
  refine wpAny_Assign_stores (thn (he pins s σ H _ I h) fun v s1 ⟨x, H1, I1, r1, q1⟩ => ?_) hs hw
  rw [h1]
  exact thn (hg pins s1 σ H1 x v _ I1 r1 q1) fun _ s2 q => q
theorem ps_set {i : Nat} {x : Str} {e : Expr} {te : TE} {pos' : Pos} (hN : X.N.Nodup) (hi : X.N[i]? = some x) (hx : Loc X.env.scope x) (he : PE X e te) (hs : swapsWith e (some (.Name x pos')) pos.line X.env = pure false := by rfl) (hf : X.fn x = true ∨ X.env.scope.names.lookup x = some .local := by first | exact .inl rfl | exact .inr rfl | assumption) :
    PS X (.Assign [.Name x pos'] e pos) (tAsg te (gName i)) := by
  intro pins s σ H D I h
  refine wpAny_Assign_Name (thn (he pins s σ H _ I h) fun v s1 ⟨y, H1, I1, r1, q1⟩ => ?_) hs
  exact store_ok I1 hN hi hx r1 (fun s2 I2 => ⟨_, H1, I2, q1⟩) hf
def tPar (i j : Nat) (ta : TA) : TS := fun D σ H => ta σ H fun vs H1 => ∃ v w, vs = [v, w] ∧ D.nx ((σ.set i (some v)).set j (some w)) H1
theorem ps_par {i j : Nat} {x y : Str} {a b : Expr} {ta : TA} {px py pt : Pos} {kt k2 pt2} (hc : X.calm = true) (hN : X.N.Nodup) (hi : X.N[i]? = some x) (hj : X.N[j]? = some y) (hij : i ≠ j)
    (hx : X.env.scope.names.lookup x = some .local) (hy : X.env.scope.names.lookup y = some .local) (ha : PA X [a, b] ta)
    (hw : swappedStores [.Tuple [.Name x px, .Name y py] kt pt] (.Tuple [a, b] k2 pt2) X.env = pure (some [x, y]))
    (hs : swapsWithSole [.Tuple [.Name x px, .Name y py] kt pt] (.Tuple [a, b] k2 pt2) pos.line X.env = pure false := by rfl) :
    PS X (.Assign [.Tuple [.Name x px, .Name y py] kt pt] (.Tuple [a, b] k2 pt2) pos) (tPar i j ta) := by
  intro pins s σ H D I h
  rw [exec_Assign_arm]
  refine wpAny_bind (wpAny_standAt ?_)
  rw [hs]
  refine wpAny_bind (wpAny_pure ?_)
  rw [if_neg (by decide)]
  refine wpAny_bind (Tuple_ (thn (ha _ pins s σ H _ I h) fun us s1 ⟨vs, H1, I1, r1, q1⟩ => ?_))
  obtain ⟨v, w, e1, q1⟩ := q1
  subst e1
  obtain ⟨u1, u2, rfl, rv, rw'⟩ : ∃ u1 u2, us = [u1, u2] ∧ RelV v u1 ∧ RelV w u2 := by
    cases r1 with
    | cons p q =>
      cases q with
      | cons p' q' =>
        cases q'
        exact ⟨_, _, rfl, p, p'⟩
  refine wpAny_newObj_type ?_ (by show 2 ≤ sizeLine; decide)
  have I2 : Inv X pins σ H1 { s1 with heap := s1.heap.push { cls := .type "tuple", data := .seq [u1, u2].toArray } } := I1.kept (t' := s1.toks) fun b o e => Heap.get?_push_of_some _ e
  rw [hw]
  refine wpAny_bind (wpAny_pure ?_)
  show wpAny (model X.prog X.w) X.A (do rule "assign.swapped-stores"; let items ← unpackItems (.ref s1.heap.objs.size) 2 none; assignInOrder [fun v => bindName X.env y v, fun v => bindName X.env x v] items.reverse; pure Flow.next) _ _ _
  refine wpAny_bind (wpAny_rule (wpAny_bind (unpackItems_tuple (items := #[u1, u2]) (I.ok.hd hc) (IsTup.new s1.heap _) fun h' hx' => ?_)))
  have I3 := I2.kept (h' := h') (t' := s1.toks) fun b o e => hx' b o (Nat.ne_of_lt (Heap.lt_size e)) e
  show wpAny _ _ (assignInOrder [fun v => bindName X.env y v, fun v => bindName X.env x v] [u2, u1] >>= fun _ => pure Flow.next) _ _ _
  refine wpAny_bind (assignInOrder_cons (wpAny_bindName (store_ok I3 hN hj (.inl hy) rw' (fun s2 I4 => ?_) (.inr hy))))
  refine assignInOrder_cons (wpAny_bindName (store_ok I4 hN hi (.inl hx) rv (fun s3 I5 => assignInOrder_nil (wpAny_pure ?_)) (.inr hx)))
  rw [List.set_comm _ _ (Ne.symm hij)] at I5
  exact ⟨_, H1, I5, q1⟩
end
section
variable {X : Cx} {pos : Pos}
def tWhile (c : TT) (tb : TS) : TS := fun D σ H => ∃ W : Nat → St → Hp → Prop, (∃ m, W m σ H) ∧ ∀ m σ H, W m σ H →
  c σ H fun b H1 => if b = true then ∃ N : St → Hp → Prop, (∀ σ' H', N σ' H' → ∃ m', m' < m ∧ W m' σ' H') ∧ tb { D with nx := N, ct := N, bk := D.nx } σ H1 else D.nx σ H1
theorem ps_while {c : Expr} {body : List Stmt} {tc : TT} {tb : TS} (hp : PassesOwn (model X.prog X.w) X.A X.env X.xe) (hc : PT X c tc) (hb : PSs X body tb) : PS X (.While c body [] pos) (tWhile tc tb) := by
  intro pins s σ H D I h
  obtain ⟨W, ⟨m0, w0⟩, turn⟩ := h
  refine wpAny_While (codeAny_whileLoop (fun n s' => ∃ σ' H', Inv X pins σ' H' s' ∧ W n σ' H') ?_ m0 ⟨σ, H, I, w0⟩)
  rintro n s1 ⟨σ1, H1, I1, w1⟩
  refine wpAny_passesOwn hp (thn (hc pins s1 σ1 H1 _ I1 (turn n σ1 H1 w1)) fun b s2 ⟨H2, I2, q2⟩ => ?_)
  cases b with
  | true =>
    obtain ⟨N, hN, q2⟩ := q2
    rw [if_pos rfl]
    refine wpAny_passesOwn hp (thn (hb pins s2 σ1 H2 _ I2 q2) fun f s3 q3 => ?_)
    cases f with
    | next =>
      obtain ⟨σ3, H3, I3, n3⟩ := q3
      obtain ⟨m', hm, w3⟩ := hN σ3 H3 n3
      exact ⟨m', hm, σ3, H3, I3, w3⟩
    | cont =>
      obtain ⟨σ3, H3, I3, n3⟩ := q3
      obtain ⟨m', hm, w3⟩ := hN σ3 H3 n3
      exact ⟨m', hm, σ3, H3, I3, w3⟩
    | brk => exact q3
    | ret v => exact q3
  | false =>
    rw [if_neg Bool.false_ne_true]
    exact wpAny_execs_nil ⟨σ1, H2, I2, q2⟩
end
structure It where
  go : Nat → Hp → Prop
  yld : Nat → Hp → V → Hp → Prop
  stop : Nat → Hp → Prop
def FpOk (X : Cx) (pins : List (Addr × Obj)) (H : Hp) (b : Addr) : Prop :=
  H b = none ∧ b ≠ X.env.locals ∧ b ∉ X.fs ∧ (b ∈ X.ex ∨ X.s₀.heap.objs.size ≤ b) ∧ (∀ x c, X.env.cells.lookup x = some c → c ≠ b) ∧ ∀ p ∈ X.pn ++ pins, p.1 ≠ b
theorem Inv.fpOk {X : Cx} {pins : List (Addr × Obj)} {σ : St} {H H' : Hp} {s : Shared} {b : Addr} (I : Inv X pins σ H s) (hb : s.heap.objs.size ≤ b) (hn : H' b = none) : FpOk X pins H' b := by
  refine ⟨hn, Nat.ne_of_gt (Nat.lt_of_lt_of_le I.lt hb), I.nofs hb, .inr (Nat.le_trans I.sz hb), fun x c e z => ?_, fun p hp z => ?_⟩
  · obtain ⟨v, q⟩ := I.cell x c e
    exact absurd (Nat.lt_of_lt_of_le q.lt (by rw [z]; exact hb)) (Nat.lt_irrefl _)
  · exact absurd (Nat.lt_of_lt_of_le (Heap.lt_size (I.pin p hp).1) (by rw [z]; exact hb)) (Nat.lt_irrefl _)
structure Turn (P : Program) (w : World) (K : PySem.W.Frag) (tg : Expr) (J : It) (fp : List Addr) (it : Addr) (tn : Nat → Heap → Prop) : Prop where
  mem : it ∈ fp
  obj : ∀ i h, tn i h → ∀ b ∈ fp, ∃ o, h.get? b = some o ∧ ∀ v, o.data ≠ .cell v
  keep : ∀ i h h', tn i h → (∀ b ∈ fp, ∀ o, h.get? b = some o → h'.get? b = some o) → tn i h'
  item : ∀ (X : Cx), X.prog = P → X.w = w → X.K = K → X.calm = true → ∀ (i : Nat) (pins : List (Addr × Obj)) (s : Shared) (σ : St) (H : Hp) (E : Value → Shared → Prop), Inv X pins σ H s → (∀ b ∈ fp, FpOk X pins H b) → tn i s.heap → J.go i H →
    wpAny (model P w) X.A (pyNext (.ref it)) (fun r s1 => ∃ u, r = some u ∧
      wpAny (model P w) X.A (letOwnedTupleGo tg (.ref it) u) (fun _ s2 => ∃ x H', Inv X pins σ H' s2 ∧ RelV x u ∧ J.yld i H x H' ∧ tn (i + 1) s2.heap ∧ ∀ b ∈ fp, H' b = none) E s1) E s
  done : ∀ (X : Cx), X.prog = P → X.w = w → X.K = K → X.calm = true → ∀ (i : Nat) (pins : List (Addr × Obj)) (s : Shared) (σ : St) (H : Hp) (E : Value → Shared → Prop), Inv X pins σ H s → (∀ b ∈ fp, FpOk X pins H b) → tn i s.heap → J.stop i H →
    wpAny (model P w) X.A (pyNext (.ref it)) (fun r s1 => r = none ∧ Inv X pins σ H s1) E s
  self : ∀ (A : Around) (i : Nat) (s : Shared) (Q : Value → Shared → Prop) (E : Value → Shared → Prop), tn i s.heap → Q (.ref it) s → wpAny (model P w) A (pyIter (.ref it)) Q E s
abbrev TI := St → Hp → (It → Hp → Prop) → Prop
def PIE (X : Cx) (pins : List (Addr × Obj)) (σ : St) (tg : Expr) (R : It → Hp → Prop) (itv : Value) (s2 : Shared) : Prop :=
  ∃ (it : Addr) (fp : List Addr) (tn : Nat → Heap → Prop) (J : It) (H' : Hp), itv = .ref it ∧ Inv X pins σ H' s2 ∧ Turn X.prog X.w X.K tg J fp it tn ∧ tn 0 s2.heap ∧ (∀ b ∈ fp, FpOk X pins H' b) ∧ R J H'
def PI (X : Cx) (tg iter : Expr) (wi : TI) : Prop :=
  ∀ (pins : List (Addr × Obj)) (s : Shared) (σ : St) (H : Hp) (R : It → Hp → Prop), Inv X pins σ H s → wi σ H R →
    wpAny (model X.prog X.w) X.A (eval iter X.env) (fun v s1 => wpAny (model X.prog X.w) X.A (pyIter v) (PIE X pins σ tg R) X.xe s1) X.xe s
theorem go_of {M : Model} {A : Around} {E : Value → Shared → Prop} {s : Shared} {tg : Expr} {it : Addr} {u : Value} {o : Obj} {n : String} {vs : Array Value} {Q : Unit → Shared → Prop} (ho : s.heap.get? it = some o) (hc : o.cls = .type n) (hd : o.data = .fields vs)
    (hn : ["enumerate", "zip", "dict_itemiterator", "dict_reverseitemiterator", "odict_iterator", "itertools.zip_longest", "itertools.pairwise"].contains n = false) (hQ : Q () s) : wpAny M A (letOwnedTupleGo tg (.ref it) u) Q E s := by
  unfold letOwnedTupleGo
  cases tg <;> first
    | exact wpAny_pure hQ
    | (cases u <;> first
        | exact wpAny_pure hQ
        | (refine wpAny_bind (wpAny_load ho ?_)
           rw [hc, hd]
           show wpAny M A (if (["enumerate", "zip", "dict_itemiterator", "dict_reverseitemiterator", "odict_iterator", "itertools.zip_longest", "itertools.pairwise"].contains n && vs[0]? == some (rawInt _)) = true then _ else _) Q E s
           rw [if_neg (by intro h; rw [hn, Bool.false_and] at h; cases h)]
           exact wpAny_pure hQ))
def Itl (K : PySem.W.Frag) (a : Addr) : It :=
  ⟨fun i H => ∃ xs x, SqL K H a xs ∧ xs[i]? = some x, fun i H x H' => H' = H ∧ ∀ xs, SqL K H a xs → xs[i]? = some x, fun i H => ∃ xs, SqL K H a xs ∧ xs.length ≤ i⟩
def Itt (K : PySem.W.Frag) (a : Addr) : It :=
  ⟨fun i H => ∃ xs x, SqT K H a xs ∧ xs[i]? = some x, fun i H x H' => H' = H ∧ ∀ xs, SqT K H a xs → xs[i]? = some x, fun i H => ∃ xs, SqT K H a xs ∧ xs.length ≤ i⟩
def Itr (lo : Int) (n : Nat) : It := ⟨fun i _ => i < n, fun i H x H' => H' = H ∧ x = .int (lo + i), fun i _ => n ≤ i⟩
theorem turn_list {P : Program} {w : World} {K : PySem.W.Frag} {tg : Expr} (a it : Addr) : Turn P w K tg (Itl K a) [it] it (fun i h => h.IsListIter it a i) where
  mem := by simp
  obj := fun i h st b hb => by
    have e : b = it := by simpa using hb
    subst e
    obtain ⟨o, e, c, d⟩ := st
    exact ⟨o, e, fun v z => by rw [d] at z; cases z⟩
  keep := fun i h h' st k => st.at fun o e => k it (by simp) o e
  item := by
    intro X hP hw hK hc i pins s σ H E I hf st hg
    subst hP hw hK
    obtain ⟨xs, x, hq, hx⟩ := hg
    obtain ⟨its, rv, p, hz⟩ := I.list hq
    obtain ⟨u, hu, ru⟩ := rv.get hx
    obtain ⟨f0, f1, f2, f3, f4, f5⟩ := hf it (by simp)
    refine wpAny_pyNext_list_item st p.isList (x := u) (by simpa using hu) fun h' st' sb => ?_
    have I1 : Inv X pins σ H { s with heap := h' } := I.turned (t' := s.toks) (fun b o hb e => (sb.2 b hb).trans e) f0 f1 f3 f4 f5
    obtain ⟨o, e, c, d⟩ := id st'
    exact ⟨u, rfl, go_of (s := { s with heap := h' }) e c d (by decide) ⟨x, H, I1, ru, ⟨rfl, fun ys hy => by rw [I.list_inj hy hq]; exact hx⟩, st', fun b hb => (hf b hb).1⟩⟩
  done := by
    intro X hP hw hK hc i pins s σ H E I hf st hg
    subst hP hw hK
    obtain ⟨xs, hq, hx⟩ := hg
    obtain ⟨its, rv, p, hz⟩ := I.list hq
    obtain ⟨f0, f1, f2, f3, f4, f5⟩ := hf it (by simp)
    have hl := rv.length
    exact wpAny_pyNext_list_end (I.ok.hd hc) st p.isList (by simp; omega) fun h' eb => ⟨rfl, I.turned (t' := s.toks) (fun b o hb e => eb b o hb e) f0 f1 f3 f4 f5⟩
  self := fun _ _ _ _ _ st h => wpAny_pyIter_listiter st h
theorem turn_tuple {P : Program} {w : World} {K : PySem.W.Frag} {tg : Expr} (a it : Addr) : Turn P w K tg (Itt K a) [it] it (fun i h => h.IsTupleIter it a i) where
  mem := by simp
  obj := fun i h st b hb => by
    have e : b = it := by simpa using hb
    subst e
    obtain ⟨o, e, c, d⟩ := st
    exact ⟨o, e, fun v z => by rw [d] at z; cases z⟩
  keep := fun i h h' st k => st.at fun o e => k it (by simp) o e
  item := by
    intro X hP hw hK hc i pins s σ H E I hf st hg
    subst hP hw hK
    obtain ⟨xs, x, hq, hx⟩ := hg
    obtain ⟨its, rv, p, hz⟩ := I.tuple hq
    obtain ⟨u, hu, ru⟩ := rv.get hx
    obtain ⟨f0, f1, f2, f3, f4, f5⟩ := hf it (by simp)
    refine wpAny_pyNext_tuple_item st (show s.heap.IsTuple a its.toArray from p) (x := u) (by simpa using hu) fun h' st' sb => ?_
    have I1 : Inv X pins σ H { s with heap := h' } := I.turned (t' := s.toks) (fun b o hb e => (sb.2 b hb).trans e) f0 f1 f3 f4 f5
    obtain ⟨o, e, c, d⟩ := id st'
    exact ⟨u, rfl, go_of (s := { s with heap := h' }) e c d (by decide) ⟨x, H, I1, ru, ⟨rfl, fun ys hy => by rw [I.tuple_inj hy hq]; exact hx⟩, st', fun b hb => (hf b hb).1⟩⟩
  done := by
    intro X hP hw hK hc i pins s σ H E I hf st hg
    subst hP hw hK
    obtain ⟨xs, hq, hx⟩ := hg
    obtain ⟨its, rv, p, hz⟩ := I.tuple hq
    obtain ⟨f0, f1, f2, f3, f4, f5⟩ := hf it (by simp)
    have hl := rv.length
    exact wpAny_pyNext_tuple_end (I.ok.hd hc) st (show s.heap.IsTuple a its.toArray from p) (by simp; omega) fun h' eb => ⟨rfl, I.turned (t' := s.toks) (fun b o hb e => eb b o hb e) f0 f1 f3 f4 f5⟩
  self := fun _ _ _ _ _ st h => wpAny_pyIter_tupleiter st h
theorem turn_range {P : Program} {w : World} {K : PySem.W.Frag} {tg : Expr} (it : Addr) (lo : Int) (n : Nat) : Turn P w K tg (Itr lo n) [it] it (fun i h => IsRangeIter h it (lo + (i : Nat) * 1) ((n : Int) - (i : Nat)) 1) where
  mem := by simp
  obj := fun i h st b hb => by
    have e : b = it := by simpa using hb
    subst e
    exact ⟨_, st, fun v z => by
      have z' : Data.fields _ = Data.cell v := z
      cases z'⟩
  keep := fun i h h' st k => k it (by simp) _ st
  item := by
    intro X hP hw hK hc i pins s σ H E I hf st hg
    subst hP hw hK
    obtain ⟨f0, f1, f2, f3, f4, f5⟩ := hf it (by simp)
    have W := Walks.range (prog := X.prog) (w := X.w) (I.ok.hd hc) it lo 1 n
    refine W.item i s _ _ hg st fun v h' tk hv st' kk => ?_
    obtain ⟨t, rfl⟩ := hv
    have I1 : Inv X pins σ H { s with heap := h', toks := tk } := I.turned (fun b o hb e => kk b o (by simpa using hb) e) f0 f1 f3 f4 f5
    refine ⟨_, rfl, go_of (s := { s with heap := h', toks := tk }) (n := "range_iterator") st' rfl rfl (by decide) ⟨.int (lo + i), H, I1, ⟨t, ?_⟩, ⟨rfl, rfl⟩, st', fun b hb => (hf b hb).1⟩⟩
    rw [Int.mul_one]
  done := by
    intro X hP hw hK hc i pins s σ H E I hf st hg
    subst hP hw hK
    obtain ⟨f0, f1, f2, f3, f4, f5⟩ := hf it (by simp)
    exact wpAny_pyNext_range_end (I.ok.hd hc) st (by have : n ≤ i := hg; omega) fun h' eb => ⟨rfl, I.turned (t' := s.toks) (fun b o hb e => eb b o hb e) f0 f1 f3 f4 f5⟩
  self := fun _ _ _ _ _ st h => wpAny_pyIter_rangeiter st h
end L2
namespace L2
open PySem PySem.Spec PyProof.Rows
section
variable {X : Cx} {tg : Expr}
theorem range_it {pins : List (Addr × Obj)} {σ : St} {H : Hp} {s : Shared} {R : It → Hp → Prop} {E : Value → Shared → Prop} {lo hi : Int} {t u v : Tok} {tk : Nat} (I : Inv X pins σ H s) (h1 : -(2 ^ 62) ≤ lo) (h2 : lo < 2 ^ 62) (h3 : -(2 ^ 62) ≤ hi) (h4 : hi < 2 ^ 62)
    (q : R (Itr lo (hi - lo).toNat) H) : wpAny (model X.prog X.w) X.A (pyIter (.ref s.heap.objs.size)) (PIE X pins σ tg R) E { s with heap := s.heap.push { cls := .type "range", data := .fields #[.int lo t, .int hi u, .int 1 v] }, toks := tk } := by
  refine wpAny_pyIter_range (IsRange.new ..) (small_one h1 h2 h3 h4) ?_
  have I1 : Inv X pins σ H { s with heap := s.heap.push { cls := .type "range", data := .fields #[.int lo t, .int hi u, .int 1 v] }, toks := tk } := I.kept fun b o e => Heap.get?_push_of_some _ e
  refine ⟨(s.heap.push { cls := .type "range", data := .fields #[.int lo t, .int hi u, .int 1 v] }).objs.size, [(s.heap.push { cls := .type "range", data := .fields #[.int lo t, .int hi u, .int 1 v] }).objs.size], _, _, H, rfl,
    I1.kept (t' := tk) fun b o e => Heap.get?_push_of_some _ e, turn_range _ lo (hi - lo).toNat, ?_, fun b hb => ?_, q⟩
  · have e1 : lo + ((0 : Nat) : Int) * 1 = lo := by simp
    have e2 : (((hi - lo).toNat : Nat) : Int) - ((0 : Nat) : Int) = Builtin.Range.rangeSize lo hi 1 := by rw [rangeSize_one]; split <;> omega
    show IsRangeIter _ _ (lo + ((0 : Nat) : Int) * 1) ((((hi - lo).toNat : Nat) : Int) - ((0 : Nat) : Int)) 1
    rw [e1, e2]
    exact Heap.get?_push_size _ rfl
  · have e : b = (s.heap.push { cls := .type "range", data := .fields #[.int lo t, .int hi u, .int 1 v] }).objs.size := by simpa using hb
    subst e
    exact I1.fpOk (Nat.le_refl _) (I1.hok.fresh (Nat.le_refl _))
def iRng1 (ta : TA) : TI := fun σ H R => ta σ H fun vs H1 => ∃ j : Int, vs = [.int j] ∧ -(2 ^ 62) ≤ j ∧ j < 2 ^ 62 ∧ R (Itr 0 j.toNat) H1
theorem pi_range1 {a : Expr} {ta : TA} {p pos : Pos} (hg : Gl X "range") (hm : X.mg "range" = none) (ha : PA X [a] ta) (hs : starEach [a] X.env = [(false, eval a X.env)] := by rfl) : PI X tg (.Call (.Name "range" p) [a] [] pos) (iRng1 ta) := by
  intro pins s σ H R I h
  refine Call_ (ld_blt I hg hm boot_range (PyProof.Rows.callWith_type1 (thn (ha pos pins s σ H _ I h) fun us s1 ⟨vs, H1, I1, r1, q1⟩ => ?_) hs rfl))
  obtain ⟨j, e, q1, q2, q⟩ := q1
  subst e
  cases r1 with
  | cons r rr =>
    cases rr
    obtain ⟨t, rfl⟩ := r
    exact call_range_1 (range_it I1 (by omega) (by omega) q1 q2 (by simpa using q))
def tFor (wi : TI) (g : TG) (tb : TS) : TS := fun D σ H => wi σ H fun J H1 => ∃ W : Nat → Nat → St → Hp → Prop, (∃ m, W 0 m σ H1) ∧ ∀ i m σ H, W i m σ H →
  (J.stop i H ∧ D.nx σ H) ∨ (J.go i H ∧ ∃ N : St → Hp → Prop, (∀ σ' H', N σ' H' → ∃ m', m' < m ∧ W (i + 1) m' σ' H') ∧ ∀ x H', J.yld i H x H' → g x σ H' fun σ2 H2 => tb { D with nx := N, ct := N, bk := D.nx } σ2 H2)
def pinsAt (fp : List Addr) (h : Heap) : List (Addr × Obj) := fp.filterMap fun b => (h.get? b).map fun o => (b, o)
theorem mem_pinsAt {fp : List Addr} {h : Heap} {b : Addr} {o : Obj} (hb : b ∈ fp) (e : h.get? b = some o) : (b, o) ∈ pinsAt fp h := List.mem_filterMap.mpr ⟨b, hb, by rw [e]; rfl⟩
theorem of_pinsAt {fp : List Addr} {h : Heap} {p : Addr × Obj} (hp : p ∈ pinsAt fp h) : p.1 ∈ fp ∧ h.get? p.1 = some p.2 := by
  obtain ⟨b, hb, e⟩ := List.mem_filterMap.mp hp
  cases q : h.get? b with
  | none => rw [q] at e; cases e
  | some o =>
    rw [q] at e
    have e' : (b, o) = p := Option.some.inj e
    subst e'
    exact ⟨hb, q⟩
theorem Inv.pinned {pins : List (Addr × Obj)} {σ : St} {H : Hp} {s : Shared} {fp : List Addr} (I : Inv X pins σ H s) (hf : ∀ b ∈ fp, FpOk X pins H b) (ho : ∀ b ∈ fp, ∃ o, s.heap.get? b = some o ∧ ∀ v, o.data ≠ .cell v) : Inv X (pins ++ pinsAt fp s.heap) σ H s :=
  I.pins_of fun p hp => (List.mem_append.mp hp).elim (fun z => I.pin p (List.mem_append_right _ z)) fun z => by
    obtain ⟨hb, e⟩ := of_pinsAt z
    obtain ⟨f0, f1, f2, _⟩ := hf p.1 hb
    obtain ⟨o, e', d⟩ := ho p.1 hb
    rw [e] at e'; cases e'
    exact ⟨e, f0, f1, f2, d⟩
theorem Inv.unpinned {pins pl : List (Addr × Obj)} {σ : St} {H : Hp} {s : Shared} (I : Inv X (pins ++ pl) σ H s) : Inv X pins σ H s := I.pins_of fun p hp => I.pin p (List.mem_append_right _ (List.mem_append_left _ hp))
theorem ps_for {iter : Expr} {body : List Stmt} {wi : TI} {g : TG} {tb : TS} {pos : Pos} (hp : PassesOwn (model X.prog X.w) X.A X.env X.xe) (hc : X.calm = true) (hi : PI X tg iter wi) (hg : PG X tg g) (hb : PSs X body tb)
    (hs : ∀ x, foldedSetIterable iter X.env x = pure x := by intro _; rfl) : PS X (.For tg iter body [] pos) (tFor wi g tb) := by
  intro pins s σ H D I h
  refine wpAny_For (thn (hi pins s σ H _ I h) fun v s1 h1 => thn h1 fun itv s2 h2 => ?_) hs
  obtain ⟨it, fp, tn, J, H2, e, I2, T, st2, f2, W, ⟨m0, w0⟩, turn⟩ := h2
  subst e
  -- what stays true of the iterator's objects through the loop
  have stat : ∀ {H' : Hp}, (∀ b ∈ fp, H' b = none) → ∀ b ∈ fp, FpOk X pins H' b := fun hn b hb => ⟨hn b hb, (f2 b hb).2⟩
  refine codeAny_forLoop_any (fun n s' => ∃ i σ' H', Inv X pins σ' H' s' ∧ tn i s'.heap ∧ (∀ b ∈ fp, H' b = none) ∧ W i n σ' H') ?_ m0 ⟨0, σ, H2, I2, st2, fun b hb => (f2 b hb).1, w0⟩
  rintro n s3 ⟨i, σ3, H3, I3, st3, fr3, w3⟩
  rcases turn i n σ3 H3 w3 with ⟨stop, qn⟩ | ⟨go, N, hN, step⟩
  · refine wpAny_passesOwn hp (thn (T.done X rfl rfl rfl hc i pins s3 σ3 H3 X.xe I3 (stat fr3) st3 stop) fun r s4 ⟨hr, I4⟩ => ?_)
    subst hr
    exact wpAny_execs_nil ⟨σ3, H3, I4, qn⟩
  · refine wpAny_passesOwn hp (thn (T.item X rfl rfl rfl hc i pins s3 σ3 H3 X.xe I3 (stat fr3) st3 go) fun r s4 ⟨u, hr, h4⟩ => ?_)
    subst hr
    refine wpAny_passesOwn hp (thn h4 fun _ s5 ⟨x, H5, I5, r5, y5, st5, fr5⟩ => ?_)
    have I5' := I5.pinned (stat fr5) (T.obj _ _ st5)
    refine wpAny_passesOwn hp (thn (hg _ s5 σ3 H5 x u _ I5' r5 (step x H5 y5)) fun _ s6 ⟨σ6, H6, I6, q6⟩ => ?_)
    refine wpAny_passesOwn hp (thn (hb _ s6 σ6 H6 _ I6 q6) fun f s7 q7 => ?_)
    have again : ∀ {σ7 : St} {H7 : Hp}, Inv X (pins ++ pinsAt fp s5.heap) σ7 H7 s7 → N σ7 H7 → ∃ m, m < n ∧ ∃ i σ' H', Inv X pins σ' H' s7 ∧ tn i s7.heap ∧ (∀ b ∈ fp, H' b = none) ∧ W i m σ' H' := fun {σ7 H7} I7 n7 => by
      obtain ⟨m', hm, w7⟩ := hN σ7 H7 n7
      refine ⟨m', hm, i + 1, σ7, H7, I7.unpinned, T.keep _ _ _ st5 fun b hb o e => (I7.pin (b, o) (List.mem_append_right _ (List.mem_append_right _ (mem_pinsAt hb e)))).1, fun b hb => ?_, w7⟩
      obtain ⟨o, e, d⟩ := T.obj _ _ st5 b hb
      exact (I7.pin (b, o) (List.mem_append_right _ (List.mem_append_right _ (mem_pinsAt hb e)))).2.1
    cases f with
    | next => obtain ⟨σ7, H7, I7, n7⟩ := q7; exact again I7 n7
    | cont => obtain ⟨σ7, H7, I7, n7⟩ := q7; exact again I7 n7
    | brk => obtain ⟨σ7, H7, I7, q7⟩ := q7; exact ⟨σ7, H7, I7.unpinned, q7⟩
    | ret v => obtain ⟨x7, σ7, H7, I7, r7, q7⟩ := q7; exact ⟨x7, σ7, H7, I7.unpinned, r7, q7⟩
end
end L2
namespace L2
open PySem PySem.Spec PyProof.Rows
abbrev R2 := V → V → Hp → VK → Prop
def OpR (X : Cx) (f : Value → Value → Sem Value) (r : R2) : Prop :=
  ∀ (pins : List (Addr × Obj)) (s : Shared) (σ : St) (H : Hp) (x y : V) (v u : Value) (Q : VK), Inv X pins σ H s → RelV x v → RelV y u → r x y H Q →
    wpAny (model X.prog X.w) X.A (f v u) (EP X pins σ Q) X.xe s
def UnR (X : Cx) (f : Value → Sem Value) (r : V → Hp → VK → Prop) : Prop :=
  ∀ (pins : List (Addr × Obj)) (s : Shared) (σ : St) (H : Hp) (x : V) (v : Value) (Q : VK), Inv X pins σ H s → RelV x v → r x H Q →
    wpAny (model X.prog X.w) X.A (f v) (EP X pins σ Q) X.xe s
def CallR (X : Cx) (f : Value) (r : List V → Hp → VK → Prop) : Prop :=
  ∀ (pins : List (Addr × Obj)) (s : Shared) (σ : St) (H : Hp) (xs : List V) (us : List Value) (Q : VK), Inv X pins σ H s → Vals xs us → r xs H Q →
    wpAny (model X.prog X.w) X.A (call f us) (EP X pins σ Q) X.xe s
def TruR (X : Cx) (r : V → Hp → (Bool → Hp → Prop) → Prop) : Prop :=
  ∀ (pins : List (Addr × Obj)) (s : Shared) (σ : St) (H : Hp) (x : V) (v : Value) (Q : Bool → Hp → Prop), Inv X pins σ H s → RelV x v → r x H Q →
    wpAny (model X.prog X.w) X.A (truthy v) (TP X pins σ Q) X.xe s
def tOp (r : R2) (ta tb : TE) : TE := fun σ H Q => ta σ H fun x H1 => tb σ H1 fun y H2 => r x y H2 Q
def tUn (r : V → Hp → VK → Prop) (ta : TE) : TE := fun σ H Q => ta σ H fun x H1 => r x H1 Q
def rI (C : Int → Int → Prop) (g : Int → Int → V) : R2 := fun x y H Q => ∃ i j, x = .int i ∧ y = .int j ∧ C i j ∧ Q (g i j) H
def rI0 (g : Int → Int → V) : R2 := fun x y H Q => ∃ i j, x = .int i ∧ y = .int j ∧ Q (g i j) H
def rU (g : Int → V) : V → Hp → VK → Prop := fun x H Q => ∃ i, x = .int i ∧ Q (g i) H
section
variable {X : Cx} {a b c : Expr} {ta tb tc : TE} {pos : Pos}
theorem binT (ha : PE X a ta) (hb : PE X b tb) {pins : List (Addr × Obj)} {s : Shared} {σ : St} {H : Hp} {R : V → V → Hp → Prop} (I : Inv X pins σ H s)
    (h : ta σ H fun x H1 => tb σ H1 fun y H2 => R x y H2) {Q : Value → Shared → Prop} {f : Value → Value → Sem Value}
    (hf : ∀ v u s2 x y H2, Inv X pins σ H2 s2 → RelV x v → RelV y u → R x y H2 → wpAny (model X.prog X.w) X.A (f v u) Q X.xe s2) :
    wpAny (model X.prog X.w) X.A (eval a X.env) (fun v s₁ => wpAny (model X.prog X.w) X.A (eval b X.env) (fun u s₂ => wpAny (model X.prog X.w) X.A (f v u) Q X.xe s₂) X.xe s₁) X.xe s := by
  refine thn (ha pins s σ H _ I h) fun v s1 ⟨x, H1, I1, r1, q1⟩ => ?_
  refine thn (hb pins s1 σ H1 _ I1 q1) fun u s2 ⟨y, H2, I2, r2, q2⟩ => ?_
  exact hf v u s2 x y H2 I2 r1 r2 q2
theorem pe_op {op : Operator} {r : R2} (ho : OpR X (binaryOp op) r) (ha : PE X a ta) (hb : PE X b tb) : PE X (.BinOp a op b pos) (tOp r ta tb) := by
  intro pins s σ H Q I h
  exact wpAny_BinOp (binT ha hb I h fun v u s2 x y H2 I2 rx ry q => ho pins s2 σ H2 x y v u Q I2 rx ry q)
theorem pe_un {op : UnaryOp} {r : V → Hp → VK → Prop} (ho : UnR X (unaryOp op) r) (ha : PE X a ta) : PE X (.UnaryOp op a pos) (tUn r ta) := by
  intro pins s σ H Q I h
  exact UnaryOp_ (thn (ha pins s σ H _ I h) fun v s1 ⟨x, H1, I1, r1, q1⟩ => ho pins s1 σ H1 x v Q I1 r1 q1)
theorem opI {f : Value → Value → Sem Value} {C : Int → Int → Prop} {g : Int → Int → Int}
    (rule : ∀ (i j : Int) (t u : Tok) (s : Shared) (Q : Value → Shared → Prop) (E : Value → Shared → Prop), C i j → Q (.int (g i j) s.toks) { s with toks := s.toks + 1 } → wpAny (model X.prog X.w) X.A (f (.int i t) (.int j u)) Q E s) :
    OpR X f (rI C fun i j => .int (g i j)) := by
  intro pins s σ H x y v u Q I rx ry h
  obtain ⟨i, j, rfl, rfl, hc, q⟩ := h
  obtain ⟨t, rfl⟩ := rx
  obtain ⟨t', rfl⟩ := ry
  exact rule i j t t' s _ _ hc ⟨.int (g i j), H, I.tok _, ⟨_, rfl⟩, q⟩
theorem opI0 {f : Value → Value → Sem Value} {g : Int → Int → Int}
    (rule : ∀ (i j : Int) (t u : Tok) (s : Shared) (Q : Value → Shared → Prop) (E : Value → Shared → Prop), Q (.int (g i j) s.toks) { s with toks := s.toks + 1 } → wpAny (model X.prog X.w) X.A (f (.int i t) (.int j u)) Q E s) :
    OpR X f (rI0 fun i j => .int (g i j)) := by
  intro pins s σ H x y v u Q I rx ry h
  obtain ⟨i, j, rfl, rfl, q⟩ := h
  obtain ⟨t, rfl⟩ := rx
  obtain ⟨t', rfl⟩ := ry
  exact rule i j t t' s _ _ ⟨.int (g i j), H, I.tok _, ⟨_, rfl⟩, q⟩
theorem opB0 {f : Value → Value → Sem Value} {g : Int → Int → Bool}
    (rule : ∀ (i j : Int) (t u : Tok) (s : Shared) (Q : Value → Shared → Prop) (E : Value → Shared → Prop), Q (.bool (g i j)) s → wpAny (model X.prog X.w) X.A (f (.int i t) (.int j u)) Q E s) :
    OpR X f (rI0 fun i j => .bl (g i j)) := by
  intro pins s σ H x y v u Q I rx ry h
  obtain ⟨i, j, rfl, rfl, q⟩ := h
  obtain ⟨t, rfl⟩ := rx
  obtain ⟨t', rfl⟩ := ry
  exact rule i j t t' s _ _ ⟨.bl (g i j), H, I, rfl, q⟩
def CDiv (i j : Int) : Prop := 0 < j ∧ j < 1073741824
def CPow (i j : Int) : Prop := 0 ≤ j ∧ j ≤ 1000000 ∧ i.natAbs < 2 ^ 64
theorem op_add : OpR X (binaryOp .Add) (rI0 fun i j => .int (i + j)) := opI0 fun _ _ _ _ _ _ _ q => add_int q
theorem op_sub : OpR X (binaryOp .Sub) (rI0 fun i j => .int (i - j)) := opI0 fun _ _ _ _ _ _ _ q => sub_int q
theorem op_fdiv : OpR X (binaryOp .FloorDiv) (rI CDiv fun i j => .int (i / j)) := opI fun i j _ _ _ _ _ hc q => by
  have h1 : (0 : Int) < j := hc.1
  have h2 : j < 1073741824 := hc.2
  exact floordiv_int (by omega) (by rw [Int.fdiv_eq_ediv_of_nonneg i (by omega)]; exact q) (.inl (PyProof.noPylong_small (by omega)))
theorem op_mod : OpR X (binaryOp .Mod) (rI (fun _ j => 0 < j) fun i j => .int (i % j)) := opI fun i j _ _ _ _ _ hc q => by
  have h1 : (0 : Int) < j := hc
  exact mod_int' (by omega) (by rw [Int.fmod_eq_emod_of_nonneg i (by omega)]; exact q)
theorem op_pow : OpR X (binaryOp .Pow) (rI CPow fun i j => .int (i ^ j.toNat)) := opI fun _ _ _ _ _ _ _ hc q => pow_int_small hc.1 hc.2.1 hc.2.2 q
theorem unI {f : Value → Sem Value} {g : Int → Int}
    (rule : ∀ (i : Int) (t : Tok) (s : Shared) (Q : Value → Shared → Prop) (E : Value → Shared → Prop), Q (.int (g i) s.toks) { s with toks := s.toks + 1 } → wpAny (model X.prog X.w) X.A (f (.int i t)) Q E s) :
    UnR X f (rU fun i => .int (g i)) := by
  intro pins s σ H x v Q I rx h
  obtain ⟨i, rfl, q⟩ := h
  obtain ⟨t, rfl⟩ := rx
  exact rule i t s _ _ ⟨.int (g i), H, I.tok _, ⟨_, rfl⟩, q⟩
theorem un_neg : UnR X (unaryOp .USub) (rU fun i => .int (-i)) := unI fun _ _ _ _ _ q => neg_int q
end
section
variable {X : Cx} {a b c : Expr} {ta tb tc : TE} {pos : Pos}
theorem fin_bl {pins : List (Addr × Obj)} {σ : St} {H : Hp} {s : Shared} {Q : VK} {k k' : Bool} (I : Inv X pins σ H s) (q : Q (.bl k) H) (e : k = k') : EP X pins σ Q (.bool k') s := by
  subst e
  exact ⟨.bl k, H, I, rfl, q⟩
theorem op_lt : OpR X (compareOp .Lt) (rI0 fun i j => .bl (decide (i < j))) := opB0 fun _ _ _ _ _ _ _ q => lt_int q
theorem op_le : OpR X (compareOp .LtE) (rI0 fun i j => .bl (decide (i ≤ j))) := opB0 fun _ _ _ _ _ _ _ q => le_int q
theorem op_gt : OpR X (compareOp .Gt) (rI0 fun i j => .bl (decide (j < i))) := opB0 fun _ _ _ _ _ _ _ q => gt_int q
theorem op_ge : OpR X (compareOp .GtE) (rI0 fun i j => .bl (decide (j ≤ i))) := opB0 fun _ _ _ _ _ _ _ q => ge_int q
theorem op_isN : OpR X (compareOp .Is) (fun x y H Q => y = .non ∧ Q (.bl (decide (x = .non))) H) := by
  intro pins s σ H x y v u Q I rx ry h
  obtain ⟨rfl, q⟩ := h
  cases ry
  refine is_none_gen (fin_bl I q ?_)
  cases x <;> first
    | (cases rx; rfl)
    | (obtain ⟨t, rfl⟩ := rx; rfl)
theorem op_notN : OpR X (compareOp .IsNot) (fun x y H Q => y = .non ∧ Q (.bl (!decide (x = .non))) H) := by
  intro pins s σ H x y v u Q I rx ry h
  obtain ⟨rfl, q⟩ := h
  cases ry
  refine isnot_none_gen (fin_bl I q ?_)
  cases x <;> first
    | (cases rx; rfl)
    | (obtain ⟨t, rfl⟩ := rx; rfl)
theorem OpR.or {f : Value → Value → Sem Value} {r r' : R2} (h : OpR X f r) (h' : OpR X f r') : OpR X f (fun x y H Q => r x y H Q ∨ r' x y H Q) := by
  intro pins s σ H x y v u Q I rx ry q
  rcases q with q | q
  · exact h pins s σ H x y v u Q I rx ry q
  · exact h' pins s σ H x y v u Q I rx ry q
theorem nomark (b : Expr) {op : CmpOp} (h : op ≠ .In := by decide) (h2 : op ≠ .NotIn := by decide) : behindInMarks op b = false := by
  have e1 : (op == CmpOp.In) = false := by cases op <;> first | rfl | exact absurd rfl h
  have e2 : (op == CmpOp.NotIn) = false := by cases op <;> first | rfl | exact absurd rfl h2
  cases b <;> simp [behindInMarks, e1, e2]
theorem pe_cmpR {op : CmpOp} {r : R2} (ho : OpR X (compareOp op) r) (ha : PE X a ta) (hb : PE X b tb) (hm : behindInMarks op b = false) : PE X (.Compare a [op] [b] pos) (tOp r ta tb) := by
  intro pins s σ H Q I h
  exact wpAny_Compare1 (binT ha hb I h fun v u s2 x y H2 I2 rx ry q => ho pins s2 σ H2 x y v u Q I2 rx ry q) hm
def tTest (t : TE) : TT := fun σ H Q => t σ H fun x H' => ∃ k, x = .bl k ∧ Q k H'
theorem pt_cmpR {op : CmpOp} {r : R2} (ho : OpR X (compareOp op) r) (ha : PE X a ta) (hb : PE X b tb) (hm : behindInMarks op b = false) : PT X (.Compare a [op] [b] pos) (tTest (tOp r ta tb)) := by
  intro pins s σ H Q I h
  refine wpAny_isTrue_Compare1 (thn (ha pins s σ H _ I h) fun v s1 ⟨x, H1, I1, r1, q1⟩ => thn (hb pins s1 σ H1 _ I1 q1) fun u s2 ⟨y, H2, I2, r2, q2⟩ =>
    thn (ho pins s2 σ H2 x y v u _ I2 r1 r2 q2) fun c s3 ⟨z, H3, I3, r3, k, e, q3⟩ => ?_) hm
  subst e
  cases r3
  exact wpAny_truthy_bool ⟨H3, I3, q3⟩
def TruV (K : PySem.W.Frag) (x : V) (H : Hp) (k : Bool) : Prop :=
  match x with
  | .non => k = false
  | .bl b => k = b
  | .int i => k = (i != 0)
  | .str y => y.length ≤ sizeLine ∧ k = ((y.length : Int) != 0)
  | .byt y => y.size ≤ sizeLine ∧ k = ((y.size : Int) != 0)
  | .ref p => (∃ xs, SqL K H p xs ∧ k = !xs.isEmpty) ∨ (∃ xs, SqT K H p xs ∧ k = !xs.isEmpty) ∨ ∃ kvs, H p = some (.dK kvs) ∧ k = !kvs.isEmpty
  | _ => False
theorem isEmpty_kv {κ : Type} {kvs : List (κ × V)} {vs : List (κ × Value)} (r : KV kvs vs) : (!vs.isEmpty) = !kvs.isEmpty := by
  cases r <;> rfl
theorem isEmpty_of {xs : List V} {its : List Value} (r : Vals xs its) : (!its.toArray.isEmpty) = !xs.isEmpty := by
  cases r <;> simp
theorem line63 : (sizeLine : Nat) < 2 ^ 63 := by rw [sizeLine_eq]; decide
theorem tru_ok : TruR X (fun x H Q => ∃ k, TruV X.K x H k ∧ Q k H) := by
  intro pins s σ H x v Q I rx h
  obtain ⟨k, e, q⟩ := h
  have hl := line63
  have hs : sizeLine = 16777216 := sizeLine_eq
  cases x with
  | non =>
    cases rx
    have e' : k = false := e
    subst e'
    exact truthy_none ⟨H, I, q⟩
  | bl b =>
    cases rx
    have e' : k = b := e
    subst e'
    exact wpAny_truthy_bool ⟨H, I, q⟩
  | int i =>
    obtain ⟨t, rfl⟩ := rx
    have e' : k = (i != 0) := e
    subst e'
    exact PySem.P.truthy_int ⟨H, I, q⟩
  | str y =>
    obtain ⟨t, rfl⟩ := rx
    obtain ⟨hy, e'⟩ : y.length ≤ sizeLine ∧ k = ((y.length : Int) != 0) := e
    subst e'
    exact PySem.P.truthy_str (by omega) ⟨H, I.tok _, q⟩
  | byt y =>
    obtain ⟨t, rfl⟩ := rx
    obtain ⟨hy, e'⟩ : y.size ≤ sizeLine ∧ k = ((y.size : Int) != 0) := e
    subst e'
    exact PySem.W.truthy_bytes (by omega) ⟨H, I.tok _, q⟩
  | ref p =>
    cases rx
    have e' : (∃ xs, SqL X.K H p xs ∧ k = !xs.isEmpty) ∨ (∃ xs, SqT X.K H p xs ∧ k = !xs.isEmpty) ∨ ∃ kvs, H p = some (.dK kvs) ∧ k = !kvs.isEmpty := e
    rcases e' with ⟨xs, hx, e'⟩ | ⟨xs, hx, e'⟩ | ⟨kvs, hx, e'⟩
    · subst e'
      obtain ⟨its, r, pl, hz⟩ := I.list hx
      have hlen := r.length
      exact wpAny_truthy_list pl.isList (by simp only [List.size_toArray]; omega) ⟨H, I.tok _, by rw [isEmpty_of r]; exact q⟩
    · subst e'
      obtain ⟨its, r, pl, hz⟩ := I.tuple hx
      have hlen := r.length
      exact truthy_tuple pl (by simp only [List.size_toArray]; omega) ⟨H, I.tok _, by rw [isEmpty_of r]; exact q⟩
    · subst e'
      obtain ⟨hz, hS, vs, r, m⟩ : kvs.length ≤ sizeLine ∧ (p == sysModules) = false ∧ ∃ vs, KV kvs vs ∧ s.heap.DictOf (mixKind X.prog X.w) p vs := I.hok p _ hx
      have hlen : kvs.length = vs.length := Paired.length r
      exact wpAny_truthy_dict hS m (by omega) ⟨H, I.tok _, by rw [isEmpty_kv r]; exact q⟩
  | _ => exact (show False from e).elim
theorem pt_truth (ha : PE X a ta) (he : ∀ whole, isTrue a X.env whole = (do let v ← whole; standAt a.pos; holding [v] (truthy v))) :
    PT X a (fun σ H Q => ta σ H fun x H' => ∃ k, TruV X.K x H' k ∧ Q k H') := by
  intro pins s σ H Q I h
  exact isTrue_plain (thn (ha pins s σ H _ I h) fun v s1 ⟨x, H1, I1, r1, q1⟩ => tru_ok pins s1 σ H1 x v Q I1 r1 q1) (he _)
theorem op_add_str : OpR X (binaryOp .Add) (fun x y H Q => ∃ i j, x = .str i ∧ y = .str j ∧ i.length + j.length ≤ sizeLine ∧ Q (.str (i ++ j)) H) := by
  intro pins s σ H x y v u Q I rx ry h
  obtain ⟨i, j, rfl, rfl, hz, q⟩ := h
  obtain ⟨t, rfl⟩ := rx
  obtain ⟨t', rfl⟩ := ry
  exact add_str (fun t' tk => ⟨.str (i ++ j), H, I.tok _, ⟨_, rfl⟩, q⟩) hz
theorem vals1 {x : V} {us : List Value} (r : Vals [x] us) : ∃ u, us = [u] ∧ RelV x u := by
  cases r with
  | cons r1 r2 => cases r2; exact ⟨_, rfl, r1⟩
theorem vals2 {x y : V} {us : List Value} (r : Vals [x, y] us) : ∃ u w', us = [u, w'] ∧ RelV x u ∧ RelV y w' := by
  cases r with
  | cons r1 r2 =>
    cases r2 with
    | cons r3 r4 => cases r4; exact ⟨_, _, rfl, r1, r3⟩
theorem call_max2 (hc : X.calm = true) : CallR X (.builtin "max") (fun xs H Q => ∃ i j, xs = [.int i, .int j] ∧ Q (.int (if j > i then j else i)) H) := by
  intro pins s σ H xs us Q I r h
  obtain ⟨i, j, rfl, q⟩ := h
  obtain ⟨u, w', rfl, ⟨t, rfl⟩, ⟨t', rfl⟩⟩ := vals2 r
  refine max_two_ints (I.ok.hd hc) fun h' tk k => ⟨_, H, I.kept k, ?_, q⟩
  by_cases hj : j > i
  · rw [if_pos hj, if_pos hj]; exact ⟨_, rfl⟩
  · rw [if_neg hj, if_neg hj]; exact ⟨_, rfl⟩
theorem call_min2 (hc : X.calm = true) : CallR X (.builtin "min") (fun xs H Q => ∃ i j, xs = [.int i, .int j] ∧ Q (.int (if j < i then j else i)) H) := by
  intro pins s σ H xs us Q I r h
  obtain ⟨i, j, rfl, q⟩ := h
  obtain ⟨u, w', rfl, ⟨t, rfl⟩, ⟨t', rfl⟩⟩ := vals2 r
  refine min_two_ints (I.ok.hd hc) fun h' tk k => ⟨_, H, I.kept k, ?_, q⟩
  by_cases hj : j < i
  · rw [if_pos hj, if_pos hj]; exact ⟨_, rfl⟩
  · rw [if_neg hj, if_neg hj]; exact ⟨_, rfl⟩
theorem call_int1 : CallR X (.type "int") (fun xs H Q => (∃ i, xs = [.int i] ∧ Q (.int i) H) ∨ ∃ k, xs = [.bl k] ∧ Q (.int (if k then 1 else 0)) H) := by
  intro pins s σ H xs us Q I r h
  rcases h with ⟨i, rfl, q⟩ | ⟨k, rfl, q⟩
  · obtain ⟨u, rfl, t, rfl⟩ := vals1 r
    exact call_int_int ⟨.int i, H, I, ⟨_, rfl⟩, q⟩
  · obtain ⟨u, rfl, r1⟩ := vals1 r
    cases r1
    exact call_int_bool ⟨.int (if k then 1 else 0), H, I.tok _, ⟨_, rfl⟩, q⟩
end
end L2
namespace L2
open PySem PySem.Spec PyProof.Rows
section
variable {prog : Program} {w : World} {A : Around} {E : Value → Shared → Prop} {s : Shared} {K : PySem.W.Frag} {x dx C f : Addr} {mA : Str → Option Value} {name : Str} {v : Value}
end
theorem RelO.some_of {v : V} {o : Option Value} (r : RelO (some v) o) : ∃ u, o = some u ∧ RelV v u := by
  cases o with
  | none => exact (show False from r).elim
  | some u => exact ⟨u, rfl, r⟩
section
variable {P : Program} {w : World} {H H' : Hp} {h h' : Heap} {a C dx : Addr} {fs fs' : List (Str × V)}
end
section
variable {X : Cx} {pins : List (Addr × Obj)} {σ : St} {H : Hp} {s : Shared} {a C dx : Addr} {fs : List (Str × V)} {f : Str} {v : V} {A : Around} {E : Value → Shared → Prop}
end
section
variable {X : Cx} {o e value : Expr} {f : Str} {pos pos' tpos : Pos} {ta tv : TE}
end
section
variable {X : Cx} {pins : List (Addr × Obj)} {σ : St} {H : Hp} {s : Shared} {A : Around} {E : Value → Shared → Prop} {Q : Value → Shared → Prop} {c : Value} {b : Bool}
end
end L2
namespace L2
open PySem PySem.Spec PyProof.Rows
structure Room (k : Nat) (A : Around) : Prop where
  hd : A.handled = none
  dp : A.depth + 3 * k + 5 < recursionLimit
  un : A.units + 16 * k + 200 < cLine
  gd : A.guards = some []
theorem Room.mono {j k : Nat} {A : Around} (r : Room k A) (h : j ≤ k) : Room j A := ⟨r.hd, by have := r.dp; omega, by have := r.un; omega, r.gd⟩
theorem Room.deeper {k : Nat} {A : Around} (r : Room (k + 1) A) (env : Env) : Room k (A.deeper env) :=
  ⟨r.hd, by have := r.dp; show A.depth + 1 + 3 * k + 5 < _; omega, by have := r.un; show A.units + 3 + 16 * k + 200 < _; omega, r.gd⟩
theorem Room.depth {k : Nat} {A : Around} (r : Room k A) : A.depth < recursionLimit := by have := r.dp; omega
def tNil : TA := fun _ H Q => Q [] H
def tCons (ta : TE) (tr : TA) : TA := fun σ H Q => ta σ H fun x H1 => tr σ H1 fun xs H2 => Q (x :: xs) H2
section
variable {X : Cx} {e : Expr} {es : List Expr} {te : TE} {t : TA} {pos : Pos}
theorem pa_nil : PA X [] tNil := fun _ _ _ _ H Q I h => Calls.spliced_nil ⟨[], H, I, .nil, h⟩
theorem pa_cons (ha : PE X e te) (hr : PA X es t) (hs : starEach (e :: es) X.env = (false, eval e X.env) :: starEach es X.env := by rfl) : PA X (e :: es) (tCons te t) := by
  intro pos pins s σ H Q I h
  rw [hs]
  show wpAny _ _ (spliced ((false, eval e X.env) :: backTo pos (starEach es X.env))) _ _ s
  refine Calls.spliced_cons (thn (ha pins s σ H _ I h) fun u s1 ⟨x, H1, I1, r1, q1⟩ => ?_)
  exact thn (hr pos pins s1 σ H1 _ I1 q1) fun us s2 ⟨xs, H2, I2, r2, q2⟩ => ⟨x :: xs, H2, I2, .cons r1 r2, q2⟩
def tTup (t : TA) : TE := fun σ H Q => t σ H fun xs H1 => xs.length ≤ sizeLine ∧ ∀ p, H1 p = none → Q (.ref p) (upd H1 p (.tup xs))
def tLst (t : TA) : TE := fun σ H Q => t σ H fun xs H1 => xs.length ≤ sizeLine ∧ ∀ p, H1 p = none → Q (.ref p) (upd H1 p (.lst xs))
theorem pe_tup {x1} (h : PA X es t) : PE X (.Tuple es x1 pos) (tTup t) := by
  intro pins s σ H Q I hq
  refine wpAny_Tuple_spliced (thn (h pos pins s σ H _ I hq) fun us s1 ⟨xs, H1, I1, r, z, q⟩ => ⟨by rw [← r.length]; exact z, ?_⟩)
  have hf : H1 s1.heap.objs.size = none := I1.hok.fresh (Nat.le_refl _)
  refine ⟨.ref s1.heap.objs.size, upd H1 s1.heap.objs.size (.tup xs), I1.laid (t' := s1.toks) (fun b u e => Heap.get?_push_of_some _ e) (Nat.le_refl _) ?_, rfl, q _ hf⟩
  exact ⟨z, us, r, ⟨_, Heap.get?_push_size _ rfl, rfl, _, rfl⟩⟩
theorem pe_lst (h : PA X es t) : PE X (.List es pos) (tLst t) := by
  intro pins s σ H Q I hq
  refine wpAny_List_spliced (thn (h pos pins s σ H _ I hq) fun us s1 ⟨xs, H1, I1, r, z, q⟩ => ⟨by rw [← r.length]; exact z, ?_⟩)
  have hf : H1 s1.heap.objs.size = none := I1.hok.fresh (Nat.le_refl _)
  refine ⟨.ref s1.heap.objs.size, upd H1 s1.heap.objs.size (.lst xs), I1.laid (t' := s1.toks) (fun b u e => Heap.get?_push_of_some _ e) (Nat.le_refl _) ?_, rfl, q _ hf⟩
  exact ⟨z, us, 0, r, Heap.get?_push_size _ rfl⟩
end
abbrev Sp := List V → Hp → VK → XK → Prop
abbrev CXT := List Env → Hp → Shared → XK → Value → Shared → Prop
structure Env0 (P : Program) (w : World) (K : PySem.W.Frag) (mg : Str → Option Value) (base : Heap) (A : Around) (outer : List Env) (s : Shared) (H : Hp) : Prop where
  frames : A.frames = some outer
  mod : Mod K mg base
  bs : ∀ b o, base.get? b = some o → s.heap.get? b = some o ∧ H b = none
  bsz : base.objs.size ≤ s.heap.objs.size
  funs : s.heap.FunFrames base outer
  frf : ∀ b ∈ frs outer, H b = none
  hok : HOk P w H s.heap
  bare : AllBare s.gens
def CE (outer : List Env) (P : Program) (w : World) (H : Hp) (s : Shared) (Q : VK) (u : Value) (s' : Shared) : Prop :=
  ∃ v H', s'.os = s.os ∧ AllBare s'.gens ∧ Un (frs outer) [] H H' s.heap s'.heap ∧ HOk P w H' s'.heap ∧ RelV v u ∧ Q v H'
def CR (CX : CXT) (outer : List Env) (P : Program) (w : World) (H : Hp) (s : Shared) (Q : VK) (E : XK) (r : Result) (s' : Shared) : Prop :=
  match r with
  | .ok (.ret u) => CE outer P w H s Q u s'
  | .ok _ => False
  | .error e => CX outer H s E e s'
structure FnOk (P : Program) (w : World) (K : PySem.W.Frag) (mg : Str → Option Value) (base : Heap) (CX : CXT) (k : Nat) (f : Addr) (fd : FuncData) (ps : List Str) (sp : Sp) : Prop where
  len : ∀ vs H Q E, sp vs H Q E → vs.length = ps.length
  run : ∀ (A : Around) (outer : List Env) (s : Shared) (H : Hp) (args : Args) (us : List Value) (vs : List V) (Q : VK) (E : XK), Room k A → Env0 P w K mg base A outer s H → BindsTo s fd args (ps.zip us) → Vals vs us → sp vs H Q E →
    codeAny (model P w) A (.call (.ref f) args) (CR CX outer P w H s Q E) s
section
variable {X : Cx} {pins : List (Addr × Obj)} {σ : St} {H : Hp} {s s' : Shared}
theorem Inv.env0 (I : Inv X pins σ H s) : Env0 X.prog X.w X.K X.mg X.base X.A X.stack s H :=
  ⟨I.ok.frames, I.ok.mod, I.bs, Nat.le_trans I.ok.bsz I.sz, I.stack, I.stkFree, I.hok, I.bare⟩
theorem Inv.after {Q : VK} {u : Value} (I : Inv X pins σ H s) (h : CE X.stack X.prog X.w H s Q u s') : EP X pins σ Q u s' := by
  obtain ⟨v, H', os, bare, un, hok, r, q⟩ := h
  obtain ⟨hh, g, d, t, os'⟩ := s'
  obtain rfl : os' = s.os := os
  exact ⟨v, H', I.call (h' := hh) (g' := g) (d' := d) (t' := t) (ch := []) un hok bare (fun b z => absurd z (by simp)), r, q⟩
end
def tCall (sp : Sp) (dvs : List V) (E : XK) (t : TA) : TE := fun σ H Q => t σ H fun vs H1 => sp (vs ++ dvs) H1 Q E
def Binds (K : PySem.W.Frag) (fd : FuncData) (ps : List Str) (ds : List Value) : Prop :=
  ∀ (s : Shared) (us : List Value), K.In s.heap → (us ++ ds).length = ps.length → BindsTo s fd ⟨us, []⟩ (ps.zip (us ++ ds))
theorem Binds.all {K : PySem.W.Frag} {fd : FuncData} {ps : List Str} (h : ∀ us : List Value, us.length = ps.length → bindArgs fd ⟨us, []⟩ = pure (ps.zip us)) : Binds K fd ps [] := fun s us _ hl => by
  rw [List.append_nil] at hl ⊢
  exact .of_eq (h us hl)
def Passes (CX : CXT) (X : Cx) (E : XK) : Prop := ∀ (pins : List (Addr × Obj)) (σ : St) (H : Hp) (s : Shared) (e : Value) (s' : Shared), Inv X pins σ H s → CX X.stack H s E e s' → X.xe e s'
section
variable {X : Cx} {CX : CXT} {k : Nat} {f C : Addr} {fd : FuncData} {ps : List Str} {sp : Sp} {dvs : List V} {ds : List Value} {E : XK} {x m : Str} {p pos apos : Pos} {e o : Expr} {es : List Expr} {ta : TE} {t : TA}
theorem run_fn {pins : List (Addr × Obj)} {σ : St} {H : Hp} {s : Shared} {Q : VK} {us : List Value} {vs : List V} (F : FnOk X.prog X.w X.K X.mg X.base CX k f fd ps sp) (hr : Room k X.A) (hb : Binds X.K fd ps ds) (hd : Vals dvs ds) (hx : Passes CX X E)
    (I : Inv X pins σ H s) (r : Vals vs us) (h : sp (vs ++ dvs) H Q E) : wpAny (model X.prog X.w) X.A (call (.ref f) us) (EP X pins σ Q) X.xe s := by
  have r2 : Vals (vs ++ dvs) (us ++ ds) := r.append hd
  have hl : (us ++ ds).length = ps.length := by rw [← r2.length]; exact F.len _ _ _ _ h
  refine wpAny_call (codeAny_mono (F.run X.A X.stack s H ⟨us, []⟩ (us ++ ds) (vs ++ dvs) Q E hr I.env0 (hb s us I.kIn hl) r2 h) fun r s' hq => ?_)
  cases r with
  | error e => exact hx pins σ H s e s' I hq
  | ok fl =>
    cases fl with
    | ret u => exact I.after hq
    | next => exact False.elim hq
    | brk => exact False.elim hq
    | cont => exact False.elim hq
theorem pe_call (F : FnOk X.prog X.w X.K X.mg X.base CX k f fd ps sp) (hr : Room k X.A) (hg : Gl X x) (hm : X.mg x = some (.ref f)) (hk : PySem.W.keepIn X.K (.ref f) = true) (hb : Binds X.K fd ps ds) (hd : Vals dvs ds) (hx : Passes CX X E)
    (ha : PA X (e :: es) t) (hdb : (x == ("__debug__" : Str)) = false := by decide) (he : starEach (e :: es) X.env = (false, eval e X.env) :: starEach es X.env := by rfl) (hpl : (backTo pos (starEach es X.env)).any (·.1) = false := by rfl) :
    PE X (.Call (.Name x p) (e :: es) [] pos) (tCall sp dvs E t) := by
  intro pins s σ H Q I h
  refine wpAny_Call_Name_kw (ld_glob I hg hm ?_ hdb)
  refine PySem.W.callWith_K (h₀ := X.base) I.ok.mod.kin hk (thn (ha pos pins s σ H _ I h) fun us s1 ⟨vs, H1, I1, r, q⟩ => ⟨I1.kIn, ?_⟩) he hpl
  exact run_fn F hr hb hd hx I1 r q
end
section
variable {X : Cx} {CX : CXT} {k : Nat} {f C : Addr} {fd : FuncData} {ps ks : List Str} {sp : Sp} {E : XK} {x m : Str} {p pos apos kpos : Pos} {e o : Expr} {es : List Expr} {kws : List Keyword} {te ta : TE} {t tk : TA} {nm : Option Str}
variable {g : List Value → List Value → List Value} {gV : List V → List V → List V}
end
structure FnScope (N P : List Str) (sc : Scope) : Prop where
  kind : sc.kind = .function
  co : sc.isCoroutine = false
  gen : sc.isGenerator = false
  nd : N.Nodup
  pre : N.take P.length = P
  par : ∀ x ∈ P, sc.names.lookup x = some .local ∨ sc.names.lookup x = some .cell
  nofree : ∀ y ∈ sc.names, y.2 ≠ .free
theorem bindL_out {kindOf : Str → Option NameKind} {x : Str} : ∀ {binds : List (Str × Value)} {m : Str → Option Value}, (∀ v, (x, v) ∉ binds) → bindL kindOf binds m x = m x
  | [], _, _ => rfl
  | (n, v) :: r, m, h => by
    unfold bindL
    rw [bindL_out fun w hw => h w (List.mem_cons_of_mem _ hw)]
    split
    · have : x ≠ n := by rintro rfl; exact h v List.mem_cons_self
      simp [this]
    · rfl
theorem bindC_out {kindOf : Str → Option NameKind} {x : Str} : ∀ {binds : List (Str × Value)} {m : Str → Option Value}, (∀ v, (x, v) ∉ binds) → bindC kindOf binds m x = m x
  | [], _, _ => rfl
  | (n, v) :: r, m, h => by
    unfold bindC
    rw [bindC_out fun w hw => h w (List.mem_cons_of_mem _ hw)]
    split
    · rfl
    · have : x ≠ n := by rintro rfl; exact h v List.mem_cons_self
      simp [this]
theorem bindL_get {kindOf : Str → Option NameKind} {x : Str} {v : Value} : ∀ {P : List Str} {vs : List Value} {i : Nat} {m : Str → Option Value}, P.Nodup → P[i]? = some x → vs[i]? = some v → kindOf x = some .local →
    bindL kindOf (P.zip vs) m x = some v
  | [], _, _, _, _, h, _, _ => by simp at h
  | _ :: _, [], _, _, _, _, h, _ => by simp at h
  | p :: P, w :: vs, 0, m, nd, h1, h2, hk => by
    simp at h1 h2; subst h1; subst h2
    show bindL kindOf ((p, w) :: P.zip vs) m p = _
    unfold bindL
    rw [bindL_out fun v hv => (List.nodup_cons.mp nd).1 (List.of_mem_zip hv).1, if_pos hk]
    simp
  | p :: P, w :: vs, i + 1, m, nd, h1, h2, hk => by
    show bindL kindOf ((p, w) :: P.zip vs) m x = _
    unfold bindL
    exact bindL_get (i := i) (List.nodup_cons.mp nd).2 (by simpa using h1) (by simpa using h2) hk
theorem bindC_get {kindOf : Str → Option NameKind} {x : Str} {v : Value} : ∀ {P : List Str} {vs : List Value} {i : Nat} {m : Str → Option Value}, P.Nodup → P[i]? = some x → vs[i]? = some v → kindOf x ≠ some .local →
    bindC kindOf (P.zip vs) m x = some v
  | [], _, _, _, _, h, _, _ => by simp at h
  | _ :: _, [], _, _, _, _, h, _ => by simp at h
  | p :: P, w :: vs, 0, m, nd, h1, h2, hk => by
    simp at h1 h2; subst h1; subst h2
    show bindC kindOf ((p, w) :: P.zip vs) m p = _
    unfold bindC
    rw [bindC_out fun v hv => (List.nodup_cons.mp nd).1 (List.of_mem_zip hv).1, if_neg hk]
    simp
  | p :: P, w :: vs, i + 1, m, nd, h1, h2, hk => by
    show bindC kindOf ((p, w) :: P.zip vs) m x = _
    unfold bindC
    exact bindC_get (i := i) (List.nodup_cons.mp nd).2 (by simpa using h1) (by simpa using h2) hk
def start (N : List Str) (vs : List V) : St := vs.map some ++ List.replicate (N.length - vs.length) none
def cxOf (CX : CXT) (P : Program) (w : World) (K : PySem.W.Frag) (mg : Str → Option Value) (base : Heap) (N : List Str) (qual : Str) (scope : Scope) (f : Addr) (cd : Value) (A : Around) (outer : List Env) (s : Shared) (H : Hp) (E : XK) : Cx where
  prog := P
  w := w
  K := K
  mg := mg
  base := base
  A := A.deeper (envOfC qual scope s.heap.objs.size f cd)
  N := N
  s₀ := s
  H₀ := H
  env := envOfC qual scope s.heap.objs.size f cd
  outer := outer
  stack := envOfC qual scope s.heap.objs.size f cd :: outer
  ex := []
  calm := true
  fn := fun _ => true
  pn := []
  xe := fun e s' => wpAny (model P w) (A.deeper (envOfC qual scope s.heap.objs.size f cd)) (leaving (envOfC qual scope s.heap.objs.size f cd) e) (fun _ s'' => CX outer H s E e s'') (fun e' s'' => CX outer H s E e' s'') s'
theorem cell_has {sc : Scope} {n : Nat} {x : Str} (h : sc.names.lookup x = some .cell) : ∃ c, (cellsFrom n sc.names []).lookup x = some c := by
  have q := PySem.W.cellsFrom_some sc.names n [] (.inl h)
  exact Option.isSome_iff_exists.mp q
theorem inv_start {CX : CXT} {P : Program} {w : World} {K : PySem.W.Frag} {mg : Str → Option Value} {base : Heap} {N ps : List Str} {qual : Str} {scope : Scope} {f : Addr} {cd : Value} {A : Around} {outer : List Env} {s s1 : Shared} {H : Hp} {E : XK} {us : List Value} {vs : List V}
    (S : FnScope N ps scope) (hd : A.handled = none) (e0 : Env0 P w K mg base A outer s H) (hl : vs.length = ps.length) (r : Vals vs us)
    (x : InCallC s s.heap.objs.size (bindL (envOfC qual scope s.heap.objs.size f cd).kindOf (ps.zip us) fun _ => none) (cellsFrom (s.heap.objs.size + 1) scope.names []) (bindC (envOfC qual scope s.heap.objs.size f cd).kindOf (ps.zip us) fun _ => none) s1) :
    Inv (cxOf CX P w K mg base N qual scope f cd A outer s H E) [] (start N vs) H s1 := by
  have hpl : ps.length ≤ N.length := by have := congrArg List.length S.pre; rw [List.length_take] at this; omega
  obtain ⟨h1, tk, rfl, hk⟩ := x.done
  have noA : ∀ b : Addr, b ∉ (cxOf CX P w K mg base N qual scope f cd A outer s H E).ex := fun b z => absurd (show b ∈ ([] : List Addr) from z) (by simp)
  refine ⟨⟨e0.mod, S.kind, rfl, rfl, Nat.le_refl _, fun y z c h1 h2 => ?_, fun y hy => ?_, fun y c _ h => ?_, fun _ => hd, Around.frames_deeper e0.frames, .inr ⟨rfl, rfl⟩, fun b z => absurd z (noA b), e0.bs, e0.bsz, fun b _ _ => noA b, fun b z => absurd z (noA b), e0.funs, e0.frf⟩,
    rfl, e0.bare, Un.kept hk, ⟨_, x.toInCall.ns, fun i y v h1 h2 h3 => ?_⟩, fun y c h => ⟨_, x.cell y c h⟩, e0.hok.fresh (Nat.le_refl _), fun y c h => ?_, fun p hp => absurd (show p ∈ ([] : List (Addr × Obj)) from hp) (by simp), e0.hok.kept hk, ?_⟩
  · exact name_of_addr x.apart (PySem.mem_of_lookup h1) (PySem.mem_of_lookup h2)
  · have hy : scope.names.lookup y = some .cell ∨ scope.names.lookup y = some .free := hy
    rcases hy with hy | hy
    · exact cell_has hy
    · exact absurd rfl (S.nofree _ (PySem.mem_of_lookup hy))
  · exact Nat.le_of_lt (x.above y c (PySem.mem_of_lookup h))
  · have hi : i < vs.length := by
      unfold start at h2
      by_cases hi : i < vs.length
      · exact hi
      · rw [List.getElem?_append_right (by simpa using hi)] at h2
        rw [List.getElem?_replicate] at h2
        split at h2 <;> cases h2
    have ha : vs[i]? = some v := by
      unfold start at h2
      rw [List.getElem?_append_left (by simpa using hi), List.getElem?_map] at h2
      cases e : vs[i]? with
      | none => rw [e] at h2; cases h2
      | some a => rw [e] at h2; cases h2; rfl
    obtain ⟨u, hu, rv⟩ := r.get ha
    have hp : ps[i]? = some y := by
      rw [← S.pre, List.getElem?_take_of_lt (by omega)]; exact h1
    have ndP : ps.Nodup := by rw [← S.pre]; exact S.nd.sublist (List.take_sublist _ _)
    refine ⟨u, rv, ?_⟩
    rcases S.par y (List.mem_of_getElem? hp) with k | k
    · exact .inl ⟨k, bindL_get ndP hp hu k⟩
    · obtain ⟨c, e⟩ := cell_has (n := s.heap.objs.size + 1) k
      refine .inr ⟨.inl k, c, e, ?_⟩
      have q := x.cell y c e
      rw [bindC_get ndP hp hu (by show scope.names.lookup y ≠ _; rw [k]; decide)] at q
      exact q
  · exact e0.hok.fresh (Nat.le_of_lt (x.above y c (PySem.mem_of_lookup h)))
  · unfold start
    show _ = N.length
    rw [List.length_append, List.length_map, List.length_replicate]
    omega
theorem fn_of {CX : CXT} {P : Program} {w : World} {K : PySem.W.Frag} {mg : Str → Option Value} {base : Heap} {k : Nat} {f : Addr} {name qual : Str} {params : Arguments} {body : List Stmt} {scope : Scope} {dV kV doc pm cdv ct oc : Value} {an od : Option Addr}
    {osl : Array (Option Value)} {N ps : List Str} {sp : Sp} (lk : K.lookup f = some ⟨oc, od, .func (PySem.W.fnOf name qual params body scope dV kV doc pm an cdv ct), osl⟩) (hcd : PySem.W.codeIn K cdv qual = true) (S : FnScope N ps scope)
    (len : ∀ vs H Q E, sp vs H Q E → vs.length = ps.length)
    (hbody : ∀ (A : Around) (outer : List Env) (s : Shared) (H : Hp) (vs : List V) (Q : VK) (E : XK), Room k (A.deeper (envOfC qual scope s.heap.objs.size f cdv)) → sp vs H Q E →
      ∃ t, PSs (cxOf CX P w K mg base N qual scope f cdv A outer s H E) body t ∧ t { nx := fun _ H' => Q .non H', rt := Q } (start N vs) H) :
    FnOk P w K mg base CX (k + 1) f (PySem.W.fnOf name qual params body scope dV kV doc pm an cdv ct) ps sp := by
  refine ⟨len, fun A outer s H args us vs Q E hr e0 hb r hsp => ?_⟩
  have hl := len _ _ _ _ hsp
  have KX : K.In s.heap := e0.mod.kin.keeps fun b o e => (e0.bs b o e).1
  have lim : s.heap.NoLimit := e0.mod.nolimit.keeps fun b o e => (e0.bs b o e).1
  have hkind : ∀ y ∈ ps.zip us, scope.names.lookup y.1 = some .local ∨ (scope.names.lookup y.1 = some .cell ∧ ((cellsFrom (s.heap.objs.size + 1) scope.names []).lookup y.1).isSome = true) := fun ⟨n, v⟩ hy => by
    rcases S.par n (List.of_mem_zip hy).1 with q | q
    · exact .inl q
    · exact .inr ⟨q, PySem.W.cellsFrom_some _ _ _ (.inl q)⟩
  refine codeAny_call_function hr.depth (KX _ _ lk) rfl S.co S.gen rfl (PySem.W.codeRec_of KX hcd) (hb _ _ _ _ ?_)
  refine wpAny_newFunctionEnv_cells S.kind hkind fun env he s1 x => ?_
  subst he
  refine ⟨lim.keeps x.toInCall.keep, codeAny_func ?_⟩
  obtain ⟨t, ht, hq⟩ := hbody A outer s H vs Q E (hr.deeper _) hsp
  have I : Inv (cxOf CX P w K mg base N qual scope f cdv A outer s H E) [] (start N vs) H s1 := inv_start S hr.hd e0 hl r x
  refine wpAny_mono (ht [] s1 (start N vs) H _ I hq) (fun fl s' hs => ?_) fun e s' hs => hs
  have fin : ∀ {σ' : St} {H' : Hp} {v : V} {u : Value}, Inv (cxOf CX P w K mg base N qual scope f cdv A outer s H E) [] σ' H' s' → RelV v u → Q v H' → CE outer P w H s Q u s' :=
    fun {σ' H' v u} J rv q => ⟨v, H', J.os, J.bare, J.base, J.hok, rv, q⟩
  cases fl with
  | ret u =>
    obtain ⟨v, σ', H', J, rv, q⟩ := hs
    exact fin J rv q
  | next =>
    obtain ⟨σ', H', J, q⟩ := hs
    exact fin (v := V.non) (u := Value.none) J rfl q
  | brk =>
    obtain ⟨_, _, _, q⟩ := hs
    exact False.elim q
  | cont =>
    obtain ⟨_, _, _, q⟩ := hs
    exact False.elim q
end L2
namespace L2
open PySem PySem.Spec PyProof.Rows
section
variable {X : Cx} {x : Str} {p pos : Pos} {e : Expr} {es : List Expr} {t : TA} {id T : String} {r : List V → Hp → VK → Prop}
def tCB (r : List V → Hp → VK → Prop) (t : TA) : TE := fun σ H Q => t σ H fun vs H1 => r vs H1 Q
theorem pe_callB (hc : CallR X (.builtin id) r) (hg : Gl X x) (hm : X.mg x = none) (hv : bootBuiltins x = some (.builtin id)) (ha : PA X (e :: es) t) (hn : x ≠ "__name__" := by decide) (hdb : (x == ("__debug__" : Str)) = false := by decide)
    (he : starEach (e :: es) X.env = (false, eval e X.env) :: starEach es X.env := by rfl) (hpl : (backTo pos (starEach es X.env)).any (·.1) = false := by rfl) : PE X (.Call (.Name x p) (e :: es) [] pos) (tCB r t) := by
  intro pins s σ H Q I h
  refine wpAny_Call_Name_kw (ld_blt I hg hm hv ?_ hn hdb)
  exact PyProof.Rows.callWith_builtin1 (thn (ha pos pins s σ H _ I h) fun us s1 ⟨vs, H1, I1, r1, q1⟩ => hc pins s1 σ H1 vs us Q I1 r1 q1) he hpl
theorem pe_callTy (hc : CallR X (.type T) r) (hg : Gl X x) (hm : X.mg x = none) (hv : bootBuiltins x = some (.type T)) (ha : PA X (e :: es) t) (hn : x ≠ "__name__" := by decide) (hdb : (x == ("__debug__" : Str)) = false := by decide)
    (he : starEach (e :: es) X.env = (false, eval e X.env) :: starEach es X.env := by rfl) (hpl : (backTo pos (starEach es X.env)).any (·.1) = false := by rfl) : PE X (.Call (.Name x p) (e :: es) [] pos) (tCB r t) := by
  intro pins s σ H Q I h
  refine wpAny_Call_Name_kw (ld_blt I hg hm hv ?_ hn hdb)
  exact PyProof.Rows.callWith_type1 (thn (ha pos pins s σ H _ I h) fun us s1 ⟨vs, H1, I1, r1, q1⟩ => hc pins s1 σ H1 vs us Q I1 r1 q1) he hpl
end
end L2
namespace HT
open PySem PyProof.Rows
section
open PySem.SeqAt
open PySem.AutoSeq1 (wpAny_loadPart')
open PySem.MeetsSeq PySem.MeetsSeq2 PySem.MeetsSeq3
end
section
variable {prog : Program} {w : World} {A : Around} {E : Value → Shared → Prop} {s : Shared}
theorem cat_tup {t b : Addr} {vs ws : List Value} {Q : Value → Shared → Prop} (ht : IsTup s.heap t vs.toArray) (hb : IsTup s.heap b ws.toArray) (hv : vs ≠ [])
    (h1 : ws = [] → Q (.ref t) s) (h2 : ws ≠ [] → Q (.ref s.heap.objs.size) { s with heap := s.heap.push { cls := .type "tuple", data := .seq (vs ++ ws).toArray } })
    (hsz : vs.length + ws.length ≤ sizeLine) : wpAny (model prog w) A (binaryOp .Add (.ref t) (.ref b)) Q E s := by
  obtain ⟨⟨cls, dd, data, sl⟩, ho, hc, n, hd⟩ := id ht
  obtain ⟨⟨cls2, dd2, data2, sl2⟩, ho2, hc2, n2, hd2⟩ := id hb
  simp only at hc hd hc2 hd2
  subst hc hd hc2 hd2
  have e : vs.toArray ++ ws.toArray = (vs ++ ws).toArray := by simp
  by_cases hw : ws = []
  · exact concat_meets ⟨_, ho, rfl⟩ ⟨_, ho2, rfl⟩ noFill_tuple_add seq_tuple_add PySem.F.slot_tuple_add PySem.F.entry_tuple_add (PySem.F.args_tuple_add_2 _ _)
      (tuple_addW1 t b vs.toArray ws.toArray n n2 dd dd2 sl sl2 (by simpa using hv) (by simp [hw])) ⟨ho, ho2, h1 hw⟩
  · refine concat_meets ⟨_, ho, rfl⟩ ⟨_, ho2, rfl⟩ noFill_tuple_add seq_tuple_add PySem.F.slot_tuple_add PySem.F.entry_tuple_add (PySem.F.args_tuple_add_2 _ _)
      (tuple_addW2 t b vs.toArray ws.toArray n n2 dd dd2 sl sl2 (by simpa using hv) (by simpa using hw) (by rw [List.size_toArray, List.size_toArray]; exact hsz)) ⟨ho, ho2, ?_⟩
    rw [e]
    exact h2 hw
def sIx (n d : Nat) : Option Int → Nat
  | none => d
  | some v => if v < 0 then (v + (n : Int)).toNat else min v.toNat n
theorem sIx_none (n d : Nat) : sIx n d none = d := rfl
theorem sIx_nat (n d k : Nat) : sIx n d (some (k : Int)) = min k n := by
  show (if (k : Int) < 0 then ((k : Int) + (n : Int)).toNat else min (k : Int).toNat n) = min k n
  rw [if_neg (by omega), Int.toNat_natCast]
theorem sIx_le (n d : Nat) (hd : d ≤ n) (o : Option Int) : sIx n d o ≤ n := by
  cases o with
  | none => exact hd
  | some v =>
    show (if v < 0 then (v + (n : Int)).toNat else min v.toNat n) ≤ n
    by_cases hv : v < 0
    · rw [if_pos hv]; omega
    · rw [if_neg hv]; exact Nat.min_le_right _ _
theorem clip_eq (v : Int) (n d : Nat) : (if v < 0 then max (v + (n : Int)) 0 else min v (n : Int)) = ((sIx n d (some v) : Nat) : Int) := by
  show (if v < 0 then max (v + (n : Int)) 0 else min v (n : Int)) = (((if v < 0 then (v + (n : Int)).toNat else min v.toNat n) : Nat) : Int)
  by_cases hv : v < 0
  · simp only [if_pos hv]; omega
  · simp only [if_neg hv]; omega
theorem adjust_gen (lo hi : Option Int) (n : Nat) : Builtin.Slice.sliceAdjust lo hi 1 (n : Int) = (((sIx n 0 lo : Nat) : Int), ((sIx n n hi : Nat) : Int)) := by
  have h1 : ¬ ((1 : Int) < 0) := by omega
  unfold Builtin.Slice.sliceAdjust
  simp only [h1, if_false]
  refine Prod.ext ?_ ?_
  · cases lo with
    | none => rfl
    | some v => exact clip_eq v n 0
  · cases hi with
    | none => rfl
    | some v => exact clip_eq v n n
theorem places_gen (i j : Nat) : Builtin.Slice.slicePlaces (i : Int) (j : Int) 1 = j - i := by
  unfold Builtin.Slice.slicePlaces
  have h1 : (1 : Int) > 0 := by omega
  simp only [h1, if_true, Int.ediv_one]
  split <;> omega
theorem slicePart_ {v : Value} {o : Option Int} {Q : Option Int → Shared → Prop} (p : IsPart v o) (h : Q o s) : wpAny (model prog w) A (Builtin.Slice.slicePartIndex v) Q E s := by
  cases p with
  | none => exact slicePart_none h
  | int i t => exact slicePart_int h
theorem sliceApplied_gen {sl : Addr} {vl vu : Value} {lo hi : Option Int} {n : Nat} {Q : Int × Int × Nat → Shared → Prop} (hs : s.heap.IsSliceOf sl vl vu .none) (pl : IsPart vl lo) (pu : IsPart vu hi)
    (h : Q (((sIx n 0 lo : Nat) : Int), 1, sIx n n hi - sIx n 0 lo) s) : wpAny (model prog w) A (Builtin.Slice.sliceApplied (.ref sl) (pure (n : Int))) Q E s := by
  obtain ⟨os, hos, hcs, hds⟩ := id hs
  unfold Builtin.Slice.sliceApplied Builtin.Slice.sliceFields
  refine wpAny_bind (wpAny_bind (wpAny_field hos hds (x := vl) rfl (wpAny_bind (wpAny_field hos hds (x := vu) rfl (wpAny_bind (wpAny_field hos hds (x := .none) rfl (wpAny_pure ?_)))))))
  refine wpAny_bind (slicePart_none ?_)
  show wpAny _ _ (if ((1 : Int) == 0) = true then _ else _) _ _ s
  rw [if_neg (by decide)]
  refine wpAny_bind (slicePart_ pl (wpAny_bind (slicePart_ pu (wpAny_bind (wpAny_pure ?_)))))
  show wpAny _ _ (match Builtin.Slice.sliceAdjust lo hi 1 (n : Int) with | (lo, hi) => pure (lo, (1 : Int), Builtin.Slice.slicePlaces lo hi 1)) _ _ s
  rw [adjust_gen lo hi n]
  show wpAny _ _ (pure (((sIx n 0 lo : Nat) : Int), (1 : Int), Builtin.Slice.slicePlaces ((sIx n 0 lo : Nat) : Int) ((sIx n n hi : Nat) : Int) 1)) _ _ s
  rw [places_gen]
  exact wpAny_pure h
theorem pick_gen (xs : Array Value) (i k : Nat) : ((List.range k).filterMap fun (m : Nat) => xs[((i : Int) + (m : Int) * 1).toNat]?).toArray = ((xs.toList.drop i).take k).toArray := by
  have e : (fun (m : Nat) => xs[((i : Int) + (m : Int) * 1).toNat]?) = fun m => xs[i + m]? := by
    funext m
    have : ((i : Int) + (m : Int) * 1).toNat = i + m := by omega
    rw [this]
  rw [e]
  have := pick_run xs i k
  rw [List.filterMap_map] at this
  have e2 : ((fun x => xs[x]?) ∘ fun x => i + x) = fun m => xs[i + m]? := rfl
  rw [e2] at this
  rw [this]
theorem getItem_tuple_cut {t sl : Addr} {items : Array Value} {vl vu : Value} {lo hi : Option Int} {Q : Value → Shared → Prop} (ht : IsTup s.heap t items) (hs : s.heap.IsSliceOf sl vl vu .none) (pl : IsPart vl lo) (pu : IsPart vu hi)
    (hw : ¬ (sIx items.size 0 lo = 0 ∧ sIx items.size items.size hi = items.size))
    (h : Q (.ref s.heap.objs.size) { s with heap := s.heap.push { cls := .type "tuple", data := .seq ((items.toList.drop (sIx items.size 0 lo)).take (sIx items.size items.size hi - sIx items.size 0 lo)).toArray } })
    (hsz : items.size ≤ sizeLine) : wpAny (model prog w) A (getItem (.ref t) (.ref sl)) Q E s := by
  have htake : sizeOk (.seq ((items.toList.drop (sIx items.size 0 lo)).take (sIx items.size items.size hi - sIx items.size 0 lo)).toArray) := by
    show ((items.toList.drop (sIx items.size 0 lo)).take (sIx items.size items.size hi - sIx items.size 0 lo)).toArray.size ≤ sizeLine
    rw [List.size_toArray, List.length_take, List.length_drop, Array.length_toList]
    omega
  have hj : sIx items.size items.size hi ≤ items.size := sIx_le _ _ (Nat.le_refl _) hi
  obtain ⟨os, hos, hcs, hds⟩ := id hs
  have hTs : s.TypeIs (.ref sl) "slice" := ⟨os, hos, hcs⟩
  unfold getItem
  try with_reducible refine wpAny_holding ?_
  first | refine wpAny_bind (wpAny_pure ?_) | skip
  refine wpAny_bind (wpAny_sequenceKey ht.typeIs (by decide) ?_)
  refine wpAny_bind (wpAny_callSpecial?_slot (name := Str.ofString "__getitem__") ht.typeIs PyProof.Rows.slot_tuple_getitem
    (wpAny_call_entry PyProof.Rows.slot_tuple_getitem ht.typeIs entry_tuple_getitem ?_ (args_tuple_getitem _ _)))
  show wpAny _ _ (Builtin.Tuple.tupleItemsOf (.ref t) >>= _) _ _ s
  refine wpAny_bind (tupleItemsOf_ ht ?_)
  refine wpAny_bind (wpAny_typeOf hTs ?_)
  rw [if_pos (by decide)]
  refine wpAny_bind (sliceApplied_gen hs pl pu ?_)
  have hno : ¬ ((((sIx items.size 0 lo : Nat) : Int) == 0 && (1 : Int) == 1 && (sIx items.size items.size hi - sIx items.size 0 lo) == items.size) = true) := by
    intro q
    rw [Bool.and_eq_true, Bool.and_eq_true] at q
    have q1 : ((sIx items.size 0 lo : Nat) : Int) = 0 := eq_of_beq q.1.1
    have q2 : sIx items.size items.size hi - sIx items.size 0 lo = items.size := eq_of_beq q.2
    exact hw ⟨by omega, by omega⟩
  show wpAny _ _ (if (((sIx items.size 0 lo : Nat) : Int) == 0 && (1 : Int) == 1 && (sIx items.size items.size hi - sIx items.size 0 lo) == items.size) = true then _ else _) _ _ s
  rw [if_neg hno, pick_gen]
  first
    | exact wpAny_bind (m := Builtin.Tuple.tupleExact _) (wpAny_newObj_type (wpAny_pure ⟨_, rfl, wpAny_pure h⟩) htake)
    | exact wpAny_bind (m := Builtin.Tuple.tupleExact _) (wpAny_newObj_type (wpAny_bind (wpAny_pure (wpAny_pure ⟨_, rfl, wpAny_pure h⟩))) htake)
    | exact wpAny_bind (wpAny_bind (m := Builtin.Tuple.tupleExact _) (wpAny_newObj_type (wpAny_pure (wpAny_pure ⟨_, rfl, wpAny_pure h⟩)) htake))
    | exact wpAny_bind (wpAny_bind (m := Builtin.Tuple.tupleExact _) (wpAny_newObj_type (wpAny_pure ⟨_, rfl, wpAny_pure h⟩) htake))
end
end HT
namespace L2
open PySem PySem.Spec PyProof.Rows
abbrev TO := St → Hp → (Option Int → Hp → Prop) → Prop
def PO (X : Cx) (e : Option Expr) (t : TO) : Prop :=
  ∀ (pins : List (Addr × Obj)) (s : Shared) (σ : St) (H : Hp) (Q : Option Int → Hp → Prop), Inv X pins σ H s → t σ H Q →
    wpAny (model X.prog X.w) X.A (evalPart e X.env) (fun u s' => ∃ o H', Inv X pins σ H' s' ∧ IsPart u o ∧ Q o H') X.xe s
def tNoPart : TO := fun _ H Q => Q none H
def tPart (t : TE) : TO := fun σ H Q => t σ H fun x H1 => ∃ i, x = .int i ∧ Q (some i) H1
section
variable {X : Cx} {e : Expr} {te : TE} {lo hi : Option Expr} {tl th : TO} {pos p2 : Pos}
theorem po_none : PO X none tNoPart := by
  intro pins s σ H Q I h
  rw [evalPart_none]
  exact wpAny_pure ⟨none, H, I, .none, h⟩
theorem po_some (h : PE X e te) : PO X (some e) (tPart te) := by
  intro pins s σ H Q I hw
  rw [evalPart_some]
  refine thn (h pins s σ H _ I hw) fun u s1 ⟨x, H1, I1, r1, q1⟩ => ?_
  obtain ⟨i, rfl, q⟩ := q1
  obtain ⟨t, rfl⟩ := r1
  exact ⟨some i, H1, I1, .int i t, q⟩
def SlR (X : Cx) (r : V → Option Int → Option Int → Hp → VK → Prop) : Prop :=
  ∀ (pins : List (Addr × Obj)) (s : Shared) (σ : St) (H : Hp) (x : V) (v vl vu : Value) (lo hi : Option Int) (sl : Addr) (Q : VK), Inv X pins σ H s → RelV x v → s.heap.IsSliceOf sl vl vu .none → IsPart vl lo → IsPart vu hi → r x lo hi H Q →
    ∃ T id, typeLookup (.type T) "__getitem__" = pure (some (.builtin id)) ∧ s.TypeIs v T ∧ wpAny (model X.prog X.w) X.A (getItem v (.ref sl)) (EP X pins σ Q) X.xe s
def tSl (r : V → Option Int → Option Int → Hp → VK → Prop) (te : TE) (tl th : TO) : TE := fun σ H Q => te σ H fun x H1 => tl σ H1 fun l H2 => th σ H2 fun u H3 => r x l u H3 Q
theorem pe_slice {r : V → Option Int → Option Int → Hp → VK → Prop} (hr : SlR X r) (he : PE X e te) (hl : PO X lo tl) (hu : PO X hi th) : PE X (.Subscript e (.Slice lo hi none p2) pos) (tSl r te tl th) := by
  intro pins s σ H Q I h
  refine Subscript_ (thn (he pins s σ H _ I h) fun v s1 ⟨x, H1, I1, r1, q1⟩ => ?_)
  refine wpAny_Slice (thn (hl pins s1 σ H1 _ I1 q1) fun vl s2 ⟨l, H2, I2, pl, q2⟩ => thn (hu pins s2 σ H2 _ I2 q2) fun vu s3 ⟨u, H3, I3, pu, q3⟩ => ?_)
  rw [evalPart_none]
  refine wpAny_pure ?_
  have I4 : Inv X pins σ H3 { s3 with heap := s3.heap.push { cls := .type "slice", data := .fields #[vl, vu, .none] } } := I3.kept (t' := s3.toks) fun b ob q => Heap.get?_push_of_some _ q
  obtain ⟨T, id, hT, ht, hg⟩ := hr pins { s3 with heap := s3.heap.push { cls := .type "slice", data := .fields #[vl, vu, .none] } } σ H3 x v vl vu l u s3.heap.objs.size Q I4 r1 (Heap.IsSliceOf.new ..) pl pu q3
  show wpAny (model X.prog X.w) X.A (subscriptTail e (.Slice lo hi none p2) v (.ref s3.heap.objs.size)) (EP X pins σ Q) X.xe { s3 with heap := s3.heap.push { cls := .type "slice", data := .fields #[vl, vu, .none] } }
  exact tail_any (ops := [.ref s3.heap.objs.size, v]) ht hT hg (by with_unfolding_all rfl)
def cutV (xs : List V) (lo hi : Option Int) : List V := (xs.drop (HT.sIx xs.length 0 lo)).take (HT.sIx xs.length xs.length hi - HT.sIx xs.length 0 lo)
theorem cutV_length (xs : List V) (lo hi : Option Int) : (cutV xs lo hi).length ≤ xs.length := by
  unfold cutV
  rw [List.length_take, List.length_drop]
  omega
def rSlT (K : PySem.W.Frag) : V → Option Int → Option Int → Hp → VK → Prop := fun x lo hi H Q => ∃ a xs, x = .ref a ∧ SqT K H a xs ∧
  ¬ (HT.sIx xs.length 0 lo = 0 ∧ HT.sIx xs.length xs.length hi = xs.length) ∧ ∀ p, H p = none → Q (.ref p) (upd H p (.tup (cutV xs lo hi)))
theorem sl_tup : SlR X (rSlT X.K) := by
  intro pins s σ H x v vl vu lo hi sl Q I rx hs pl pu h
  obtain ⟨a, xs, rfl, hx, hw, q⟩ := h
  cases rx
  obtain ⟨its, r, ht, hz⟩ := I.tuple hx
  have hlen : its.toArray.size = xs.length := by rw [List.size_toArray]; exact r.length.symm
  refine ⟨"tuple", _, PyProof.Rows.slot_tuple_getitem.lookup, ht.typeIs, ?_⟩
  refine HT.getItem_tuple_cut ht hs pl pu (by rw [hlen]; exact hw) ?_ (by rw [hlen]; exact hz)
  rw [hlen]
  refine ⟨.ref s.heap.objs.size, _, I.laid (t' := s.toks) (o := .tup (cutV xs lo hi)) (fun b ob q => Heap.get?_push_of_some _ q) (Nat.le_refl _) ?_, rfl, q _ (I.hok.fresh (Nat.le_refl _))⟩
  exact ⟨Nat.le_trans (cutV_length xs lo hi) hz, _, (r.drop (HT.sIx xs.length 0 lo)).take (HT.sIx xs.length xs.length hi - HT.sIx xs.length 0 lo), IsTup.new _ _⟩
def rCatT (K : PySem.W.Frag) : R2 := fun x y H Q => ∃ a b xs ys, x = .ref a ∧ y = .ref b ∧ SqT K H a xs ∧ SqT K H b ys ∧ xs ≠ [] ∧ xs.length + ys.length ≤ sizeLine ∧
  (ys = [] → Q (.ref a) H) ∧ (ys ≠ [] → ∀ p, H p = none → Q (.ref p) (upd H p (.tup (xs ++ ys))))
theorem Vals.nil_iff {xs : List V} {us : List Value} (r : Vals xs us) : us = [] ↔ xs = [] := by
  cases r with
  | nil => simp
  | cons _ _ => simp
theorem op_catT : OpR X (binaryOp .Add) (rCatT X.K) := by
  intro pins s σ H x y v u Q I rx ry h
  obtain ⟨a, b, xs, ys, rfl, rfl, ha, hb, hx, hz, q1, q2⟩ := h
  cases rx
  cases ry
  obtain ⟨its, r1, p1, _⟩ := I.tuple ha
  obtain ⟨its2, r2, p2, _⟩ := I.tuple hb
  refine HT.cat_tup p1 p2 (fun z => hx (r1.nil_iff.mp z)) (fun z => ⟨.ref a, H, I, rfl, q1 (r2.nil_iff.mp z)⟩) (fun z => ?_) (by rw [← r1.length, ← r2.length]; exact hz)
  refine ⟨.ref s.heap.objs.size, _, I.laid (t' := s.toks) (o := .tup (xs ++ ys)) (fun b ob q => Heap.get?_push_of_some _ q) (Nat.le_refl _) ?_, rfl, q2 (fun w => z (r2.nil_iff.mpr w)) _ (I.hok.fresh (Nat.le_refl _))⟩
  exact ⟨by rw [List.length_append]; exact hz, _, r1.append r2, IsTup.new _ _⟩
end
end L2
namespace L2
open PySem PySem.Spec PyProof.Rows
def ixN (n : Nat) (i : Int) : Option Nat := if 0 ≤ i then (if i < n then some i.toNat else none) else if -(n : Int) ≤ i then some (i + n).toNat else none
def atI {α : Type} (xs : List α) (i : Int) : Option α := (ixN xs.length i).bind fun j => xs[j]?
theorem ixN_seq {n : Nat} {i : Int} {j : Nat} (h : ixN n i = some j) : seqIndex? i n = some j ∧ j < n ∧ -(n : Int) ≤ i ∧ i < n := by
  unfold ixN at h
  by_cases h0 : 0 ≤ i
  · rw [if_pos h0] at h
    by_cases h1 : i < n
    · rw [if_pos h1] at h
      have e : i.toNat = j := Option.some.inj h
      exact ⟨by rw [seqIndex_of h0 h1, e], by omega, by omega, h1⟩
    · rw [if_neg h1] at h; cases h
  · rw [if_neg h0] at h
    by_cases h1 : -(n : Int) ≤ i
    · rw [if_pos h1] at h
      have e : (i + n).toNat = j := Option.some.inj h
      exact ⟨by rw [seqIndex_neg (by omega) h1, e], by omega, h1, by omega⟩
    · rw [if_neg h1] at h; cases h
theorem atI_get {α : Type} {xs : List α} {i : Int} {v : α} (h : atI xs i = some v) : ∃ j, seqIndex? i xs.length = some j ∧ xs[j]? = some v ∧ j < xs.length ∧ -(xs.length : Int) ≤ i ∧ i < xs.length := by
  unfold atI at h
  cases e : ixN xs.length i with
  | none => rw [e] at h; cases h
  | some j =>
    rw [e] at h
    obtain ⟨h1, h2, h3, h4⟩ := ixN_seq e
    exact ⟨j, h1, h, h2, h3, h4⟩
def PlainIx (b : Expr) : Prop := ∀ o i, subscripted b false o i = operate [o, i] (getItem o i)
def IxR (X : Cx) (r : R2) : Prop :=
  ∀ (value slice : Expr) (pins : List (Addr × Obj)) (s : Shared) (σ : St) (H : Hp) (x y : V) (v u : Value) (Q : VK), Inv X pins σ H s → RelV x v → RelV y u → r x y H Q →
    subscripted slice false v u = operate [v, u] (getItem v u) → wpAny (model X.prog X.w) X.A (subscriptTail value slice v u) (EP X pins σ Q) X.xe s
def MtR (X : Cx) (id : String) (r : V → List V → Hp → VK → Prop) : Prop :=
  ∀ (pins : List (Addr × Obj)) (s : Shared) (σ : St) (H : Hp) (x : V) (xs : List V) (v : Value) (us : List Value) (Q : VK), Inv X pins σ H s → RelV x v → Vals xs us → r x xs H Q →
    wpAny (model X.prog X.w) X.A (call (.builtin id) (v :: us)) (EP X pins σ Q) X.xe s
section
variable {X : Cx} {a b : Expr} {ta tb : TE} {pos : Pos}
theorem IxR.or {r r' : R2} (h : IxR X r) (h' : IxR X r') : IxR X (fun x y H Q => r x y H Q ∨ r' x y H Q) := by
  intro value slice pins s σ H x y v u Q I rx ry q hs
  rcases q with q | q
  · exact h value slice pins s σ H x y v u Q I rx ry q hs
  · exact h' value slice pins s σ H x y v u Q I rx ry q hs
theorem pe_ix {r : R2} (hr : IxR X r) (ha : PE X a ta) (hb : PE X b tb) (hs : PlainIx b) : PE X (.Subscript a b pos) (tOp r ta tb) := by
  intro pins s σ H Q I h
  exact Subscript_ (binT ha hb I h fun v u s2 x y H2 I2 rx ry q => hr a b pins s2 σ H2 x y v u Q I2 rx ry q (hs _ _))
def rIxL (K : PySem.W.Frag) : R2 := fun x y H Q => ∃ p xs i v, x = .ref p ∧ y = .int i ∧ SqL K H p xs ∧ atI xs i = some v ∧ Q v H
def rIxT (K : PySem.W.Frag) : R2 := fun x y H Q => ∃ p xs i v, x = .ref p ∧ y = .int i ∧ SqT K H p xs ∧ atI xs i = some v ∧ Q v H
theorem ix_list : IxR X (rIxL X.K) := by
  intro value slice pins s σ H x y v u Q I rx ry h hs
  obtain ⟨p, xs, i, z, rfl, rfl, hq, he, q⟩ := h
  cases rx
  obtain ⟨t, rfl⟩ := ry
  obtain ⟨its, r, pl, hz⟩ := I.list hq
  obtain ⟨j, h1, h2, h3, h4, h5⟩ := atI_get he
  obtain ⟨w, ew, rw'⟩ := r.get h2
  have hl := r.length
  have hn := line63
  have fin : EP X pins σ Q w s := ⟨z, H, I, rw', q⟩
  by_cases h0 : 0 ≤ i
  · have hj : i.toNat = j := by
      rw [seqIndex_of h0 h5] at h1
      exact Option.some.inj h1
    exact item_listR pl.isList h0 (by omega) (by rw [hj]; simpa using ew) fin hs
  · have hj : (i + (its.toArray.size : Int)).toNat = j := by
      rw [seqIndex_neg (by omega) h4] at h1
      rw [List.size_toArray, ← hl]
      exact Option.some.inj h1
    exact subscriptTail_builtinR (x := w) pl.isList.typeIs slot_list_getitem.lookup
      (wpAny_getItem_list_neg (Q := fun r s' => r = w ∧ EP X pins σ Q r s') pl.isList (by omega) (by rw [List.size_toArray] <;> omega) (by omega) (by rw [hj]; simpa using ew) ⟨rfl, fin⟩) hs
theorem ix_tup : IxR X (rIxT X.K) := by
  intro value slice pins s σ H x y v u Q I rx ry h hs
  obtain ⟨p, xs, i, z, rfl, rfl, hq, he, q⟩ := h
  cases rx
  obtain ⟨t, rfl⟩ := ry
  obtain ⟨its, r, pl, hz⟩ := I.tuple hq
  obtain ⟨j, h1, h2, h3, h4, h5⟩ := atI_get he
  obtain ⟨w, ew, rw'⟩ := r.get h2
  have hl := r.length
  have hn := line63
  have fin : EP X pins σ Q w s := ⟨z, H, I, rw', q⟩
  exact subscriptTail_builtinR (x := w) pl.typeIs slot_tuple_getitem.lookup
    (getItem_tuple (j := j) (Q := fun r s' => r = w ∧ EP X pins σ Q r s') pl (by omega) (by omega) (by rw [List.size_toArray, ← hl]; exact h1) (by simpa using ew) ⟨rfl, fin⟩) hs
theorem mapSeq_set (its : List Value) (n j : Nat) (u : Value) : Obj.mapSeq (·.setIfInBounds j u) { cls := .type "list", data := .seq its.toArray n } = { cls := .type "list", data := .seq (its.set j u).toArray n } := by
  simp [Obj.mapSeq]
theorem Inv.lst {pins : List (Addr × Obj)} {σ : St} {H : Hp} {s : Shared} {p : Addr} {xs : List V} (I : Inv X pins σ H s) (h : H p = some (.lst xs)) :
    ∃ (its : List Value) (n : Nat), Vals xs its ∧ s.heap.get? p = some { cls := .type "list", data := .seq its.toArray n } ∧ xs.length ≤ sizeLine := by
  obtain ⟨z, its, n, r, e⟩ := I.hok p _ h
  exact ⟨its, n, r, e, z⟩
theorem Inv.lstUpd {pins : List (Addr × Obj)} {σ : St} {H : Hp} {s : Shared} {p : Addr} {xs ys : List V} {its its' : List Value} {n n' : Nat} {f : Obj → Obj} (I : Inv X pins σ H s) (h : H p = some (.lst xs))
    (ho : s.heap.get? p = some { cls := .type "list", data := .seq its.toArray n }) (hf : f { cls := .type "list", data := .seq its.toArray n } = { cls := .type "list", data := .seq its'.toArray n' }) (r : Vals ys its') (hz : ys.length ≤ sizeLine) (t : Nat) :
    Inv X pins σ (upd H p (.lst ys)) { s with heap := s.heap.update p f, toks := t } := by
  have e : (s.heap.update p f).get? p = some { cls := .type "list", data := .seq its'.toArray n' } := by
    rw [Heap.get?_update_self f ho (by rw [hf] <;> rfl), hf]
  refine I.write (x := p) (e := p) (by rw [h]; trivial) (.inl rfl) (fun b u hb q => (Heap.get?_update_other _ _ (Ne.symm hb)).trans q) ⟨_, e⟩ ?_
  exact ⟨hz, its', n', r, e⟩
def rSetL : V → V → V → Hp → (Hp → Prop) → Prop := fun o i v H Q => ∃ p xs k j, o = .ref p ∧ i = .int k ∧ H p = some (.lst xs) ∧ ixN xs.length k = some j ∧ Q (upd H p (.lst (xs.set j v)))
theorem set_list : PSet X rSetL := by
  intro pins s σ H o i v ov iv u Q I ro ri rv h
  obtain ⟨p, xs, k, j, rfl, rfl, hp, hj, q⟩ := h
  cases ro
  obtain ⟨t, rfl⟩ := ri
  obtain ⟨its, n, r, ho, hz⟩ := I.lst hp
  obtain ⟨h1, h2, h3, h4⟩ := ixN_seq hj
  have hl := r.length
  have hn := line63
  have I' : Inv X pins σ (upd H p (.lst (xs.set j v))) { s with heap := s.heap.update p (Obj.mapSeq (·.setIfInBounds j u)) } :=
    I.lstUpd hp ho (mapSeq_set its n j u) (r.set rv j) (by rw [List.length_set]; exact hz) s.toks
  by_cases h0 : 0 ≤ k
  · have hk : k.toNat = j := by
      rw [seqIndex_of h0 h4] at h1
      exact Option.some.inj h1
    exact PySem.W.ki_setAt ho h0 (by omega) (by rw [List.size_toArray, ← hl]; exact h4) (by rw [hk]; exact ⟨_, I', q⟩)
  · have hk : (k + (its.toArray.size : Int)).toNat = j := by
      rw [seqIndex_neg (by omega) h3] at h1
      rw [List.size_toArray, ← hl]
      exact Option.some.inj h1
    exact PySem.W.ki_setBack ho (by omega) (by rw [List.size_toArray, ← hl]; exact h3) (by omega) (by rw [hk]; exact ⟨_, I', q⟩)
theorem slice_bounds (lo hi : Option Int) (n : Nat) : (sliceBounds lo hi none n).1 = ((HT.sIx n 0 lo : Nat) : Int) ∧ (sliceBounds lo hi none n).2.1 = ((HT.sIx n n hi : Nat) : Int) ∧ (sliceBounds lo hi none n).2.2 = 1 := by
  refine ⟨?_, ?_, rfl⟩
  · cases lo with
    | none => simp [sliceBounds, HT.sIx]
    | some i =>
      simp only [sliceBounds, HT.sIx, Option.getD_none, show (1 : Int) > 0 by decide, if_true]
      by_cases h : i < 0
      · simp only [h, if_true] <;> omega
      · simp only [h, if_false] <;> omega
  · cases hi with
    | none => simp [sliceBounds, HT.sIx]
    | some i =>
      simp only [sliceBounds, HT.sIx, Option.getD_none, show (1 : Int) > 0 by decide, if_true]
      by_cases h : i < 0
      · simp only [h, if_true] <;> omega
      · simp only [h, if_false] <;> omega
theorem slicePick_cut (its : List Value) (lo hi : Option Int) : slicePick its.toArray lo hi none = ((its.drop (HT.sIx its.length 0 lo)).take (HT.sIx its.length its.length hi - HT.sIx its.length 0 lo)).toArray := by
  obtain ⟨h1, h2, h3⟩ := slice_bounds lo hi its.toArray.size
  unfold slicePick
  rw [h1, h2, h3]
  simp only [sliceRange_one, pick_run, List.size_toArray] <;> rfl
def rSlL (K : PySem.W.Frag) : V → Option Int → Option Int → Hp → VK → Prop := fun x lo hi H Q => ∃ a xs, x = .ref a ∧ SqL K H a xs ∧ ∀ p, H p = none → Q (.ref p) (upd H p (.lst (cutV xs lo hi)))
theorem sl_list : SlR X (rSlL X.K) := by
  intro pins s σ H x v vl vu lo hi sl Q I rx hs pl pu h
  obtain ⟨a, xs, rfl, hx, q⟩ := h
  cases rx
  obtain ⟨its, r, ht, hz⟩ := I.list hx
  have hlen := r.length
  refine ⟨"list", _, slot_list_getitem.lookup, ht.isList.typeIs, ?_⟩
  refine wpAny_getItem_list_slice ht.isList hs pl pu .none (by simp) ?_ (by rw [List.size_toArray] <;> omega)
  rw [slicePick_cut, ← hlen]
  refine ⟨.ref s.heap.objs.size, _, I.laid (t' := s.toks) (o := .lst (cutV xs lo hi)) (fun b ob q => Heap.get?_push_of_some _ q) (Nat.le_refl _) ?_, rfl, q _ (I.hok.fresh (Nat.le_refl _))⟩
  exact ⟨Nat.le_trans (cutV_length xs lo hi) hz, _, 0, (r.drop (HT.sIx xs.length 0 lo)).take (HT.sIx xs.length xs.length hi - HT.sIx xs.length 0 lo), Heap.get?_push_size _ rfl⟩
theorem call_len_seq : CallR X (.builtin "len") (fun xs H Q => ∃ p ys, xs = [.ref p] ∧ (SqL X.K H p ys ∨ SqT X.K H p ys) ∧ Q (.int ys.length) H) := by
  intro pins s σ H xs us Q I r h
  obtain ⟨p, ys, rfl, hq, q⟩ := h
  obtain ⟨u, rfl, rx⟩ := vals1 r
  cases rx
  have hn := line63
  rcases hq with hq | hq
  · obtain ⟨its, r', pl, hz⟩ := I.list hq
    have hlen := r'.length
    exact Calls.call_len_list pl.isList (by simp only [List.size_toArray] <;> omega) ⟨.int ys.length, H, I.tok _, ⟨s.toks + 1, by rw [List.size_toArray, hlen]⟩, q⟩
  · obtain ⟨its, r', pl, hz⟩ := I.tuple hq
    have hlen := r'.length
    exact len_tuple pl (by simp only [List.size_toArray] <;> omega) ⟨.int ys.length, H, I.tok _, ⟨s.toks + 1, by rw [List.size_toArray, hlen]⟩, q⟩
theorem call_len_str : CallR X (.builtin "len") (fun xs H Q => ∃ z, xs = [.str z] ∧ z.length ≤ sizeLine ∧ Q (.int z.length) H) := by
  intro pins s σ H xs us Q I r h
  obtain ⟨z, rfl, hz, q⟩ := h
  obtain ⟨u, rfl, t, rfl⟩ := vals1 r
  have hn := line63
  exact len_str (by omega) ⟨.int z.length, H, I.tok _, ⟨_, rfl⟩, q⟩
theorem CallR.or {f : Value} {r r' : List V → Hp → VK → Prop} (h : CallR X f r) (h' : CallR X f r') : CallR X f (fun xs H Q => r xs H Q ∨ r' xs H Q) := by
  intro pins s σ H xs us Q I rs q
  rcases q with q | q
  · exact h pins s σ H xs us Q I rs q
  · exact h' pins s σ H xs us Q I rs q
theorem call_list_of : CallR X (.type "list") (fun xs H Q => ∃ p ys, xs = [.ref p] ∧ (SqL X.K H p ys ∨ SqT X.K H p ys) ∧ ∀ l, H l = none → Q (.ref l) (upd H l (.lst ys))) := by
  intro pins s σ H xs us Q I r h
  obtain ⟨p, ys, rfl, hq, q⟩ := h
  obtain ⟨u, rfl, rx⟩ := vals1 r
  cases rx
  have fin : ∀ (its : List Value), Vals ys its → ys.length ≤ sizeLine → ∀ (h' : Heap) (c' : Nat), (∀ b o', s.heap.get? b = some o' → h'.get? b = some o') →
      h'.get? s.heap.objs.size = some { cls := .type "list", dict := none, data := .seq its.toArray c', slots := #[] } → EP X pins σ Q (.ref s.heap.objs.size) { s with heap := h' } := fun its r' hz h' c' kp e =>
    ⟨.ref s.heap.objs.size, _, I.laid (t' := s.toks) kp (Nat.le_refl _) (show ObjOk X.prog X.w _ h' _ (.lst ys) from ⟨hz, its, c', r', e⟩), rfl, q _ (I.hok.fresh (Nat.le_refl _))⟩
  rcases hq with hq | hq
  · obtain ⟨its, r', pl, hz⟩ := I.list hq
    have hlen := r'.length
    obtain ⟨o, ho, hc, n, hd⟩ := pl.isList
    exact call_list_seq p (.inl rfl) ho hc hd (fun h' c' kp e => fin its r' hz h' c' kp e) (by simp only [List.size_toArray] <;> omega)
  · obtain ⟨its, r', pl, hz⟩ := I.tuple hq
    have hlen := r'.length
    obtain ⟨o, ho, hc, n, hd⟩ := pl
    exact call_list_seq p (.inr rfl) ho hc hd (fun h' c' kp e => fin its r' hz h' c' kp e) (by simp only [List.size_toArray] <;> omega)
theorem call_tuple_of : CallR X (.type "tuple") (fun xs H Q => ∃ p ys, xs = [.ref p] ∧ ((SqL X.K H p ys ∧ ∀ l, H l = none → Q (.ref l) (upd H l (.tup ys))) ∨ (SqT X.K H p ys ∧ Q (.ref p) H))) := by
  intro pins s σ H xs us Q I r h
  obtain ⟨p, ys, rfl, h⟩ := h
  obtain ⟨u, rfl, rx⟩ := vals1 r
  cases rx
  rcases h with ⟨hq, q⟩ | ⟨hq, q⟩
  · obtain ⟨its, r', pl, hz⟩ := I.list hq
    have hlen := r'.length
    refine call_tuple_list pl.isList (fun h' kp => ?_) (by simp only [List.size_toArray] <;> omega)
    have I1 : Inv X pins σ H { s with heap := h' } := I.kept (t' := s.toks) kp
    have I2 : Inv X pins σ (upd H h'.objs.size (.tup ys)) { s with heap := h'.push { cls := .type "tuple", data := .seq its.toArray } } :=
      I1.laid (t' := s.toks) (fun b o e => Heap.get?_push_of_some _ e) (Nat.le_refl _) (show ObjOk X.prog X.w _ _ _ (.tup ys) from ⟨hz, its, r', IsTup.new _ _⟩)
    exact ⟨.ref h'.objs.size, _, I2, rfl, q _ (I1.hok.fresh (Nat.le_refl _))⟩
  · obtain ⟨its, r', pl, hz⟩ := I.tuple hq
    exact call_tuple_same pl ⟨.ref p, H, I, rfl, q⟩
def tyV (K : PySem.W.Frag) (T : String) (x : V) (H : Hp) : Prop := match x with
  | .str _ => T = "str"
  | .int _ => T = "int"
  | .ref p => (T = "list" ∧ ∃ xs, SqL K H p xs) ∨ (T = "tuple" ∧ ∃ o, K.lookup p = some o ∧ o.cls = .type "tuple" ∧ o.dict = none) ∨
      (T = "dict" ∧ ((∃ kvs, H p = some (.dK kvs)) ∨ ∃ kvs, H p = some (.dT kvs))) ∨ (T = "set" ∧ ∃ S n, H p = some (.set S n))
  | _ => False
theorem tyV_is {pins : List (Addr × Obj)} {σ : St} {H : Hp} {s : Shared} {T : String} {x : V} {v : Value} (I : Inv X pins σ H s) (r : RelV x v) (ty : tyV X.K T x H) :
    s.TypeIs v T ∧ ∀ a, v = .ref a → ∃ ob, s.heap.get? a = some ob ∧ ob.dict = none := by
  cases x with
  | str z =>
    obtain ⟨t, rfl⟩ := r
    cases (show T = "str" from ty)
    exact ⟨typeIs_str s z t, fun _ e => nomatch e⟩
  | int i =>
    obtain ⟨t, rfl⟩ := r
    cases (show T = "int" from ty)
    exact ⟨typeIs_int s i t, fun _ e => nomatch e⟩
  | ref p =>
    cases r
    rcases ty with ⟨rfl, xs, hq⟩ | ⟨rfl, o, hk, hc, hd⟩ | ⟨rfl, hk⟩ | ⟨rfl, S, n, hk⟩
    · obtain ⟨its, _, pl, _⟩ := I.list hq
      refine ⟨pl.isList.typeIs, fun a e => ?_⟩
      cases e
      obtain ⟨o, n, e, c, hd, _⟩ := pl
      exact ⟨o, e, hd⟩
    · refine ⟨⟨o, I.kIn p o hk, hc⟩, fun a e => ?_⟩
      cases e
      exact ⟨o, I.kIn _ o hk, hd⟩
    · have z : ∃ o, s.heap.get? p = some o ∧ o.ExactDict := by
        rcases hk with ⟨kvs, hk⟩ | ⟨kvs, hk⟩
        · obtain ⟨_, _, _, _, o, _, _, e, ex, _⟩ := I.hok p _ hk
          exact ⟨o, e, ex⟩
        · obtain ⟨_, _, _, _, o, _, _, e, ex, _⟩ := I.hok p _ hk
          exact ⟨o, e, ex⟩
      obtain ⟨o, e, ex⟩ := z
      refine ⟨⟨o, e, ex.1⟩, fun a e2 => ?_⟩
      cases e2
      exact ⟨o, e, ex.2.1⟩
    · obtain ⟨o, _, _, _, e, ex, _⟩ := I.hok p _ hk
      refine ⟨⟨o, e, ex.1⟩, fun a e2 => ?_⟩
      cases e2
      exact ⟨o, e, ex.2.1⟩
  | _ => exact False.elim ty
def tBM (K : PySem.W.Frag) (T : String) (r : V → List V → Hp → VK → Prop) (to : TE) (t : TA) : TE := fun σ H Q => to σ H fun x H1 => tyV K T x H1 ∧ t σ H1 fun xs H2 => r x xs H2 Q
variable {o e : Expr} {es : List Expr} {to : TE} {t : TA} {name : Str} {apos cpos : Pos} {T id : String} {r : V → List V → Hp → VK → Prop}
theorem pe_bm (pa : PlainAttrs T) (slot : Slot T name id) (hty : typeOf (.builtin id) = pure (.type "method_descriptor")) (hm : MtR X id r) (ho : PE X o to) (ha : PA X (e :: es) t)
    (hbase : attributeBase o name X.env (eval o X.env) = eval o X.env := by rfl)
    (hfew : ((backTo cpos (starEach (e :: es) X.env)).all (fun x => !x.1) && (backToKw cpos (keywordEach [] X.env)).all (fun x => x.1.isSome)
      && decide ((e :: es).length + ([] : List Keyword).length + (if ([] : List Keyword).isEmpty then 0 else 1) < 30)) = true := by rfl)
    (hline : (apos.endLine == cpos.line) = true := by rfl) (hs : starEach (e :: es) X.env = (false, eval e X.env) :: starEach es X.env := by rfl) (hplain : (backTo cpos (starEach es X.env)).any (·.1) = false := by rfl) :
    PE X (.Call (.Attribute o name apos) (e :: es) [] cpos) (tBM X.K T r to t) := by
  intro pins s σ H Q I h
  refine wpAny_Call_method_late hbase hfew hline rfl (thn (ho pins s σ H _ I h) fun v s1 ⟨x, H1, I1, r1, ty, q1⟩ => ?_)
  obtain ⟨h1, h2⟩ := tyV_is I1 r1 ty
  refine ⟨T, id, pa, slot, hty, h1, h2, ?_⟩
  have hA := ha cpos pins s1 σ H1 _ I1 q1
  rw [hs] at hA ⊢
  refine Calls.callWith_builtin (by show (false || (backTo cpos (starEach es X.env)).any (·.1)) = false; rw [hplain] <;> rfl) (Calls.evalArgs_plain ?_)
  exact thn hA fun us s2 ⟨vs, H2, I2, r2, q2⟩ => hm pins s2 σ H2 x vs v us Q I2 r1 r2 q2
/- xs.append(e), list.index on a module's tuple .. are MtR facts of 06m -/
end
end L2
namespace L2
open PySem PySem.Spec PyProof.Rows
def MtM (X : Cx) (id : String) (r : V → List V → Hp → VK → Prop) : Prop :=
  ∀ (pins : List (Addr × Obj)) (s : Shared) (σ : St) (H : Hp) (x : V) (xs : List V) (v : Value) (us : List Value) (Q : VK), Inv X pins σ H s → RelV x v → Vals xs us → r x xs H Q →
    wpAny (model X.prog X.w) X.A (call (.builtin id) (v :: us)) (EP X pins σ Q) X.xe s
theorem Vals.one : ∀ {x : V} {us : List Value}, Vals [x] us → ∃ u, us = [u] ∧ RelV x u
  | _, _, .cons r .nil => ⟨_, rfl, r⟩
theorem Vals.eraseIdx : ∀ {xs : List V} {us : List Value} (i : Nat), Vals xs us → Vals (xs.eraseIdx i) (us.eraseIdx i)
  | _, _, _, .nil => .nil
  | _, _, 0, .cons _ t => t
  | _, _, i + 1, .cons r t => .cons r (Vals.eraseIdx i t)
theorem Vals.reverse {xs : List V} {us : List Value} (h : Vals xs us) : Vals xs.reverse us.reverse := by
  induction h with
  | nil => exact .nil
  | cons r t ih => rw [List.reverse_cons, List.reverse_cons]; exact Vals.append ih (.cons r .nil)
theorem len_erase {α : Type} : ∀ (l : List α) (i : Nat), (l.eraseIdx i).length ≤ l.length
  | [], _ => Nat.le_refl _
  | _ :: _, 0 => Nat.le_succ _
  | _ :: r, i + 1 => Nat.succ_le_succ (len_erase r i)
section
variable {X : Cx} {pins : List (Addr × Obj)} {σ : St} {H : Hp} {s : Shared} {l b : Addr} {xs ys zs : List V}
theorem Inv.lset {its its' : List Value} {n : Nat} {f : Array Value → Array Value} {t' : Nat} (I : Inv X pins σ H s) (hH : H l = some (.lst xs))
    (e : s.heap.get? l = some { cls := .type "list", data := .seq its.toArray n }) (hf : f its.toArray = its'.toArray) (hv : Vals ys its') (hz : ys.length ≤ sizeLine) :
    Inv X pins σ (upd H l (.lst ys)) { s with heap := s.heap.update l (Obj.mapSeq f), toks := t' } := by
  have q := PySem.IsL.update e f
  rw [hf] at q
  refine I.write (x := l) (e := l) (by rw [hH]; exact trivial) (.inl rfl) (fun b' u hb hu => (Heap.get?_update_other s.heap (Obj.mapSeq f) (Ne.symm hb)).trans hu) ⟨_, q⟩ ?_
  exact ⟨hz, its', _, hv, q⟩
theorem Inv.lnew {its : List Value} {t' : Nat} (I : Inv X pins σ H s) (hv : Vals ys its) (hz : ys.length ≤ sizeLine) :
    Inv X pins σ (upd H s.heap.objs.size (.lst ys)) { s with heap := s.heap.push { cls := .type "list", data := .seq its.toArray }, toks := t' } :=
  I.laid (fun _ _ q => Heap.get?_push_of_some _ q) (Nat.le_refl _) ⟨hz, its, 0, hv, Heap.get?_push_size _ rfl⟩
theorem Inv.fresh (I : Inv X pins σ H s) : H s.heap.objs.size = none := I.hok.fresh (Nat.le_refl _)
theorem Inv.lstM (I : Inv X pins σ H s) (hH : H l = some (.lst xs)) : xs.length ≤ sizeLine ∧ ∃ (its : List Value) (n : Nat), Vals xs its ∧ xs.length = its.length ∧ s.heap.get? l = some { cls := .type "list", data := .seq its.toArray n } := by
  obtain ⟨z, its, n, r, e⟩ := I.hok l _ hH
  exact ⟨z, its, n, r, r.length, e⟩
theorem notLongL {n : Nat} (h : n ≤ sizeLine) : Builtin.List.listTooLong n = false := by
  unfold Builtin.List.listTooLong
  exact decide_eq_false (by omega)
end
section
variable {X : Cx}
def rAppend : V → List V → Hp → VK → Prop := fun x vs H Q => ∃ l xs y, x = .ref l ∧ vs = [y] ∧ H l = some (.lst xs) ∧ xs.length < sizeLine ∧ Q .non (upd H l (.lst (xs ++ [y])))
theorem mt_append : MtM X "list.append" rAppend := by
  intro pins s σ H x vs v us Q I rx rv h
  obtain ⟨l, xs, y, rfl, rfl, hH, hz, q⟩ := h
  cases rx
  obtain ⟨u, rfl, ru⟩ := rv.one
  obtain ⟨z, its, n, r, hl, e⟩ := I.lstM hH
  refine call_meets F.slot_list_append ⟨_, e, rfl⟩ F.entry_list_append (F.args_list_append_2 _ _) (PySem.list_append l its.toArray n u (by rw [List.size_toArray]; omega)) ⟨e, ?_⟩
  refine ⟨.non, _, I.lset (its' := its ++ [u]) hH e (by simp) (r.append (.cons ru .nil)) ?_, rfl, q⟩
  rw [List.length_append, List.length_singleton]
  omega
def rExtend : V → List V → Hp → VK → Prop := fun x vs H Q => ∃ l b xs zs, x = .ref l ∧ vs = [.ref b] ∧ H l = some (.lst xs) ∧ H b = some (.lst zs) ∧ xs.length + zs.length ≤ sizeLine ∧ Q .non (upd H l (.lst (xs ++ zs)))
theorem mt_extend : MtM X "list.extend" rExtend := by
  intro pins s σ H x vs v us Q I rx rv h
  obtain ⟨l, b, xs, zs, rfl, rfl, hH, hB, hz, q⟩ := h
  cases rx
  obtain ⟨u, rfl, ru⟩ := rv.one
  cases ru
  obtain ⟨z, its, n, r, hl, e⟩ := I.lstM hH
  obtain ⟨z2, its2, n2, r2, hl2, e2⟩ := I.lstM hB
  have hsz : its.toArray.size + its2.toArray.size ≤ sizeLine := by rw [List.size_toArray, List.size_toArray]; omega
  have hlong : ¬ (!its.toArray.isEmpty && Builtin.List.listTooLong (its.toArray.size + its2.toArray.size)) = true := by
    rw [notLongL hsz, Bool.and_false]
    exact Bool.false_ne_true
  refine call_meets F.slot_list_extend ⟨_, e, rfl⟩ F.entry_list_extend (F.args_list_extend_2 _ _)
    (AutoSeq1.list_extend_list_list_0 l its.toArray n b its2.toArray n2 hlong (by rw [List.size_toArray]; omega) (by omega)) ⟨e, e2, ?_⟩
  refine ⟨.non, _, I.lset (its' := its ++ its2) hH e (by simp) (r.append r2) ?_, rfl, q⟩
  rw [List.length_append]
  omega
def rPopAt : V → List V → Hp → VK → Prop := fun x vs H Q => ∃ l xs i k y, x = .ref l ∧ vs = [.int i] ∧ H l = some (.lst xs) ∧ -(2 ^ 63) ≤ i ∧ i < 2 ^ 63 ∧ seqIndex? i xs.length = some k ∧ xs[k]? = some y ∧ Q y (upd H l (.lst (xs.eraseIdx k)))
theorem mt_popAt : MtM X "list.pop" rPopAt := by
  intro pins s σ H x vs v us Q I rx rv h
  obtain ⟨l, xs, i, k, y, rfl, rfl, hH, h1, h2, hk, hy, q⟩ := h
  cases rx
  obtain ⟨u, rfl, ru⟩ := rv.one
  obtain ⟨t, rfl⟩ := ru
  obtain ⟨z, its, n, r, hl, e⟩ := I.lstM hH
  obtain ⟨w, hw, rw'⟩ := r.get hy
  refine call_meets F.slot_list_pop ⟨_, e, rfl⟩ F.entry_list_pop (F.args_list_pop_2 _ _)
    (MeetsSeq.list_pop_at l its.toArray n i t k w (fitsIndex_both h1 h2) (by rw [List.size_toArray, ← hl]; exact hk) (by rw [← Array.getElem?_toList]; exact hw) (by rw [List.size_toArray]; omega)) ⟨e, ?_⟩
  refine ⟨y, _, I.lset (its' := its.eraseIdx k) hH e ?_ (r.eraseIdx k) ?_, rw', q⟩
  · show its.toArray.eraseIdxIfInBounds k = (its.eraseIdx k).toArray
    rw [List.eraseIdxIfInBounds_toArray]
  · have := len_erase xs k
    omega
def rCat : R2 := fun x y H Q => ∃ l b xs zs, x = .ref l ∧ y = .ref b ∧ H l = some (.lst xs) ∧ H b = some (.lst zs) ∧ xs.length + zs.length ≤ sizeLine ∧ ∀ p, H p = none → Q (.ref p) (upd H p (.lst (xs ++ zs)))
theorem op_cat : OpR X (binaryOp .Add) rCat := by
  intro pins s σ H x y v u Q I rx ry h
  obtain ⟨l, b, xs, zs, rfl, rfl, hH, hB, hz, q⟩ := h
  cases rx
  cases ry
  obtain ⟨z, its, n, r, hl, e⟩ := I.lstM hH
  obtain ⟨z2, its2, n2, r2, hl2, e2⟩ := I.lstM hB
  refine PySem.P.add_list e e2 ?_ (by rw [List.size_toArray, List.size_toArray]; omega)
  have ea : its.toArray ++ its2.toArray = (its ++ its2).toArray := by simp
  rw [ea]
  exact ⟨.ref _, _, I.lnew (t' := s.toks) (r.append r2) (by rw [List.length_append]; omega), rfl, q _ I.fresh⟩
end
section
variable {prog : Program} {w : World} {A : Around} {E : Value → Shared → Prop} {s : Shared}
end
section
variable {X : Cx}
end
end L2
namespace L2
open PySem PySem.Spec PyProof.Rows
section
variable {κ : Type} [DecidableEq κ]
def valV (kvs : List (κ × V)) (k : κ) : Option V := (kvs.find? fun kv => decide (kv.1 = k)).map (·.2)
theorem valV_pos {p : κ × V} {r : List (κ × V)} {k : κ} (e : p.1 = k) : valV (p :: r) k = some p.2 := by simp [valV, List.find?_cons, e]
theorem valV_neg {p : κ × V} {r : List (κ × V)} {k : κ} (e : ¬ p.1 = k) : valV (p :: r) k = valV r k := by simp [valV, List.find?_cons, e]
theorem KV.val {kvs : List (κ × V)} {vs : List (κ × Value)} (r : KV kvs vs) (k : κ) : RelO (valV kvs k) (valueAt vs k) := by
  unfold KV at r
  induction r with
  | nil => exact True.intro
  | @cons p q ps qs h t ih =>
    obtain ⟨h1, h2⟩ := h
    by_cases e : p.1 = k
    · have e' : q.1 = k := h1.symm.trans e
      have b : valueAt (q :: qs) k = some q.2 := by simp [valueAt, List.find?_cons, e']
      rw [valV_pos e, b]; exact h2
    · have e' : ¬ q.1 = k := fun z => e (h1.trans z)
      have b : valueAt (q :: qs) k = valueAt qs k := by simp [valueAt, List.find?_cons, e']
      rw [valV_neg e, b]; exact ih
theorem KV.length {kvs : List (κ × V)} {vs : List (κ × Value)} (r : KV kvs vs) : kvs.length = vs.length := Paired.length r
end
theorem kV_is {P : Program} {w : World} {k : Key} {u : Value} (r : RelV (kV k) u) : (mixKind P w).is k u = true := by
  cases k with
  | inl i => obtain ⟨t, e⟩ := (show ∃ t, u = Value.int i t from r); subst e; exact mixKind_int P w i t
  | inr x => obtain ⟨t, e⟩ := (show ∃ t, u = Value.str x t from r); subst e; exact mixKind_str P w x t
abbrev KT (H : Hp) : List (List Im × V) → List (List Im × Addr × Value) → Prop := Paired fun p q => p.1 = q.1 ∧ KAd H p.1 q.2.1 ∧ RelV p.2 q.2.2
theorem KT.val {H : Hp} {kvs : List (List Im × V)} {xs : List (List Im × Addr × Value)} (r : KT H kvs xs) (k : List Im) : RelO (valV kvs k) ((atKey xs k).map (·.2)) := by
  induction r with
  | nil => exact True.intro
  | @cons p q ps qs h t ih =>
    obtain ⟨h1, _, h2⟩ := h
    by_cases e : p.1 = k
    · have e' : q.1 = k := h1.symm.trans e
      have b : atKey (q :: qs) k = some q.2 := by simp [atKey, List.find?_cons, e']
      rw [valV_pos e, b]; exact h2
    · have e' : ¬ q.1 = k := fun z => e (h1.trans z)
      have b : atKey (q :: qs) k = atKey qs k := by simp [atKey, List.find?_cons, e']
      rw [valV_neg e, b]; exact ih
section
variable {P : Program} {w : World} {H : Hp} {h : Heap} {a : Addr}
theorem rd_of {u : HO} (ok : HOk P w H h) (e : Rd H a u) : ObjOk P w H h a u := e.ok ok
theorem dk_rd {kvs : List (Key × V)} (ok : HOk P w H h) (e : Rd H a (.dK kvs)) : kvs.length ≤ sizeLine ∧ (a == sysModules) = false ∧ ∃ vs, KV kvs vs ∧ h.DictOf (mixKind P w) a vs :=
  show ObjOk P w H h a (.dK kvs) from rd_of ok e
mutual
theorem IsI.imv (ok : HOk P w H h) : ∀ {d : Im} {v : V} {u : Value}, IsI H d v → RelV v u → ImV h d u
  | .non, _, _, e, r => by cases (show _ = V.non from e); exact r
  | .bl b, _, _, e, r => by cases (show _ = V.bl b from e); exact r
  | .int i, _, _, e, r => by cases (show _ = V.int i from e); exact r
  | .str x, _, _, e, r => by cases (show _ = V.str x from e); exact r
  | .fn a, _, _, e, r => by cases (show _ = V.ref a from e); exact r
  | .tup ds, _, _, e, r => by
    obtain ⟨a, xs, rfl, h1, h2⟩ := e
    cases r
    obtain ⟨_, its, rv, o, g1, g2, n, g3⟩ := (show ObjOk P w H h a (.tup xs) from ok a _ h1)
    exact ⟨a, o, its.toArray, n, rfl, g1, g2, g3, by simpa using IsIs.imv ok h2 rv⟩
  | .fl ds, _, _, e, r => by
    obtain ⟨a, xs, o, rfl, h1, h2⟩ := e
    cases r
    exact ⟨a, rfl⟩
theorem IsIs.imv (ok : HOk P w H h) : ∀ {ds : List Im} {vs : List V} {us : List Value}, IsIs H ds vs → Vals vs us → ImVs h ds us
  | [], _, _, e, r => by cases (show _ = [] from e); cases r; rfl
  | d :: ds, _, _, e, r => by
    obtain ⟨v, t, rfl, h1, h2⟩ := e
    cases r with
    | cons r1 r2 => exact ⟨_, _, rfl, IsI.imv ok h1 r1, IsIs.imv ok h2 r2⟩
end
theorem key_of {ks : List Im} (ok : HOk P w H h) (e : KAd H ks a) : (imKind P w).is h ks a := ⟨e.1, e.2.imv ok rfl⟩
theorem im_room_in1 {P : Program} {w : World} {A : Around} (h : A.units + 20 < cLine) : (imKind P w).room A.in1 := show A.units + 1 + 10 < cLine by omega
theorem dt_rd {kvs : List (List Im × V)} (ok : HOk P w H h) (e : Rd H a (.dT kvs)) : kvs.length ≤ sizeLine ∧ (a == sysModules) = false ∧
    ∃ xs, KT H kvs xs ∧ h.DictOfH (imKind P w) a xs := by
  obtain ⟨z, y, xs, r, o, es, ep, h1, h2, h3, h4, h5⟩ := (show ObjOk P w H h a (.dT kvs) from rd_of ok e)
  refine ⟨z, y, xs, r, o, es, ep, h1, h2, h3, h4, fun x hx => ?_, h5⟩
  have all : ∀ {l : List (List Im × V)} {m : List (List Im × Addr × Value)}, KT H l m → ∀ x ∈ m, (imKind P w).is h x.1 x.2.1 := by
    intro l m q
    induction q with
    | nil => intro x hx; exact nomatch hx
    | @cons p q ps qs hq t ih =>
      intro x hx
      rcases List.mem_cons.mp hx with e | hx
      · subst e
        exact key_of ok (by rw [← hq.1]; exact hq.2.1)
      · exact ih x hx
  exact all r x hx
end
def DGet (H : Hp) (a : Addr) (y : V) (r : Option V) : Prop :=
  (∃ kvs k, Rd H a (.dK kvs) ∧ y = kV k ∧ r = valV kvs k) ∨ ∃ kvs k b, Rd H a (.dT kvs) ∧ y = .ref b ∧ KAd H k b ∧ r = valV kvs k
theorem DGet.k {H : Hp} {a : Addr} {kvs : List (Key × V)} {k : Key} (e : H a = some (.dK kvs)) : DGet H a (kV k) (valV kvs k) := .inl ⟨kvs, k, .inl e, rfl, rfl⟩
theorem DGet.t {H : Hp} {a b : Addr} {kvs : List (List Im × V)} {k : List Im} (e : H a = some (.dT kvs)) (eb : KAd H k b) : DGet H a (.ref b) (valV kvs k) := .inr ⟨kvs, k, b, .inl e, rfl, eb, rfl⟩
section
variable {X : Cx} {pins : List (Addr × Obj)} {σ : St} {H : Hp} {s : Shared} {a : Addr} {y v : V} {u r : Value} {o : Option V} {A : Around} {E : Value → Shared → Prop}
theorem d_getItem {Q : Value → Shared → Prop} (hu : A.units + 20 < cLine) (I : Inv X pins σ H s) (g : DGet H a y (some v)) (ry : RelV y u) (h : ∀ w' s', Inv X pins σ H s' → RelV v w' → Q w' s') :
    wpAny (model X.prog X.w) A (getItem (.ref a) u) Q E s := by
  rcases g with ⟨kvs, k, e, ey, l⟩ | ⟨kvs, k, b, e, ey, eb, l⟩
  · subst ey
    obtain ⟨z, hd, vs, rel, dd⟩ := dk_rd I.hok e
    obtain ⟨w', hw, rw'⟩ := RelO.some_of (v := v) (o := valueAt vs k) (by rw [l]; exact rel.val k)
    exact wpAny_getItem_of (kV_is ry) dd.mapOf hw (h w' _ (I.tok _) rw')
  · subst ey
    cases (show u = Value.ref b from ry)
    obtain ⟨z, hd, xs, rel, dd⟩ := dt_rd I.hok e
    obtain ⟨w', hw, rw'⟩ := RelO.some_of (v := v) (o := (atKey xs k).map (·.2)) (by rw [l]; exact rel.val k)
    obtain ⟨p, hp, hp2⟩ := Option.map_eq_some_iff.mp hw
    refine wpAny_getItem_heap (im_room_in1 hu) (key_of I.hok eb) dd hp ?_
    rw [hp2]
    exact h w' _ (I.tok _) rw'
end
section
variable {X : Cx} {pins : List (Addr × Obj)} {σ : St} {H : Hp} {s : Shared} {a : Addr} {kvs : List (Key × V)} {k : Key} {u : Value} {A : Around} {E : Value → Shared → Prop}
theorem d_len {Q : Value → Shared → Prop} (I : Inv X pins σ H s) (e : Rd H a (.dK kvs)) (h : ∀ t s', Inv X pins σ H s' → Q (.int kvs.length t) s') : wpAny (model X.prog X.w) A (call (.builtin "len") [.ref a]) Q E s := by
  obtain ⟨z, hd, vs, rel, dd⟩ := dk_rd I.hok e
  refine call_len_dict hd dd (by rw [← rel.length]; rw [sizeLine_eq] at z; omega) ?_
  rw [← rel.length]
  exact h _ _ (I.tok _)
end
theorem dict_typeIs {X : Cx} {pins : List (Addr × Obj)} {σ : St} {H : Hp} {s : Shared} {a : Addr} {y : V} {o : Option V} (I : Inv X pins σ H s) (g : DGet H a y o) : s.TypeIs (.ref a) "dict" := by
  rcases g with ⟨kvs, k, e, _, _⟩ | ⟨kvs, k, b, e, _, _, _⟩
  · obtain ⟨_, _, vs, _, dd⟩ := dk_rd I.hok e
    exact dd.typeIs
  · obtain ⟨_, _, xs, _, dd⟩ := dt_rd I.hok e
    exact dd.typeIs
section
variable {X : Cx} {o i e value : Expr} {pos pos' tpos : Pos} {td ty tv : TE}
end
section
variable {X : Cx} {pos : Pos}
end
section
variable {X : Cx} {pins : List (Addr × Obj)} {σ : St} {H : Hp} {s : Shared} {a : Addr} {y d : V} {u r : Value} {o : Option V} {A : Around} {E : Value → Shared → Prop}
end
section
variable {X : Cx} {o e f : Expr} {apos cpos : Pos} {td ty tx : TE}
end
section
variable {X : Cx} {pins : List (Addr × Obj)} {σ : St} {H : Hp} {s : Shared} {a : Addr} {kvs : List (Key × V)} {A : Around} {E : Value → Shared → Prop}
end
section
variable {X : Cx} {pins : List (Addr × Obj)} {σ : St} {H : Hp} {s : Shared} {a : Addr} {y : V} {u : Value} {A : Around} {E : Value → Shared → Prop}
end
end L2
namespace Att
open PySem PySem.W PySem.Calls PyProof.Rows
theorem ints_of_wellAll {P : Params} {h : Heap} : ∀ (ns : List Int) (vs : List Value), WellAll P h vs (ns.map WData.int) → IntsAre vs ns := by
  intro ns
  induction ns with
  | nil =>
    intro vs w
    rw [List.map_nil] at w
    cases w
    exact .nil
  | cons n ns ih =>
    intro vs w
    rw [List.map_cons] at w
    cases w with
    | cons a b =>
      cases a
      exact .cons _ _ (ih _ b)
theorem script_of {l : OpenLaw} {n : Nat} (hn : l.most = some n) {P : Params} {h : Heap} {args : List WData} {vals : List Value}
    (hpre : l.row.toRowW.claim.pre args = true) (hwl : WellAll P h vals args) :
    ∃ a vs ns, vals = [Value.ref a] ∧ args = [WData.list (ns.map WData.int)] ∧ h.get? a = some { cls := .type "list", data := .seq vs.toArray } ∧ IntsAre vs ns ∧ ns.length ≤ n := by
  have hsh : WShape.hasAll [] args [.list .int] = true := (pre_splitW hpre).1
  have hc : l.pre.holds [] { args := args } = true := (pre_splitW hpre).2
  obtain ⟨d, r, rfl, h1, h2⟩ := hasAllW_cons hsh
  obtain rfl := hasAllW_nil h2
  obtain ⟨xs, rfl, h3⟩ := hasW_list h1
  obtain ⟨ns, rfl⟩ := items_int h3
  have hlen : ns.length ≤ n := by
    unfold OpenLaw.pre at hc
    have h4 : (WTm.not (.lt (.lit (.int (n : Int))) (.len (.arg 0)))).holds [] { args := [.list (ns.map .int)] } = true := by
      have h4 := (holds_andW hc).1
      rw [hn] at h4
      exact h4
    have h5 := condW_of h4 (w_not (w_lt w_lit (w_len_list (w_arg rfl))))
    rw [List.length_map] at h5
    refine Nat.le_of_not_lt fun q => ?_
    have q' : (n : Int) < ((ns.length : Nat) : Int) := by omega
    first
      | (rw [decide_eq_true q'] at h5; exact absurd h5 (by decide))
      | (simp at h5; omega)
  cases hwl with
  | cons w1 w2 =>
    cases w2
    cases w1 with
    | list ho hall => exact ⟨_, _, ns, rfl, rfl, ho, ints_of_wellAll ns _ hall, hlen⟩
theorem post_true (l : OpenLaw) (args : List WData) : l.row.toRowW.claim.post args (.bool true) args = true :=
  postW_of (r := l.row.toRowW) (X := (true == true))
    (show WShape.has [] (.bool true) .bool = true by first | rfl | decide | simp [WShape.has, WShape.arms, WShape.armsAll])
    (show (WTm.eq .res (.lit (.bool true))).value [] { args := args, res := some (.bool true), after := args } = some (.bool (true == true)) from w_eq_bool (w_res rfl) w_lit) rfl
theorem attach_call {l : OpenLaw} {n : Nat} {q : Program} {loose : List Str} {XP : (Str → Option Value) → Heap → Prop} {YP : World → Heap → Prop} {d : DefRec}
    (hn : l.most = some n) (hdf : d.params.defaults = [])
    (call : ∀ (w : World) (s₀ s₁ : Shared) (mg mb : Str → Option Value) (fa : Addr) (o : Obj) (pm cd doc : Value) (a : Addr) (vs : List Value) (ns : List Int),
      Ground q loose [] XP w s₀ mg mb s₁.heap → YP w s₁.heap →
      s₁.heap.get? fa = some o → o.data = .func (docDef d.name d.params d.body d.scope pm cd doc) → s₁.heap.CodeRec cd d.name → mg d.name = some (.ref fa) →
      s₁.heap.get? a = some { cls := .type "list", data := .seq vs.toArray } → IntsAre vs ns → ns.length ≤ n → s₁.gens = #[] →
      codeAny (model l.prog w) callerA (.call (.ref fa) ⟨[.ref a], []⟩) (fun r s' => r = .ok (.ret (.bool true)) ∧ OldK s₁.heap s'.heap ∧ s'.os = s₁.os ∧ AllBare s'.gens) s₁) :
    WalkO q loose XP YP l.row.toRowW d [] (fun f vs => PySem.call f vs) := by
  intro w s₀ s₁ mg mb G Y fa o pm cd doc dV kV ho hd hcd hD hmg hg args vals as hpre hlay hrd hwl hlo
  obtain rfl : dV = .none := Dflts.none hD hdf
  obtain rfl : kV = .none := Dflts.noKw hD
  obtain ⟨a, vs, ns, rfl, rfl, hobj, hints, hlen⟩ := script_of hn hpre hwl
  refine enter_call (codeAny_mono (call w s₀ s₁ mg mb fa o pm cd doc a vs ns G Y ho (fd_plain hd) hcd hmg hobj hints hlen hg) fun r s' hq => ?_)
  obtain ⟨rfl, h2, h3, h4⟩ := hq
  exact ⟨.inl ⟨.bool true, .bool true, [], rfl, fun _ => rfl, .bool true, post_true l _, fun _ => ⟨List.Pairwise.nil, fun _ hm => (nomatch hm)⟩⟩, h2, h3, h4⟩
section
variable {prog : Program} {w : World} {A : Around} {E : Value → Shared → Prop} {s : Shared} {K : Frag}
end
end Att
namespace L2
open PySem PySem.Spec PyProof.Rows
theorem vals_ints : ∀ {vs : List Value} {ns : List Int}, IntsAre vs ns → Vals (ns.map V.int) vs
  | _, _, .nil => .nil
  | _, _, .cons n t h => .cons ⟨t, rfl⟩ (vals_ints h)
def Only (H : Hp) : Prop := ∀ b, H b = none ∨ ∃ o xs, H b = some (.frz o (.lst xs))
theorem law_call {P : Program} {w : World} {K : PySem.W.Frag} {mg mb : Str → Option Value} {CX : CXT} {k : Nat} {fa a : Addr} {fd : FuncData} {x : Str} {sp : Sp} {s₁ : Shared} {vs : List Value} {ns : List Int}
    (KX : K.In s₁.heap) (hns : s₁.heap.Ns mainGlobals mg) (hb : s₁.heap.Ns builtinsNs mb) (hbb : ∀ x : Str, x ≠ "__name__" → mb x = bootBuiltins x) (hlim : s₁.heap.NoLimit) (hg : s₁.gens = #[])
    (ha : s₁.heap.get? a = some { cls := .type "list", data := .seq vs.toArray }) (hi : IntsAre vs ns) (hl : ns.length ≤ sizeLine) (hr : Room k callerA)
    (F : ∀ base : Heap, K.In base → base.Ns mainGlobals mg → FnOk P w K mg base CX k fa fd [x] sp) (hbind : ∀ (s : Shared) (u : Value), BindsTo s fd ⟨[u], []⟩ [(x, u)])
    (hsp : ∀ H : Hp, Only H → SqL K H a (ns.map V.int) → sp [.ref a] H (fun v _ => v = .bl true) fun _ _ _ => False)
    (hCX : ∀ H e s', CX [] H s₁ (fun _ _ _ => False) e s' → False) :
    codeAny (model P w) callerA (.call (.ref fa) ⟨[.ref a], []⟩) (fun r s' => r = .ok (.ret (.bool true)) ∧ OldK s₁.heap s'.heap ∧ s'.os = s₁.os ∧ AllBare s'.gens) s₁ := by
  have rv := vals_ints hi
  have lenV := hi.length
  -- from an abstract heap in which nothing but the script may be tracked
  have core : ∀ H : Hp, Only H → SqL K H a (ns.map V.int) → HOk P w H s₁.heap → (∀ b, H b ≠ none → b = a) → (H a ≠ none → K.lookup a = none) →
      codeAny (model P w) callerA (.call (.ref fa) ⟨[.ref a], []⟩) (fun r s' => r = .ok (.ret (.bool true)) ∧ OldK s₁.heap s'.heap ∧ s'.os = s₁.os ∧ AllBare s'.gens) s₁ := by
    intro H hO hS hok hA hK
    have base_of : ∀ {b : Addr} {o : Obj}, s₁.heap.get? b = some o → H b = none → (hidT s₁.heap H).get? b = some o := fun e n => hidT_get e n
    have noA : ∀ {b : Addr} {o : Obj} {es : Array DictEntry} {ep : Nat}, s₁.heap.get? b = some o → o.data = .dict es ep → H b = none := fun {b o es ep} e d => by
      cases q : H b with
      | none => rfl
      | some u =>
        have e' : b = a := hA b (by rw [q]; simp)
        subst e'
        rw [ha] at e; cases e
        have d' : Data.seq vs.toArray _ = Data.dict es ep := d
        cases d'
    have nsK : ∀ {b : Addr} {m : Str → Option Value}, s₁.heap.Ns b m → (hidT s₁.heap H).Ns b m := fun {b m} ⟨o, es, ep, e, d, r⟩ => ⟨o, es, ep, base_of e (noA e d), d, r⟩
    have hKb : K.In (hidT s₁.heap H) := fun b o e => base_of (KX b o e) (by
      cases q : H b with
      | none => rfl
      | some u =>
        have e' : b = a := hA b (by rw [q]; simp)
        subst e'
        rw [hK (by rw [q]; simp)] at e; cases e)
    have hM : Mod K mg (hidT s₁.heap H) := ⟨hKb, nsK hns, ⟨mb, nsK hb, hbb⟩, let ⟨mc, h1, h2⟩ := hlim; ⟨mc, nsK h1, h2⟩⟩
    have e0 : Env0 P w K mg (hidT s₁.heap H) callerA [] s₁ H := ⟨rfl, hM, fun b o e => of_hidT e, Nat.le_of_eq (hidT_size _ _), trivial, fun b hb => absurd (show b ∈ ([] : List Addr) from hb) (by simp), hok, .of_eq hg⟩
    refine codeAny_mono ((F _ hKb (nsK hns)).run callerA [] s₁ H ⟨[.ref a], []⟩ [.ref a] [.ref a] _ _ hr e0 (hbind s₁ (.ref a)) (.cons rfl .nil) (hsp H hO hS)) fun r s' h => ?_
    cases r with
    | error e => exact (hCX H e s' h).elim
    | ok fl =>
      cases fl with
      | next => exact False.elim h
      | brk => exact False.elim h
      | cont => exact False.elim h
      | ret u =>
        obtain ⟨v, H', os, bare, un, hok', r', q⟩ := h
        have q' : v = .bl true := q
        subst q'
        obtain rfl : u = Value.bool true := r'
        refine ⟨rfl, OldK.of_keep fun b o e => ?_, os, bare⟩
        cases q : H b with
        | none => exact un.keep b o e q (by intro z; exact absurd (show b ∈ ([] : List Addr) from z) (by simp)) (by simp)
        | some u =>
          rcases hO b with z | ⟨ob, xs, z⟩
          · rw [q] at z; cases z
          · have z2 := un.frzs b ob _ z
            obtain ⟨e1, _⟩ := hok b _ z
            obtain ⟨e2, _⟩ := hok' b _ z2
            rw [e] at e1; cases e1
            exact e2
  cases hk : K.lookup a with
  | some o =>
    -- the script is one of the module's own objects
    have e := KX a o hk
    rw [ha] at e
    cases e
    refine core (fun _ => none) (fun _ => .inl rfl) (.inr ⟨_, vs.toArray, _, hk, rfl, rfl, rfl, by rw [List.size_toArray, lenV]; exact hl, by simpa using rv⟩) (fun b u z => by have z' : (none : Option HO) = some u := z; cases z') (fun b z => absurd rfl z) fun z => absurd rfl z
  | none =>
    refine core (fun b => if b = a then some (.frz { cls := .type "list", data := .seq vs.toArray } (.lst (ns.map V.int))) else none) (fun b => ?_) (.inl (.inr ⟨{ cls := .type "list", data := .seq vs.toArray }, if_pos rfl⟩)) (fun b u z => ?_) (fun b z => ?_) fun _ => hk
    · by_cases hb : b = a
      · exact .inr ⟨_, _, if_pos hb⟩
      · exact .inl (if_neg hb)
    · by_cases hb : b = a
      · have z' := (if_pos hb).symm.trans z
        cases z'
        subst hb
        exact ⟨ha, by rw [List.length_map]; exact hl, vs, _, rv, ha⟩
      · have z' := (if_neg hb).symm.trans z
        cases z'
    · by_cases hb : b = a
      · exact hb
      · exact absurd (if_neg hb) z
end L2
namespace L2
open PySem PySem.Spec PyProof.Rows
theorem walk_of {l : PySem.W.OpenLaw} {n k : Nat} {q : Program} {loose : List Str} {XP : (Str → Option Value) → Heap → Prop} {YP : World → Heap → Prop} {d : DefRec} {K : Params → PySem.W.Frag} {CX : World → CXT} {sp : World → Sp} {x : Str}
    (hn : l.most = some n) (hn2 : n ≤ sizeLine) (hdf : d.params.defaults = []) (hr : Room k callerA)
    (hY : ∀ (w : World) (h : Heap), YP w h → (K w.params).In h)
    (F : ∀ (w : World) (mg : Str → Option Value) (fa : Addr) (h : Heap), (K w.params).In h → h.Ns mainGlobals mg → mg d.name = some (.ref fa) →
      ∃ fd : FuncData, (∀ (s : Shared) (u : Value), BindsTo s fd ⟨[u], []⟩ [(x, u)]) ∧
        ∀ base : Heap, (K w.params).In base → base.Ns mainGlobals mg → FnOk l.prog w (K w.params) mg base (CX w) k fa fd [x] (sp w))
    (hsp : ∀ (w : World) (H : Hp) (a : Addr) (ns : List Int), ns.length ≤ n → Only H → SqL (K w.params) H a (ns.map V.int) → sp w [.ref a] H (fun v _ => v = .bl true) fun _ _ _ => False)
    (hCX : ∀ (w : World) (H : Hp) (s : Shared) (e : Value) (s' : Shared), CX w [] H s (fun _ _ _ => False) e s' → False) :
    PySem.W.WalkO q loose XP YP l.row.toRowW d [] (fun f vs => PySem.call f vs) := by
  refine Att.attach_call hn hdf fun w s₀ s₁ mg mb fa o pm cd doc a vs ns G Y ho hd hcd hmg hobj hints hlen hg => ?_
  have KX := hY w _ Y
  obtain ⟨fd, hb, hF⟩ := F w mg fa _ KX G.T.g hmg
  exact law_call KX G.T.g G.T.b G.T.builtins G.T.nolimit hg hobj hints (Nat.le_trans hlen hn2) hr hF hb (fun H hO hS => hsp w H a ns hlen hO hS) fun H e s' => hCX w H s₁ e s'
end L2
namespace L2
open PySem PySem.Spec PyProof.Rows
def defArgs (s : Stmt) : Arguments := match s with
  | .FunctionDef _ a _ _ _ _ _ _ _ _ => a
  | _ => { posonlyargs := [], args := [], vararg := none, kwonlyargs := [], kw_defaults := [], kwarg := none, defaults := [] }
def defBody (s : Stmt) : List Stmt := match s with
  | .FunctionDef _ _ b _ _ _ _ _ _ _ => b
  | _ => []
def defScope (s : Stmt) : Scope := match s with
  | .FunctionDef _ _ _ _ _ _ sc _ _ _ => sc
  | _ => { kind := .function, names := [], isGenerator := false, isCoroutine := false }
abbrev CX0 : CXT := fun _ _ _ _ _ _ => False
abbrev E0 : XK := fun _ _ _ => False
theorem pass0 {X : Cx} : Passes CX0 X E0 := fun _ _ _ _ _ _ _ h => h.elim
structure Fun (K : PySem.W.Frag) (x qual : Str) (st : Stmt) (f : Addr) (fd : FuncData) : Prop where
  ex : ∃ (oc : Value) (od : Option Addr) (kV doc pm : Value) (an : Option Addr) (cdv ct : Value) (osl : Array (Option Value)),
    fd = PySem.W.fnOf x qual (defArgs st) (defBody st) (defScope st) .none kV doc pm an cdv ct ∧ K.lookup f = some ⟨oc, od, .func fd, osl⟩ ∧ PySem.W.codeIn K cdv qual = true
  kp : PySem.W.keepIn K (.ref f) = true
section
variable {P : Program} {w : World} {K : PySem.W.Frag} {mg : Str → Option Value} {base : Heap}
theorem Fun.ok {x qual : Str} {st : Stmt} {f : Addr} {fd : FuncData} {N ps : List Str} {k : Nat} {sp : Sp} (F : Fun K x qual st f fd) (S : FnScope N ps (defScope st)) (len : ∀ vs H Q E, sp vs H Q E → vs.length = ps.length)
    (hbody : ∀ (cdv : Value) (A : Around) (outer : List Env) (s : Shared) (H : Hp) (vs : List V) (Q : VK) (E : XK), Room k (A.deeper (envOfC qual (defScope st) s.heap.objs.size f cdv)) → sp vs H Q E →
      ∃ t, PSs (cxOf CX0 P w K mg base N qual (defScope st) f cdv A outer s H E).nox (defBody st) t ∧ t { nx := fun _ H' => Q .non H', rt := Q } (start N vs) H) : FnOk P w K mg base CX0 (k + 1) f fd ps sp := by
  obtain ⟨oc, od, kV, doc, pm, an, cdv, ct, osl, rfl, lk, hcd⟩ := F.ex
  refine fn_of lk hcd S len fun A outer s H vs Q E hr hsp => ?_
  obtain ⟨t, h, q⟩ := hbody cdv A outer s H vs Q E hr hsp
  exact ⟨t, h.nox, q⟩
theorem Fun.binds {x qual : Str} {st : Stmt} {f : Addr} {fd : FuncData} {ps : List Str} (F : Fun K x qual st f fd)
    (h : ∀ (kV doc pm : Value) (an : Option Addr) (cdv ct : Value) (us : List Value), us.length = ps.length → bindArgs (PySem.W.fnOf x qual (defArgs st) (defBody st) (defScope st) .none kV doc pm an cdv ct) ⟨us, []⟩ = pure (ps.zip us)) : Binds K fd ps [] := by
  obtain ⟨oc, od, kV, doc, pm, an, cdv, ct, osl, rfl, lk, hcd⟩ := F.ex
  exact .all (h kV doc pm an cdv ct)
theorem fun_mk {x qual : Str} {st : Stmt} {f : Addr} {oc : Value} {od an : Option Addr} {osl : Array (Option Value)} {kV doc pm cdv ct : Value} (l : K.lookup f = some ⟨oc, od, .func (PySem.W.fnOf x qual (defArgs st) (defBody st) (defScope st) .none kV doc pm an cdv ct), osl⟩)
    (c : PySem.W.codeIn K cdv qual = true) (k : PySem.W.keepIn K (.ref f) = true) : Fun K x qual st f (PySem.W.fnOf x qual (defArgs st) (defBody st) (defScope st) .none kV doc pm an cdv ct) := ⟨⟨oc, od, kV, doc, pm, an, cdv, ct, osl, rfl, l, c⟩, k⟩
end
section
variable {X : Cx}
theorem pv (i : Nat) {x : Str} {pos : Pos} (hN : X.N[i]? = some x := by rfl) (hv : Vis X.env.scope x := by first | exact Or.inl rfl | exact Or.inr (Or.inl rfl) | exact Or.inr (Or.inr rfl)) (hd : (x == ("__debug__" : Str)) = false := by decide)
    (hcd : (x == ("__classdict__" : Str)) = false := by decide) : PE X (.Name x pos) (tVar i) := pe_var hN hv hd hcd
end
def Same (H H' : Hp) : Prop := ∀ b o, H b = some o → H' b = some o
theorem Same.refl (H : Hp) : Same H H := fun _ _ h => h
end L2
namespace L2
section
variable {X : Cx}
theorem call_lenD : CallR X (.builtin "len") (fun xs H Q => ∃ a kvs, xs = [V.ref a] ∧ H a = some (.dK kvs) ∧ Q (.int kvs.length) H) := by
  intro pins s σ H xs us Q I r h
  obtain ⟨a, kvs, rfl, ha, q⟩ := h
  obtain ⟨u, rfl, ru⟩ := vals1 r
  cases ru
  exact d_len I (.inl ha) fun t s' I' => ⟨.int kvs.length, H, I', ⟨t, rfl⟩, q⟩
end
section
variable {κ : Type} [DecidableEq κ]
end
end L2
set_option Elab.async false
set_option linter.all false
set_option maxRecDepth 100000
namespace L2
open PySem PySem.Spec PyProof.Rows
theorem comp_loop {prog : Program} {w : World} {A : Around} {R : Result → Shared → Prop} {s : Shared} {elt target iter : Expr} {ifs : List Expr} {scope : Scope} {pos : Pos} {it acc : Value} {env : Env} (I : Nat → Shared → Prop)
    (turn : ∀ n s, I n s → wpAny (model prog w) A (pyNext it) (fun r s₁ => match r with
      | none => R (.ok .next) s₁
      | some v => wpAny (model prog w) A (letOwnedTupleGo target it v) (fun _ s₁ => wpAny (model prog w) A (assign target env v) (fun _ s₂ =>
          wpAny (model prog w) A (forIn ifs true fun c r => if r = true then do let ok ← isTrue c env (eval c env); pure (ForInStep.yield ok) else pure (ForInStep.yield r)) (fun ok s₃ =>
            if ok = true then wpAny (model prog w) A (eval elt env) (fun x s₄ =>
              wpAny (model prog w) A (call (.builtin "list.append") [acc, x]) (fun _ s₅ => ∃ m, m < n ∧ I m s₅) (fun _ _ => False) s₄) (fun _ _ => False) s₃
            else ∃ m, m < n ∧ I m s₃) (fun _ _ => False) s₂) (fun _ _ => False) s₁) (fun _ _ => False) s₁) (fun _ _ => False) s)
    (n : Nat) (h : I n s) :
    codeAny (model prog w) A (.compLoop (.ListComp elt [⟨target, iter, ifs, 0⟩] scope pos) 0 it acc env) R s := by
  refine codeAny_loop rfl I (fun n s hI => ?_) n h
  show wpAny _ A ((compTurn (.ListComp elt [⟨target, iter, ifs, 0⟩] scope pos) 0 it acc env).onRaise (fun x => do noteFrame x env; theTreesLotGoes x)) _ _ s
  refine wpAny_noted ?_
  rw [compTurn_list]
  refine wpAny_bind (wpAny_standAt (wpAny_bind (wpAny_mono (turn n s hI) (fun r s₁ h₁ => ?_) fun _ _ h' => h'.elim)))
  cases r with
  | none => exact wpAny_pure h₁
  | some v =>
    refine wpAny_bind (wpAny_mono h₁ (fun _ s₁ h₁ => ?_) fun _ _ h' => h'.elim)
    refine wpAny_bind (wpAny_mono h₁ (fun _ s₂ h₂ => wpAny_bind (wpAny_mono h₂ (fun ok s₃ h₃ => ?_) fun _ _ h' => h'.elim)) fun _ _ h' => h'.elim)
    cases ok with
    | false => exact wpAny_pure ⟨rfl, h₃⟩
    | true =>
      exact wpAny_bind (wpAny_bind (wpAny_mono h₃ (fun x s₄ h₄ => wpAny_bind (wpAny_mono h₄ (fun _ s₅ h₅ => wpAny_pure (wpAny_pure ⟨rfl, h₅⟩)) fun _ _ h' => h'.elim)) fun _ _ h' => h'.elim))
def closL (env : Env) (names : List (Str × NameKind)) : List (Str × Addr) := names.foldl (fun cs y => if y.2 == .free then (y.1, (env.cells.lookup y.1).getD 0) :: cs else cs) []
theorem closL_go {env : Env} : ∀ (names : List (Str × NameKind)) (cs : List (Str × Addr)), (∀ y ∈ names, y.2 = .free → ∃ c, env.cells.lookup y.1 = some c) →
    (forIn names cs fun (y : Str × NameKind) cs => if y.2 == .free then (do let c ← cellOf env y.1; pure (ForInStep.yield ((y.1, c) :: cs))) else pure (ForInStep.yield cs) : Sem _) =
      pure (names.foldl (fun cs y => if y.2 == .free then (y.1, (env.cells.lookup y.1).getD 0) :: cs else cs) cs)
  | [], cs, _ => rfl
  | y :: r, cs, h => by
    rw [List.forIn_cons, List.foldl_cons]
    by_cases hy : y.2 = .free
    · obtain ⟨c, hc⟩ := h y List.mem_cons_self hy
      have e : (y.2 == NameKind.free) = true := by simp [hy]
      rw [if_pos e, if_pos e]
      have ec : cellOf env y.1 = pure c := by unfold cellOf; rw [hc]
      rw [ec, hc]
      show (forIn r ((y.1, c) :: cs) _ : Sem _) = _
      exact closL_go r _ fun z hz => h z (List.mem_cons_of_mem _ hz)
    · have e : ¬ (y.2 == NameKind.free) = true := by simp [hy]
      rw [if_neg e, if_neg e]
      show (forIn r cs _ : Sem _) = _
      exact closL_go r _ fun z hz => h z (List.mem_cons_of_mem _ hz)
theorem closL_eq {env : Env} {scope : Scope} (h : ∀ y ∈ scope.names, y.2 = .free → ∃ c, env.cells.lookup y.1 = some c) : closureFor scope env = pure (closL env scope.names) := by
  have := closL_go (env := env) scope.names [] h
  unfold closureFor
  dsimp only
  have e : (forIn scope.names ([] : List (Str × Addr)) (fun (x : Str × NameKind) (r : List (Str × Addr)) => (if x.2 == .free then (do let c ← cellOf env x.1; pure (ForInStep.yield ((x.1, c) :: r))) else pure (ForInStep.yield r) : Sem (ForInStep (List (Str × Addr)))))) = pure (closL env scope.names) := this
  rw [e]
  rfl
theorem closL_mem {env : Env} : ∀ (names : List (Str × NameKind)) (cs : List (Str × Addr)) (x : Str) (c : Addr),
    (names.foldl (fun cs y => if y.2 == .free then (y.1, (env.cells.lookup y.1).getD 0) :: cs else cs) cs).lookup x = some c →
    (c = (env.cells.lookup x).getD 0 ∧ (x, NameKind.free) ∈ names) ∨ cs.lookup x = some c
  | [], cs, x, c, h => .inr h
  | y :: r, cs, x, c, h => by
    rw [List.foldl_cons] at h
    rcases closL_mem r _ x c h with ⟨e, m⟩ | h
    · exact .inl ⟨e, List.mem_cons_of_mem _ m⟩
    · by_cases hy : y.2 = .free
      · rw [if_pos (by simp [hy])] at h
        rw [List.lookup_cons] at h
        by_cases hx : x = y.1
        · subst hx
          rw [beq_self_eq_true] at h
          refine .inl ⟨(Option.some.inj h).symm, ?_⟩
          rw [← hy]
          exact List.mem_cons_self
        · have : (x == y.1) = false := by simpa using hx
          rw [this] at h
          exact .inr h
      · rw [if_neg (by simp [hy])] at h
        exact .inr h
theorem closL_has {env : Env} : ∀ (names : List (Str × NameKind)) (cs : List (Str × Addr)) (x : Str), (x, NameKind.free) ∈ names ∨ (∃ c, cs.lookup x = some c) →
    ∃ c, (names.foldl (fun cs y => if y.2 == .free then (y.1, (env.cells.lookup y.1).getD 0) :: cs else cs) cs).lookup x = some c
  | [], cs, x, h => by
    rcases h with h | h
    · cases h
    · exact h
  | y :: r, cs, x, h => by
    rw [List.foldl_cons]
    apply closL_has r _ x
    rcases h with h | ⟨c, h⟩
    · rcases List.mem_cons.mp h with e | h
      · right
        subst e
        rw [if_pos (by rfl), List.lookup_cons, beq_self_eq_true]
        exact ⟨_, rfl⟩
      · exact .inl h
    · right
      by_cases hy : (y.2 == NameKind.free) = true
      · rw [if_pos hy, List.lookup_cons]
        cases x == y.1
        · exact ⟨c, h⟩
        · exact ⟨_, rfl⟩
      · rw [if_neg hy]
        exact ⟨c, h⟩
structure Blk where
  C : Addr
  s : Shared
  H : Hp
  fp : List Addr
def Cx.blk (X : Cx) (N' : List Str) (scope : Scope) (Y : Blk) : Cx :=
  { prog := X.prog, w := X.w, K := X.K, mg := X.mg, base := X.base, A := X.A, N := N', s₀ := Y.s, H₀ := Y.H, env := compEnvC scope (closL X.env scope.names) Y.C X.env, outer := X.stack, stack := X.stack,
    ex := Y.fp, fn := fun _ => false, calm := X.calm, pn := [], xe := fun _ _ => False }
end L2
set_option Elab.async false
set_option linter.all false
set_option maxRecDepth 100000
namespace L2
open PySem PySem.Spec PyProof.Rows
theorem relabel_mem {env : Env} : ∀ {names : List (Str × NameKind)} {x : Str} {k : NameKind},
    (names.map fun (n, k) => if (k == NameKind.free && env.scope.kind == .function && env.kindOf n == some .cell) then (n, NameKind.cell) else (n, k)).lookup x = some k →
    (k = .cell ∨ k = .free) → (∀ y ∈ names, y.2 ≠ .cell) → (x, NameKind.free) ∈ names
  | [], x, k, h, _, _ => by simp at h
  | (n, k') :: r, x, k, h, hk, hc => by
    rw [List.map_cons] at h
    dsimp only at h
    by_cases hx : x = n
    · subst hx
      by_cases hf : (k' == NameKind.free && env.scope.kind == .function && env.kindOf x == some .cell) = true
      · have : k' = NameKind.free := by
          simp only [Bool.and_eq_true] at hf
          exact by simpa using hf.1.1
        subst this
        exact List.mem_cons_self
      · simp only [hf] at h
        have e : k' = k := by simpa [List.lookup_cons] using h
        subst e
        rcases hk with hk | hk
        · exact absurd hk (hc (x, k') List.mem_cons_self)
        · rw [hk]
          exact List.mem_cons_self
    · have hb : (x == n) = false := by simpa using hx
      have h' : (r.map fun (n, k) => if (k == NameKind.free && env.scope.kind == .function && env.kindOf n == some .cell) then (n, NameKind.cell) else (n, k)).lookup x = some k := by
        by_cases hf : (k' == NameKind.free && env.scope.kind == .function && env.kindOf n == some .cell) = true
        · rw [if_pos hf, List.lookup_cons, hb] at h
          exact h
        · rw [if_neg hf, List.lookup_cons, hb] at h
          exact h
      exact List.mem_cons_of_mem _ (relabel_mem h' hk fun y hy => hc y (List.mem_cons_of_mem _ hy))
section
variable {X : Cx}
structure CompScope (X : Cx) (scope : Scope) (own : List Str) (caps : List Nat) : Prop where
  kind : scope.kind = .function
  cell : ∀ y ∈ scope.names, y.2 ≠ .cell
  free : ∀ y ∈ scope.names, y.2 = .free → X.env.scope.names.lookup y.1 = some .cell
  loc : ∀ y ∈ scope.names, y.2 = .local → scope.names.lookup y.1 = some .local
  capF : ∀ i ∈ caps, ∃ x, X.N[i]? = some x ∧ (x, NameKind.free) ∈ scope.names ∧ scope.names.lookup x = some .free
def capN (X : Cx) (own : List Str) (caps : List Nat) : List Str := own ++ caps.map fun i => X.N.getD i ""
def capS (own : List Str) (caps : List Nat) (σ : St) : St := own.map (fun _ => none) ++ caps.map fun i => σ.getD i none
theorem CompScope.cells {scope : Scope} {own : List Str} {caps : List Nat} (S : CompScope X scope own caps) (ok : X.Ok) : ∀ y ∈ scope.names, y.2 = .free → ∃ c, X.env.cells.lookup y.1 = some c :=
  fun y hy hf => ok.has y.1 (.inl (S.free y hy hf))
theorem CompScope.sub {scope : Scope} {own : List Str} {caps : List Nat} (S : CompScope X scope own caps) (ok : X.Ok) {x : Str} {c : Addr} (h : (closL X.env scope.names).lookup x = some c) : X.env.cells.lookup x = some c ∧ (x, NameKind.free) ∈ scope.names := by
  rcases closL_mem scope.names [] x c h with ⟨e, m⟩ | h
  · obtain ⟨c', e'⟩ := S.cells ok (x, .free) m rfl
    rw [show (List.lookup x X.env.cells) = some c' from e'] at e
    refine ⟨?_, m⟩
    rw [e]
    exact e'
  · simp at h
theorem blk_ok {scope : Scope} {own : List Str} {caps : List Nat} {pins : List (Addr × Obj)} {σ : St} {H : Hp} {s : Shared} {C : Addr} {fp : List Addr} (S : CompScope X scope own caps) (I : Inv X pins σ H s) (hC : s.heap.objs.size ≤ C)
    (hf : ∀ b ∈ fp, FpOk X pins H b) (hlt : ∀ b ∈ fp, b < s.heap.objs.size) : (X.blk (capN X own caps) scope ⟨C, s, H, fp⟩).Ok where
  mod := I.ok.mod
  kind := S.kind
  glob := I.ok.glob
  blt := I.ok.blt
  above := hC
  inj := fun x y c h1 h2 => I.ok.inj x y c (S.sub I.ok h1).1 (S.sub I.ok h2).1
  has := fun x hx => by
    have m : (x, NameKind.free) ∈ scope.names := by
      rcases hx with hx | hx
      · exact relabel_mem hx (.inl rfl) S.cell
      · exact relabel_mem hx (.inr rfl) S.cell
    exact closL_has scope.names [] x (.inl m)
  cab := fun x c h _ => nomatch h
  hd := I.ok.hd
  frames := I.ok.frames
  stk := .inl rfl
  exf := fun b hb => ⟨Nat.ne_of_lt (Nat.lt_of_lt_of_le (hlt b hb) hC), fun x c h => (hf b hb).2.2.2.2.1 x c (S.sub I.ok h).1⟩
  bs := I.bs
  bsz := Nat.le_trans I.ok.bsz I.sz
  noex := fun b o e hb => by
    rcases (hf b hb).2.2.2.1 with z | z
    · exact I.ok.noex b o e z
    · exact absurd (Nat.lt_of_lt_of_le (Heap.lt_size e) (Nat.le_trans I.ok.bsz z)) (Nat.lt_irrefl _)
  exfs := fun b hb z => by
    rcases List.mem_cons.mp (I.stkSub b z) with e | e
    · exact (hf b hb).2.1 e
    · exact (hf b hb).2.2.1 e
  funs := I.stack
  frf := I.stkFree
theorem blk_inv {scope : Scope} {own : List Str} {caps : List Nat} {pins : List (Addr × Obj)} {σ : St} {H : Hp} {s : Shared} {C : Addr} {fp : List Addr} {h1 : Heap} {tk : Nat} {m : Str → Option Value} (S : CompScope X scope own caps) (I : Inv X pins σ H s)
    (hC : s.heap.objs.size ≤ C) (hf : ∀ b ∈ fp, FpOk X pins H b) (hlt : ∀ b ∈ fp, b < s.heap.objs.size) (old : ∀ b o, s.heap.get? b = some o → h1.get? b = some o) (hn : h1.Ns C m) :
    Inv (X.blk (capN X own caps) scope ⟨C, s, H, fp⟩) [] (capS own caps σ) H { s with heap := h1, toks := tk } where
  ok := blk_ok S I hC hf hlt
  os := rfl
  bare := I.bare
  base := Un.kept old
  loc := by
    obtain ⟨m0, hn0, hl0⟩ := I.loc
    refine ⟨m, hn, fun j x v e1 e2 hv => ?_⟩
    have e1 : (own ++ caps.map fun i => X.N.getD i "")[j]? = some x := e1
    have e2 : (own.map (fun _ => (none : Option V)) ++ caps.map fun i => σ.getD i none)[j]? = some (some v) := e2
    by_cases hj : j < own.length
    · rw [List.getElem?_append_left (by rw [List.length_map]; exact hj), List.getElem?_map] at e2
      cases q : own[j]? with
      | none => rw [q] at e2; cases e2
      | some z => rw [q] at e2; cases e2
    · rw [List.getElem?_append_right (by omega), List.getElem?_map] at e1
      rw [List.getElem?_append_right (by rw [List.length_map]; omega), List.getElem?_map, List.length_map] at e2
      cases q : caps[j - own.length]? with
      | none => rw [q] at e1; cases e1
      | some i =>
        rw [q] at e1 e2
        have e1 : X.N.getD i "" = x := Option.some.inj e1
        have e2 : σ.getD i none = some v := Option.some.inj e2
        obtain ⟨x', hx', hm, hlk⟩ := S.capF i (List.mem_of_getElem? q)
        have ex : x' = x := by
          rw [← e1, List.getD_eq_getElem?_getD, hx']
          rfl
        subst ex
        have hs : σ[i]? = some (some v) := by
          rw [List.getD_eq_getElem?_getD] at e2
          cases q2 : σ[i]? with
          | none => rw [q2] at e2; cases e2
          | some z => rw [q2] at e2; rw [show z = some v from e2]
        have hcel := S.free (x', .free) hm rfl
        obtain ⟨u, r, lk⟩ := hl0 i x' v hx' hs (.inr (.inl hcel))
        refine ⟨u, r, .inr ⟨?_, ?_⟩⟩
        · rcases hv with hv | hv | hv
          · -- local in the block: it is free
            exfalso
            have : ∀ {names : List (Str × NameKind)}, names.lookup x' = some .free → (names.map fun (n, k) => if (k == NameKind.free && X.env.scope.kind == .function && X.env.kindOf n == some .cell) then (n, NameKind.cell) else (n, k)).lookup x' ≠ some .local := by
              intro names
              induction names with
              | nil => intro h; simp at h
              | cons y r ih =>
                obtain ⟨n, k⟩ := y
                intro h
                rw [List.map_cons]
                dsimp only
                by_cases hx : x' = n
                · subst hx
                  have ek : k = .free := by simpa [List.lookup_cons] using h
                  subst ek
                  by_cases hq : (NameKind.free == NameKind.free && X.env.scope.kind == ScopeKind.function && X.env.kindOf x' == some NameKind.cell) = true
                  · rw [if_pos hq]; simp [List.lookup_cons]
                  · rw [if_neg hq]; simp [List.lookup_cons]
                · have hb : (x' == n) = false := by simpa using hx
                  rw [List.lookup_cons, hb] at h
                  by_cases hq : (k == NameKind.free && X.env.scope.kind == ScopeKind.function && X.env.kindOf n == some NameKind.cell) = true
                  · rw [if_pos hq, List.lookup_cons, hb]; exact ih h
                  · rw [if_neg hq, List.lookup_cons, hb]; exact ih h
            exact this hlk hv
          · exact .inl hv
          · exact .inr hv
        · rcases lk with ⟨hk, _⟩ | ⟨_, c, hc, hcell⟩
          · exact absurd (hk.symm.trans hcel) (by simp)
          · obtain ⟨c', hc'⟩ := closL_has (env := X.env) scope.names [] x' (.inl hm)
            have := (S.sub I.ok hc').1
            rw [hc] at this
            cases this
            obtain ⟨o, ho, hd⟩ := hcell
            exact ⟨c, hc', o, old _ _ ho, hd⟩
  cell := fun x c h => by
    obtain ⟨v, o, ho, hd⟩ := I.cell x c (S.sub I.ok h).1
    exact ⟨v, o, old _ _ ho, hd⟩
  free := I.hok.fresh hC
  freeC := fun x c h => I.freeC x c (S.sub I.ok h).1
  pin := fun p hp => nomatch hp
  hok := I.hok.kept old
  len := by simp [capS, capN, Cx.blk]
end
end L2
set_option Elab.async false
set_option linter.all false
set_option maxRecDepth 100000
namespace L2
open PySem PySem.Spec PyProof.Rows
section
variable {X : Cx}
def PTs (X : Cx) (ifs : List Expr) (t : TT) : Prop :=
  ∀ (pins : List (Addr × Obj)) (s : Shared) (σ : St) (H : Hp) (Q : Bool → Hp → Prop), Inv X pins σ H s → t σ H Q →
    wpAny (model X.prog X.w) X.A (forIn ifs true fun c r => if r = true then do let ok ← isTrue c X.env (eval c X.env); pure (ForInStep.yield ok) else pure (ForInStep.yield r)) (TP X pins σ Q) X.xe s
def tYes : TT := fun _ H Q => Q true H
theorem pts_nil : PTs X [] tYes := fun pins s σ H Q I h => wpAny_tests_nil ⟨H, I, h⟩
theorem pts_one {c : Expr} {t : TT} (h : PT X c t) : PTs X [c] t := fun pins s σ H Q I hw => wpAny_tests_one (h pins s σ H Q I hw)
def CTurn (own : List Str) (caps : List Nat) (g : TG) (tt : TT) (te : TE) (σ : St) (N : List V → Hp → Prop) (ys : List V) (x : V) (H' : Hp) : Prop :=
  g x (capS own caps σ) H' fun σ2 H2 => (∀ (j : Nat) (v : V), (capS own caps σ)[j]? = some (some v) → σ2[j]? = some (some v)) ∧ tt σ2 H2 fun b H3 => if b = true then te σ2 H3 fun v H4 => ys.length < sizeLine ∧ N (ys ++ [v]) H4 else N ys H3
def CWalk (J : It) (own : List Str) (caps : List Nat) (g : TG) (tt : TT) (te : TE) (σ : St) (H1 : Hp) (Q : VK) : Prop :=
  ∃ W : Nat → Nat → List V → Hp → Prop, (∃ m, W 0 m [] H1) ∧ ∀ i m ys H, W i m ys H → (J.stop i H ∧ ∀ D, H D = none → Q (.ref D) (upd H D (.lst ys))) ∨
    (J.go i H ∧ ∃ N : List V → Hp → Prop, (∀ ys' H', N ys' H' → ∃ m', m' < m ∧ W (i + 1) m' ys' H') ∧ ∀ x H', J.yld i H x H' → CTurn own caps g tt te σ N ys x H')
def tComp (own : List Str) (caps : List Nat) (wi : TI) (g : Blk → TG) (tt : Blk → TT) (te : Blk → TE) : TE := fun σ H Q => wi σ H fun J H1 => ∀ Y : Blk, CWalk J own caps (g Y) (tt Y) (te Y) σ H1 Q
def scopeB (sc : Scope) (N : List Str) (scope : Scope) (caps : List Nat) : Bool :=
  scope.kind == .function && scope.names.all (fun y => y.2 != .cell) && scope.names.all (fun y => y.2 != .free || sc.names.lookup y.1 == some .cell) && scope.names.all (fun y => y.2 != .local || scope.names.lookup y.1 == some .local) &&
    caps.all (fun i => match N[i]? with | some x => scope.names.lookup x == some .free | none => false)
theorem mem_of_lookup : ∀ {l : List (Str × NameKind)} {x : Str} {k : NameKind}, l.lookup x = some k → (x, k) ∈ l
  | [], _, _, h => by simp at h
  | (n, k') :: r, x, k, h => by
    rw [List.lookup_cons] at h
    by_cases hx : x = n
    · subst hx
      rw [beq_self_eq_true] at h
      cases h
      exact List.mem_cons_self
    · rw [show (x == n) = false by simpa using hx] at h
      exact List.mem_cons_of_mem _ (mem_of_lookup h)
theorem cscope {X : Cx} {scope : Scope} {own : List Str} {caps : List Nat} (sc : Scope) (N : List Str) (h : scopeB sc N scope caps = true) (e : X.env.scope = sc := by rfl) (eN : X.N = N := by rfl) : CompScope X scope own caps := by
  unfold scopeB at h
  simp only [Bool.and_eq_true, List.all_eq_true, bne_iff_ne, ne_eq, Bool.or_eq_true, beq_iff_eq] at h
  obtain ⟨⟨⟨⟨h1, h2⟩, h3⟩, h4⟩, h5⟩ := h
  refine ⟨h1, h2, fun y hy hf => ?_, fun y hy hf => ?_, fun i hi => ?_⟩
  · rw [e]
    exact (h3 y hy).resolve_left fun z => z hf
  · exact (h4 y hy).resolve_left fun z => z hf
  · have := h5 i hi
    rw [eN]
    cases q : N[i]? with
    | none => rw [q] at this; cases this
    | some x =>
      rw [q] at this
      have hl : scope.names.lookup x = some .free := by simpa using this
      exact ⟨x, rfl, mem_of_lookup hl, hl⟩
theorem pe_comp {tg iter elt : Expr} {ifs : List Expr} {scope : Scope} {pos : Pos} {own : List Str} {caps : List Nat} {wi : TI} {g : Blk → TG} {tt : Blk → TT} {te : Blk → TE}
    (hc : X.calm = true) (S : CompScope X scope own caps) (hi : PI X tg iter wi)
    (hg : ∀ Y, PG (X.blk (capN X own caps) scope Y) tg (g Y)) (ht : ∀ Y, PTs (X.blk (capN X own caps) scope Y) ifs (tt Y)) (he : ∀ Y, PE (X.blk (capN X own caps) scope Y) elt (te Y))
    (hs : ∀ x, foldedSetIterable iter X.env x = pure x := by intro _; rfl) : PE X (.ListComp elt [⟨tg, iter, ifs, 0⟩] scope pos) (tComp own caps wi g tt te) := by
  intro pins s σ H Q I h
  rw [eval_ListComp]
  refine wpAny_comprehension_free (use := none) rfl hs (closL_eq (S.cells I.ok)) S.kind S.loc (thn (hi pins s σ H _ I h) fun v s1 h1 => thn h1 fun itv s2 h2 => ?_)
  obtain ⟨it, fp, tn, J, H2, e, I2, T, st2, f2, hW⟩ := h2
  subst e
  have hlt : ∀ b ∈ fp, b < s2.heap.objs.size := fun b hb => by
    obtain ⟨o, e, _⟩ := T.obj _ _ st2 b hb
    exact Heap.lt_size e
  refine wpAny_newObj_type (wpAny_newFunctionEnv S.cell (by intro y hy; simp at hy) (fun h₁ hns₁ hsb₁ => ?_) S.kind)
  dsimp only at hns₁ hsb₁ ⊢
  generalize hHq : s2.heap.push { cls := .type "list", dict := none, data := .seq ([] : List Value).toArray } = Hq at hns₁ hsb₁ ⊢
  have hC : Hq.objs.size = s2.heap.objs.size + 1 := by rw [← hHq, Heap.size_push]
  have hDC : s2.heap.objs.size ≠ Hq.objs.size := by rw [hC]; exact Nat.ne_of_lt (Nat.lt_succ_self _)
  have hCle : s2.heap.objs.size ≤ Hq.objs.size := by rw [hC]; exact Nat.le_succ _
  have old : ∀ b o, s2.heap.get? b = some o → h₁.get? b = some o := fun b o e =>
    hsb₁.extBut b o (by rw [hC]; exact Nat.ne_of_lt (Nat.lt_succ_of_lt (Heap.lt_size e))) (Heap.get?_push_of_some _ (hHq ▸ Heap.get?_push_of_some _ e))
  have hacc : h₁.get? s2.heap.objs.size = some { cls := .type "list", data := .seq ([] : List Value).toArray 0 } := hsb₁.extBut _ _ hDC (Heap.get?_push_of_some _ (hHq ▸ Heap.get?_push_size _ rfl))
  generalize hCq : Hq.objs.size = C at hns₁ hsb₁ hC hDC hCle ⊢
  generalize hDq : s2.heap.objs.size = D at hacc hC hDC hCle ⊢
  have hCs : s2.heap.objs.size ≤ C := by rw [hDq]; exact hCle
  obtain ⟨W, ⟨m0, w0⟩, turn⟩ := hW ⟨C, s2, H2, fp⟩
  have hX' := fun (tk : Nat) => blk_inv (tk := tk) S I2 hCs f2 hlt old hns₁
  have hgY := hg ⟨C, s2, H2, fp⟩
  have htY := ht ⟨C, s2, H2, fp⟩
  have heY := he ⟨C, s2, H2, fp⟩
  have hok' := blk_ok S I2 hCs f2 hlt
  generalize hX'q : X.blk (capN X own caps) scope ⟨C, s2, H2, fp⟩ = X' at hX' hgY htY heY hok'
  have eP : X'.prog = X.prog := by rw [← hX'q]; rfl
  have ew : X'.w = X.w := by rw [← hX'q]; rfl
  have eK : X'.K = X.K := by rw [← hX'q]; rfl
  have eA : X'.A = X.A := by rw [← hX'q]; rfl
  have ec : X'.calm = true := by rw [← hX'q]; exact hc
  have eL : X'.env.locals = C := by rw [← hX'q]; rfl
  have eex : X'.ex = fp := by rw [← hX'q]; rfl
  have es0 : X'.s₀ = s2 := by rw [← hX'q]; rfl
  have eH0 : X'.H₀ = H2 := by rw [← hX'q]; rfl
  have efs : X'.fs = frs X.stack := by rw [← hX'q]; rfl
  have epn : X'.pn = [] := by rw [← hX'q]; rfl
  have exe : X'.xe = fun _ _ => False := by rw [← hX'q]; rfl
  have eenv : X'.env = compEnvC scope (closL X.env scope.names) C X.env := by rw [← hX'q]; rfl
  have ecell : ∀ x c, X'.env.cells.lookup x = some c → X.env.cells.lookup x = some c := fun x c h => (S.sub I2.ok (by rw [eenv] at h; exact h)).1
  -- a cell is no new thing
  have nD : ∀ x c, X'.env.cells.lookup x = some c → c ≠ D := fun x c h z => by
    obtain ⟨v, o, ho, _⟩ := I2.cell x c (ecell x c h)
    have := Heap.lt_size ho
    rw [z, ← hDq] at this
    exact Nat.lt_irrefl _ this
  have fpD : ∀ b ∈ fp, b ≠ D := fun b hb z => by
    have := hlt b hb
    rw [z, ← hDq] at this
    exact Nat.lt_irrefl _ this
  have fsD : D ∉ X'.fs := fun z => by
    obtain ⟨_, o, ho, _⟩ := hok'.funs.mem z
    rw [es0] at ho
    have := Heap.lt_size ho
    rw [hDq] at this
    exact Nat.lt_irrefl _ this
  have fpo : ∀ (H' : Hp) (o : Obj), (∀ b ∈ fp, H' b = none) → ∀ b ∈ fp, FpOk X' [(D, o)] H' b := fun H' o hn b hb => by
    refine ⟨hn b hb, ?_, ?_, .inl (by rw [eex]; exact hb), fun x c h => (f2 b hb).2.2.2.2.1 x c (ecell x c h), fun p hp => ?_⟩
    · rw [eL]
      exact Nat.ne_of_lt (Nat.lt_of_lt_of_le (hlt b hb) hCs)
    · exact hok'.exfs b (by rw [eex]; exact hb)
    · rw [epn] at hp
      have : p = (D, o) := by simpa using hp
      rw [this]
      exact Ne.symm (fpD b hb)
  have loop : ∀ s₃ : Shared, s₃ = { s2 with heap := h₁, toks := s2.toks + ([] : List (Str × Value)).length } →
      codeAny (model X.prog X.w) X.A (.compLoop (.ListComp elt [⟨tg, iter, ifs, 0⟩] scope pos) 0 (.ref it) (.ref D) X'.env)
        (compPost (model X.prog X.w) X.A X.xe none (EP X pins σ Q) (.ref D) C) s₃ := by
    rintro s₃ rfl
    refine comp_loop (fun n s' => ∃ (i : Nat) (ys : List V) (H' : Hp) (its : List Value) (k : Nat), Inv X' [(D, { cls := .type "list", data := .seq its.toArray k })] (capS own caps σ) H' s' ∧ Vals ys its ∧ ys.length ≤ sizeLine ∧ tn i s'.heap ∧
      (∀ b ∈ fp, H' b = none) ∧ W i n ys H') ?_ m0 ?_
    · rintro n s3 ⟨i, ys, H3, its, k, I3, rv, hz, st3, fr3, w3⟩
      rcases turn i n ys H3 w3 with ⟨stop, qn⟩ | ⟨go, N, hN, step⟩
      · have := T.done X' eP ew eK ec i _ s3 _ H3 (fun _ _ => False) I3 (fpo H3 _ fr3) st3 stop
        rw [eA] at this
        refine thn this fun r s4 ⟨hr, I4⟩ => ?_
        subst hr
        obtain ⟨m, hn, _⟩ := I4.loc
        refine ⟨m, by rw [← eL]; exact hn, fun h' sb => ?_⟩
        have hp := I4.pin (D, { cls := .type "list", data := .seq its.toArray k }) (by rw [epn]; simp)
        have hD0 : H3 D = none := hp.2.1
        have kp : ∀ b, b ≠ C → h'.get? b = s4.heap.get? b := fun b hb => sb.2 b hb
        have nC : ∀ b o, s2.heap.get? b = some o → b ≠ C := fun b o e => Nat.ne_of_lt (Nat.lt_of_lt_of_le (Heap.lt_size e) hCs)
        have nDs : ∀ b o, s2.heap.get? b = some o → b ≠ D := fun b o e => by rw [← hDq]; exact Nat.ne_of_lt (Heap.lt_size e)
        have ub : Un (frs X.stack) fp H2 H3 s2.heap s4.heap := by
          have := I4.base
          rw [efs, eex, eH0, es0] at this
          exact this
        have u : Un (frs X.stack) fp H2 (upd H3 D (.lst ys)) s2.heap h' :=
          ⟨fun b o e n hb hx => (kp b (nC b o e)).trans (ub.keep b o e n hb hx),
           fun b o e n hb hx => by
            obtain ⟨sl, q⟩ := ub.slot b o e n hb hx
            exact ⟨sl, (kp b (nC b o e)).trans q⟩,
           fun b o e n hx => by rw [upd_ne (nDs b o e)]; exact ub.free b o e n hx,
           fun b o e hx => by
            obtain ⟨o', q⟩ := ub.there b o e hx
            exact ⟨o', (kp b (nC b o e)).trans q⟩,
           fun b xs e => by rw [upd_ne (ne_of_none (ub.tups b xs e) hD0)]; exact ub.tups b xs e,
           fun b o xs e => by rw [upd_ne (ne_of_none (ub.frzs b o xs e) hD0)]; exact ub.frzs b o xs e,
           fun b ps e => by
            obtain ⟨more, q⟩ := ub.tbls b ps e
            exact ⟨more, by rw [upd_ne (ne_of_none q hD0)]; exact q⟩⟩
        have hokC : ∀ b o, H3 b = some o → b ≠ C := fun b o e z => by
          have := I4.free
          rw [eL, ← z, e] at this
          cases this
        have hk : HOk X.prog X.w (upd H3 D (.lst ys)) h' := fun a o e => by
          by_cases ha : a = D
          · subst ha
            rw [upd_same] at e
            cases e
            exact ⟨hz, its, k, rv, (kp _ hDC).trans hp.1⟩
          · rw [upd_ne ha] at e
            have := I4.hok a o e
            rw [eP, ew] at this
            refine this.stay (fun b u hb q => (kp b ?_).trans q) (fun b q => by rw [upd_ne (ne_of_none q hD0)]; exact q) fun b xs q => by rw [upd_ne (ne_of_none q hD0)]; exact q
            rcases hb with z | z
            · rw [z]; exact hokC a o e
            · exact hokC b _ z
        refine ⟨.ref D, upd H3 D (.lst ys), ?_, rfl, qn D hD0⟩
        exact I2.call' (s' := { s4 with heap := h' }) (ch := fp) (by have := I4.os; rw [es0] at this; exact this) u hk I4.bare fun b hb => ⟨(f2 b hb).2.2.2.1, (f2 b hb).2.1, (f2 b hb).2.2.2.2.1, (f2 b hb).2.2.2.2.2⟩
      · have := T.item X' eP ew eK ec i _ s3 _ H3 (fun _ _ => False) I3 (fpo H3 _ fr3) st3 go
        rw [eA] at this
        refine thn this fun r s4 ⟨u, hr, h4⟩ => ?_
        subst hr
        refine thn h4 fun _ s5 ⟨x, H5, I5, r5, y5, st5, fr5⟩ => ?_
        have I5' := I5.pinned (fpo H5 _ fr5) (T.obj _ _ st5)
        have a6 := hgY _ s5 _ H5 x u _ I5' r5 (step x H5 y5)
        rw [eP, ew, eA, exe] at a6
        refine thn a6 fun _ s6 ⟨σ6, H6, I6, keepσ, q6⟩ => ?_
        have a7 := htY _ s6 σ6 H6 _ I6 q6
        rw [eP, ew, eA, exe] at a7
        refine thn a7 fun b s7 ⟨H7, I7, q7⟩ => ?_
        -- the next turn's state
        have keep2 : ∀ {σ' : St} {H' : Hp} {s' : Shared}, Inv X' ([(D, { cls := .type "list", data := .seq its.toArray k })] ++ pinsAt fp s5.heap) σ' H' s' → (∀ b ∈ fp, H' b = none) ∧ tn (i + 1) s'.heap := fun {σ' H' s'} I' => by
          refine ⟨fun b hb => ?_, T.keep _ _ _ st5 fun b hb o e => (I'.pin (b, o) (List.mem_append_right _ (List.mem_append_right _ (mem_pinsAt hb e)))).1⟩
          obtain ⟨o, e, _⟩ := T.obj _ _ st5 b hb
          exact (I'.pin (b, o) (List.mem_append_right _ (List.mem_append_right _ (mem_pinsAt hb e)))).2.1
        have wk : ∀ {pins' : List (Addr × Obj)} {H' : Hp} {s' : Shared}, Inv X' pins' σ6 H' s' → Inv X' pins' (capS own caps σ) H' s' := fun {pins' H' s'} I' =>
          I'.weak (by rw [I'.len, I3.len]) keepσ
        cases b with
        | false =>
          rw [if_neg Bool.false_ne_true] at q7
          obtain ⟨m', hm, w7⟩ := hN _ _ q7
          rw [if_neg Bool.false_ne_true]
          obtain ⟨k1, k2⟩ := keep2 I7
          exact ⟨m', hm, i + 1, ys, H7, its, k, wk (I7.pins_of fun p hp => I7.pin p (by
            rw [epn]
            simp at hp ⊢
            exact .inl hp)), rv, hz, k2, k1, w7⟩
        | true =>
          rw [if_pos rfl] at q7 ⊢
          have a8 := heY _ s7 σ6 H7 _ I7 q7
          rw [eP, ew, eA, exe] at a8
          refine thn a8 fun uv s8 ⟨v8, H8, I8, r8, hz8, n8⟩ => ?_
          obtain ⟨m', hm, w8⟩ := hN _ _ n8
          have hp := I8.pin (D, { cls := .type "list", data := .seq its.toArray k }) (List.mem_append_right _ (List.mem_append_left _ (by simp)))
          have eD := hp.1
          refine call_meets F.slot_list_append ⟨_, eD, rfl⟩ F.entry_list_append (F.args_list_append_2 _ _) (PySem.list_append D its.toArray k uv (by rw [List.size_toArray, ← rv.length]; omega)) ⟨eD, ?_⟩
          have q := PySem.IsL.update eD (fun a => a.push uv)
          obtain ⟨k1, k2⟩ := keep2 I8
          have I8' : Inv X' (pinsAt fp s5.heap) σ6 H8 s8 := I8.pins_of fun p hp => I8.pin p (List.mem_append_right _ (List.mem_append_right _ hp))
          have oth : ∀ b o, b ≠ D → s8.heap.get? b = some o → (s8.heap.update D (Obj.mapSeq fun a => a.push uv)).get? b = some o := fun b o hb e => (Heap.get?_update_other s8.heap _ (Ne.symm hb)).trans e
          have I9 : Inv X' (pinsAt fp s5.heap) σ6 H8 { s8 with heap := s8.heap.update D (Obj.mapSeq fun a => a.push uv), toks := s8.toks } :=
            I8'.turned (it := D) oth hp.2.1 (by rw [eL]; exact hDC) (.inr (by rw [es0, hDq]; exact Nat.le_refl _)) nD fun p hp' => by
              rw [epn] at hp'
              obtain ⟨hb, _⟩ := of_pinsAt (show p ∈ pinsAt fp s5.heap by simpa using hp')
              exact fpD _ hb
          refine ⟨m', hm, i + 1, ys ++ [v8], H8, its ++ [uv], k + 1, wk (I9.pins_of fun p hp' => ?_), rv.append (.cons r8 .nil), ?_, ?_, k1, w8⟩
          · have e : p = (D, { cls := .type "list", data := .seq (its ++ [uv]).toArray (k + 1) }) := by simpa using hp'
            subst e
            refine ⟨?_, hp.2.1, hp.2.2.1, hp.2.2.2.1, fun v z => by cases z⟩
            have e2 : its.toArray.push uv = (its ++ [uv]).toArray := by simp
            rw [← e2]
            have q' : IsL (s8.heap.update D (Obj.mapSeq fun a => a.push uv)) D (its.toArray.push uv) (if (its.toArray.push uv).size == its.toArray.size then k else k + 1) := q
            rw [if_neg (by simp)] at q'
            exact q'
          · rw [List.length_append, List.length_singleton]
            omega
          · refine T.keep _ _ _ k2 fun b hb o e => oth b o (fpD b hb) e
    · refine ⟨0, [], H2, [], 0, ?_, .nil, Nat.zero_le _, T.keep _ _ _ st2 fun b _ o e => old b o e, fun b hb => (f2 b hb).1, w0⟩
      refine (hX' _).pins_of fun p hp => ?_
      have e : p = (D, { cls := .type "list", data := .seq ([] : List Value).toArray 0 }) := by simpa using hp
      subst e
      exact ⟨hacc, I2.hok.fresh (by rw [hDq]; exact Nat.le_refl _), by rw [eL]; exact hDC, fsD, fun v z => by cases z⟩
  have eenv' : compEnvC scope (closL X.env scope.names) C X.env = X'.env := eenv.symm
  show codeAny (model X.prog X.w) X.A (.compStart _ 0 (.ref it) (.ref D) (compEnvC scope (closL X.env scope.names) C X.env)) _ _
  rw [eenv']
  exact codeAny_compStart_list (loop _ rfl) (T.self X.A 0 _ _ _ (T.keep _ _ _ st2 fun b _ o e => old b o e) (loop _ rfl))
end
end L2
set_option Elab.async false
set_option linter.all false
set_option maxRecDepth 100000
namespace L2
open PySem PySem.Spec PyProof.Rows
section
variable {prog : Program} {w : World} {A : Around} {E : Value → Shared → Prop} {s : Shared}
end
end L2
set_option Elab.async false
set_option linter.all false
set_option maxRecDepth 100000
namespace L2
open PySem PySem.Spec PyProof.Rows PySem.W
section
variable {n : Nat} {key : Nat → Int} {cmp : Nat → Nat → (Bool → Shared → Prop) → Shared → Prop}
def kyA (key : Nat → Int) (p : Array Nat) (i : Nat) : Int := key (p.getD i 0)
def Up (key : Nat → Int) (p : Array Nat) (m : Nat) : Prop := ∀ i j, i ≤ j → j < m → kyA key p i ≤ kyA key p j
def CmpBy (n : Nat) (key : Nat → Int) (cmp : Nat → Nat → (Bool → Shared → Prop) → Shared → Prop) (s : Shared) : Prop := ∀ i j C, i < n → j < n → C (decide (key i < key j)) s → cmp i j C s
def Rg (n : Nat) (p : Array Nat) : Prop := p.toList.Perm (List.range n)
theorem Rg.size {p : Array Nat} (h : Rg n p) : p.size = n := by
  have := h.length_eq
  simpa using this
theorem Rg.lt {p : Array Nat} (h : Rg n p) {i : Nat} (hi : i < n) : p.getD i 0 < n := by
  have hs := h.size
  have e : p.getD i 0 = p[i] := by simp [Array.getD, hs, hi]
  rw [e]
  have : p[i] ∈ p.toList := by simp
  exact List.mem_range.mp (h.mem_iff.mp this)
theorem Rg.ne {p : Array Nat} (h : Rg n p) (inj : ∀ i j, i < n → j < n → key i = key j → i = j) {i j : Nat} (hij : i < j) (hj : j < n) : kyA key p i ≠ kyA key p j := by
  intro e
  have hs := h.size
  have e' := inj _ _ (h.lt (by omega)) (h.lt hj) e
  have e1 : p.getD i 0 = p[i] := by simp [Array.getD, hs, show i < n by omega]
  have e2 : p.getD j 0 = p[j] := by simp [Array.getD, hs, hj]
  rw [e1, e2] at e'
  have nd : p.toList.Nodup := h.nodup_iff.mpr List.nodup_range
  have e3 : p.toList[i]'(by simpa [hs] using (show i < n by omega)) = p.toList[j]'(by simpa [hs] using hj) := by simpa using e'
  have := (List.getElem_inj nd).mp e3
  omega
theorem ky_of {p q : Array Nat} {i j : Nat} (e : p[i]? = q[j]?) : kyA key p i = kyA key q j := by
  unfold kyA
  rw [Array.getD_eq_getD_getElem?, Array.getD_eq_getD_getElem?, e]
theorem Rg.rev {p : Array Nat} (h : Rg n p) (i j : Nat) : Rg n (kas_rev p i j) := (Array.perm_iff_toList_perm.mp (mirror_perm p i j _)).trans h
theorem Rg.bub {p : Array Nat} (h : Rg n p) (i j : Nat) : Rg n (bubble p i j) := (Array.perm_iff_toList_perm.mp (bubble_perm p i j)).trans h
theorem asc_wp {s : Shared} (hc : CmpBy n key cmp s) {p : Array Nat} (hp : Rg n p) {Q : Nat → Shared → Prop} : ∀ (f m : Nat), 1 ≤ m → m + f ≤ n →
    (∀ m', m ≤ m' → m' ≤ m + f → (∀ j, m ≤ j → j < m' → kyA key p (j - 1) ≤ kyA key p j) → (m' = m + f ∨ kyA key p m' < kyA key p (m' - 1)) → Q m' s) → (kas_asc p f m).kasWp cmp Q s
  | 0, m, h1, hn, h => h m (Nat.le_refl _) (Nat.le_refl _) (fun j a b => by omega) (.inl rfl)
  | f + 1, m, h1, hn, h => by
    show cmp (p.getD m 0) (p.getD (m - 1) 0) (fun b s' => KasT.kasWp cmp (if b = true then .ret m else kas_asc p f (m + 1)) Q s') s
    refine hc _ _ _ (hp.lt (by omega)) (hp.lt (by omega)) ?_
    by_cases hb : key (p.getD m 0) < key (p.getD (m - 1) 0)
    · rw [decide_eq_true hb, if_pos rfl]
      exact h m (Nat.le_refl _) (by omega) (fun j a b => by omega) (.inr hb)
    · rw [decide_eq_false hb, if_neg Bool.false_ne_true]
      refine asc_wp hc hp f (m + 1) (by omega) (by omega) fun m' a b c d => h m' (by omega) (by omega) (fun j x y => ?_) (by rcases d with d | d; exact .inl (by omega); exact .inr d)
      by_cases e : j = m
      · subst e
        have : ¬ kyA key p j < kyA key p (j - 1) := hb
        omega
      · exact c j (by omega) y
theorem up_of {p : Array Nat} {m : Nat} (h : ∀ j, 1 ≤ j → j < m → kyA key p (j - 1) ≤ kyA key p j) : Up key p m := by
  intro i j hij hj
  induction j with
  | zero => have : i = 0 := by omega
            subst this; exact Int.le_refl _
  | succ j ih =>
    by_cases e : i = j + 1
    · subst e; exact Int.le_refl _
    · have h1 := ih (by omega) (by omega)
      have h2 := h (j + 1) (by omega) hj
      rw [Nat.add_sub_cancel] at h2
      exact Int.le_trans h1 h2
theorem desc_wp {s : Shared} (hc : CmpBy n key cmp s) (inj : ∀ i j, i < n → j < n → key i = key j → i = j) {p : Array Nat} (hp : Rg n p) {Q : Array Nat × Nat × Nat → Shared → Prop} : ∀ (f m : Nat), 1 ≤ m → m + f ≤ n →
    (∀ m', m ≤ m' → m' ≤ m + f → (∀ j, m ≤ j → j < m' → kyA key p j < kyA key p (j - 1)) → Q (p, m', 0) s) → (kas_desc f p m 0).kasWp cmp Q s
  | 0, m, h1, hn, h => h m (Nat.le_refl _) (Nat.le_refl _) (fun j a b => by omega)
  | f + 1, m, h1, hn, h => by
    show cmp (p.getD m 0) (p.getD (m - 1) 0) (fun b s' => KasT.kasWp cmp (if b = true then (if 0 > 0 then kas_desc f (kas_rev p (m - (0 + 1)) m) (m + 1) 0 else kas_desc f p (m + 1) 0)
      else .ask (p.getD (m - 1) 0) (p.getD m 0) fun d => if d = true then .ret (p, m, 0) else kas_desc f p (m + 1) (0 + 1)) Q s') s
    refine hc _ _ _ (hp.lt (by omega)) (hp.lt (by omega)) ?_
    by_cases hb : key (p.getD m 0) < key (p.getD (m - 1) 0)
    · rw [decide_eq_true hb, if_pos rfl, if_neg (by omega)]
      refine desc_wp hc inj hp f (m + 1) (by omega) (by omega) fun m' a b c => h m' (by omega) (by omega) fun j x y => ?_
      by_cases e : j = m
      · subst e; exact hb
      · exact c j (by omega) y
    · rw [decide_eq_false hb, if_neg Bool.false_ne_true]
      refine hc _ _ _ (hp.lt (by omega)) (hp.lt (by omega)) ?_
      have h2 : key (p.getD (m - 1) 0) < key (p.getD m 0) := by
        have := hp.ne inj (show m - 1 < m by omega) (by omega)
        unfold kyA at this
        omega
      rw [decide_eq_true h2]
      dsimp only
      rw [if_pos rfl]
      exact h m (Nat.le_refl _) (by omega) fun j a b => by omega
theorem count_wp {s : Shared} (hc : CmpBy n key cmp s) (inj : ∀ i j, i < n → j < n → key i = key j → i = j) {p : Array Nat} (hp : Rg n p) {Q : Nat × Array Nat → Shared → Prop} (hn : 1 ≤ n)
    (h : ∀ m p', 1 ≤ m → m ≤ n → Rg n p' → Up key p' m → Q (m, p') s) : (kas_count n p).kasWp cmp Q s := by
  unfold kas_count
  rw [KasT.kasWp_bind]
  refine asc_wp hc hp (n - 1) 1 (Nat.le_refl _) (by omega) fun m a b c d => ?_
  have up : Up key p m := up_of c
  by_cases e : m = n
  · subst e
    rw [if_pos (by simp)]
    exact h m p a (Nat.le_refl _) hp up
  · rw [if_neg (by simpa using e)]
    by_cases e1 : m > 1
    · rw [if_pos e1]
      refine hc _ _ _ (hp.lt (by omega)) (hp.lt (by omega)) ?_
      have h2 : key (p.getD 0 0) < key (p.getD (m - 1) 0) := by
        have x := hp.ne inj (show 0 < m - 1 by omega) (by omega)
        have y := up 0 (m - 1) (by omega) (by omega)
        unfold kyA at x y
        omega
      rw [decide_eq_true h2]
      dsimp only
      rw [if_pos rfl]
      exact h m p a (by omega) hp up
    · rw [if_neg e1]
      have e2 : m = 1 := by omega
      subst e2
      have d : kyA key p 1 < kyA key p 0 := by
        rcases d with d | d
        · omega
        · exact d
      unfold kas_descPart
      rw [KasT.kasWp_bind]
      refine desc_wp hc inj hp (n - (1 + 1)) (1 + 1) (by omega) (by omega) fun k a1 b1 c1 => ?_
      dsimp only
      rw [if_neg (by omega)]
      unfold kas_tail3
      rw [KasT.kasWp_bind]
      have hp' := hp.rev 0 k
      have ky : ∀ i, kyA key (kas_rev p 0 k) i = if i < k then kyA key p (k - 1 - i) else kyA key p i := fun i => by
        by_cases hi : i < k
        · rw [if_pos hi]
          exact ky_of (by unfold kas_rev; rw [getElem?_mirror_all (by rw [hp.size]; omega), if_pos ⟨Nat.zero_le _, hi⟩]; congr 1; omega)
        · rw [if_neg hi]
          exact ky_of (by unfold kas_rev; rw [getElem?_mirror_all (by rw [hp.size]; omega), if_neg (by omega)])
      have dn : ∀ j, 1 ≤ j → j < k → kyA key p j < kyA key p (j - 1) := fun j x y => by
        by_cases z : j = 1
        · subst z; exact d
        · exact c1 j (by omega) y
      refine asc_wp hc hp' (n - k) k (by omega) (by omega) fun m' a2 b2 c2 _ => ?_
      refine h m' (kas_rev p 0 k) (by omega) (by omega) hp' (up_of fun j x y => ?_)
      by_cases z : j < k
      · rw [ky, ky, if_pos (by omega), if_pos z]
        have := dn (k - 1 - (j - 1)) (by omega) (by omega)
        rw [show k - 1 - (j - 1) - 1 = k - 1 - j by omega] at this
        exact Int.le_of_lt this
      · exact c2 j (by omega) y
theorem place_wp {s : Shared} (hc : CmpBy n key cmp s) {p : Array Nat} (hp : Rg n p) {k : Nat} (hk : k < n) (up : Up key p k) {Q : Nat → Shared → Prop} : ∀ (f l r : Nat), l ≤ r → r ≤ k → r - l ≤ f →
    (∀ i, i < l → kyA key p i ≤ kyA key p k) → (∀ i, r ≤ i → i < k → kyA key p k ≤ kyA key p i) →
    (∀ l', l' ≤ k → (∀ i, i < l' → kyA key p i ≤ kyA key p k) → (∀ i, l' ≤ i → i < k → kyA key p k ≤ kyA key p i) → Q l' s) → (kas_place p k f l r).kasWp cmp Q s
  | 0, l, r, h1, h2, h3, a, b, h => h l (by omega) a fun i x y => b i (by omega) y
  | f + 1, l, r, h1, h2, h3, a, b, h => by
    by_cases e : l ≥ r
    · show KasT.kasWp cmp (if l ≥ r then .ret l else _) Q s
      rw [if_pos e]
      exact h l (by omega) a fun i x y => b i (by omega) y
    · show KasT.kasWp cmp (if l ≥ r then .ret l else .ask (p.getD k 0) (p.getD ((l + r) / 2) 0) fun c => if c = true then kas_place p k f l ((l + r) / 2) else kas_place p k f ((l + r) / 2 + 1) r) Q s
      rw [if_neg e]
      refine hc _ _ _ (hp.lt hk) (hp.lt (by omega)) ?_
      have m1 : l ≤ (l + r) / 2 := by omega
      have m2 : (l + r) / 2 < r := by omega
      generalize (l + r) / 2 = mid at m1 m2 ⊢
      by_cases hb : key (p.getD k 0) < key (p.getD mid 0)
      · rw [decide_eq_true hb]
        dsimp only
        rw [if_pos rfl]
        refine place_wp hc hp hk up f l mid m1 (by omega) (by omega) a (fun i x y => ?_) h
        have := up mid i x y
        have hb : kyA key p k < kyA key p mid := hb
        omega
      · rw [decide_eq_false hb]
        dsimp only
        rw [if_neg Bool.false_ne_true]
        refine place_wp hc hp hk up f (mid + 1) r (by omega) h2 (by omega) (fun i x => ?_) b h
        have := up i mid (by omega) (by omega)
        have hb : ¬ kyA key p k < kyA key p mid := hb
        omega
theorem bin_wp {s : Shared} (hc : CmpBy n key cmp s) {Q : Array Nat → Shared → Prop} : ∀ (f k : Nat) (p : Array Nat), Rg n p → Up key p k → k + f ≤ n → (∀ p', Rg n p' → Up key p' (k + f) → Q p' s) → (kas_bin f p k).kasWp cmp Q s
  | 0, k, p, hp, up, hn, h => h p hp up
  | f + 1, k, p, hp, up, hn, h => by
    show KasT.kasWp cmp ((kas_place p k k 0 k).bind fun l => kas_bin f (bubble p k (k - l)) (k + 1)) Q s
    rw [KasT.kasWp_bind]
    refine place_wp hc hp (by omega) up k 0 k (Nat.zero_le _) (Nat.le_refl _) (by omega) (fun i x => by omega) (fun i x y => by omega) fun l hl a b => ?_
    have ky : ∀ i, kyA key (bubble p k (k - l)) i = if i = l then kyA key p k else if l < i ∧ i ≤ k then kyA key p (i - 1) else kyA key p i := fun i => by
      have g := getElem?_bubble (xs := p) (src := k) (by rw [hp.size]; omega) (k - l) (by omega) i
      rw [show k - (k - l) = l by omega] at g
      by_cases e : i = l
      · rw [if_pos e] at g ⊢; exact ky_of g
      · rw [if_neg e] at g ⊢
        by_cases e2 : l < i ∧ i ≤ k
        · rw [if_pos e2] at g ⊢; exact ky_of g
        · rw [if_neg e2] at g ⊢; exact ky_of g
    refine bin_wp hc f (k + 1) _ (hp.bub _ _) (up_of fun j x y => ?_) (by omega) fun p' r1 r2 => h p' r1 (by rw [show k + (f + 1) = k + 1 + f by omega]; exact r2)
    rw [ky, ky]
    by_cases c1 : j - 1 = l
    · rw [if_pos c1, if_neg (by omega), if_pos (by omega)]
      exact b (j - 1) (by omega) (by omega)
    · rw [if_neg c1]
      by_cases c2 : j = l
      · rw [if_pos c2, if_neg (by omega)]
        exact a (j - 1) (by omega)
      · rw [if_neg c2]
        by_cases c3 : l < j - 1
        · rw [if_pos (by omega), if_pos (by omega)]
          exact up _ _ (by omega) (by omega)
        · rw [if_neg (by omega), if_neg (by omega)]
          exact up _ _ (by omega) (by omega)
theorem sort_wp {s : Shared} (hc : CmpBy n key cmp s) (inj : ∀ i j, i < n → j < n → key i = key j → i = j) {Q : Array Nat → Shared → Prop} (hn : 1 ≤ n) (h : ∀ p', Rg n p' → Up key p' n → Q p' s) : (kas_sort n).kasWp cmp Q s := by
  unfold kas_sort
  rw [KasT.kasWp_bind]
  refine count_wp hc inj (p := (List.range n).toArray) (List.Perm.refl _) hn fun m p' a b c d => ?_
  by_cases e : m < n
  · show KasT.kasWp cmp (if m < n then kas_bin (n - max m 1) p' (max m 1) else .ret p') Q s
    rw [if_pos e]
    refine bin_wp hc _ _ p' c (by rw [show max m 1 = m by omega]; exact d) (by omega) fun p'' r1 r2 => h p'' r1 (by rw [show max m 1 + (n - max m 1) = n by omega] at r2; exact r2)
  · show KasT.kasWp cmp (if m < n then kas_bin (n - max m 1) p' (max m 1) else .ret p') Q s
    rw [if_neg e]
    have : m = n := by omega
    subst this
    exact h p' c d
end
end L2
set_option Elab.async false
set_option linter.all false
set_option maxRecDepth 100000
namespace L2
open PySem PySem.Spec PyProof.Rows PySem.W
theorem minRun_le : ∀ (f n r : Nat), minRun' f n r ≤ n + r
  | 0, n, r => Nat.le_refl _
  | f + 1, n, r => by
    rw [minRun'_succ]
    by_cases h : n < 64
    · rw [if_pos h]
      exact Nat.le_refl _
    · rw [if_neg h]
      have := minRun_le f (n / 2) (max r (n % 2))
      omega
section
variable {prog : Program} {w : World} {A : Around} {E : Value → Shared → Prop} {κ : SortKind} {it : Array Keyed} {key : Nat → Int}
theorem runs_one {n : Nat} {Q : Unit → SortSt → Shared → Prop} {s : Shared} (hc : CmpBy n key (kas_cmp prog w A κ it) s) (inj : ∀ i j, i < n → j < n → key i = key j → i = j) (h2 : 2 ≤ n) (up : ∀ j, 1 ≤ j → j < n → key (j - 1) ≤ key j)
    (hG : ∀ p' st', Rg n p' → Up key p' n → arrOf st' = p'.map (kas_item it) → failedOf st' = none → Q () st' s) : kasC (model prog w) A E sortRuns' Q (kas_st κ it (List.range n).toArray) s := by
  obtain ⟨r, rfl⟩ : ∃ r, n = r + 2 := ⟨n - 2, by omega⟩
  have hr : Rg (r + 2) (List.range (r + 2)).toArray := List.Perm.refl _
  have ky : ∀ j, j < r + 2 → kyA key (List.range (r + 2)).toArray j = key j := fun j hj => by
    unfold kyA
    simp [Array.getD, hj]
  have cw : (kas_count (r + 2) (List.range (r + 2)).toArray).kasWp (kas_cmp prog w A κ it) (fun q s' => s' = s ∧ q = (r + 2, (List.range (r + 2)).toArray)) s := by
    unfold kas_count
    rw [KasT.kasWp_bind]
    refine asc_wp hc hr (r + 2 - 1) 1 (Nat.le_refl _) (by omega) fun m a b c d => ?_
    have e : m = r + 2 := by
      rcases d with d | d
      · omega
      · by_cases hm : m < r + 2
        · rw [ky m hm, ky (m - 1) (by omega)] at d
          have := up m a hm
          omega
        · omega
    subst e
    rw [if_pos (by simp)]
    exact ⟨rfl, rfl⟩
  rw [sortRuns'_eq]
  apply kasC_bind
  apply kasC_get
  dsimp only
  have hsz : (arrOf (kas_st κ it (List.range (r + 2)).toArray)).size = r + 2 := by
    show ((List.range (r + 2)).toArray.map (kas_item it)).size = r + 2
    simp
  simp only [hsz]
  apply kasC_bind
  apply kasC_range
  show kasC _ _ _ (forIn (0 :: 1 :: List.range' 2 r) _ _) _ _ _
  apply kasC_cons
  dsimp only
  rw [if_neg (by omega)]
  simp only [Nat.sub_zero, Nat.zero_add]
  apply kasC_bind
  refine kas_count_ (by omega) (by simp) (fun m p' s' _ _ _ hg => ?_) cw
  obtain ⟨rfl, hg⟩ := hg
  cases hg
  dsimp only
  rw [if_neg (by have := minRun_le (r + 2) (r + 2) 0; omega)]
  apply kasC_bind
  apply kasC_get
  rw [show (pendingOf (kas_st κ it (List.range (r + 2)).toArray)).back? = none from rfl]
  dsimp only
  refine kasC_bind (kasC_modify (kasC_pure ?_))
  show kasC _ _ _ (forIn (1 :: List.range' 2 r) _ _) _ _ _
  apply kasC_cons
  dsimp only
  rw [if_pos (Nat.le_refl _)]
  apply kasC_pure
  dsimp only
  apply kasC_bind
  apply kasC_range
  show kasC _ _ _ (forIn (0 :: 1 :: List.range' 2 r) _ _) _ _ _
  apply kasC_cons
  apply kasC_bind
  apply kasC_get
  rw [if_pos (show (pendingOf (setPending (kas_st κ it (List.range (r + 2)).toArray) ((pendingOf (kas_st κ it (List.range (r + 2)).toArray)).push (0, r + 2, 0)))).size ≤ 1 from Nat.le_refl 1)]
  apply kasC_pure
  dsimp only
  apply kasC_pure
  exact hG (List.range (r + 2)).toArray _ hr (fun i j hij hj => by
    rw [ky i (by omega), ky j hj]
    have := up_of (key := key) (p := (List.range (r + 2)).toArray) (m := r + 2) (fun j x y => by rw [ky _ (by omega), ky _ y]; exact up j x y) i j hij hj
    rw [ky i (by omega), ky j hj] at this
    exact this) rfl rfl
theorem runs_any {n : Nat} {Q : Unit → SortSt → Shared → Prop} {s : Shared} (hc : CmpBy n key (kas_cmp prog w A κ it) s) (inj : ∀ i j, i < n → j < n → key i = key j → i = j) (h2 : 2 ≤ n) (up : n < 64 ∨ ∀ j, 1 ≤ j → j < n → key (j - 1) ≤ key j)
    (hG : ∀ p' st', Rg n p' → Up key p' n → arrOf st' = p'.map (kas_item it) → failedOf st' = none → Q () st' s) : kasC (model prog w) A E sortRuns' Q (kas_st κ it (List.range n).toArray) s := by
  rcases up with h | up
  · exact kas_runs (G := fun p' s' => s' = s ∧ Rg n p' ∧ Up key p' n) h2 h (fun p' st' s' _ a b ⟨e, c, d⟩ => by subst e; exact hG p' st' c d a b) (sort_wp hc inj (by omega) fun p' a b => ⟨rfl, a, b⟩)
  · exact runs_one hc inj h2 up hG
end
end L2
set_option Elab.async false
set_option linter.all false
set_option maxRecDepth 100000
namespace L2
open PySem PySem.Spec PyProof.Rows
section
variable {X : Cx} {pins : List (Addr × Obj)} {σ : St} {H : Hp} {s : Shared} {h' : Heap}
theorem Inv.turnT {ch : List Addr} {T : Addr} {xs : List V} {t' : Nat} (I : Inv X pins σ H s) (hch : ∀ b ∈ ch, FpOk X pins H b) (k : ∀ b o, b ∉ ch → s.heap.get? b = some o → h'.get? b = some o) (hT : s.heap.objs.size ≤ T)
    (new : ObjOk X.prog X.w (upd H T (.tup xs)) h' T (.tup xs)) : Inv X pins σ (upd H T (.tup xs)) { s with heap := h', toks := t' } := by
  have fT : H T = none := I.hok.fresh hT
  have nT : ∀ b o, s.heap.get? b = some o → b ≠ T := fun b o e => Nat.ne_of_lt (Nat.lt_of_lt_of_le (Heap.lt_size e) hT)
  have nc : ∀ b u, H b = some u → b ∉ ch := fun b u e z => by rw [(hch b z).1] at e; cases e
  refine I.step (g' := s.gens) (d' := s.drawn) (ch := ch) (fun b hb => ⟨(hch b hb).2.2.2.1, (hch b hb).2.1, (hch b hb).2.2.2.2.1, (hch b hb).2.2.2.2.2⟩) (fun b o _ _ hc e _ => k b o hc e) (fun b o _ _ hc e _ => ⟨o.slots, k b o hc e⟩)
    (fun b o _ e n => by rw [upd_ne (nT b o e)]; exact n) (fun b o hc e => ⟨o, k b o hc e⟩) (fun b ys e => by rw [upd_ne (ne_of_none e fT)]; exact e) (fun b o u e => by rw [upd_ne (ne_of_none e fT)]; exact e)
    (fun b ps e => ⟨#[], by rw [upd_ne (ne_of_none e fT), e]; simp⟩) (fun m hm => ?_) (fun a o e => ?_) I.bare
  · obtain ⟨o, es, ep, ho, r⟩ := hm
    exact ⟨o, es, ep, k _ o (fun z => (hch _ z).2.1 rfl) ho, r⟩
  · by_cases ha : a = T
    · subst ha
      rw [upd_same] at e
      cases e
      exact new
    · rw [upd_ne ha] at e
      refine (I.hok a o e).stay (fun b u hb q => k b u ?_ q) (fun b q => by rw [upd_ne (ne_of_none q fT)]; exact q) fun b ys q => by rw [upd_ne (ne_of_none q fT)]; exact q
      rcases hb with z | z
      · rw [z]; exact nc a o e
      · exact nc b _ z
theorem Inv.turnL {ch : List Addr} {t' : Nat} (I : Inv X pins σ H s) (hch : ∀ b ∈ ch, FpOk X pins H b) (k : ∀ b o, b ∉ ch → s.heap.get? b = some o → h'.get? b = some o) : Inv X pins σ H { s with heap := h', toks := t' } := by
  have nc : ∀ b u, H b = some u → b ∉ ch := fun b u e z => by rw [(hch b z).1] at e; cases e
  refine I.step (g' := s.gens) (d' := s.drawn) (ch := ch) (fun b hb => ⟨(hch b hb).2.2.2.1, (hch b hb).2.1, (hch b hb).2.2.2.2.1, (hch b hb).2.2.2.2.2⟩) (fun b o _ _ hc e _ => k b o hc e) (fun b o _ _ hc e _ => ⟨o.slots, k b o hc e⟩)
    (fun b o _ _ n => n) (fun b o hc e => ⟨o, k b o hc e⟩) (fun b ys e => e) (fun b o u e => e) (fun b ps e => ⟨#[], by rw [e]; simp⟩) (fun m hm => ?_) (fun a o e => ?_) I.bare
  · obtain ⟨o, es, ep, ho, r⟩ := hm
    exact ⟨o, es, ep, k _ o (fun z => (hch _ z).2.1 rfl) ho, r⟩
  · refine (I.hok a o e).stay (fun b u hb q => k b u ?_ q) (fun b q => q) fun b ys q => q
    rcases hb with z | z
    · rw [z]; exact nc a o e
    · exact nc b _ z
end
section
variable {prog : Program} {w : World} {A : Around} {E : Value → Shared → Prop} {s : Shared}
theorem nx_item {it t : Addr} {i : Nat} {items : Array Value} {x : Value} {Q : Value → Shared → Prop} (hit : s.heap.IsTupleIter it t i) (ht : s.heap.IsTuple t items) (hx : items[i]? = some x)
    (q : ∀ h', h'.IsTupleIter it t (i + 1) → Heap.SameBut it s.heap h' → Q x { s with heap := h' }) : wpAny (model prog w) A (Builtin.SmallTypes.nextOf (.ref it)) Q E s := by
  obtain ⟨o, f1, f2, f3⟩ := id hit
  obtain ⟨ol, g1, _, nl, g2⟩ := ht
  unfold Builtin.SmallTypes.nextOf
  refine wpAny_bind (wpAny_callSpecial?_slot (name := Str.ofString "__next__") hit.typeIs F.slot_tuple_iterator_next (wpAny_call_entry F.slot_tuple_iterator_next hit.typeIs F.entry_tuple_iterator_next ?z (F.args_tuple_iterator_next_1 _)))
  case z =>
    show wpAny _ _ (field (.ref it) 0 >>= _) _ _ s
    refine wpAny_bind (wpAny_field f1 f3 (x := .ref t) rfl ?_)
    show wpAny _ _ (if (Value.ref t == Value.none) = true then _ else _) _ _ s
    rw [if_neg (show ¬ (Value.ref t == Value.none) = true by intro z; cases z)]
    show wpAny _ _ (field (.ref it) 1 >>= _) _ _ s
    refine wpAny_bind (wpAny_field f1 f3 (x := .int i 0) rfl ?_)
    show wpAny _ _ (seqItems? (.ref t) >>= _) _ _ s
    refine wpAny_bind (wpAny_seqItems g1 g2 ?_)
    simp only [Int.toNat_natCast, hx]
    refine wpAny_bind (wpAny_setField f1 f3 (by simp) (wpAny_pure ⟨x, rfl, wpAny_pure (q _ ⟨_, Heap.get?_update_self _ f1 (Obj.isFreed_of_fields (Obj.data_mapFields f3 _)), (Obj.cls_mapFields ..).trans f2, by rw [Obj.data_mapFields f3]; simp [rawInt]⟩ (Heap.SameBut.update ..))⟩))
theorem nx_end {it t : Addr} {i : Nat} {items : Array Value} {Q : Value → Shared → Prop} (hh : A.handled = none) (hit : s.heap.IsTupleIter it t i) (ht : s.heap.IsTuple t items) (hx : items[i]? = none)
    (q : ∀ h' e, Heap.ExtBut it s.heap h' → (∃ o, h'.get? e = some o ∧ o.cls = .type "StopIteration") → E (.ref e) { s with heap := h' }) : wpAny (model prog w) A (Builtin.SmallTypes.nextOf (.ref it)) Q E s := by
  obtain ⟨o, f1, f2, f3⟩ := id hit
  obtain ⟨ol, g1, _, nl, g2⟩ := ht
  unfold Builtin.SmallTypes.nextOf
  refine wpAny_bind (wpAny_callSpecial?_slot (name := Str.ofString "__next__") hit.typeIs F.slot_tuple_iterator_next (wpAny_call_entry F.slot_tuple_iterator_next hit.typeIs F.entry_tuple_iterator_next ?z (F.args_tuple_iterator_next_1 _)))
  case z =>
    show wpAny _ _ (field (.ref it) 0 >>= _) _ _ s
    refine wpAny_bind (wpAny_field f1 f3 (x := .ref t) rfl ?_)
    show wpAny _ _ (if (Value.ref t == Value.none) = true then _ else _) _ _ s
    rw [if_neg (show ¬ (Value.ref t == Value.none) = true by intro z; cases z)]
    show wpAny _ _ (field (.ref it) 1 >>= _) _ _ s
    refine wpAny_bind (wpAny_field f1 f3 (x := .int i 0) rfl ?_)
    show wpAny _ _ (seqItems? (.ref t) >>= _) _ _ s
    refine wpAny_bind (wpAny_seqItems g1 g2 ?_)
    simp only [Int.toNat_natCast, hx]
    refine wpAny_bind (wpAny_rule (wpAny_bind (wpAny_setField f1 f3 (by simp) ?_)))
    show wpAny _ _ (newExc (.type "StopIteration") [] >>= _) _ _ _
    apply wpAny_bind
    simp only [newExc, newTuple]
    refine wpAny_bind (wpAny_newObj_type (wpAny_bind (m := firstArgMember _ _) (wpAny_of_eq (a := Value.none) (by first | rfl | (simp only [firstArgMember]; rfl)) (wpAny_newObj_type ?_ (by size_fits)))) (by size_fits))
    simp only [raiseNew]
    apply wpAny_bind
    apply wpAny_handled
    rw [show A.in1.handled = none from hh]
    refine wpAny_bind (m := pure _) (wpAny_pure (wpAny_throw ?_))
    exact q _ _ (((Heap.SameBut.update ..).extBut.push _).push _) ⟨_, Heap.get?_push_size _ rfl, rfl⟩
end
end L2
set_option Elab.async false
set_option linter.all false
set_option maxRecDepth 100000
namespace L2
open PySem PySem.Spec PyProof.Rows
section
variable {prog : Program} {w : World} {A : Around} {E : Value → Shared → Prop} {s : Shared}
theorem ti_go {h h' : Heap} {a t : Addr} {i : Nat} (x : h.IsTupleIter a t i) (k : ∀ o, h.get? a = some o → h'.get? a = some o) : h'.IsTupleIter a t i := let ⟨o, e, r⟩ := x; ⟨o, k o e, r⟩
theorem tu_go {h h' : Heap} {a : Addr} {xs : Array Value} (x : h.IsTuple a xs) (k : ∀ o, h.get? a = some o → h'.get? a = some o) : h'.IsTuple a xs := let ⟨o, e, r⟩ := x; ⟨o, k o e, r⟩
theorem zt_item {z TI TO i1 i2 l1 l2 : Addr} {k1 k2 : Nat} {xs ys : Array Value} {x y a b : Value} {Q : Value → Shared → Prop} (D : ZipApart z TI TO i1 i2 l1 l2)
    (hz : IsZip s.heap z TI TO .none) (hTI : IsPair s.heap TI (.ref i1) (.ref i2)) (hTO : IsPair s.heap TO a b)
    (h1 : s.heap.IsTupleIter i1 l1 k1) (h2 : s.heap.IsTupleIter i2 l2 k2) (hl1 : s.heap.IsTuple l1 xs) (hl2 : s.heap.IsTuple l2 ys) (hx : xs[k1]? = some x) (hy : ys[k2]? = some y)
    (hQ : ∀ h', IsZip h' z TI TO (rawInt s.heap.objs.size) → IsPair h' TO x y → h'.IsTupleIter i1 l1 (k1 + 1) → h'.IsTupleIter i2 l2 (k2 + 1) → IsPair h' s.heap.objs.size x y →
      (∀ c o, c ≠ z → c ≠ TO → c ≠ i1 → c ≠ i2 → s.heap.get? c = some o → h'.get? c = some o) → Q (.ref s.heap.objs.size) { s with heap := h' }) :
    wpAny (model prog w) A (Builtin.«zip.__next__» ⟨[.ref z], []⟩) (fun fin s' => ∃ v, fin = .done (.ret v) ∧ Q v s') E s := by
  show wpAny _ _ (field (.ref z) 2 >>= _) _ _ _
  refine wpAny_bind (wpAny_field hz rfl (x := .bool false) rfl ?_)
  show wpAny _ _ (field (.ref z) 3 >>= _) _ _ _
  refine wpAny_bind (wpAny_field hz rfl (x := .ref TI) rfl (wpAny_bind (wpAny_seqItems hTI rfl ?_)))
  show wpAny _ _ (Builtin.SmallTypes.ownedTupleIsFree (.ref z) >>= _) _ _ _
  apply wpAny_bind
  unfold Builtin.SmallTypes.ownedTupleIsFree
  refine wpAny_bind (wpAny_field hz rfl (x := .none) rfl (wpAny_pure ?_))
  simp only [if_true]
  refine wpAny_bind (wpAny_rule (wpAny_bind (wpAny_field hz rfl (x := .ref TO) rfl (wpAny_bind (wpAny_setField_rec hz (by simp) fun j1 z1 s1 => ?_)))))
  replace z1 : IsZip j1 z TI TO .ellipsis := z1
  apply wpAny_bind
  simp only [List.zipIdx_cons, List.zipIdx_nil, List.forIn_cons, List.forIn_nil]
  refine wpAny_bind (wpAny_bind (wpAny_onRaise ?_))
  show wpAny _ _ (Builtin.SmallTypes.nextOf (.ref i1) >>= _) _ _ _
  refine wpAny_bind (nx_item (s := { s with heap := j1 }) (ti_go h1 fun o e => s1.extBut _ o D.i1z e) (tu_go hl1 fun o e => s1.extBut _ o D.l1z e) hx fun j2 a2 s2 => wpAny_pure ?_)
  have o2 : IsPair j2 TO a b := s2.extBut _ _ D.TOi1 (s1.extBut _ _ D.TOz hTO)
  refine wpAny_bind (wpAny_seqItems (s := { s with heap := j2 }) o2 rfl (wpAny_bind (wpAny_updateSeq_pair (s := { s with heap := j2 }) o2 fun j3 o3 s3 => ?_)))
  replace o3 : IsPair j3 TO x b := o3
  refine wpAny_bind (wpAny_letGo (wpAny_pure (wpAny_bind (wpAny_bind (wpAny_onRaise ?_)))))
  show wpAny _ _ (Builtin.SmallTypes.nextOf (.ref i2) >>= _) _ _ _
  refine wpAny_bind (nx_item (s := { s with heap := j3 }) (ti_go h2 fun o e => s3.extBut _ o D.TOi2.symm (s2.extBut _ o D.i12.symm (s1.extBut _ o D.i2z e))) (tu_go hl2 fun o e => s3.extBut _ o D.l2TO (s2.extBut _ o D.l2i1 (s1.extBut _ o D.l2z e))) hy fun j4 a4 s4 => wpAny_pure ?_)
  have o4 : IsPair j4 TO x b := s4.extBut _ _ D.TOi2 o3
  refine wpAny_bind (wpAny_seqItems (s := { s with heap := j4 }) o4 rfl (wpAny_bind (wpAny_updateSeq_pair (s := { s with heap := j4 }) o4 fun j5 o5 s5 => ?_)))
  replace o5 : IsPair j5 TO x y := o5
  refine wpAny_bind (wpAny_letGo (wpAny_pure (wpAny_pure (wpAny_bind (wpAny_seqItems (s := { s with heap := j5 }) o5 rfl (wpAny_bind (wpAny_newTuple ?_)))))))
  have hsz : j5.objs.size = s.heap.objs.size := by rw [s5.1, s4.1, s3.1, s2.1, s1.1]
  have z5 : IsZip j5 z TI TO .ellipsis := s5.extBut _ _ D.TOz.symm (s4.extBut _ _ D.i2z.symm (s3.extBut _ _ D.TOz.symm (s2.extBut _ _ D.i1z.symm z1)))
  have k5 : ∀ c o, c ≠ z → c ≠ TO → c ≠ i1 → c ≠ i2 → s.heap.get? c = some o → j5.get? c = some o := fun c o c1 c2 c3 c4 e => s5.extBut _ _ c2 (s4.extBut _ _ c4 (s3.extBut _ _ c2 (s2.extBut _ _ c3 (s1.extBut _ _ c1 e))))
  have b1 : j5.IsTupleIter i1 l1 (k1 + 1) := ti_go a2 fun o e => s5.extBut _ o D.TOi1.symm (s4.extBut _ o D.i12 (s3.extBut _ o D.TOi1.symm e))
  have b2 : j5.IsTupleIter i2 l2 (k2 + 1) := ti_go a4 fun o e => s5.extBut _ o D.TOi2.symm e
  have zlt : z < j5.objs.size := Heap.lt_size z5
  show wpAny _ _ (Builtin.SmallTypes.ownedTupleHandOut (.ref z) (.ref j5.objs.size) >>= _) _ _ _
  apply wpAny_bind
  unfold Builtin.SmallTypes.ownedTupleHandOut
  have z6 : IsZip (j5.push { cls := .type "tuple", data := .seq #[x, y] }) z TI TO .ellipsis := Heap.get?_push_of_some _ z5
  refine wpAny_bind (wpAny_setField_rec z6 (by simp) fun j7 z7 s7 => ?_)
  replace z7 : IsZip j7 z TI TO (rawInt j5.objs.size) := z7
  refine wpAny_setField_rec z7 (by simp) fun j8 z8 s8 => ?_
  replace z8 : IsZip j8 z TI TO (rawInt j5.objs.size) := z8
  have up : ∀ c o, c ≠ z → j5.get? c = some o → j8.get? c = some o := fun c o c1 e => s8.extBut _ _ c1 (s7.extBut _ _ c1 (Heap.get?_push_of_some _ e))
  have t8 : IsPair j8 j5.objs.size x y := s8.extBut _ _ (Nat.ne_of_gt zlt) (s7.extBut _ _ (Nat.ne_of_gt zlt) (Heap.get?_push_size _ rfl))
  rw [hsz] at z8 t8
  refine wpAny_pure ⟨_, rfl, ?_⟩
  show Q (.ref j5.objs.size) _
  rw [hsz]
  exact hQ j8 z8 (up _ _ D.TOz o5) (ti_go b1 fun o e => up _ o D.i1z e) (ti_go b2 fun o e => up _ o D.i2z e) t8 fun c o c1 c2 c3 c4 e => up c o c1 (k5 c o c1 c2 c3 c4 e)
theorem zt_end {z TI TO i1 i2 l1 l2 : Addr} {k1 k2 : Nat} {xs ys : Array Value} {a b : Value} {Q : PySem.Fin → Shared → Prop} (hh : A.handled = none) (D : ZipApart z TI TO i1 i2 l1 l2)
    (hz : IsZip s.heap z TI TO .none) (hTI : IsPair s.heap TI (.ref i1) (.ref i2)) (hTO : IsPair s.heap TO a b)
    (h1 : s.heap.IsTupleIter i1 l1 k1) (h2 : s.heap.IsTupleIter i2 l2 k2) (hl1 : s.heap.IsTuple l1 xs) (hl2 : s.heap.IsTuple l2 ys) (hend : xs[k1]? = none ∨ ys[k2]? = none)
    (hE : ∀ h' e, (∀ c o, c ≠ z → c ≠ TO → c ≠ i1 → c ≠ i2 → s.heap.get? c = some o → h'.get? c = some o) → (∃ o, h'.get? e = some o ∧ o.cls = .type "StopIteration") → E (.ref e) { s with heap := h' }) :
    wpAny (model prog w) A (Builtin.«zip.__next__» ⟨[.ref z], []⟩) Q E s := by
  show wpAny _ _ (field (.ref z) 2 >>= _) _ _ _
  refine wpAny_bind (wpAny_field hz rfl (x := .bool false) rfl ?_)
  show wpAny _ _ (field (.ref z) 3 >>= _) _ _ _
  refine wpAny_bind (wpAny_field hz rfl (x := .ref TI) rfl (wpAny_bind (wpAny_seqItems hTI rfl ?_)))
  show wpAny _ _ (Builtin.SmallTypes.ownedTupleIsFree (.ref z) >>= _) _ _ _
  apply wpAny_bind
  unfold Builtin.SmallTypes.ownedTupleIsFree
  refine wpAny_bind (wpAny_field hz rfl (x := .none) rfl (wpAny_pure ?_))
  simp only [if_true]
  refine wpAny_bind (wpAny_rule (wpAny_bind (wpAny_field hz rfl (x := .ref TO) rfl (wpAny_bind (wpAny_setField_rec hz (by simp) fun j1 z1 s1 => ?_)))))
  replace z1 : IsZip j1 z TI TO .ellipsis := z1
  apply wpAny_bind
  simp only [List.zipIdx_cons, List.zipIdx_nil, List.forIn_cons, List.forIn_nil]
  refine wpAny_bind (wpAny_bind (wpAny_onRaise ?_))
  show wpAny _ _ (Builtin.SmallTypes.nextOf (.ref i1) >>= _) _ _ _
  cases hx : xs[k1]? with
  | none =>
    refine wpAny_bind (nx_end (s := { s with heap := j1 }) hh (ti_go h1 fun o e => s1.extBut _ o D.i1z e) (tu_go hl1 fun o e => s1.extBut _ o D.l1z e) hx fun j2 e s2 ⟨oe, e1, e2⟩ => ?_)
    have z2 : IsZip j2 z TI TO .ellipsis := s2 _ _ D.i1z.symm z1
    have ez : e ≠ z := fun q => by subst q; rw [z2] at e1; cases e1; simp at e2
    refine wpAny_setField_rec z2 (by simp) fun j3 _ s3 => hE j3 e (fun c o c1 _ c3 _ q => s3.extBut _ _ c1 (s2 _ _ c3 (s1.extBut _ _ c1 q))) ⟨oe, s3.extBut _ _ ez e1, e2⟩
  | some x =>
    have hy : ys[k2]? = none := by
      rcases hend with h | h
      · rw [hx] at h; cases h
      · exact h
    refine wpAny_bind (nx_item (s := { s with heap := j1 }) (ti_go h1 fun o e => s1.extBut _ o D.i1z e) (tu_go hl1 fun o e => s1.extBut _ o D.l1z e) hx fun j2 a2 s2 => wpAny_pure ?_)
    have o2 : IsPair j2 TO a b := s2.extBut _ _ D.TOi1 (s1.extBut _ _ D.TOz hTO)
    refine wpAny_bind (wpAny_seqItems (s := { s with heap := j2 }) o2 rfl (wpAny_bind (wpAny_updateSeq_pair (s := { s with heap := j2 }) o2 fun j3 o3 s3 => ?_)))
    refine wpAny_bind (wpAny_letGo (wpAny_pure (wpAny_bind (wpAny_bind (wpAny_onRaise ?_)))))
    show wpAny _ _ (Builtin.SmallTypes.nextOf (.ref i2) >>= _) _ _ _
    refine wpAny_bind (nx_end (s := { s with heap := j3 }) hh (ti_go h2 fun o e => s3.extBut _ o D.TOi2.symm (s2.extBut _ o D.i12.symm (s1.extBut _ o D.i2z e))) (tu_go hl2 fun o e => s3.extBut _ o D.l2TO (s2.extBut _ o D.l2i1 (s1.extBut _ o D.l2z e))) hy fun j4 e s4 ⟨oe, e1, e2⟩ => ?_)
    have z4 : IsZip j4 z TI TO .ellipsis := s4 _ _ D.i2z.symm (s3.extBut _ _ D.TOz.symm (s2.extBut _ _ D.i1z.symm z1))
    have ez : e ≠ z := fun q => by subst q; rw [z4] at e1; cases e1; simp at e2
    refine wpAny_setField_rec z4 (by simp) fun j5 _ s5 => hE j5 e (fun c o c1 c2 c3 c4 q => s5.extBut _ _ c1 (s4 _ _ c4 (s3.extBut _ _ c2 (s2.extBut _ _ c3 (s1.extBut _ _ c1 q))))) ⟨oe, s5.extBut _ _ ez e1, e2⟩
end
def ztH (h : Heap) (l1 l2 : Addr) : Heap := ((((h.push { cls := .type "tuple_iterator", data := .fields #[.ref l1, .int 0 0] }).push { cls := .type "tuple_iterator", data := .fields #[.ref l2, .int 0 0] }).push
  { cls := .type "tuple", data := .seq #[.ref h.objs.size, .ref (h.push { cls := .type "tuple_iterator", data := .fields #[.ref l1, .int 0 0] }).objs.size] }).push { cls := .type "tuple", data := .seq #[.none, .none] })
theorem meets_zt (l1 l2 : Addr) (xs ys : Array Value) :
    Meets (Builtin.«zip.__new__» ⟨[.type "zip", .ref l1, .ref l2], []⟩) (fun _ R s => s.heap.IsTuple l1 xs ∧ s.heap.IsTuple l2 ys ∧
      R (.ok (.ret (.ref (ztH s.heap l1 l2).objs.size))) { s with heap := (ztH s.heap l1 l2).push { cls := .type "zip", data := .fields #[.none, .bool false, .bool false, .ref ((s.heap.push { cls := .type "tuple_iterator", data := .fields #[.ref l1, .int 0 0] }).push { cls := .type "tuple_iterator", data := .fields #[.ref l2, .int 0 0] }).objs.size,
        .ref (((s.heap.push { cls := .type "tuple_iterator", data := .fields #[.ref l1, .int 0 0] }).push { cls := .type "tuple_iterator", data := .fields #[.ref l2, .int 0 0] }).push
  { cls := .type "tuple", data := .seq #[.ref s.heap.objs.size, .ref (s.heap.push { cls := .type "tuple_iterator", data := .fields #[.ref l1, .int 0 0] }).objs.size] }).objs.size] } }) :=
  .of_wp fun prog w A R s h => by
    obtain ⟨hp, g, d, tk, os⟩ := s
    obtain ⟨q1, q2, h⟩ := h
    have hsub := sub_zip
    have m1 : Heap.IsTuple (Shared.heap ⟨hp, g, d, tk, os⟩) l1 xs := q1
    have m2 : Heap.IsTuple (Shared.heap ⟨hp.push { cls := .type "tuple_iterator", data := .fields #[.ref l1, .int 0 0] }, g, d, tk, os⟩) l2 ys := tu_go q2 fun o e => Heap.get?_push_of_some _ e
    wp_walk using wpAny_pyIter_tuple m1, wpAny_pyIter_tuple m2
    exact ⟨_, rfl, h⟩
end L2
set_option Elab.async false
set_option linter.all false
set_option maxRecDepth 100000
namespace L2
open PySem PySem.Spec PyProof.Rows
def Itz (K : PySem.W.Frag) (a b : Addr) : It :=
  ⟨fun i H => ∃ xs ys x y, SqT K H a xs ∧ SqT K H b ys ∧ xs[i]? = some x ∧ ys[i]? = some y,
   fun i H v H' => ∃ T x y, H T = none ∧ v = .ref T ∧ H' = upd H T (.tup [x, y]) ∧ (∀ xs, SqT K H a xs → xs[i]? = some x) ∧ (∀ ys, SqT K H b ys → ys[i]? = some y),
   fun i H => ∃ xs ys, SqT K H a xs ∧ SqT K H b ys ∧ (xs.length ≤ i ∨ ys.length ≤ i)⟩
def ZtAt (a b z TI TO i1 i2 : Addr) (i : Nat) (h : Heap) : Prop := IsZip h z TI TO .none ∧ IsPair h TI (.ref i1) (.ref i2) ∧ (∃ p q, IsPair h TO p q) ∧ h.IsTupleIter i1 a i ∧ h.IsTupleIter i2 b i
theorem turn_zip {P : Program} {w : World} {K : PySem.W.Frag} {es : List Expr} {ek : Nat} {pos : Pos} (a b z TI TO i1 i2 : Addr) (D : ZipApart z TI TO i1 i2 a b) :
    Turn P w K (.Tuple es ek pos) (Itz K a b) [z, TI, TO, i1, i2] z (ZtAt a b z TI TO i1 i2) where
  mem := by simp
  obj := fun i h st c hc => by
    obtain ⟨h1, h2, ⟨p, q, h3⟩, ⟨o4, e4, _, d4⟩, ⟨o5, e5, _, d5⟩⟩ := st
    simp only [List.mem_cons, List.mem_nil_iff, or_false] at hc
    rcases hc with rfl | rfl | rfl | rfl | rfl
    · exact ⟨_, h1, fun v e => by cases e⟩
    · exact ⟨_, h2, fun v e => by cases e⟩
    · exact ⟨_, h3, fun v e => by cases e⟩
    · exact ⟨_, e4, fun v e => by rw [d4] at e; cases e⟩
    · exact ⟨_, e5, fun v e => by rw [d5] at e; cases e⟩
  keep := fun i h h' st k => by
    obtain ⟨h1, h2, ⟨p, q, h3⟩, h4, h5⟩ := st
    exact ⟨k z (by simp) _ h1, k TI (by simp) _ h2, ⟨p, q, k TO (by simp) _ h3⟩, ti_go h4 fun o e => k i1 (by simp) o e, ti_go h5 fun o e => k i2 (by simp) o e⟩
  item := by
    intro X hP hw hK hc i pins s σ H E I hf st hg
    subst hP hw hK
    obtain ⟨xs, ys, x, y, q1, q2, x1, y1⟩ := hg
    obtain ⟨its, rv, p, hz⟩ := I.tuple q1
    obtain ⟨its2, rv2, p2, hz2⟩ := I.tuple q2
    obtain ⟨u, hu, ru⟩ := rv.get x1
    obtain ⟨u2, hu2, ru2⟩ := rv2.get y1
    have there := st
    obtain ⟨h1, h2, ⟨pa, pb, h3⟩, h4, h5⟩ := st
    have hT : s.TypeIs (.ref z) "zip" := ⟨_, h1, rfl⟩
    unfold pyNext
    refine wpAny_bind (wpAny_attempt (wpAny_callSpecial?_slot (name := Str.ofString "__next__") hT F.slot_zip_next (wpAny_call_entry F.slot_zip_next hT F.entry_zip_next
      (zt_item (Q := fun v s' => wpAny (model X.prog X.w) X.A (pure (some v)) (fun r s1 => ∃ u, r = some u ∧ wpAny (model X.prog X.w) X.A (letOwnedTupleGo (.Tuple es ek pos) (.ref z) u) (fun _ s2 => ∃ x H', Inv X pins σ H' s2 ∧ RelV x u ∧ (Itz X.K a b).yld i H x H' ∧ ZtAt a b z TI TO i1 i2 (i + 1) s2.heap ∧ ∀ b ∈ [z, TI, TO, i1, i2], H' b = none) E s1) E s')
        D h1 h2 h3 h4 h5 (show s.heap.IsTuple a its.toArray from p) (show s.heap.IsTuple b its2.toArray from p2) (x := u) (y := u2) (by simpa using hu) (by simpa using hu2) fun h' g1 g2 g3 g4 g5 kk => wpAny_pure ⟨_, rfl, ?_⟩) (F.args_zip_next_1 _))))
    refine wpAny_letOwnedTupleGo_zip g1 fun h2' g1' sb => ?_
    have lt : ∀ c ∈ [z, TI, TO, i1, i2], c < s.heap.objs.size := fun c hc => by
      obtain ⟨h1, h2, ⟨p, q, h3⟩, ⟨o4, e4, _⟩, ⟨o5, e5, _⟩⟩ := there
      simp only [List.mem_cons, List.mem_nil_iff, or_false] at hc
      rcases hc with rfl | rfl | rfl | rfl | rfl
      · exact Heap.lt_size h1
      · exact Heap.lt_size h2
      · exact Heap.lt_size h3
      · exact Heap.lt_size e4
      · exact Heap.lt_size e5
    have kp : ∀ c o, c ∉ [z, TI, TO, i1, i2] → s.heap.get? c = some o → h2'.get? c = some o := fun c o hc e => by
      simp only [List.mem_cons, List.mem_nil_iff, or_false, not_or] at hc
      exact sb.extBut _ _ hc.1 (kk c o hc.1 hc.2.2.1 hc.2.2.2.1 hc.2.2.2.2 e)
    have zT : s.heap.objs.size ≠ z := Nat.ne_of_gt (lt z (by simp))
    have fT : H s.heap.objs.size = none := I.hok.fresh (Nat.le_refl _)
    refine ⟨.ref s.heap.objs.size, upd H s.heap.objs.size (.tup [x, y]), I.turnT (t' := s.toks) hf kp (Nat.le_refl _) ⟨by show 2 ≤ sizeLine; decide, [u, u2], .cons ru (.cons ru2 .nil), ?_⟩, rfl, ⟨_, x, y, fT, rfl, rfl, fun zs hz => ?_, fun zs hz => ?_⟩, ?_, fun c hc => ?_⟩
    · exact ⟨_, sb.extBut _ _ zT g5, rfl, 0, rfl⟩
    · rw [I.tuple_inj hz q1]; exact x1
    · rw [I.tuple_inj hz q2]; exact y1
    · exact ⟨g1', sb.extBut _ _ D.TIz (kk _ _ D.TIz D.TITO D.TIi1 D.TIi2 h2), ⟨_, _, sb.extBut _ _ D.TOz g2⟩, ti_go g3 fun o e => sb.extBut _ o D.i1z e, ti_go g4 fun o e => sb.extBut _ o D.i2z e⟩
    · rw [upd_ne (Nat.ne_of_lt (lt c hc))]
      exact (hf c hc).1
  done := by
    intro X hP hw hK hc i pins s σ H E I hf st hg
    subst hP hw hK
    obtain ⟨xs, ys, q1, q2, hend⟩ := hg
    obtain ⟨its, rv, p, hz⟩ := I.tuple q1
    obtain ⟨its2, rv2, p2, hz2⟩ := I.tuple q2
    obtain ⟨h1, h2, ⟨pa, pb, h3⟩, h4, h5⟩ := st
    have hT : s.TypeIs (.ref z) "zip" := ⟨_, h1, rfl⟩
    have l1 := rv.length
    have l2 := rv2.length
    unfold pyNext
    refine wpAny_bind (wpAny_attempt (wpAny_callSpecial?_slot (name := Str.ofString "__next__") hT F.slot_zip_next (wpAny_call_entry F.slot_zip_next hT F.entry_zip_next
      (zt_end (I.ok.hd hc) D h1 h2 h3 h4 h5 (show s.heap.IsTuple a its.toArray from p) (show s.heap.IsTuple b its2.toArray from p2) (by
        rcases hend with h | h
        · exact .inl (by simp; omega)
        · exact .inr (by simp; omega)) fun h' e kk ⟨o, ho, hcl⟩ => ?_) (F.args_zip_next_1 _))))
    refine wpAny_bind (wpAny_isInstance (T := "StopIteration") (b := true) ⟨o, ho, hcl⟩ isSubtype_stop (wpAny_pure ⟨rfl, I.turnL (t' := s.toks) hf fun c o hc e => ?_⟩))
    simp only [List.mem_cons, List.mem_nil_iff, or_false, not_or] at hc
    exact kk c o hc.1 hc.2.2.1 hc.2.2.2.1 hc.2.2.2.2 e
  self := fun _ _ _ _ _ st h => wpAny_pyIter_zip st.1 h
section
variable {X : Cx}
def iZip (K : PySem.W.Frag) (ta : TA) : TI := fun σ H R => ta σ H fun vs H1 => ∃ a b, vs = [.ref a, .ref b] ∧ (∃ xs, SqT K H1 a xs) ∧ (∃ ys, SqT K H1 b ys) ∧ R (Itz K a b) H1
theorem pi_zip {a b : Expr} {ta : TA} {p pos : Pos} {es : List Expr} {ek : Nat} {ps : Pos} (hg : Gl X "zip") (hm : X.mg "zip" = none) (ha : PA X [a, b] ta) (hs : starEach [a, b] X.env = [(false, eval a X.env), (false, eval b X.env)] := by rfl) (hs2 : starEach [b] X.env = [(false, eval b X.env)] := by rfl) :
    PI X (.Tuple es ek ps) (.Call (.Name "zip" p) [a, b] [] pos) (iZip X.K ta) := by
  intro pins s σ H R I h
  refine Call_ (ld_blt I hg hm boot_zip (PyProof.Rows.callWith_type1 (thn (ha pos pins s σ H _ I h) fun us s1 ⟨vs, H1, I1, r1, q1⟩ => ?_) (by rw [hs, hs2]) (by rw [hs2]; rfl)))
  obtain ⟨l1, l2, e, ⟨xs, hx⟩, ⟨ys, hy⟩, q⟩ := q1
  subst e
  cases r1 with
  | cons r rr =>
    cases rr with
    | cons r' rr =>
      cases rr
      cases r
      cases r'
      obtain ⟨its, rv, p, hz⟩ := I1.tuple hx
      obtain ⟨its2, rv2, p2, hz2⟩ := I1.tuple hy
      have lt1 : l1 < s1.heap.objs.size := by obtain ⟨o, e, _⟩ := p; exact Heap.lt_size e
      have lt2 : l2 < s1.heap.objs.size := by obtain ⟨o, e, _⟩ := p2; exact Heap.lt_size e
      refine callType_new F.called_zip (by decide) (F.typeCall_zip_2 _ _) (F.newCall_zip_2 _ _) (fun obj => F.args_object_init_3 obj _ _) F.entry_zip_new (meets_zt l1 l2 its.toArray its2.toArray) ⟨p, p2, ?_⟩
      have z1 : (s1.heap.push { cls := .type "tuple_iterator", data := .fields #[.ref l1, .int 0 0] }).objs.size = s1.heap.objs.size + 1 := Heap.size_push ..
      have z2 : ((s1.heap.push { cls := .type "tuple_iterator", data := .fields #[.ref l1, .int 0 0] }).push { cls := .type "tuple_iterator", data := .fields #[.ref l2, .int 0 0] }).objs.size = s1.heap.objs.size + 2 := by rw [Heap.size_push, z1]
      have z3 : (((s1.heap.push { cls := .type "tuple_iterator", data := .fields #[.ref l1, .int 0 0] }).push { cls := .type "tuple_iterator", data := .fields #[.ref l2, .int 0 0] }).push
        { cls := .type "tuple", data := .seq #[.ref s1.heap.objs.size, .ref (s1.heap.push { cls := .type "tuple_iterator", data := .fields #[.ref l1, .int 0 0] }).objs.size] }).objs.size = s1.heap.objs.size + 3 := by rw [Heap.size_push, z2]
      have z4 : (ztH s1.heap l1 l2).objs.size = s1.heap.objs.size + 4 := by unfold ztH; rw [Heap.size_push, z3]
      show _ ∧ _
      refine ⟨⟨_, Heap.get?_push_size _ rfl, rfl⟩, wpAny_pyIter_zip (TI := s1.heap.objs.size + 2) (TO := s1.heap.objs.size + 3) (f0 := .none) ?_ ?_⟩
      · rw [z2, z3]
        exact Heap.get?_push_size _ rfl
      · rw [z2, z3, z4]
        have g5 : ((ztH s1.heap l1 l2).push { cls := .type "zip", data := .fields #[.none, .bool false, .bool false, .ref (s1.heap.objs.size + 2), .ref (s1.heap.objs.size + 3)] }).get? (s1.heap.objs.size + 4) = some { cls := .type "zip", data := .fields #[.none, .bool false, .bool false, .ref (s1.heap.objs.size + 2), .ref (s1.heap.objs.size + 3)] } := by rw [← z4]; exact Heap.get?_push_size _ rfl
        have g4 : ((ztH s1.heap l1 l2).push { cls := .type "zip", data := .fields #[.none, .bool false, .bool false, .ref (s1.heap.objs.size + 2), .ref (s1.heap.objs.size + 3)] }).get? (s1.heap.objs.size + 3) = some { cls := .type "tuple", data := .seq #[.none, .none] } := by
          rw [← z3]; exact Heap.get?_push_of_some _ (Heap.get?_push_size _ rfl)
        have g3 : ((ztH s1.heap l1 l2).push { cls := .type "zip", data := .fields #[.none, .bool false, .bool false, .ref (s1.heap.objs.size + 2), .ref (s1.heap.objs.size + 3)] }).get? (s1.heap.objs.size + 2) = some { cls := .type "tuple", data := .seq #[.ref s1.heap.objs.size, .ref (s1.heap.objs.size + 1)] } := by
          rw [← z2, ← z1]; exact Heap.get?_push_of_some _ (Heap.get?_push_of_some _ (Heap.get?_push_size _ rfl))
        have g2 : ((ztH s1.heap l1 l2).push { cls := .type "zip", data := .fields #[.none, .bool false, .bool false, .ref (s1.heap.objs.size + 2), .ref (s1.heap.objs.size + 3)] }).get? (s1.heap.objs.size + 1) = some { cls := .type "tuple_iterator", data := .fields #[.ref l2, .int 0 0] } := by
          rw [← z1]; exact Heap.get?_push_of_some _ (Heap.get?_push_of_some _ (Heap.get?_push_of_some _ (Heap.get?_push_size _ rfl)))
        have g1 : ((ztH s1.heap l1 l2).push { cls := .type "zip", data := .fields #[.none, .bool false, .bool false, .ref (s1.heap.objs.size + 2), .ref (s1.heap.objs.size + 3)] }).get? s1.heap.objs.size = some { cls := .type "tuple_iterator", data := .fields #[.ref l1, .int 0 0] } :=
          Heap.get?_push_of_some _ (Heap.get?_push_of_some _ (Heap.get?_push_of_some _ (Heap.get?_push_of_some _ (Heap.get?_push_size _ rfl))))
        have kp : ∀ c o, s1.heap.get? c = some o → ((ztH s1.heap l1 l2).push { cls := .type "zip", data := .fields #[.none, .bool false, .bool false, .ref (s1.heap.objs.size + 2), .ref (s1.heap.objs.size + 3)] }).get? c = some o := fun c o e =>
          Heap.get?_push_of_some _ (Heap.get?_push_of_some _ (Heap.get?_push_of_some _ (Heap.get?_push_of_some _ (Heap.get?_push_of_some _ e))))
        generalize ((ztH s1.heap l1 l2).push { cls := .type "zip", data := .fields #[.none, .bool false, .bool false, .ref (s1.heap.objs.size + 2), .ref (s1.heap.objs.size + 3)] }) = h5 at g1 g2 g3 g4 g5 kp ⊢
        have D : ZipApart (s1.heap.objs.size + 4) (s1.heap.objs.size + 2) (s1.heap.objs.size + 3) s1.heap.objs.size (s1.heap.objs.size + 1) l1 l2 := PySem.W.ktu_apart _ _ _ lt1 lt2
        refine ⟨_, _, _, _, H1, rfl, I1.kept (t' := s1.toks) kp, turn_zip l1 l2 _ _ _ _ _ D, ⟨g5, g3, ⟨_, _, g4⟩, ⟨_, g1, rfl, rfl⟩, ⟨_, g2, rfl, rfl⟩⟩, fun c hc => ?_, q⟩
        have : s1.heap.objs.size ≤ c := by
          simp only [List.mem_cons, List.mem_nil_iff, or_false] at hc
          rcases hc with rfl | rfl | rfl | rfl | rfl
          · exact Nat.le_add_right _ _
          · exact Nat.le_add_right _ _
          · exact Nat.le_add_right _ _
          · exact Nat.le_refl _
          · exact Nat.le_add_right _ _
        exact I1.fpOk this (I1.hok.fresh this)
end
end L2
set_option Elab.async false
set_option linter.all false
set_option maxRecDepth 100000
namespace L2
open PySem PySem.Spec PyProof.Rows
section
variable {prog : Program} {w : World} {A : Around} {E : Value → Shared → Prop} {s : Shared}
theorem et_item {e j t : Addr} {k : Nat} {xs : Array Value} {x u : Value} {Q : Value → Shared → Prop} (ne : e ≠ j)
    (h1 : IsEnum s.heap e j k u) (h2 : s.heap.IsTupleIter j t k) (h3 : s.heap.IsTuple t xs) (hx : xs[k]? = some x)
    (q : ∀ h', IsEnumOut h' e j ((k : Int) + 1) x s.heap.objs.size → h'.IsTupleIter j t (k + 1) → IsPair h' s.heap.objs.size (.int k s.toks) x →
      (∀ c o, c ≠ e → c ≠ j → s.heap.get? c = some o → h'.get? c = some o) → Q (.ref s.heap.objs.size) { s with heap := h', toks := s.toks + 1 }) :
    wpAny (model prog w) A (Builtin.«enumerate.__next__» ⟨[.ref e], []⟩) (fun fin s' => ∃ v, fin = .done (.ret v) ∧ Q v s') E s := by
  obtain ⟨hp, gn, dr, tk, os⟩ := s
  replace h1 : IsEnum hp e j k u := h1
  refine wpAny_bind (m := field (.ref e) 2) (wpAny_field h1 rfl (x := .ref j) rfl (wpAny_bind (nx_item h2 h3 hx fun a1 b1 c1 => ?_)))
  replace c1 : Heap.SameBut j hp a1 := c1
  have d1 : IsEnum a1 e j k u := c1.extBut _ _ ne h1
  refine wpAny_bind (m := field (.ref e) 3) (wpAny_field (s := ⟨a1, gn, dr, tk, os⟩) d1 rfl (x := rawInt k) rfl (wpAny_bind (m := field (.ref e) 4) (wpAny_field (s := ⟨a1, gn, dr, tk, os⟩) d1 rfl (x := .none) rfl (wpAny_bind (m := mkInt k) (wpAny_mkInt ?_)))))
  refine wpAny_bind (m := setField (.ref e) 3 (rawInt ((k : Int) + 1))) (wpAny_setField_rec d1 (by simp) fun a2 d2 c2 => ?_)
  replace d2 : IsEnum a2 e j ((k : Int) + 1) u := d2
  replace c2 : Heap.SameBut e a1 a2 := c2
  refine wpAny_bind (m := setField (.ref e) 4 .none) (wpAny_setField_rec d2 (by simp) fun a3 d3 c3 => ?_)
  replace d3 : IsEnum a3 e j ((k : Int) + 1) u := d3
  replace c3 : Heap.SameBut e a2 a3 := c3
  refine wpAny_bind (m := newTuple [.int k tk, x]) (wpAny_newTuple ?_)
  have hsz : a3.objs.size = hp.objs.size := by rw [c3.1, c2.1, c1.1]
  have lt : e < a3.objs.size := Heap.lt_size d3
  have d4 : IsEnum (a3.push { cls := .type "tuple", data := .seq #[.int k tk, x] }) e j ((k : Int) + 1) u := Heap.get?_push_of_some _ d3
  have p4 : IsPair (a3.push { cls := .type "tuple", data := .seq #[.int k tk, x] }) a3.objs.size (.int k tk) x := Heap.get?_push_size _ rfl
  have k4 : ∀ c o, c ≠ e → c ≠ j → hp.get? c = some o → (a3.push { cls := .type "tuple", data := .seq #[.int k tk, x] }).get? c = some o := fun c o ce cj z =>
    Heap.get?_push_of_some _ (c3.extBut _ _ ce (c2.extBut _ _ ce (c1.extBut _ _ cj z)))
  have t4 : (a3.push { cls := .type "tuple", data := .seq #[.int k tk, x] }).IsTupleIter j t (k + 1) := ti_go b1 fun o z => Heap.get?_push_of_some _ (c3.extBut _ _ ne.symm (c2.extBut _ _ ne.symm z))
  generalize (a3.push { cls := .type "tuple", data := .seq #[.int k tk, x] }) = a4 at d4 p4 k4 t4 ⊢
  apply wpAny_bind (m := Builtin.SmallTypes.ownedTupleIsFree (.ref e))
  unfold Builtin.SmallTypes.ownedTupleIsFree
  refine wpAny_bind (wpAny_field d4 rfl (x := .none) rfl (wpAny_pure ?_))
  simp only [if_true]
  refine wpAny_bind (wpAny_rule (wpAny_bind (wpAny_field d4 rfl (x := u) rfl (wpAny_bind (wpAny_setField_rec d4 (by simp) fun a5 d5 c5 => ?_)))))
  replace d5 : IsEnum a5 e j ((k : Int) + 1) x := d5
  replace c5 : Heap.SameBut e a4 a5 := c5
  apply wpAny_bind (m := Builtin.SmallTypes.ownedTupleHandOut (.ref e) (.ref a3.objs.size))
  unfold Builtin.SmallTypes.ownedTupleHandOut
  refine wpAny_bind (wpAny_setField_rec d5 (by simp) fun a6 d6 c6 => ?_)
  replace d6 : IsEnumOut a6 e j ((k : Int) + 1) x a3.objs.size := d6
  refine wpAny_setField_rec d6 (by simp) fun a7 d7 c7 => ?_
  replace d7 : IsEnumOut a7 e j ((k : Int) + 1) x a3.objs.size := d7
  have up : ∀ c o, c ≠ e → a4.get? c = some o → a7.get? c = some o := fun c o ce z => c7.extBut _ _ ce (c6.extBut _ _ ce (c5.extBut _ _ ce z))
  refine wpAny_bind (wpAny_letGo (wpAny_pure ⟨_, rfl, ?_⟩))
  rw [hsz] at d7 p4 ⊢
  rw [hsz] at lt
  exact q a7 d7 (ti_go t4 fun o z => up _ o ne.symm z) (up _ _ (Nat.ne_of_gt lt) p4) fun c o ce cj z => up c o ce (k4 c o ce cj z)
theorem et_end {e j t : Addr} {k : Nat} {xs : Array Value} {u : Value} {Q : PySem.Fin → Shared → Prop} (hh : A.handled = none)
    (h1 : IsEnum s.heap e j k u) (h2 : s.heap.IsTupleIter j t k) (h3 : s.heap.IsTuple t xs) (hx : xs[k]? = none)
    (q : ∀ h' c, Heap.ExtBut j s.heap h' → (∃ o, h'.get? c = some o ∧ o.cls = .type "StopIteration") → E (.ref c) { s with heap := h' }) :
    wpAny (model prog w) A (Builtin.«enumerate.__next__» ⟨[.ref e], []⟩) Q E s :=
  wpAny_bind (m := field (.ref e) 2) (wpAny_field h1 rfl (x := .ref j) rfl (wpAny_bind (nx_end hh h2 h3 hx q)))
end
theorem meets_et (l : Addr) (xs : Array Value) :
    Meets (Builtin.«enumerate.__new__» ⟨[.type "enumerate", .ref l], []⟩) (fun _ R s => s.heap.IsTuple l xs ∧
      R (.ok (.ret (.ref (s.heap.push { cls := .type "tuple_iterator", data := .fields #[.ref l, .int 0 0] }).objs.size)))
        { s with heap := (s.heap.push { cls := .type "tuple_iterator", data := .fields #[.ref l, .int 0 0] }).push { cls := .type "enumerate", data := .fields #[.none, .bool false, .ref s.heap.objs.size, rawInt 0, .none, .none] } }) :=
  .of_wp fun prog w A R s h => by
    obtain ⟨hp, g, d, tk, os⟩ := s
    obtain ⟨m1, h⟩ := h
    have m1 : Heap.IsTuple (Shared.heap ⟨hp, g, d, tk, os⟩) l xs := m1
    have hsub := sub_enumerate
    obtain ⟨o, f1, f2, n, f3⟩ := id m1
    wp_walk using AutoSeq1.wpAny_loadPart' f1
    refine wpAny_stack_any fun st => wpAny_pure ?_
    split
    · rename_i c _ _ _ _ _
      cases (c == Value.type "enumerate") <;> (wp_walk using wpAny_pyIter_tuple m1; exact ⟨_, rfl, h⟩)
    · wp_walk using wpAny_pyIter_tuple m1
      exact ⟨_, rfl, h⟩
def Ite (K : PySem.W.Frag) (a : Addr) : It :=
  ⟨fun i H => ∃ xs x, SqT K H a xs ∧ xs[i]? = some x,
   fun i H v H' => ∃ T x, H T = none ∧ v = .ref T ∧ H' = upd H T (.tup [.int i, x]) ∧ ∀ xs, SqT K H a xs → xs[i]? = some x,
   fun i H => ∃ xs, SqT K H a xs ∧ xs.length ≤ i⟩
def EtAt (a e j : Addr) (i : Nat) (h : Heap) : Prop := (∃ u, IsEnum h e j i u) ∧ h.IsTupleIter j a i
theorem turn_enum {P : Program} {w : World} {K : PySem.W.Frag} {es : List Expr} {ek : Nat} {pos : Pos} (a e j : Addr) (ne : e ≠ j) : Turn P w K (.Tuple es ek pos) (Ite K a) [e, j] e (EtAt a e j) where
  mem := by simp
  obj := fun i h st c hc => by
    obtain ⟨⟨u, h1⟩, ⟨o4, e4, _, d4⟩⟩ := st
    simp only [List.mem_cons, List.mem_nil_iff, or_false] at hc
    rcases hc with rfl | rfl
    · exact ⟨_, h1, fun v e => by cases e⟩
    · exact ⟨_, e4, fun v e => by rw [d4] at e; cases e⟩
  keep := fun i h h' st k => by
    obtain ⟨⟨u, h1⟩, h4⟩ := st
    exact ⟨⟨u, k e (by simp) _ h1⟩, ti_go h4 fun o z => k j (by simp) o z⟩
  item := by
    intro X hP hw hK hc i pins s σ H E I hf st hg
    subst hP hw hK
    obtain ⟨xs, x, q1, x1⟩ := hg
    obtain ⟨its, rv, p, hz⟩ := I.tuple q1
    obtain ⟨u, hu, ru⟩ := rv.get x1
    obtain ⟨⟨v0, h1⟩, h4⟩ := st
    have hT : s.TypeIs (.ref e) "enumerate" := ⟨_, h1, rfl⟩
    unfold pyNext
    refine wpAny_bind (wpAny_attempt (wpAny_callSpecial?_slot (name := Str.ofString "__next__") hT F.slot_enumerate_next (wpAny_call_entry F.slot_enumerate_next hT F.entry_enumerate_next
      (et_item (Q := fun v s' => wpAny (model X.prog X.w) X.A (pure (some v)) (fun r s1 => ∃ u, r = some u ∧ wpAny (model X.prog X.w) X.A (letOwnedTupleGo (.Tuple es ek pos) (.ref e) u) (fun _ s2 => ∃ x H', Inv X pins σ H' s2 ∧ RelV x u ∧ (Ite X.K a).yld i H x H' ∧ EtAt a e j (i + 1) s2.heap ∧ ∀ b ∈ [e, j], H' b = none) E s1) E s')
        ne h1 h4 (show s.heap.IsTuple a its.toArray from p) (x := u) (by simpa using hu) fun h' g1 g2 g3 kk => wpAny_pure ⟨_, rfl, ?_⟩) (F.args_enumerate_next_1 _))))
    refine wpAny_letOwnedTupleGo_enum g1 fun h2' g1' sb => ?_
    have le : e < s.heap.objs.size := Heap.lt_size h1
    have lj : j < s.heap.objs.size := by obtain ⟨o, z, _⟩ := h4; exact Heap.lt_size z
    have kp : ∀ c o, c ∉ [e, j] → s.heap.get? c = some o → h2'.get? c = some o := fun c o hc z => by
      simp only [List.mem_cons, List.mem_nil_iff, or_false, not_or] at hc
      exact sb.extBut _ _ hc.1 (kk c o hc.1 hc.2 z)
    have fT : H s.heap.objs.size = none := I.hok.fresh (Nat.le_refl _)
    refine ⟨.ref s.heap.objs.size, upd H s.heap.objs.size (.tup [.int i, x]), I.turnT (t' := s.toks + 1) hf kp (Nat.le_refl _) ⟨by show 2 ≤ sizeLine; decide, [.int i s.toks, u], .cons ⟨_, rfl⟩ (.cons ru .nil), ?_⟩, rfl, ⟨_, x, fT, rfl, rfl, fun zs hz => ?_⟩, ?_, fun c hc => ?_⟩
    · exact ⟨_, sb.extBut _ _ (Nat.ne_of_gt le) g3, rfl, 0, rfl⟩
    · rw [I.tuple_inj hz q1]; exact x1
    · exact ⟨⟨_, g1'⟩, ti_go g2 fun o z => sb.extBut _ o ne.symm z⟩
    · have : c < s.heap.objs.size := by
        simp only [List.mem_cons, List.mem_nil_iff, or_false] at hc
        rcases hc with rfl | rfl
        · exact le
        · exact lj
      rw [upd_ne (Nat.ne_of_lt this)]
      exact (hf c hc).1
  done := by
    intro X hP hw hK hc i pins s σ H E I hf st hg
    subst hP hw hK
    obtain ⟨xs, q1, hend⟩ := hg
    obtain ⟨its, rv, p, hz⟩ := I.tuple q1
    obtain ⟨⟨v0, h1⟩, h4⟩ := st
    have hT : s.TypeIs (.ref e) "enumerate" := ⟨_, h1, rfl⟩
    have l1 := rv.length
    unfold pyNext
    refine wpAny_bind (wpAny_attempt (wpAny_callSpecial?_slot (name := Str.ofString "__next__") hT F.slot_enumerate_next (wpAny_call_entry F.slot_enumerate_next hT F.entry_enumerate_next
      (et_end (I.ok.hd hc) h1 h4 (show s.heap.IsTuple a its.toArray from p) (by simp; omega) fun h' c kk ⟨o, ho, hcl⟩ => ?_) (F.args_enumerate_next_1 _))))
    refine wpAny_bind (wpAny_isInstance (T := "StopIteration") (b := true) ⟨o, ho, hcl⟩ isSubtype_stop (wpAny_pure ⟨rfl, I.turnL (t' := s.toks) hf fun c o hc z => ?_⟩))
    simp only [List.mem_cons, List.mem_nil_iff, or_false, not_or] at hc
    exact kk c o hc.2 z
  self := fun _ _ _ _ _ st h => wpAny_pyIter_enum st.1.choose_spec h
section
variable {X : Cx}
def iEnm (K : PySem.W.Frag) (ta : TA) : TI := fun σ H R => ta σ H fun vs H1 => ∃ a, vs = [.ref a] ∧ (∃ xs, SqT K H1 a xs) ∧ R (Ite K a) H1
theorem pi_enum {a : Expr} {ta : TA} {p pos : Pos} {es : List Expr} {ek : Nat} {ps : Pos} (hg : Gl X "enumerate") (hm : X.mg "enumerate" = none) (ha : PA X [a] ta) (hs : starEach [a] X.env = [(false, eval a X.env)] := by rfl) :
    PI X (.Tuple es ek ps) (.Call (.Name "enumerate" p) [a] [] pos) (iEnm X.K ta) := by
  intro pins s σ H R I h
  refine Call_ (ld_blt I hg hm boot_enumerate (PyProof.Rows.callWith_type1 (thn (ha pos pins s σ H _ I h) fun us s1 ⟨vs, H1, I1, r1, q1⟩ => ?_) hs rfl))
  obtain ⟨l, e, ⟨xs, hx⟩, q⟩ := q1
  subst e
  obtain ⟨u, rfl, r⟩ := vals1 r1
  cases r
  obtain ⟨its, rv, p, hz⟩ := I1.tuple hx
  have lt1 : l < s1.heap.objs.size := by obtain ⟨o, e, _⟩ := p; exact Heap.lt_size e
  refine callType_new F.called_enumerate (by decide) (F.typeCall_enumerate_1 _) (F.newCall_enumerate_1 _) (fun obj => F.args_object_init_2 obj _) F.entry_enumerate_new (meets_et l its.toArray) ⟨p, ?_⟩
  have z1 : (s1.heap.push { cls := .type "tuple_iterator", data := .fields #[.ref l, .int 0 0] }).objs.size = s1.heap.objs.size + 1 := Heap.size_push ..
  show _ ∧ _
  have g2 : IsEnum ((s1.heap.push { cls := .type "tuple_iterator", data := .fields #[.ref l, .int 0 0] }).push { cls := .type "enumerate", data := .fields #[.none, .bool false, .ref s1.heap.objs.size, rawInt 0, .none, .none] }) (s1.heap.objs.size + 1) s1.heap.objs.size ((0 : Nat) : Int) .none := by rw [← z1]; exact Heap.get?_push_size _ rfl
  have g1 : ((s1.heap.push { cls := .type "tuple_iterator", data := .fields #[.ref l, .int 0 0] }).push { cls := .type "enumerate", data := .fields #[.none, .bool false, .ref s1.heap.objs.size, rawInt 0, .none, .none] }).IsTupleIter s1.heap.objs.size l 0 := ⟨_, Heap.get?_push_of_some _ (Heap.get?_push_size _ rfl), rfl, rfl⟩
  have kp : ∀ c o, s1.heap.get? c = some o → ((s1.heap.push { cls := .type "tuple_iterator", data := .fields #[.ref l, .int 0 0] }).push { cls := .type "enumerate", data := .fields #[.none, .bool false, .ref s1.heap.objs.size, rawInt 0, .none, .none] }).get? c = some o := fun c o e => Heap.get?_push_of_some _ (Heap.get?_push_of_some _ e)
  rw [z1]
  generalize ((s1.heap.push { cls := .type "tuple_iterator", data := .fields #[.ref l, .int 0 0] }).push { cls := .type "enumerate", data := .fields #[.none, .bool false, .ref s1.heap.objs.size, rawInt 0, .none, .none] }) = h5 at g1 g2 kp ⊢
  refine ⟨⟨_, g2, rfl⟩, wpAny_pyIter_enum (s := { s1 with heap := h5 }) g2 ?_⟩
  refine ⟨_, _, _, _, H1, rfl, I1.kept (t' := s1.toks) kp, turn_enum l _ _ (Nat.succ_ne_self _), ⟨⟨_, g2⟩, g1⟩, fun c hc => ?_, q⟩
  have : s1.heap.objs.size ≤ c := by
    simp only [List.mem_cons, List.mem_nil_iff, or_false] at hc
    rcases hc with rfl | rfl
    · exact Nat.le_add_right _ _
    · exact Nat.le_refl _
  exact I1.fpOk this (I1.hok.fresh this)
end
end L2
set_option Elab.async false
set_option linter.all false
set_option maxRecDepth 100000
namespace L2
open PySem PySem.Spec PyProof.Rows PySem.W
theorem map_getD_range {α : Type} (l : List α) (d : α) : (List.range l.length).map (fun i => l.getD i d) = l := by
  apply List.ext_getElem
  · simp
  · intro i h1 h2
    simp [List.getD, h2]
theorem perm_getD {α : Type} {l : List α} {d : α} {p : Array Nat} (h : Rg l.length p) : (p.toList.map fun i => l.getD i d).Perm l := by
  have := List.Perm.map (fun i => l.getD i d) h
  rw [map_getD_range] at this
  exact this
theorem paired_of {α β : Type} {F : α → β → Prop} : ∀ {l₁ : List α} {l₂ : List β}, l₁.length = l₂.length → (∀ (i : Nat) a b, l₁[i]? = some a → l₂[i]? = some b → F a b) → Paired F l₁ l₂
  | [], [], _, _ => .nil
  | a :: l, b :: m, h, f => .cons (f 0 a b rfl rfl) (paired_of (by simpa using h) fun i x y h1 h2 => f (i + 1) x y (by simpa using h1) (by simpa using h2))
  | [], _ :: _, h, _ => by simp at h
  | _ :: _, [], h, _ => by simp at h
section
variable {prog : Program} {w : World} {A : Around} {E : Value → Shared → Prop} {s : Shared} {vs : List Value}
theorem lsort_by {B : Addr} {n0 : Nat} {P : PySem.Fin → Shared → Prop} (key : Nat → Int) (κ : SortKind) (ho : s.heap.get? B = some (seqObj "list" vs.toArray n0))
    (hkind : 2 ≤ vs.length → ∀ h6 : Heap, (∀ b o, b ≠ B → s.heap.get? b = some o → h6.get? b = some o) → ∀ Q : SortKind → Shared → Prop, Q κ { s with heap := h6 } → wpAny (model prog w) A (keyKind' vs.toArray) Q E { s with heap := h6 })
    (hcmp : ∀ h6 : Heap, (∀ b o, b ≠ B → s.heap.get? b = some o → h6.get? b = some o) → CmpBy vs.length key (kas_cmp prog w A κ (vs.toArray.zip vs.toArray)) { s with heap := h6 })
    (inj : ∀ i j, i < vs.length → j < vs.length → key i = key j → i = j) (up : vs.length < 64 ∨ ∀ j, 1 ≤ j → j < vs.length → key (j - 1) ≤ key j) (hz : vs.length ≤ 1000)
    (h : ∀ (p : Array Nat) (h' : Heap), Rg vs.length p → Up key p vs.length → (∀ b o, b ≠ B → s.heap.get? b = some o → h'.get? b = some o) → (∃ e, h'.get? B = some (seqObj "list" (p.toList.map fun i => vs.getD i Value.none).toArray e)) →
      P (.done (.ret .none)) { s with heap := h' }) : wpAny (model prog w) A (Builtin.«list.sort» ⟨[.ref B], []⟩) P E s := by
  have hzl : vs.length ≤ sizeLine := Nat.le_trans hz (by decide)
  rw [list_sort_plain]
  have hB : B < s.heap.objs.size := Heap.lt_size ho
  refine wpAny_bind (listItems_at ho rfl (wpAny_bind (listUpdate_at ho rfl ?_ (hsz := by rw [List.size_toArray]; exact hzl) (hsz2 := by show 0 ≤ _; exact Nat.zero_le _))))
  have ho1 := get?_update_seq ho (fun _ => #[])
  generalize he1 : (if (#[] : Array Value).size == vs.toArray.size then n0 else n0 + 1) = e1 at ho1
  refine wpAny_bind (seqEpoch_at ho1 rfl (wpAny_bind (wpAny_newTuple (wpAny_bind (wpAny_newList (wpAny_holding ?_))) (by simpa using hzl))))
  have k6 : ∀ b o, b ≠ B → s.heap.get? b = some o → (((s.heap.update B (Obj.mapSeq fun _ => #[])).push (seqObj "tuple" vs.toArray.toList.toArray 0)).push (seqObj "list" ([] : List Value).toArray 0)).get? b = some o := fun b o hb e =>
    Heap.get?_push_of_some _ (Heap.get?_push_of_some _ ((Heap.get?_update_other _ _ (Ne.symm hb)).trans e))
  have o6 : (((s.heap.update B (Obj.mapSeq fun _ => #[])).push (seqObj "tuple" vs.toArray.toList.toArray 0)).push (seqObj "list" ([] : List Value).toArray 0)).get? B = some (seqObj "list" #[] e1) :=
    Heap.get?_push_of_some _ (Heap.get?_push_of_some _ ho1)
  show wpAny (model prog w) A _ P E { s with heap := ((s.heap.update B (Obj.mapSeq fun _ => #[])).push (seqObj "tuple" vs.toArray.toList.toArray 0)).push (seqObj "list" ([] : List Value).toArray 0) }
  generalize ((s.heap.update B (Obj.mapSeq fun _ => #[])).push (seqObj "tuple" vs.toArray.toList.toArray 0)).push (seqObj "list" ([] : List Value).toArray 0) = h6 at k6 o6 ⊢
  -- the end, whatever the order found
  have fin : ∀ (st : SortSt) (p : Array Nat), Rg vs.length p → Up key p vs.length → arrOf st = p.map (kas_item (vs.toArray.zip vs.toArray)) → failedOf st = none →
      wpAny (model prog w) A (do
        let touched := (← seqEpoch B) != e1
        Builtin.List.listUpdate (.ref B) fun _ => (arrOf st).map (·.2)
        if let some e := failedOf st then rule "list.sort.comparison-raised"; throw e
        if touched then rule "list.sort.modified"; raiseError "ValueError" "list modified during sort"
        ret .none) P E { s with heap := h6 } := fun st p r1 r2 r3 r4 => by
    have out := kat_snds (ks := vs) (vs := vs) rfl r3
    rw [out, r4]
    refine wpAny_bind (seqEpoch_at (s := { s with heap := h6 }) o6 rfl (wpAny_bind (listUpdate_at (s := { s with heap := h6 }) o6 rfl ?_ (hsz := Nat.zero_le _) (hsz2 := by
      show (List.toArray (p.toList.map fun i => vs.getD i Value.none)).size ≤ _
      rw [List.size_toArray, List.length_map, Array.length_toList, r1.size]
      omega))))
    simp only [bne_self_eq_false, Bool.false_eq_true, if_false]
    refine wpAny_pure (h p _ r1 r2 (fun b o hb e => (Heap.get?_update_other _ _ (Ne.symm hb)).trans (k6 b o hb e)) ⟨_, get?_update_seq o6 fun _ => _⟩)
  dsimp only
  by_cases h2 : vs.toArray.size < 2
  · rw [if_pos h2, if_pos h2]
    refine wpAny_bind (wpAny_pure ?_)
    rw [StateT.run_pure]
    apply wpAny_bind
    apply wpAny_pure
    have h2' : vs.length < 2 := by simpa using h2
    refine fin (SortSt.mk' general' (vs.toArray.zip vs.toArray) #[] 7 none) (List.range vs.length).toArray (List.Perm.refl _) (fun i j hij hj => ?_) ?_ rfl
    · have : i = j := by omega
      subst this
      exact Int.le_refl _
    · have := kas_range (vs.toArray.zip vs.toArray)
      rw [show (vs.toArray.zip vs.toArray).size = vs.length by simp] at this
      exact this.symm
  · rw [if_neg h2, if_neg h2]
    have h2' : 2 ≤ vs.length := by simpa using h2
    refine wpAny_bind (hkind h2' h6 k6 _ ?_)
    · have cm := hcmp h6 k6
      have kr := kas_range (vs.toArray.zip vs.toArray)
      rw [show (vs.toArray.zip vs.toArray).size = vs.length by simp] at kr
      have run := runs_any (E := E) (Q := fun _ st s' => s' = { s with heap := h6 } ∧ ∃ p, Rg vs.length p ∧ Up key p vs.length ∧ arrOf st = p.map (kas_item (vs.toArray.zip vs.toArray)) ∧ failedOf st = none) cm
        inj h2' up fun p' st' a b c d => ⟨rfl, p', a, b, c, d⟩
      unfold kas_st at run
      rw [kr] at run
      refine wpAny_bind (wpAny_mono run (fun r s' hr => ?_) fun _ _ e => e)
      obtain ⟨u, st⟩ := r
      obtain ⟨rfl, p, r1, r2, r3, r4⟩ := hr
      exact fin st p r1 r2 r3 r4
end
section
variable {X : Cx} {pins : List (Addr × Obj)} {σ : L2.St} {H : Hp} {s : Shared}
theorem sorted_by (hc : X.calm = true) {a : Addr} {ys : List V} {its : List Value} {n : Nat} {T : String} {o : Obj} {Q : VK} (key : Nat → Int) (κ : SortKind) (I : Inv X pins σ H s) (rv : Vals ys its) (hT : T = "list" ∨ T = "tuple") (e : s.heap.get? a = some o) (eC : o.cls = .type T) (eD : o.data = .seq its.toArray n) (hz : ys.length ≤ 1000)
    (hkind : 2 ≤ its.length → ∀ (h6 : Heap) (tk : Nat), (∀ b o, s.heap.get? b = some o → h6.get? b = some o) → ∀ (A : Around) (E : Value → Shared → Prop) (Q : SortKind → Shared → Prop), Q κ { s with heap := h6, toks := tk } → wpAny (model X.prog X.w) A (keyKind' its.toArray) Q E { s with heap := h6, toks := tk })
    (hcmp : ∀ (h6 : Heap) (tk : Nat), (∀ b o, s.heap.get? b = some o → h6.get? b = some o) → CmpBy its.length key (kas_cmp X.prog X.w X.A.in1.in1 κ (its.toArray.zip its.toArray)) { s with heap := h6, toks := tk })
    (inj : ∀ i j, i < its.length → j < its.length → key i = key j → i = j) (up : its.length < 64 ∨ ∀ j, 1 ≤ j → j < its.length → key (j - 1) ≤ key j)
    (q : ∀ (p : Array Nat) l, Rg its.length p → Up key p its.length → H l = none → Q (.ref l) (upd H l (.lst (p.toList.map fun i => ys.getD i .non)))) :
    wpAny (model X.prog X.w) X.A (call (.builtin "sorted") [.ref a]) (EP X pins σ Q) X.xe s := by
  have hl : ys.length = its.length := rv.length
  have hsl : its.length ≤ sizeLine := Nat.le_trans (by omega) (show 1000 ≤ sizeLine by decide)
  refine Calls.call_function_entry kind_sorted plain_sorted entry_sorted (args_sorted1 _) ?z
  case z =>
    unfold Builtin.«sorted»
    refine wpAny_bind (m := checkCount "sorted" 1 1 _) (wpAny_pure (wpAny_bind (wpAny_collect_seq a hT e eC eD (fun h' hkp => ?_) (by rw [List.size_toArray]; exact hsl))))
    show wpAny _ _ (newList its >>= _) _ _ _
    refine wpAny_bind (wpAny_newList ?_ hsl)
    have oB : (h'.push (seqObj "list" its.toArray 0)).get? h'.objs.size = some (seqObj "list" its.toArray 0) := Heap.get?_push_size _ rfl
    have kB : ∀ b o, s.heap.get? b = some o → (h'.push (seqObj "list" its.toArray 0)).get? b = some o := fun b o e => Heap.get?_push_of_some _ (hkp b o e)
    have I1 : Inv X pins σ H { s with heap := h' } := I.kept (t' := s.toks) hkp
    have nB : ∀ b o, s.heap.get? b = some o → b ≠ h'.objs.size := fun b o e => Nat.ne_of_lt (Heap.lt_size (hkp b o e))
    refine wpAny_bind (wpAny_holding (wpAny_call_entry slot_list_sort ⟨_, oB, rfl⟩ entry_list_sort ?y (args_list_sort _)))
    case y =>
      refine lsort_by (s := { s with heap := h'.push (seqObj "list" its.toArray 0) }) key κ oB (fun h2 h6 k6 Q hq => hkind h2 h6 s.toks (fun b o eb => k6 b o (nB b o eb) (kB b o eb)) _ _ Q hq) (fun h6 k6 => hcmp h6 s.toks fun b o eb => k6 b o (nB b o eb) (kB b o eb)) inj up (by omega) fun p h2 r1 r2 k2 ⟨e9, oB2⟩ => ⟨_, rfl, wpAny_pure ⟨_, rfl, ?_⟩⟩
      have fB : H h'.objs.size = none := I1.hok.fresh (Nat.le_refl _)
      have neB : ∀ b o, h'.get? b = some o → b ≠ h'.objs.size := fun b o e => Nat.ne_of_lt (Heap.lt_size e)
      refine ⟨.ref h'.objs.size, upd H h'.objs.size (.lst (p.toList.map fun i => ys.getD i .non)), ?_, rfl, q p _ r1 r2 fB⟩
      refine I1.laid (t' := s.toks) (fun b u e => k2 b u (neB b u e) (Heap.get?_push_of_some _ e)) (Nat.le_refl _) ⟨?_, _, e9, ?_, oB2⟩
      · rw [List.length_map, Array.length_toList, r1.size]
        omega
      · refine paired_of (by simp) fun i v u h1 h2 => ?_
        rw [List.getElem?_map] at h1 h2
        cases hpi : p.toList[i]? with
        | none => rw [hpi] at h1; cases h1
        | some k =>
          rw [hpi] at h1 h2
          cases h1
          cases h2
          have hk : k < its.length := List.mem_range.mp (r1.mem_iff.mp (List.mem_of_getElem? hpi))
          obtain ⟨u, h3, h4⟩ := rv.get (i := k) (x := ys[k]'(by omega)) (by simp [show k < ys.length by omega])
          rw [List.getElem?_eq_getElem hk] at h3
          have h3 := Option.some.inj h3
          simp only [List.getD, List.getElem?_eq_getElem hk, List.getElem?_eq_getElem (show k < ys.length by omega), Option.getD_some]
          rw [h3]
          exact h4
end
def keyZ (ns : List Int) (i : Nat) : Int := ns.getD i 0
theorem keyZ_inj {ns : List Int} (nd : ns.Nodup) : ∀ i j, i < ns.length → j < ns.length → keyZ ns i = keyZ ns j → i = j := fun i j hi hj e => by
  unfold keyZ at e
  rw [List.getD_eq_getElem?_getD, List.getD_eq_getElem?_getD, List.getElem?_eq_getElem hi, List.getElem?_eq_getElem hj] at e
  have e' : ns[i] = ns[j] := e
  rcases Nat.lt_trichotomy i j with h | h | h
  · exact absurd e' ((List.pairwise_iff_getElem.mp nd) i j hi hj h)
  · exact h
  · exact absurd e'.symm ((List.pairwise_iff_getElem.mp nd) j i hj hi h)
theorem upZ {ns : List Int} {p : Array Nat} (hp : Rg ns.length p) (up : Up (keyZ ns) p ns.length) (nd : ns.Nodup) : (p.toList.map fun i => ns.getD i 0).Pairwise (· < ·) := by
  rw [List.pairwise_iff_getElem]
  intro i j hi hj hij
  have hs := hp.size
  have hi' : i < ns.length := by simpa [hs] using hi
  have hj' : j < ns.length := by simpa [hs] using hj
  have ne := hp.ne (keyZ_inj nd) hij hj'
  have le := up i j (by omega) hj'
  have g : ∀ k (hk : k < (p.toList.map fun i => ns.getD i 0).length), (p.toList.map fun i => ns.getD i 0)[k] = kyA (keyZ ns) p k := fun k hk => by
    have hk' : k < p.size := by simpa using hk
    rw [List.getElem_map, Array.getElem_toList]
    show _ = ns.getD (p.getD k 0) 0
    simp [Array.getD, hk']
  rw [g i hi, g j hj]
  omega
section
variable {X : Cx}
theorem ints_are {H : Hp} : ∀ {ns : List Int} {its : List Value}, Vals (ns.map V.int) its → ∀ (i : Nat), i < ns.length → ∃ t, its[i]? = some (.int (ns.getD i 0) t)
  | n :: r, _, .cons a b, 0, h => by obtain ⟨t, rfl⟩ := a; exact ⟨t, rfl⟩
  | n :: r, _, .cons a b, i + 1, h => by
    obtain ⟨t, e⟩ := ints_are (H := H) b i (by simpa using h)
    exact ⟨t, by simpa using e⟩
theorem call_sortedZ (hc : X.calm = true) : CallR X (.builtin "sorted") (fun xs H Q => ∃ (a : Addr) (ns : List Int), xs = [.ref a] ∧ H a = some (.lst (ns.map V.int)) ∧ ns.Nodup ∧ ns.length < 64 ∧
    ∀ l (ns' : List Int), H l = none → ns'.Perm ns → ns'.Pairwise (· < ·) → Q (.ref l) (upd H l (.lst (ns'.map V.int)))) := by
  intro pins s σ H xs us Q I r h
  obtain ⟨a, ns, rfl, ha, nd, hz, q⟩ := h
  obtain ⟨u, rfl, ru⟩ := vals1 r
  cases ru
  obtain ⟨z, its, n, rv, e⟩ := I.hok a _ ha
  have li : its.length = ns.length := by rw [← rv.length, List.length_map]
  refine sorted_by hc (keyZ ns) oneType' I rv (.inl rfl) e rfl rfl (by rw [List.length_map]; omega) (fun h2 h6 tk k A E Q hq => ?_) (fun h6 tk k => ?_) (by rw [li]; exact keyZ_inj nd) (.inl (by omega)) fun p l r1 r2 fl => ?_
  · refine kas_kind (T := Value.type "int") h2 (fun v hv => ?_) (by decide) (by decide) hq
    obtain ⟨i, hi⟩ := List.getElem?_of_mem hv
    obtain ⟨t, ht⟩ := ints_are (H := H) rv i (by rw [← li]; exact (List.getElem?_eq_some_iff.mp hi).1)
    rw [hi] at ht
    cases ht
    exact Looks.of_pure rfl
  · intro i j C hi hj q
    obtain ⟨t, h1⟩ := ints_are (H := H) rv i (by omega)
    obtain ⟨u, h2⟩ := ints_are (H := H) rv j (by omega)
    unfold kas_cmp
    rw [kat_item rfl, kat_item rfl, List.getD_eq_getElem?_getD, List.getD_eq_getElem?_getD, h1, h2]
    show wpAny _ _ (keyLt' oneType' (.int _ t) (.int _ u)) _ _ _
    rw [keyLt'_oneType]
    exact oneLt_int q
  · rw [li] at r1 r2
    have e2 : (p.toList.map fun i => (ns.map V.int).getD i .non) = (p.toList.map fun i => ns.getD i 0).map V.int := by
      rw [List.map_map]
      refine List.map_congr_left fun k hk => ?_
      have hk' : k < ns.length := List.mem_range.mp (r1.mem_iff.mp hk)
      show (ns.map V.int).getD k .non = V.int (ns.getD k 0)
      simp [List.getD, hk']
    rw [e2]
    exact q l _ fl (perm_getD r1) (upZ r1 r2 nd)
end
end L2
set_option Elab.async false
set_option linter.all false
set_option maxRecDepth 100000
namespace L2
open PySem PySem.Spec PyProof.Rows
section
variable {prog : Program} {w : World} {A : Around} {E : Value → Shared → Prop} {s : Shared}
end
section
variable {X : Cx}
end
end L2
set_option Elab.async false
set_option linter.all false
set_option maxRecDepth 100000
namespace L2
open PySem PySem.Spec PyProof.Rows
section
variable {X : Cx}
end
end L2
set_option Elab.async false
set_option linter.all false
set_option maxRecDepth 100000
namespace L2
open PySem PySem.Spec PyProof.Rows
def IsiR (K : PySem.W.Frag) (H : Hp) (x : V) (T : String) (b : Bool) : Prop :=
  (∃ i, x = .int i ∧ ((T = "int" ∧ b = true) ∨ (T = "tuple" ∧ b = false) ∨ (T = "str" ∧ b = false) ∨ (T = "bool" ∧ b = false) ∨ (T = "list" ∧ b = false))) ∨
  (∃ i, x = .bl i ∧ ((T = "bool" ∧ b = true) ∨ (T = "int" ∧ b = true) ∨ (T = "tuple" ∧ b = false) ∨ (T = "str" ∧ b = false) ∨ (T = "list" ∧ b = false))) ∨
  (∃ i, x = .str i ∧ ((T = "str" ∧ b = true) ∨ (T = "int" ∧ b = false) ∨ (T = "tuple" ∧ b = false) ∨ (T = "bool" ∧ b = false) ∨ (T = "list" ∧ b = false))) ∨
  (∃ a xs, x = .ref a ∧ SqT K H a xs ∧ ((T = "tuple" ∧ b = true) ∨ (T = "int" ∧ b = false) ∨ (T = "str" ∧ b = false) ∨ (T = "bool" ∧ b = false) ∨ (T = "list" ∧ b = false))) ∨
  (∃ a xs, x = .ref a ∧ SqL K H a xs ∧ ((T = "list" ∧ b = true) ∨ (T = "int" ∧ b = false) ∨ (T = "str" ∧ b = false) ∨ (T = "bool" ∧ b = false) ∨ (T = "tuple" ∧ b = false)))
section
variable {X : Cx}
theorem call_isi : CallR X (.builtin "isinstance") (fun xs H Q => ∃ x T b, xs = [x, .ty T] ∧ IsiR X.K H x T b ∧ Q (.bl b) H) := by
  intro pins s σ H xs us Q I r h
  obtain ⟨x, T, b, rfl, hi, q⟩ := h
  cases r with
  | cons r rr =>
    cases rr with
    | cons r' rr =>
      cases rr
      cases r'
      have f0 : ∀ {b : Bool}, Q (.bl b) H → EP X pins σ Q (.bool b) s := fun {b} q => ⟨.bl b, H, I, rfl, q⟩
      have f1 : ∀ {b : Bool}, Q (.bl b) H → EP X pins σ Q (.bool b) { s with toks := s.toks + 1 } := fun {b} q => ⟨.bl b, H, I.tok _, rfl, q⟩
      rcases hi with ⟨i, rfl, hi⟩ | ⟨i, rfl, hi⟩ | ⟨i, rfl, hi⟩ | ⟨a, xs, rfl, hs, hi⟩ | ⟨a, xs, rfl, hs, hi⟩
      · obtain ⟨t, rfl⟩ := r
        rcases hi with ⟨rfl, rfl⟩ | ⟨rfl, rfl⟩ | ⟨rfl, rfl⟩ | ⟨rfl, rfl⟩ | ⟨rfl, rfl⟩
        · exact IsiPair.int_int (f0 q)
        · exact IsiPair.int_tuple (f1 q)
        · exact IsiPair.int_str (f1 q)
        · exact IsiPair.int_bool (f1 q)
        · exact IsiPair.int_list (f1 q)
      · cases r
        rcases hi with ⟨rfl, rfl⟩ | ⟨rfl, rfl⟩ | ⟨rfl, rfl⟩ | ⟨rfl, rfl⟩ | ⟨rfl, rfl⟩
        · exact IsiPair.bool_bool (f0 q)
        · exact IsiPair.bool_int (f0 q)
        · exact IsiPair.bool_tuple (f1 q)
        · exact IsiPair.bool_str (f1 q)
        · exact IsiPair.bool_list (f1 q)
      · obtain ⟨t, rfl⟩ := r
        rcases hi with ⟨rfl, rfl⟩ | ⟨rfl, rfl⟩ | ⟨rfl, rfl⟩ | ⟨rfl, rfl⟩ | ⟨rfl, rfl⟩
        · exact IsiPair.str_str (f0 q)
        · exact IsiPair.str_int (f1 q)
        · exact IsiPair.str_tuple (f1 q)
        · exact IsiPair.str_bool (f1 q)
        · exact IsiPair.str_list (f1 q)
      · cases r
        obtain ⟨its, rv, ⟨o, ho, hc, _⟩, hz⟩ := I.tuple hs
        rcases hi with ⟨rfl, rfl⟩ | ⟨rfl, rfl⟩ | ⟨rfl, rfl⟩ | ⟨rfl, rfl⟩ | ⟨rfl, rfl⟩
        · exact IsiPair.tuple_tuple ho hc (f0 q)
        · exact IsiPair.tuple_int ho hc (f1 q)
        · exact IsiPair.tuple_str ho hc (f1 q)
        · exact IsiPair.tuple_bool ho hc (f1 q)
        · exact IsiPair.tuple_list ho hc (f1 q)
      · cases r
        obtain ⟨its, rv, p, hz⟩ := I.list hs
        obtain ⟨o, ho, hc, _⟩ := p.isList
        rcases hi with ⟨rfl, rfl⟩ | ⟨rfl, rfl⟩ | ⟨rfl, rfl⟩ | ⟨rfl, rfl⟩ | ⟨rfl, rfl⟩
        · exact IsiPair.list_list ho hc (f0 q)
        · exact IsiPair.list_int ho hc (f1 q)
        · exact IsiPair.list_str ho hc (f1 q)
        · exact IsiPair.list_bool ho hc (f1 q)
        · exact IsiPair.list_tuple ho hc (f1 q)
theorem bools_get : ∀ {bs : List Bool} {us : List Value}, Vals (bs.map V.bl) us → ∀ (i : Nat) (v : Value), us[i]? = some v → ∃ b, bs[i]? = some b ∧ v = Value.bool b := by
  intro bs us r i v h
  have hl := r.length
  rw [List.length_map] at hl
  have hi : i < bs.length := by rw [hl]; exact (List.getElem?_eq_some_iff.mp h).1
  obtain ⟨u, hu, ru⟩ := r.get (i := i) (x := V.bl bs[i]) (by simp [hi])
  rw [h] at hu
  cases hu
  exact ⟨bs[i], by simp [hi], ru⟩
theorem call_allB (hc : X.calm = true) : CallR X (.builtin "all") (fun xs H Q => ∃ l bs, xs = [.ref l] ∧ H l = some (.lst (List.map V.bl bs)) ∧ Q (.bl (bs.all id)) H) := by
  intro pins s σ H xs us Q I r h
  obtain ⟨l, bs, rfl, hl, q⟩ := h
  obtain ⟨u, rfl, ru⟩ := vals1 r
  cases ru
  obtain ⟨z, its, n, rv, e⟩ := I.hok l _ hl
  have isl : s.heap.IsList l its.toArray := ⟨_, e, rfl, n, rfl⟩
  refine call_all_walk (wpAny_pyIter_list isl ⟨s.heap.objs.size, [s.heap.objs.size, l], [s.heap.objs.size], its.toArray.size, _, _, fun i => (bs[i]?).getD true, rfl, Walks.list (A := X.A.in1) (I.ok.hd hc) _ l (Nat.ne_of_lt (Heap.lt_size e)) its.toArray,
    ⟨⟨_, Heap.get?_push_size _ rfl, rfl, rfl⟩, isl.push _⟩, fun i v s' Q' E' hP hQ => ?_, fun h' tk hk => ?_⟩)
  · obtain ⟨b, eb, rfl⟩ := bools_get rv i v (by simpa using hP)
    simp only [eb, Option.getD_some] at hQ
    exact wpAny_truthy_bool hQ
  · have el : its.toArray.size = bs.length := by
      have := rv.length
      rw [List.length_map] at this
      rw [List.size_toArray, this]
    rw [el, LSm.range_all]
    exact ⟨.bl _, H, I.kept (LSm.kept_iter hk), rfl, q⟩
theorem op_mulC : OpR X (binaryOp .Mult) (rI IntMulOk fun i j => .int (i * j)) := opI fun _ _ _ _ _ _ _ hc q => mul_int q hc
end
end L2
set_option Elab.async false
set_option linter.all false
set_option maxRecDepth 100000
namespace L2
open PySem PySem.Spec PyProof.Rows
inductive Vl where
  | im (d : Im)
  | jk
  | fz (ds : List Im)
  | lst (ds : List Im)
  | dK (kvs : List (Key × Im))
  | dT (kvs : List (List Im × Im))
  | lstM (xs : List Vl)
  | dTM (ks : List (List Im)) (xs : List Vl)
  | tpl (xs : List Vl)
  | obj (C : Addr) (ns : List Str) (xs : List Vl)
abbrev SD := List (Option Vl)
abbrev PKv {κ : Type} (H : Hp) : List (κ × Im) → List (κ × V) → Prop := Paired fun p q => p.1 = q.1 ∧ IsI H p.2 q.2
theorem PKv.mono {κ : Type} {H H' : Hp} {l : List (κ × Im)} {m : List (κ × V)} (t : TupS H H') (h : PKv H l m) : PKv H' l m := Paired.mapP h fun _ _ z => ⟨z.1, z.2.mono t⟩
structure StayS (H H' : Hp) : Prop where
  tup : TupS H H'
  frz : ∀ a o u, H a = some (.frz o u) → H' a = some (.frz o u)
mutual
def Own (H : Hp) : Vl → V → List Addr → Prop
  | .im d, v, F => IsI H d v ∧ F = []
  | .jk, _, F => F = []
  | .fz ds, v, F => ∃ a xs o, v = .ref a ∧ H a = some (.frz o (.lst xs)) ∧ IsIs H ds xs ∧ F = []
  | .lst ds, v, F => ∃ a xs, v = .ref a ∧ H a = some (.lst xs) ∧ IsIs H ds xs ∧ F = [a]
  | .dK kvs, v, F => ∃ a kws, v = .ref a ∧ H a = some (.dK kws) ∧ PKv H kvs kws ∧ F = [a]
  | .dT kvs, v, F => ∃ a kws, v = .ref a ∧ H a = some (.dT kws) ∧ PKv H kvs kws ∧ F = [a]
  | .lstM ds, v, F => ∃ a xs G, v = .ref a ∧ H a = some (.lst xs) ∧ Owns H ds xs G ∧ F = a :: G
  | .dTM ks ds, v, F => ∃ a kws G, v = .ref a ∧ H a = some (.dT kws) ∧ kws.map (·.1) = ks ∧ Owns H ds (kws.map (·.2)) G ∧ F = a :: G
  | .tpl ds, v, F => ∃ a xs, v = .ref a ∧ H a = some (.tup xs) ∧ Owns H ds xs F
  | .obj C ns ds, v, F => ∃ a dx fs G, v = .ref a ∧ H a = some (.ins C dx fs) ∧ fs.map (·.1) = ns ∧ Owns H ds (fs.map (·.2)) G ∧ F = a :: G
def Owns (H : Hp) : List Vl → List V → List Addr → Prop
  | [], vs, F => vs = [] ∧ F = []
  | d :: ds, vs, F => ∃ v r F1 F2, vs = v :: r ∧ Own H d v F1 ∧ Owns H ds r F2 ∧ F = F1 ++ F2
end
mutual
theorem Own.mono {H H' : Hp} (t : StayS H H') : ∀ {d : Vl} {v : V} {F : List Addr}, Own H d v F → (∀ a ∈ F, ∀ o, H a = some o → H' a = some o) → Own H' d v F
  | .im d, v, F, h, _ => ⟨h.1.mono t.tup, h.2⟩
  | .jk, v, F, h, _ => h
  | .fz ds, v, F, h, _ => by
    obtain ⟨a, xs, o, rfl, h1, h2, rfl⟩ := h
    exact ⟨a, xs, o, rfl, t.frz _ _ _ h1, h2.mono t.tup, rfl⟩
  | .lst ds, v, F, h, k => by
    obtain ⟨a, xs, rfl, h1, h2, rfl⟩ := h
    exact ⟨a, xs, rfl, k a (.head _) _ h1, h2.mono t.tup, rfl⟩
  | .dK kvs, v, F, h, k => by
    obtain ⟨a, xs, rfl, h1, h2, rfl⟩ := h
    exact ⟨a, xs, rfl, k a (.head _) _ h1, h2.mono t.tup, rfl⟩
  | .dT kvs, v, F, h, k => by
    obtain ⟨a, xs, rfl, h1, h2, rfl⟩ := h
    exact ⟨a, xs, rfl, k a (.head _) _ h1, h2.mono t.tup, rfl⟩
  | .lstM ds, v, F, h, k => by
    obtain ⟨a, xs, G, rfl, h1, h2, rfl⟩ := h
    exact ⟨a, xs, G, rfl, k a (.head _) _ h1, Owns.mono t h2 fun b hb => k b (.tail _ hb), rfl⟩
  | .dTM ks ds, v, F, h, k => by
    obtain ⟨a, xs, G, rfl, h1, hk, h2, rfl⟩ := h
    exact ⟨a, xs, G, rfl, k a (.head _) _ h1, hk, Owns.mono t h2 fun b hb => k b (.tail _ hb), rfl⟩
  | .tpl ds, v, F, h, k => by
    obtain ⟨a, xs, rfl, h1, h2⟩ := h
    exact ⟨a, xs, rfl, t.tup a xs h1, Owns.mono t h2 k⟩
  | .obj C ns ds, v, F, h, k => by
    obtain ⟨a, dx, fs, G, rfl, h1, hk, h2, rfl⟩ := h
    exact ⟨a, dx, fs, G, rfl, k a (.head _) _ h1, hk, Owns.mono t h2 fun b hb => k b (.tail _ hb), rfl⟩
theorem Owns.mono {H H' : Hp} (t : StayS H H') : ∀ {ds : List Vl} {vs : List V} {F : List Addr}, Owns H ds vs F → (∀ a ∈ F, ∀ o, H a = some o → H' a = some o) → Owns H' ds vs F
  | [], vs, F, h, _ => h
  | d :: ds, vs, F, h, k => by
    obtain ⟨v, r, F1, F2, rfl, h1, h2, rfl⟩ := h
    exact ⟨v, r, F1, F2, rfl, Own.mono t h1 fun a ha => k a (List.mem_append_left _ ha), Owns.mono t h2 fun a ha => k a (List.mem_append_right _ ha), rfl⟩
end
def Chg (H : Hp) (a : Addr) : Prop := ∃ o, H a = some o ∧ (∀ xs, o ≠ .tup xs) ∧ ∀ p u, o ≠ .frz p u
mutual
theorem Own.chg {H : Hp} : ∀ {d : Vl} {v : V} {F : List Addr}, Own H d v F → ∀ a ∈ F, Chg H a
  | .im d, v, F, h, a, ha => by rw [h.2] at ha; cases ha
  | .jk, v, F, h, a, ha => by rw [show F = [] from h] at ha; cases ha
  | .fz ds, v, F, h, b, hb => by
    obtain ⟨a, xs, o, rfl, h1, h2, rfl⟩ := h
    cases hb
  | .lst ds, v, F, h, b, hb => by
    obtain ⟨a, xs, rfl, h1, h2, rfl⟩ := h
    rw [List.mem_singleton.mp hb]
    exact ⟨_, h1, (fun _ e => by cases e), (fun _ _ e => by cases e)⟩
  | .dK kvs, v, F, h, b, hb => by
    obtain ⟨a, xs, rfl, h1, h2, rfl⟩ := h
    rw [List.mem_singleton.mp hb]
    exact ⟨_, h1, (fun _ e => by cases e), (fun _ _ e => by cases e)⟩
  | .dT kvs, v, F, h, b, hb => by
    obtain ⟨a, xs, rfl, h1, h2, rfl⟩ := h
    rw [List.mem_singleton.mp hb]
    exact ⟨_, h1, (fun _ e => by cases e), (fun _ _ e => by cases e)⟩
  | .lstM ds, v, F, h, b, hb => by
    obtain ⟨a, xs, G, rfl, h1, h2, rfl⟩ := h
    rcases List.mem_cons.mp hb with rfl | hb
    · exact ⟨_, h1, (fun _ e => by cases e), (fun _ _ e => by cases e)⟩
    · exact Owns.chg h2 b hb
  | .dTM ks ds, v, F, h, b, hb => by
    obtain ⟨a, xs, G, rfl, h1, hk, h2, rfl⟩ := h
    rcases List.mem_cons.mp hb with rfl | hb
    · exact ⟨_, h1, (fun _ e => by cases e), (fun _ _ e => by cases e)⟩
    · exact Owns.chg h2 b hb
  | .tpl ds, v, F, h, b, hb => by
    obtain ⟨a, xs, rfl, h1, h2⟩ := h
    exact Owns.chg h2 b hb
  | .obj C ns ds, v, F, h, b, hb => by
    obtain ⟨a, dx, fs, G, rfl, h1, hk, h2, rfl⟩ := h
    rcases List.mem_cons.mp hb with rfl | hb
    · exact ⟨_, h1, (fun _ e => by cases e), (fun _ _ e => by cases e)⟩
    · exact Owns.chg h2 b hb
theorem Owns.chg {H : Hp} : ∀ {ds : List Vl} {vs : List V} {F : List Addr}, Owns H ds vs F → ∀ a ∈ F, Chg H a
  | [], vs, F, h, a, ha => by rw [h.2] at ha; cases ha
  | d :: ds, vs, F, h, a, ha => by
    obtain ⟨v, r, F1, F2, rfl, h1, h2, rfl⟩ := h
    rcases List.mem_append.mp ha with ha | ha
    · exact Own.chg h1 a ha
    · exact Owns.chg h2 a ha
end
theorem Owns.length {H : Hp} : ∀ {ds : List Vl} {vs : List V} {F : List Addr}, Owns H ds vs F → ds.length = vs.length
  | [], vs, F, h => by rw [h.1]; rfl
  | d :: ds, vs, F, h => by
    obtain ⟨v, r, F1, F2, rfl, h1, h2, rfl⟩ := h
    rw [List.length_cons, List.length_cons, h2.length]
theorem IsIs.length {H : Hp} : ∀ {ds : List Im} {vs : List V}, IsIs H ds vs → ds.length = vs.length
  | [], vs, h => by rw [show vs = [] from h]; rfl
  | d :: ds, vs, h => by
    obtain ⟨v, r, rfl, h1, h2⟩ := h
    rw [List.length_cons, List.length_cons, h2.length]
def SlOk (H : Hp) : Option Vl → Option V → List Addr → Prop
  | none, _, F => F = []
  | some d, x, F => ∃ v, x = some v ∧ Own H d v F
def StOk (H : Hp) : SD → St → List Addr → Prop
  | [], σ, F => σ = [] ∧ F = []
  | o :: D, σ, F => ∃ x r F1 F2, σ = x :: r ∧ SlOk H o x F1 ∧ StOk H D r F2 ∧ F = F1 ++ F2
structure Stp (H : Hp) (F : List Addr) (H' : Hp) (F' : List Addr) : Prop where
  keep : ∀ a o, H a = some o → a ∉ F → H' a = some o
  sub : ∀ a ∈ F', a ∈ F ∨ H a = none
  nd : F'.Nodup
  tup : StayS H H'
  grow : ∀ a o, H a = some o → ∃ o', H' a = some o'
theorem SlOk.mono {H H' : Hp} (t : StayS H H') : ∀ {o : Option Vl} {x : Option V} {F : List Addr}, SlOk H o x F → (∀ a ∈ F, ∀ o, H a = some o → H' a = some o) → SlOk H' o x F
  | none, _, _, h, _ => h
  | some d, x, F, h, k => by
    obtain ⟨v, rfl, h⟩ := h
    exact ⟨v, rfl, h.mono t k⟩
theorem StOk.mono {H H' : Hp} (t : StayS H H') : ∀ {D : SD} {σ : St} {F : List Addr}, StOk H D σ F → (∀ a ∈ F, ∀ o, H a = some o → H' a = some o) → StOk H' D σ F
  | [], σ, F, h, _ => h
  | o :: D, σ, F, h, k => by
    obtain ⟨x, r, F1, F2, rfl, h1, h2, rfl⟩ := h
    exact ⟨x, r, F1, F2, rfl, h1.mono t fun a ha => k a (List.mem_append_left _ ha), StOk.mono t h2 fun a ha => k a (List.mem_append_right _ ha), rfl⟩
theorem SlOk.chg {H : Hp} : ∀ {o : Option Vl} {x : Option V} {F : List Addr}, SlOk H o x F → ∀ a ∈ F, Chg H a
  | none, _, F, h, a, ha => by rw [show F = [] from h] at ha; cases ha
  | some d, x, F, h, a, ha => by
    obtain ⟨v, rfl, h⟩ := h
    exact h.chg a ha
theorem StOk.chg {H : Hp} : ∀ {D : SD} {σ : St} {F : List Addr}, StOk H D σ F → ∀ a ∈ F, Chg H a
  | [], σ, F, h, a, ha => by rw [h.2] at ha; cases ha
  | o :: D, σ, F, h, a, ha => by
    obtain ⟨x, r, F1, F2, rfl, h1, h2, rfl⟩ := h
    rcases List.mem_append.mp ha with ha | ha
    · exact h1.chg a ha
    · exact StOk.chg h2 a ha
theorem StOk.len {H : Hp} : ∀ {D : SD} {σ : St} {F : List Addr}, StOk H D σ F → D.length = σ.length
  | [], σ, F, h => by rw [h.1]; rfl
  | o :: D, σ, F, h => by
    obtain ⟨x, r, F1, F2, rfl, h1, h2, rfl⟩ := h
    rw [List.length_cons, List.length_cons, StOk.len h2]
def Vl.cp : Vl → Bool
  | .im _ => true
  | .fz _ => true
  | _ => false
theorem Own.cp {H : Hp} {d : Vl} {v : V} {F : List Addr} (h : Own H d v F) (c : d.cp = true) : F = [] := by
  cases d with
  | im d => exact h.2
  | fz ds => obtain ⟨a, xs, o, rfl, h1, h2, rfl⟩ := h; rfl
  | _ => cases c
theorem StOk.out {H : Hp} : ∀ {D : SD} {σ : St} {F : List Addr} {i : Nat} {d : Vl}, StOk H D σ F → D[i]? = some (some d) → ∃ v F1 F2, σ[i]? = some (some v) ∧ Own H d v F1 ∧ StOk H (D.set i (some .jk)) σ F2 ∧ (F2 ++ F1).Perm F
  | [], σ, F, i, d, h, e => by simp at e
  | o :: D, σ, F, 0, d, h, e => by
    obtain ⟨x, r, F1, F2, rfl, h1, h2, rfl⟩ := h
    simp at e
    subst e
    obtain ⟨v, rfl, h1⟩ := h1
    exact ⟨v, F1, F2, rfl, h1, ⟨some v, r, [], F2, rfl, ⟨v, rfl, rfl⟩, h2, rfl⟩, List.perm_append_comm⟩
  | o :: D, σ, F, i + 1, d, h, e => by
    obtain ⟨x, r, F1, F2, rfl, h1, h2, rfl⟩ := h
    obtain ⟨v, G1, G2, g1, g2, g3, g4⟩ := StOk.out (i := i) h2 (by simpa using e)
    refine ⟨v, G1, F1 ++ G2, by simpa using g1, g2, ⟨x, r, F1, G2, rfl, h1, g3, rfl⟩, ?_⟩
    rw [List.append_assoc]
    exact List.Perm.append_left _ g4
theorem StOk.put {H : Hp} : ∀ {D : SD} {σ : St} {F : List Addr} {i : Nat} {d : Vl} {v : V} {G : List Addr}, StOk H D σ F → Own H d v G → i < D.length → ∃ F1 F2, StOk H (D.set i (some d)) (σ.set i (some v)) F1 ∧ (F1 ++ F2).Perm (F ++ G)
  | [], σ, F, i, d, v, G, h, w, l => by simp at l
  | o :: D, σ, F, 0, d, v, G, h, w, l => by
    obtain ⟨x, r, F1, F2, rfl, h1, h2, rfl⟩ := h
    refine ⟨G ++ F2, F1, ⟨some v, r, G, F2, rfl, ⟨v, rfl, w⟩, h2, rfl⟩, ?_⟩
    refine List.perm_append_comm.trans ?_
    rw [List.append_assoc]
    exact List.Perm.append_left _ List.perm_append_comm
  | o :: D, σ, F, i + 1, d, v, G, h, w, l => by
    obtain ⟨x, r, F1, F2, rfl, h1, h2, rfl⟩ := h
    obtain ⟨G1, G2, g1, g2⟩ := StOk.put (i := i) h2 w (by simpa using l)
    refine ⟨F1 ++ G1, G2, ⟨x, _, F1, G1, rfl, h1, g1, rfl⟩, ?_⟩
    rw [List.append_assoc, List.append_assoc]
    exact List.Perm.append_left _ g2
theorem StOk.cp {H : Hp} {D : SD} {σ : St} {F : List Addr} {i : Nat} {d : Vl} (h : StOk H D σ F) (e : D[i]? = some (some d)) (c : d.cp = true) : ∃ v, σ[i]? = some (some v) ∧ Own H d v [] := by
  obtain ⟨v, F1, F2, g1, g2, _⟩ := h.out e
  obtain rfl := g2.cp c
  exact ⟨v, g1, g2⟩
theorem set_same {σ : St} {i : Nat} {v : V} (h : σ[i]? = some (some v)) : σ.set i (some v) = σ := by
  refine List.ext_getElem? fun j => ?_
  by_cases e : i = j
  · subst e
    rw [h, List.getElem?_set_self (List.getElem?_eq_some_iff.mp h).1]
  · rw [List.getElem?_set_ne e]
theorem StOk.back {H : Hp} {D : SD} {σ : St} {F : List Addr} {i : Nat} {d : Vl} {v : V} {G : List Addr} (h : StOk H D σ F) (w : Own H d v G) (hv : σ[i]? = some (some v)) : ∃ F1 F2, StOk H (D.set i (some d)) σ F1 ∧ (F1 ++ F2).Perm (F ++ G) := by
  have l : i < D.length := by rw [h.len]; exact (List.getElem?_eq_some_iff.mp hv).1
  obtain ⟨F1, F2, h1, h2⟩ := h.put (i := i) w l
  rw [set_same hv] at h1
  exact ⟨F1, F2, h1, h2⟩
theorem StayS.of {H H' : Hp} (f : TupO H H') (g : ∀ a o u, H a = some (.frz o u) → H' a = some (.frz o u)) : StayS H H' := ⟨⟨f, g⟩, g⟩
theorem tupS_refl (H : Hp) : StayS H H := ⟨⟨fun _ _ e => e, fun _ _ _ e => e⟩, fun _ _ _ e => e⟩
theorem StayS.trans {H H1 H2 : Hp} (a : StayS H H1) (b : StayS H1 H2) : StayS H H2 := ⟨⟨fun x xs e => b.tup.t x xs (a.tup.t x xs e), fun x o u e => b.frz x o u (a.frz x o u e)⟩, fun x o u e => b.frz x o u (a.frz x o u e)⟩
theorem Stp.refl {H : Hp} {F F' : List Addr} (h : F'.Nodup) (s : ∀ a ∈ F', a ∈ F) : Stp H F H F' := ⟨fun _ _ e _ => e, fun a ha => .inl (s a ha), h, tupS_refl H, fun _ o e => ⟨o, e⟩⟩
theorem Stp.perm {H : Hp} {F F' : List Addr} (h : F.Nodup) (p : F'.Perm F) : Stp H F H F' := Stp.refl ((p.nodup_iff).mpr h) fun a ha => p.mem_iff.mp ha
theorem Stp.trans {H H1 H2 : Hp} {F F1 F2 R : List Addr} (a : Stp H F H1 (F1 ++ R)) (b : Stp H1 F1 H2 F2) (cr : ∀ x ∈ R, Chg H1 x) : Stp H F H2 (F2 ++ R) := by
  have nd := List.nodup_append.mp a.nd
  have al : ∀ x ∈ F2, x ∉ R := fun x hx hr => by
    rcases b.sub x hx with h | h
    · exact nd.2.2 x h x hr rfl
    · obtain ⟨o, e, _⟩ := cr x hr
      rw [e] at h
      cases h
  refine ⟨fun x o e hx => ?_, fun x hx => ?_, List.nodup_append.mpr ⟨b.nd, nd.2.1, fun x hx y hy e => al x hx (e ▸ hy)⟩, a.tup.trans b.tup, fun x o e => let ⟨o', e'⟩ := a.grow x o e; b.grow x o' e'⟩
  · refine b.keep x o (a.keep x o e hx) fun h1 => ?_
    rcases a.sub x (List.mem_append_left _ h1) with h | h
    · exact hx h
    · rw [e] at h; cases h
  · rcases List.mem_append.mp hx with hx | hx
    · rcases b.sub x hx with h | h
      · exact a.sub x (List.mem_append_left _ h)
      · refine .inr ?_
        cases e : H x with
        | none => rfl
        | some o =>
          obtain ⟨o', e'⟩ := a.grow x o e
          rw [e'] at h
          cases h
    · exact a.sub x (List.mem_append_right _ hx)
end L2
set_option Elab.async false
set_option linter.all false
set_option maxRecDepth 100000
namespace L2
open PySem PySem.Spec PyProof.Rows
theorem Same.tupS {H H' : Hp} (s : Same H H') : StayS H H' := ⟨⟨fun a xs e => s a _ e, fun a o u e => s a _ e⟩, fun a o u e => s a _ e⟩
theorem keepU {H : Hp} {a b : Addr} {o u : HO} (e : H b = some o) (h : H a = none) : L2.upd H a u b = some o := by rw [upd_ne (ne_of_none e h)]; exact e
theorem Same.upd {H H' : Hp} (s : Same H H') {a : Addr} {o : HO} (h : H' a = none) : Same H (L2.upd H' a o) := fun b u e => keepU (s b u e) h
abbrev M (α : Type) := SD → Option (α × SD)
inductive Opd where
  | sl (i : Nat)
  | vl (d : Vl)
def rsl (D : SD) : Opd → Option Vl
  | .sl i => (D[i]?).getD none
  | .vl d => some d
def OpdOk (H : Hp) (σ : St) : Opd → V → List Addr → Prop
  | .sl i, v, R => σ[i]? = some (some v) ∧ R = []
  | .vl d, v, R => Own H d v R
def tV (g : M Vl) : TE := fun σ H Q => ∃ D F r D', StOk H D σ F ∧ F.Nodup ∧ g D = some (r, D') ∧ ∀ v H' F' R, StOk H' D' σ F' → Own H' r v R → Stp H F H' (F' ++ R) → Q v H'
def tO (g : M Opd) : TE := fun σ H Q => ∃ D F r D', StOk H D σ F ∧ F.Nodup ∧ g D = some (r, D') ∧ ∀ v H' F' R, StOk H' D' σ F' → OpdOk H' σ r v R → Stp H F H' (F' ++ R) → Q v H'
def tVT (g : M Bool) : TT := fun σ H Q => ∃ D F b D', StOk H D σ F ∧ F.Nodup ∧ g D = some (b, D') ∧ ∀ H' F', StOk H' D' σ F' → Stp H F H' F' → Q b H'
def VE (X : Cx) (e : Expr) (g : M Vl) : Prop := PE X e (tV g)
def VO (X : Cx) (e : Expr) (g : M Opd) : Prop := PE X e (tO g)
def VT (X : Cx) (e : Expr) (g : M Bool) : Prop := PT X e (tVT g)
theorem pe_imp {X : Cx} {e : Expr} {t t' : TE} (h : PE X e t) (i : ∀ σ H Q, t' σ H Q → t σ H Q) : PE X e t' := fun pins s σ H Q I hw => h pins s σ H Q I (i σ H Q hw)
theorem pt_imp {X : Cx} {e : Expr} {t t' : TT} (h : PT X e t) (i : ∀ σ H Q, t' σ H Q → t σ H Q) : PT X e t' := fun pins s σ H Q I hw => h pins s σ H Q I (i σ H Q hw)
theorem OpdOk.mono {H H' : Hp} {σ : St} {r : Opd} {v : V} {R : List Addr} (h : OpdOk H σ r v R) (t : StayS H H') (k : ∀ a ∈ R, ∀ o, H a = some o → H' a = some o) : OpdOk H' σ r v R := by
  cases r with
  | sl i => exact h
  | vl d => exact Own.mono t h k
theorem OpdOk.chg {H : Hp} {σ : St} {r : Opd} {v : V} {R : List Addr} (h : OpdOk H σ r v R) : ∀ a ∈ R, Chg H a := by
  cases r with
  | sl i => intro a ha; rw [h.2] at ha; cases ha
  | vl d => exact Own.chg h
def Rdb (H : Hp) (d : Vl) (v : V) : Prop := ∃ R, Own H d v R
theorem OpdOk.read {H : Hp} {D : SD} {σ : St} {F : List Addr} {r : Opd} {v : V} {R : List Addr} {d : Vl} (h : OpdOk H σ r v R) (st : StOk H D σ F) (e : rsl D r = some d) : Rdb H d v := by
  cases r with
  | vl d' => cases e; exact ⟨R, h⟩
  | sl i =>
    have e' : D[i]? = some (some d) := by
      have : (D[i]?).getD none = some d := e
      cases q : D[i]? with
      | none => rw [q] at this; cases this
      | some o => rw [q] at this; rw [show o = some d from this]
    obtain ⟨v', F1, F2, g1, g2, _⟩ := st.out e'
    rw [h.1] at g1
    cases g1
    exact ⟨F1, g2⟩
@[simp] def eVar (i : Nat) : M Vl := fun D => match D[i]? with
  | some (some d) => if d.cp = true then some (d, D) else some (d, D.set i (some .jk))
  | _ => none
def eC (d : Im) : M Vl := fun D => some (.im d, D)
@[simp] def oSl (i : Nat) : M Opd := fun D => match D[i]? with
  | some (some _) => some (.sl i, D)
  | _ => none
@[simp] def oV (g : M Vl) : M Opd := fun D => (g D).map fun p => (.vl p.1, p.2)
section
variable {X : Cx}
theorem ve_var {i : Nat} {e : Expr} (h : PE X e (tVar i)) : VE X e (eVar i) := by
  refine pe_imp h fun σ H Q ⟨D, F, r, D', st, nd, hg, q⟩ => ?_
  unfold eVar at hg
  split at hg
  · rename_i d hd
    split at hg
    · rename_i hc
      cases hg
      obtain ⟨v, h1, h2⟩ := st.cp hd hc
      exact ⟨v, h1, q v H F [] st h2 (by rw [List.append_nil]; exact Stp.perm nd (List.Perm.refl _))⟩
    · cases hg
      obtain ⟨v, F1, F2, h1, h2, h3, h4⟩ := st.out hd
      exact ⟨v, h1, q v H F2 F1 h3 h2 (Stp.perm nd h4)⟩
  · cases hg
theorem vo_var {i : Nat} {e : Expr} (h : PE X e (tVar i)) : VO X e (oSl i) := by
  refine pe_imp h fun σ H Q ⟨D, F, r, D', st, nd, hg, q⟩ => ?_
  unfold oSl at hg
  split at hg
  · rename_i d hd
    cases hg
    obtain ⟨v, F1, F2, h1, h2, h3, h4⟩ := st.out hd
    exact ⟨v, h1, q v H F [] st ⟨h1, rfl⟩ (by rw [List.append_nil]; exact Stp.perm nd (List.Perm.refl _))⟩
  · cases hg
theorem vo_val {e : Expr} {g : M Vl} (h : VE X e g) : VO X e (oV g) := by
  refine pe_imp h fun σ H Q ⟨D, F, r, D', st, nd, hg, q⟩ => ?_
  unfold oV at hg
  obtain ⟨⟨r', D1⟩, h1, h2⟩ := Option.map_eq_some_iff.mp hg
  cases h2
  exact ⟨D, F, r', _, st, nd, h1, q⟩
theorem ve_c {e : Expr} {v : V} {d : Im} (h : PE X e (tC v)) (hd : ∀ H, IsI H d v) : VE X e (eC d) := by
  refine pe_imp h fun σ H Q ⟨D, F, r, D', st, nd, hg, q⟩ => ?_
  cases hg
  exact q v H F [] st ⟨hd H, rfl⟩ (by rw [List.append_nil]; exact Stp.perm nd (List.Perm.refl _))
theorem ve_int {i : Int} {j pos} : VE X (.Constant (.int i) j pos) (eC (.int i)) := ve_c pe_int fun _ => rfl
theorem ve_bl {b : Bool} {j pos} : VE X (.Constant (.bool b) j pos) (eC (.bl b)) := ve_c pe_bl fun _ => rfl
theorem ve_non {j pos} : VE X (.Constant .none j pos) (eC .non) := ve_c pe_non fun _ => rfl
theorem ve_str {x : Str} {j pos} : VE X (.Constant (.str x) j pos) (eC (.str x)) := ve_c pe_str fun _ => rfl
theorem two {ga gb : M Opd} {D D1 D2 : SD} {x y : Opd} {σ : St} {H : Hp} {F : List Addr} {K : V → V → Hp → Prop} (st : StOk H D σ F) (nd : F.Nodup) (ha : ga D = some (x, D1)) (hb : gb D1 = some (y, D2))
    (k : ∀ v u H' F' R1 R2, StOk H' D2 σ F' → OpdOk H' σ x v R1 → OpdOk H' σ y u R2 → Stp H F H' ((F' ++ R2) ++ R1) → K v u H') : tO ga σ H fun v H1 => tO gb σ H1 fun u H2 => K v u H2 := by
  refine ⟨D, F, x, D1, st, nd, ha, fun v H1 F1 R1 st1 o1 s1 => ⟨D1, F1, y, D2, st1, (List.nodup_append.mp s1.nd).1, hb, fun u H2 F2 R2 st2 o2 s2 => ?_⟩⟩
  refine k v u H2 F2 R1 R2 st2 (o1.mono s2.tup fun a ha o e => s2.keep a o e fun h => ?_) o2 (s1.trans s2 o1.chg)
  exact (List.nodup_append.mp s1.nd).2.2 a h a ha rfl
theorem Stp.new {H H1 H2 : Hp} {F F1 R R' : List Addr} (a : Stp H F H1 (F1 ++ R)) (s : Same H1 H2) (nd : R'.Nodup) (fr : ∀ x ∈ R', H1 x = none) (c : ∀ x ∈ F1, Chg H1 x) : Stp H F H2 (F1 ++ R') := by
  refine ⟨fun x o e hx => s _ _ (a.keep x o e hx), fun x hx => ?_, List.nodup_append.mpr ⟨(List.nodup_append.mp a.nd).1, nd, fun x hx y hy e => ?_⟩, a.tup.trans s.tupS, fun x o e => let ⟨o', e'⟩ := a.grow x o e; ⟨o', s _ _ e'⟩⟩
  · rcases List.mem_append.mp hx with hx | hx
    · exact a.sub x (List.mem_append_left _ hx)
    · refine .inr ?_
      cases e : H x with
      | none => rfl
      | some o =>
        obtain ⟨o', e'⟩ := a.grow x o e
        rw [fr x hx] at e'
        cases e'
  · subst e
    obtain ⟨o, e, _⟩ := c x hx
    rw [fr x hy] at e
    cases e
def OpV (X : Cx) (f : Value → Value → Sem Value) (op : Vl → Vl → Option Vl) : Prop :=
  OpR X f fun x y H Q => ∃ d1 d2 d, Rdb H d1 x ∧ Rdb H d2 y ∧ op d1 d2 = some d ∧ ∀ v H' R, Same H H' → Own H' d v R → R.Nodup → (∀ a ∈ R, H a = none) → Q v H'
@[simp] def eBin (op : Vl → Vl → Option Vl) (ga gb : M Opd) : M Vl := fun D => (ga D).bind fun p => (gb p.2).bind fun q => (rsl q.2 p.1).bind fun d1 => (rsl q.2 q.1).bind fun d2 => (op d1 d2).map fun d => (d, q.2)
theorem vbin_ok {op : Vl → Vl → Option Vl} {ga gb : M Opd} {σ : St} {H : Hp} {Q : VK} (h : tV (eBin op ga gb) σ H Q) :
    tO ga σ H fun x H1 => tO gb σ H1 fun y H2 => ∃ d1 d2 d, Rdb H2 d1 x ∧ Rdb H2 d2 y ∧ op d1 d2 = some d ∧ ∀ v H' R, Same H2 H' → Own H' d v R → R.Nodup → (∀ a ∈ R, H2 a = none) → Q v H' := by
  obtain ⟨D, F, r, D', st, nd, hg, q⟩ := h
  unfold eBin at hg
  obtain ⟨⟨x, D1⟩, ha, hg⟩ := Option.bind_eq_some_iff.mp hg
  obtain ⟨⟨y, D2⟩, hb, hg⟩ := Option.bind_eq_some_iff.mp hg
  obtain ⟨d1, h1, hg⟩ := Option.bind_eq_some_iff.mp hg
  obtain ⟨d2, h2, hg⟩ := Option.bind_eq_some_iff.mp hg
  obtain ⟨d, h3, hg⟩ := Option.map_eq_some_iff.mp hg
  cases hg
  refine two st nd ha hb fun v u H2 F2 R1 R2 st2 o1 o2 s2 => ⟨d1, d2, _, o1.read st2 h1, o2.read st2 h2, h3, fun w H3 R s3 ow ndR fr => ?_⟩
  rw [List.append_assoc] at s2
  exact q w H3 F2 R (st2.mono s3.tupS fun a _ o e => s3 a o e) ow (s2.new s3 ndR fr st2.chg)
theorem ve_op {op : Operator} {f : Vl → Vl → Option Vl} {a b : Expr} {ga gb : M Opd} {pos : Pos} (ho : OpV X (binaryOp op) f) (ha : VO X a ga) (hb : VO X b gb) : VE X (.BinOp a op b pos) (eBin f ga gb) :=
  pe_imp (pe_op ho ha hb) fun _ _ _ h => vbin_ok h
theorem ve_cmp {op : CmpOp} {f : Vl → Vl → Option Vl} {a b : Expr} {ga gb : M Opd} {pos : Pos} (ho : OpV X (compareOp op) f) (ha : VO X a ga) (hb : VO X b gb) (hm : behindInMarks op b = false) : VE X (.Compare a [op] [b] pos) (eBin f ga gb) :=
  pe_imp (pe_cmpR ho ha hb hm) fun _ _ _ h => vbin_ok h
theorem ve_ix {f : Vl → Vl → Option Vl} {a b : Expr} {ga gb : M Opd} {pos : Pos} (ho : IxR X (fun x y H Q => ∃ d1 d2 d, Rdb H d1 x ∧ Rdb H d2 y ∧ f d1 d2 = some d ∧ ∀ v H' R, Same H H' → Own H' d v R → R.Nodup → (∀ a ∈ R, H a = none) → Q v H')) (ha : VO X a ga) (hb : VO X b gb) (hs : PlainIx b) : VE X (.Subscript a b pos) (eBin f ga gb) :=
  pe_imp (pe_ix ho ha hb hs) fun _ _ _ h => vbin_ok h
@[simp] def asB : Vl → Option Bool
  | .im (.bl b) => some b
  | _ => none
@[simp] def kB (g : M Vl) : M Bool := fun D => (g D).bind fun p => (asB p.1).map fun b => (b, p.2)
theorem asB_some {d : Vl} {b : Bool} (h : asB d = some b) : d = .im (.bl b) := by
  unfold asB at h
  split at h
  · cases h; rfl
  · cases h
theorem vt_cmp {op : CmpOp} {f : Vl → Vl → Option Vl} {a b : Expr} {ga gb : M Opd} {pos : Pos} (ho : OpV X (compareOp op) f) (ha : VO X a ga) (hb : VO X b gb) (hm : behindInMarks op b = false) : VT X (.Compare a [op] [b] pos) (kB (eBin f ga gb)) := by
  refine pt_imp (pt_cmpR ho ha hb hm) fun σ H Q ⟨D, F, c, D', st, nd, hg, q⟩ => ?_
  refine vbin_ok ⟨D, F, .im (.bl c), D', st, nd, ?_, fun v H' F' R st' ow s => ⟨c, ow.1, q H' F' st' (by rw [ow.2, List.append_nil] at s; exact s)⟩⟩
  obtain ⟨p, h1, h2⟩ := Option.bind_eq_some_iff.mp hg
  obtain ⟨c', h3, h4⟩ := Option.map_eq_some_iff.mp h2
  cases h4
  rw [h1, ← asB_some h3]
@[simp] def kNot (g : M Bool) : M Bool := fun D => (g D).map fun p => (!p.1, p.2)
theorem vt_not {a : Expr} {g : M Bool} {pos : Pos} (h : VT X a g) : VT X (.UnaryOp .Not a pos) (kNot g) := by
  refine pt_imp (pt_not h) fun σ H Q ⟨D, F, c, D', st, nd, hg, q⟩ => ?_
  obtain ⟨p, h1, h2⟩ := Option.map_eq_some_iff.mp hg
  cases h2
  exact ⟨D, F, p.1, _, st, nd, h1, q⟩
@[simp] def kAnd (g h : M Bool) : M Bool := fun D => (g D).bind fun p => if p.1 = true then h p.2 else some (false, p.2)
@[simp] def kOr (g h : M Bool) : M Bool := fun D => (g D).bind fun p => if p.1 = true then some (true, p.2) else h p.2
theorem and_ok {g h : M Bool} {σ : St} {H : Hp} {Q : Bool → Hp → Prop} (w : tVT (kAnd g h) σ H Q) : tAnd (tVT g) (tVT h) σ H Q := by
  obtain ⟨D, F, c, D', st, nd, hg, q⟩ := w
  obtain ⟨⟨b, D1⟩, h1, h2⟩ := Option.bind_eq_some_iff.mp hg
  refine ⟨D, F, b, D1, st, nd, h1, fun H1 F1 st1 s1 => ?_⟩
  cases b with
  | true =>
    rw [if_pos rfl]
    rw [if_pos rfl] at h2
    exact ⟨D1, F1, c, D', st1, s1.nd, h2, fun H2 F2 st2 s2 => q H2 F2 st2 (by
      have := Stp.trans (R := []) (by rw [List.append_nil]; exact s1) s2 (fun x hx => nomatch hx)
      rwa [List.append_nil] at this)⟩
  | false =>
    rw [if_neg Bool.false_ne_true] at h2 ⊢
    cases h2
    exact q H1 F1 st1 s1
theorem or_ok {g h : M Bool} {σ : St} {H : Hp} {Q : Bool → Hp → Prop} (w : tVT (kOr g h) σ H Q) : tOr (tVT g) (tVT h) σ H Q := by
  obtain ⟨D, F, c, D', st, nd, hg, q⟩ := w
  obtain ⟨⟨b, D1⟩, h1, h2⟩ := Option.bind_eq_some_iff.mp hg
  refine ⟨D, F, b, D1, st, nd, h1, fun H1 F1 st1 s1 => ?_⟩
  cases b with
  | false =>
    rw [if_neg Bool.false_ne_true] at h2 ⊢
    exact ⟨D1, F1, c, D', st1, s1.nd, h2, fun H2 F2 st2 s2 => q H2 F2 st2 (by
      have := Stp.trans (R := []) (by rw [List.append_nil]; exact s1) s2 (fun x hx => nomatch hx)
      rwa [List.append_nil] at this)⟩
  | true =>
    rw [if_pos rfl] at h2 ⊢
    cases h2
    exact q H1 F1 st1 s1
def VW (X : Cx) (e : Expr) (g : M Bool) : Prop := PW X e (tVT g)
theorem pw_imp {e : Expr} {t t' : TT} (h : PW X e t) (i : ∀ σ H Q, t' σ H Q → t σ H Q) : PW X e t' := fun wh pins s σ H Q I hw => h wh pins s σ H Q I (i σ H Q hw)
theorem vw_and1 {a : Expr} {g : M Bool} {pos : Pos} (h : VT X a g) : VW X (.BoolOp .And [a] pos) g := pw_and1 h
theorem vw_or1 {a : Expr} {g : M Bool} {pos : Pos} (h : VT X a g) : VW X (.BoolOp .Or [a] pos) g := pw_or1 h
theorem vw_and {a b : Expr} {r : List Expr} {g k : M Bool} {pos : Pos} (h : VT X a g) (hb : VW X (.BoolOp .And (b :: r) pos) k) : VW X (.BoolOp .And (a :: b :: r) pos) (kAnd g k) := pw_imp (pw_and h hb) fun _ _ _ w => and_ok w
theorem vw_or {a b : Expr} {r : List Expr} {g k : M Bool} {pos : Pos} (h : VT X a g) (hb : VW X (.BoolOp .Or (b :: r) pos) k) : VW X (.BoolOp .Or (a :: b :: r) pos) (kOr g k) := pw_imp (pw_or h hb) fun _ _ _ w => or_ok w
theorem VW.vt {e : Expr} {g : M Bool} (h : VW X e g) : VT X e g := h.pt
@[simp] def eB (g : M Bool) : M Vl := fun D => (g D).map fun p => (.im (.bl p.1), p.2)
theorem ve_eb {e : Expr} {g : M Bool} (h : VE X e (eB g)) : PE X e fun σ H Q => tVT g σ H fun b H' => Q (.bl b) H' := by
  refine pe_imp h fun σ H Q ⟨D, F, c, D', st, nd, hg, q⟩ => ⟨D, F, .im (.bl c), D', st, nd, by unfold eB; rw [hg]; rfl, fun v H' F' R st' ow s => ?_⟩
  rw [show v = .bl c from ow.1]
  exact q H' F' st' (by rw [ow.2, List.append_nil] at s; exact s)
theorem eb_ve {e : Expr} {g : M Bool} (h : PE X e fun σ H Q => tVT g σ H fun b H' => Q (.bl b) H') : VE X e (eB g) := by
  refine pe_imp h fun σ H Q ⟨D, F, r, D', st, nd, hg, q⟩ => ?_
  obtain ⟨p, h1, h2⟩ := Option.map_eq_some_iff.mp hg
  cases h2
  exact ⟨D, F, p.1, _, st, nd, h1, fun H' F' st' s => q _ H' F' [] st' ⟨rfl, rfl⟩ (by rw [List.append_nil]; exact s)⟩
theorem ve_kb {e : Expr} {g : M Vl} (h : VE X e g) : VE X e (eB (kB g)) := by
  refine pe_imp h fun σ H Q ⟨D, F, r, D', st, nd, hg, q⟩ => ?_
  obtain ⟨p, h1, h2⟩ := Option.map_eq_some_iff.mp hg
  obtain ⟨p', h3, h4⟩ := Option.bind_eq_some_iff.mp h1
  obtain ⟨c, h5, h6⟩ := Option.map_eq_some_iff.mp h4
  cases h6
  cases h2
  exact ⟨D, F, p'.1, _, st, nd, h3, by rw [asB_some h5]; exact q⟩
theorem ve_not {a : Expr} {g : M Bool} {pos : Pos} (h : VE X a (eB g)) : VE X (.UnaryOp .Not a pos) (eB (kNot g)) := by
  refine eb_ve (pe_imp (pe_not (ve_eb h)) fun σ H Q ⟨D, F, c, D', st, nd, hg, q⟩ => ?_)
  obtain ⟨p, h1, h2⟩ := Option.map_eq_some_iff.mp hg
  cases h2
  exact ⟨D, F, p.1, _, st, nd, h1, fun H' F' st' s => ⟨_, rfl, q H' F' st' s⟩⟩
theorem ve_one {a : Expr} {op} {g : M Vl} {pos : Pos} (h : VE X a g) : VE X (.BoolOp op [a] pos) g := pe_one h
theorem ve_and {a b : Expr} {r : List Expr} {g k : M Bool} {pos : Pos} (h : VE X a (eB g)) (hb : VE X (.BoolOp .And (b :: r) pos) (eB k)) : VE X (.BoolOp .And (a :: b :: r) pos) (eB (kAnd g k)) := by
  refine eb_ve (pe_imp (pe_and (ve_eb h) (ve_eb hb)) fun σ H Q w => ?_)
  have := and_ok w
  obtain ⟨D, F, c, D', st, nd, hg, q⟩ := this
  exact ⟨D, F, c, D', st, nd, hg, fun H' F' st' s => ⟨c, rfl, q H' F' st' s⟩⟩
theorem Stp.seq {H H1 H2 : Hp} {F F1 F2 : List Addr} (a : Stp H F H1 F1) (b : Stp H1 F1 H2 F2) : Stp H F H2 F2 := by
  have := Stp.trans (R := []) (by rw [List.append_nil]; exact a) b (fun x hx => nomatch hx)
  rwa [List.append_nil] at this
end
end L2
set_option Elab.async false
set_option linter.all false
set_option maxRecDepth 100000
namespace L2
open PySem PySem.Spec PyProof.Rows
def OpdsOk (H : Hp) (σ : St) : List Opd → List V → List Addr → Prop
  | [], vs, R => vs = [] ∧ R = []
  | o :: os, vs, R => ∃ v r R1 R2, vs = v :: r ∧ OpdOk H σ o v R1 ∧ OpdsOk H σ os r R2 ∧ R = R1 ++ R2
def tA (g : M (List Opd)) : TA := fun σ H Q => ∃ D F r D', StOk H D σ F ∧ F.Nodup ∧ g D = some (r, D') ∧ ∀ vs H' F' R, StOk H' D' σ F' → OpdsOk H' σ r vs R → Stp H F H' (F' ++ R) → Q vs H'
def VA (X : Cx) (es : List Expr) (g : M (List Opd)) : Prop := PA X es (tA g)
theorem pa_imp {X : Cx} {es : List Expr} {t t' : TA} (h : PA X es t) (i : ∀ σ H Q, t' σ H Q → t σ H Q) : PA X es t' := fun pos pins s σ H Q I hw => h pos pins s σ H Q I (i σ H Q hw)
def aNil : M (List Opd) := fun D => some ([], D)
@[simp] def aCons (g : M Opd) (h : M (List Opd)) : M (List Opd) := fun D => (g D).bind fun p => (h p.2).map fun q => (p.1 :: q.1, q.2)
theorem Stp.permR {H H' : Hp} {F A B : List Addr} (s : Stp H F H' A) (p : A.Perm B) : Stp H F H' B := ⟨s.keep, fun a ha => s.sub a (p.mem_iff.mpr ha), (p.nodup_iff).mp s.nd, s.tup, s.grow⟩
theorem Stp.less {H H' : Hp} {F A B C : List Addr} (s : Stp H F H' A) (p : (B ++ C).Perm A) : Stp H F H' B :=
  ⟨s.keep, fun a ha => s.sub a (p.mem_iff.mp (List.mem_append_left _ ha)), (List.nodup_append.mp ((p.nodup_iff).mpr s.nd)).1, s.tup, s.grow⟩
section
variable {X : Cx}
theorem va_nil : VA X [] aNil := by
  refine pa_imp pa_nil fun σ H Q ⟨D, F, r, D', st, nd, hg, q⟩ => ?_
  cases hg
  exact q [] H F [] st ⟨rfl, rfl⟩ (by rw [List.append_nil]; exact Stp.perm nd (List.Perm.refl _))
theorem va_cons {e : Expr} {es : List Expr} {g : M Opd} {h : M (List Opd)} (he : VO X e g) (hr : VA X es h) (hs : starEach (e :: es) X.env = (false, eval e X.env) :: starEach es X.env := by rfl) : VA X (e :: es) (aCons g h) := by
  refine pa_imp (pa_cons he hr hs) fun σ H Q ⟨D, F, r, D', st, nd, hg, q⟩ => ?_
  obtain ⟨⟨x, D1⟩, h1, h2⟩ := Option.bind_eq_some_iff.mp hg
  obtain ⟨⟨ys, D2⟩, h3, h4⟩ := Option.map_eq_some_iff.mp h2
  cases h4
  refine ⟨D, F, x, D1, st, nd, h1, fun v H1 F1 R1 st1 o1 s1 => ⟨D1, F1, ys, _, st1, (List.nodup_append.mp s1.nd).1, h3, fun vs H2 F2 R2 st2 o2 s2 => ?_⟩⟩
  refine q (v :: vs) H2 F2 (R1 ++ R2) st2 ⟨v, vs, R1, R2, rfl, o1.mono s2.tup fun a ha o e => s2.keep a o e fun h => ?_, o2, rfl⟩ ((s1.trans s2 o1.chg).permR ?_)
  · exact (List.nodup_append.mp s1.nd).2.2 a h a ha rfl
  · rw [List.append_assoc]
    exact List.Perm.append_left _ List.perm_append_comm
end
def rsls (D : SD) : List Opd → Option (List Vl)
  | [] => some []
  | o :: os => (rsl D o).bind fun d => (rsls D os).map fun ds => d :: ds
def Rdbs (H : Hp) : List Vl → List V → Prop
  | [], vs => vs = []
  | d :: ds, vs => ∃ v r, vs = v :: r ∧ Rdb H d v ∧ Rdbs H ds r
theorem OpdsOk.read {H : Hp} {D : SD} {σ : St} {F : List Addr} (st : StOk H D σ F) : ∀ {os : List Opd} {vs : List V} {R : List Addr} {ds : List Vl}, OpdsOk H σ os vs R → rsls D os = some ds → Rdbs H ds vs
  | [], _, _, _, h, e => by cases e; exact h.1
  | o :: os, _, _, _, h, e => by
    obtain ⟨v, r, R1, R2, rfl, h1, h2, rfl⟩ := h
    obtain ⟨d, e1, e2⟩ := Option.bind_eq_some_iff.mp e
    obtain ⟨ds, e3, e4⟩ := Option.map_eq_some_iff.mp e2
    cases e4
    exact ⟨v, r, rfl, h1.read st e1, OpdsOk.read st h2 e3⟩
def gath : List Opd → SD → Option (List Vl × SD)
  | [], D => some ([], D)
  | .vl d :: os, D => (gath os D).map fun p => (d :: p.1, p.2)
  | .sl i :: os, D => (eVar i D).bind fun p => (gath os p.2).map fun q => (p.1 :: q.1, q.2)
theorem eVar_ok {H : Hp} {D D' : SD} {σ : St} {F : List Addr} {i : Nat} {d : Vl} (st : StOk H D σ F) (h : eVar i D = some (d, D')) : ∃ v F1 R, σ[i]? = some (some v) ∧ Own H d v R ∧ StOk H D' σ F1 ∧ (F1 ++ R).Perm F := by
  unfold eVar at h
  split at h
  · rename_i e hd
    split at h
    · rename_i hc
      cases h
      obtain ⟨v, h1, h2⟩ := st.cp hd hc
      exact ⟨v, F, [], h1, h2, st, by rw [List.append_nil]⟩
    · cases h
      obtain ⟨v, F1, F2, h1, h2, h3, h4⟩ := st.out hd
      exact ⟨v, F2, F1, h1, h2, h3, h4⟩
  · cases h
theorem perm3 {A B C : List Addr} : (A ++ (B ++ C)).Perm (B ++ (A ++ C)) := by
  rw [← List.append_assoc, ← List.append_assoc]
  exact List.Perm.append_right _ List.perm_append_comm
theorem gath_ok {H : Hp} {σ : St} : ∀ {os : List Opd} {vs : List V} {R F : List Addr} {D D' : SD} {ds : List Vl}, StOk H D σ F → OpdsOk H σ os vs R → gath os D = some (ds, D') → ∃ F1 R1, StOk H D' σ F1 ∧ Owns H ds vs R1 ∧ (F1 ++ R1).Perm (F ++ R)
  | [], _, _, F, _, _, _, st, h, e => by
    cases e
    exact ⟨F, [], st, ⟨h.1, rfl⟩, by rw [h.2]⟩
  | .vl d :: os, _, _, F, D, _, _, st, h, e => by
    obtain ⟨v, r, R1, R2, rfl, h1, h2, rfl⟩ := h
    rw [gath] at e
    obtain ⟨p, e3, e4⟩ := Option.map_eq_some_iff.mp e
    cases e4
    obtain ⟨F1, R3, g1, g2, g3⟩ := gath_ok (D' := p.2) (ds := p.1) st h2 e3
    exact ⟨F1, R1 ++ R3, g1, ⟨v, r, R1, R3, rfl, h1, g2, rfl⟩, perm3.trans ((List.Perm.append_left _ g3).trans perm3)⟩
  | .sl i :: os, _, _, F, D, _, _, st, h, e => by
    obtain ⟨v, r, R1, R2, rfl, ⟨h1, rfl⟩, h2, rfl⟩ := h
    rw [gath] at e
    obtain ⟨⟨d, D1⟩, e1, e2⟩ := Option.bind_eq_some_iff.mp e
    obtain ⟨p, e3, e4⟩ := Option.map_eq_some_iff.mp e2
    cases e4
    obtain ⟨v', F1, R3, g1, g2, g3, g4⟩ := eVar_ok st e1
    rw [h1] at g1
    cases g1
    obtain ⟨F2, R4, k1, k2, k3⟩ := gath_ok (D' := p.2) (ds := p.1) g3 h2 e3
    refine ⟨F2, R3 ++ R4, k1, ⟨v, r, R3, R4, rfl, g2, k2, rfl⟩, perm3.trans ((List.Perm.append_left _ k3).trans ?_)⟩
    rw [← List.append_assoc]
    exact List.Perm.append_right _ (List.perm_append_comm.trans g4)
@[simp] def wb : List Opd → List Vl → SD → SD
  | .sl i :: os, d :: ds, D => wb os ds (match D[i]? with | some (some .jk) => D.set i (some d) | _ => D)
  | .vl _ :: os, _ :: ds, D => wb os ds D
  | _, _, D => D
theorem wb_ok {H H0 : Hp} {σ : St} : ∀ {os : List Opd} {ds : List Vl} {vs : List V} {R F S : List Addr} {D : SD}, StOk H D σ F → OpdsOk H0 σ os vs S → Owns H ds vs R → ∃ F1 R1, StOk H (wb os ds D) σ F1 ∧ (F1 ++ R1).Perm (F ++ R)
  | [], ds, _, R, F, _, D, st, _, _ => ⟨F, R, by unfold wb; exact st, List.Perm.refl _⟩
  | .vl _ :: os, [], _, R, F, _, D, st, _, _ => ⟨F, R, by unfold wb; exact st, List.Perm.refl _⟩
  | .sl _ :: os, [], _, R, F, _, D, st, _, _ => ⟨F, R, by unfold wb; exact st, List.Perm.refl _⟩
  | .vl _ :: os, d :: ds, _, R, F, _, D, st, h, w => by
    obtain ⟨v, r, S1, S2, rfl, h1, h2, rfl⟩ := h
    obtain ⟨v', r', R1, R2, e, w1, w2, rfl⟩ := w
    cases e
    obtain ⟨F1, R3, g1, g2⟩ := wb_ok (D := D) st h2 w2
    refine ⟨F1, R1 ++ R3, by rw [wb]; exact g1, perm3.trans ((List.Perm.append_left _ g2).trans perm3)⟩
  | .sl i :: os, d :: ds, _, R, F, _, D, st, h, w => by
    obtain ⟨v, r, S1, S2, rfl, ⟨h1, _⟩, h2, rfl⟩ := h
    obtain ⟨v', r', R1, R2, e, w1, w2, rfl⟩ := w
    cases e
    rw [wb]
    split
    · obtain ⟨F1, G, g1, g2⟩ := st.back w1 h1
      obtain ⟨F2, R3, k1, k2⟩ := wb_ok g1 h2 w2
      refine ⟨F2, R3 ++ G, k1, ?_⟩
      rw [← List.append_assoc, ← List.append_assoc]
      refine (List.Perm.append_right _ k2).trans ?_
      rw [List.append_assoc]
      refine (List.Perm.append_left _ List.perm_append_comm).trans ?_
      rw [← List.append_assoc]
      exact List.Perm.append_right _ g2
    · obtain ⟨F1, R3, g1, g2⟩ := wb_ok st h2 w2
      exact ⟨F1, R1 ++ R3, g1, perm3.trans ((List.Perm.append_left _ g2).trans perm3)⟩
def ims : List Vl → Option (List Im)
  | [] => some []
  | .im d :: ds => (ims ds).map fun r => d :: r
  | _ :: _ => none
@[simp] def mkT (ds : List Vl) : Vl := match ims ds with
  | some is => .im (.tup is)
  | none => .tpl ds
@[simp] def mkL (ds : List Vl) : Vl := match ims ds with
  | some is => .lst is
  | none => .lstM ds
theorem ims_ok {H : Hp} : ∀ {ds : List Vl} {vs : List V} {R : List Addr} {is : List Im}, Owns H ds vs R → ims ds = some is → IsIs H is vs ∧ R = []
  | [], _, _, _, h, e => by cases e; exact h
  | .im d :: ds, _, _, _, h, e => by
    obtain ⟨v, r, R1, R2, rfl, ⟨h1, rfl⟩, h2, rfl⟩ := h
    rw [ims] at e
    obtain ⟨p, e3, e4⟩ := Option.map_eq_some_iff.mp e
    cases e4
    obtain ⟨g1, rfl⟩ := ims_ok h2 e3
    exact ⟨⟨v, r, rfl, h1, g1⟩, rfl⟩
  | .jk :: _, _, _, _, _, e => by rw [ims] at e; cases e; all_goals (intro _ z; cases z)
  | .fz _ :: _, _, _, _, _, e => by rw [ims] at e; cases e; all_goals (intro _ z; cases z)
  | .lst _ :: _, _, _, _, _, e => by rw [ims] at e; cases e; all_goals (intro _ z; cases z)
  | .dK _ :: _, _, _, _, _, e => by rw [ims] at e; cases e; all_goals (intro _ z; cases z)
  | .dT _ :: _, _, _, _, _, e => by rw [ims] at e; cases e; all_goals (intro _ z; cases z)
  | .lstM _ :: _, _, _, _, _, e => by rw [ims] at e; cases e; all_goals (intro _ z; cases z)
  | .dTM _ _ :: _, _, _, _, _, e => by rw [ims] at e; cases e; all_goals (intro _ z; cases z)
  | .tpl _ :: _, _, _, _, _, e => by rw [ims] at e; cases e; all_goals (intro _ z; cases z)
  | .obj _ _ _ :: _, _, _, _, _, e => by rw [ims] at e; cases e; all_goals (intro _ z; cases z)
@[simp] def eTup (g : M (List Opd)) : M Vl := fun D => (g D).bind fun p => (gath p.1 p.2).bind fun q => if q.1.length ≤ 100000 then some (mkT q.1, q.2) else none
@[simp] def eLst (g : M (List Opd)) : M Vl := fun D => (g D).bind fun p => (gath p.1 p.2).bind fun q => if q.1.length ≤ 100000 then some (mkL q.1, q.2) else none
theorem mkT_ok {H H' : Hp} {ds : List Vl} {vs : List V} {R : List Addr} {p : Addr} (s : Same H H') (h : Owns H ds vs R) (e : H' p = some (.tup vs)) : ∃ R', Own H' (mkT ds) (.ref p) R' ∧ R' = R := by
  unfold mkT
  split
  · rename_i is hi
    obtain ⟨g1, rfl⟩ := ims_ok h hi
    exact ⟨[], ⟨⟨p, vs, rfl, e, g1.mono s.tupS.tup⟩, rfl⟩, rfl⟩
  · exact ⟨R, ⟨p, vs, rfl, e, h.mono s.tupS fun a _ o q => s a o q⟩, rfl⟩
theorem mkL_ok {H H' : Hp} {ds : List Vl} {vs : List V} {R : List Addr} {p : Addr} (s : Same H H') (h : Owns H ds vs R) (e : H' p = some (.lst vs)) : Own H' (mkL ds) (.ref p) (p :: R) := by
  unfold mkL
  split
  · rename_i is hi
    obtain ⟨g1, rfl⟩ := ims_ok h hi
    exact ⟨p, vs, rfl, e, g1.mono s.tupS.tup, rfl⟩
  · exact ⟨p, vs, R, rfl, e, h.mono s.tupS fun a _ o q => s a o q, rfl⟩
theorem le_line {n : Nat} (h : n ≤ 100000) : n ≤ sizeLine := Nat.le_trans h (by decide)
theorem Stp.add {H H1 : Hp} {F A : List Addr} {p : Addr} {o : HO} (a : Stp H F H1 A) (fr : H1 p = none) (c : ∀ x ∈ A, Chg H1 x) : Stp H F (upd H1 p o) (A ++ [p]) := by
  have s : Same H1 (upd H1 p o) := (Same.refl H1).upd fr
  have := Stp.new (R := []) (R' := [p]) (by rw [List.append_nil]; exact a) s (List.pairwise_singleton _ _) (fun x hx => by rw [List.mem_singleton.mp hx]; exact fr) c
  exact this
theorem Stp.same {H H1 H2 : Hp} {F A : List Addr} (a : Stp H F H1 A) (s : Same H1 H2) : Stp H F H2 A :=
  ⟨fun x o e hx => s _ _ (a.keep x o e hx), a.sub, a.nd, a.tup.trans s.tupS, fun x o e => let ⟨o', e'⟩ := a.grow x o e; ⟨o', s _ _ e'⟩⟩
section
variable {X : Cx}
theorem ve_tup {es : List Expr} {g : M (List Opd)} {x1} {pos : Pos} (h : VA X es g) : VE X (.Tuple es x1 pos) (eTup g) := by
  refine pe_imp (pe_tup h) fun σ H Q ⟨D, F, r, D', st, nd, hg, q⟩ => ?_
  obtain ⟨⟨os, D1⟩, h1, h2⟩ := Option.bind_eq_some_iff.mp hg
  obtain ⟨⟨ds, D2⟩, h3, h4⟩ := Option.bind_eq_some_iff.mp h2
  refine ⟨D, F, os, D1, st, nd, h1, fun vs H1 F1 R1 st1 o1 s1 => ?_⟩
  obtain ⟨F2, R2, st2, ow, pm⟩ := gath_ok st1 o1 h3
  split at h4
  · rename_i hl
    cases h4
    have hl' : vs.length ≤ 100000 := by rw [← ow.length]; exact hl
    refine ⟨le_line hl', fun p hp => ?_⟩
    have s : Same H1 (upd H1 p (.tup vs)) := (Same.refl H1).upd hp
    obtain ⟨R', g1, rfl⟩ := mkT_ok s ow upd_same
    exact q _ _ F2 R' (st2.mono s.tupS fun a _ o e => s a o e) g1 ((s1.permR pm.symm).same s)
  · cases h4
theorem ve_lst {es : List Expr} {g : M (List Opd)} {pos : Pos} (h : VA X es g) : VE X (.List es pos) (eLst g) := by
  refine pe_imp (pe_lst h) fun σ H Q ⟨D, F, r, D', st, nd, hg, q⟩ => ?_
  obtain ⟨⟨os, D1⟩, h1, h2⟩ := Option.bind_eq_some_iff.mp hg
  obtain ⟨⟨ds, D2⟩, h3, h4⟩ := Option.bind_eq_some_iff.mp h2
  refine ⟨D, F, os, D1, st, nd, h1, fun vs H1 F1 R1 st1 o1 s1 => ?_⟩
  obtain ⟨F2, R2, st2, ow, pm⟩ := gath_ok st1 o1 h3
  split at h4
  · rename_i hl
    cases h4
    have hl' : vs.length ≤ 100000 := by rw [← ow.length]; exact hl
    refine ⟨le_line hl', fun p hp => ?_⟩
    have s : Same H1 (upd H1 p (.lst vs)) := (Same.refl H1).upd hp
    have g1 := mkL_ok s ow (p := p) upd_same
    refine q _ _ F2 (p :: R2) (st2.mono s.tupS fun a _ o e => s a o e) g1 (((s1.permR pm.symm).add hp fun x hx => ?_).permR ?_)
    · rcases List.mem_append.mp hx with hx | hx
      · exact st2.chg x hx
      · exact ow.chg x hx
    · rw [List.append_assoc]
      exact List.Perm.append_left _ List.perm_append_comm
  · cases h4
def CallV (X : Cx) (f : Value) (op : List Vl → Option Vl) : Prop :=
  CallR X f fun xs H Q => ∃ ds d, Rdbs H ds xs ∧ op ds = some d ∧ ∀ v H' R, Same H H' → Own H' d v R → R.Nodup → (∀ a ∈ R, H a = none) → Q v H'
@[simp] def eCallB (op : List Vl → Option Vl) (g : M (List Opd)) : M Vl := fun D => (g D).bind fun p => (rsls p.2 p.1).bind fun ds => (op ds).map fun d => (d, p.2)
theorem callB_ok {op : List Vl → Option Vl} {g : M (List Opd)} {σ : St} {H : Hp} {Q : VK} (h : tV (eCallB op g) σ H Q) :
    tA g σ H fun xs H1 => ∃ ds d, Rdbs H1 ds xs ∧ op ds = some d ∧ ∀ v H' R, Same H1 H' → Own H' d v R → R.Nodup → (∀ a ∈ R, H1 a = none) → Q v H' := by
  obtain ⟨D, F, r, D', st, nd, hg, q⟩ := h
  obtain ⟨⟨os, D1⟩, h1, h2⟩ := Option.bind_eq_some_iff.mp hg
  obtain ⟨ds, h3, h4⟩ := Option.bind_eq_some_iff.mp h2
  obtain ⟨d, h5, h6⟩ := Option.map_eq_some_iff.mp h4
  cases h6
  refine ⟨D, F, os, D1, st, nd, h1, fun vs H1 F1 R1 st1 o1 s1 => ⟨ds, _, o1.read st1 h3, h5, fun v H2 R s2 ow ndR fr => ?_⟩⟩
  exact q v H2 F1 R (st1.mono s2.tupS fun a _ o e => s2 a o e) ow (s1.new s2 ndR fr st1.chg)
theorem ve_callB {id : String} {op : List Vl → Option Vl} {x : Str} {p pos : Pos} {e : Expr} {es : List Expr} {g : M (List Opd)} (hc : CallV X (.builtin id) op) (hg : Gl X x) (hm : X.mg x = none) (hv : bootBuiltins x = some (.builtin id)) (ha : VA X (e :: es) g)
    (hn : x ≠ "__name__" := by decide) (hdb : (x == ("__debug__" : Str)) = false := by decide) (he : starEach (e :: es) X.env = (false, eval e X.env) :: starEach es X.env := by rfl) (hpl : (backTo pos (starEach es X.env)).any (·.1) = false := by rfl) :
    VE X (.Call (.Name x p) (e :: es) [] pos) (eCallB op g) := pe_imp (pe_callB hc hg hm hv ha hn hdb he hpl) fun _ _ _ h => callB_ok h
theorem ve_callTy {T : String} {op : List Vl → Option Vl} {x : Str} {p pos : Pos} {e : Expr} {es : List Expr} {g : M (List Opd)} (hc : CallV X (.type T) op) (hg : Gl X x) (hm : X.mg x = none) (hv : bootBuiltins x = some (.type T)) (ha : VA X (e :: es) g)
    (hn : x ≠ "__name__" := by decide) (hdb : (x == ("__debug__" : Str)) = false := by decide) (he : starEach (e :: es) X.env = (false, eval e X.env) :: starEach es X.env := by rfl) (hpl : (backTo pos (starEach es X.env)).any (·.1) = false := by rfl) :
    VE X (.Call (.Name x p) (e :: es) [] pos) (eCallB op g) := pe_imp (pe_callTy hc hg hm hv ha hn hdb he hpl) fun _ _ _ h => callB_ok h
abbrev Fn := List Vl → Option (Vl × List Vl)
def spV (n : Nat) (G : Fn) : Sp := fun vs H Q _ => vs.length = n ∧ ∃ ds F r outs, Owns H ds vs F ∧ F.Nodup ∧ G ds = some (r, outs) ∧ ∀ v H' R R', Own H' r v R → Owns H' outs vs R' → Stp H F H' (R ++ R') → Q v H'
@[simp] def eCall (n : Nat) (G : Fn) (g : M (List Opd)) : M Vl := fun D => (g D).bind fun p => if p.1.length = n then (gath p.1 p.2).bind fun q => (G q.1).map fun r => (r.1, wb p.1 r.2 q.2) else none
theorem OpdsOk.length {H : Hp} {σ : St} : ∀ {os : List Opd} {vs : List V} {R : List Addr}, OpdsOk H σ os vs R → os.length = vs.length
  | [], _, _, h => by rw [h.1]; rfl
  | o :: os, _, _, h => by
    obtain ⟨v, r, R1, R2, rfl, h1, h2, rfl⟩ := h
    rw [List.length_cons, List.length_cons, OpdsOk.length h2]
theorem call_ok {n : Nat} {G : Fn} {g : M (List Opd)} {E : XK} {σ : St} {H : Hp} {Q : VK} (h : tV (eCall n G g) σ H Q) : tCall (spV n G) [] E (tA g) σ H Q := by
  obtain ⟨D, F, r, D', st, nd, hg, q⟩ := h
  obtain ⟨⟨os, D1⟩, h1, h2⟩ := Option.bind_eq_some_iff.mp hg
  split at h2
  · rename_i hn
    obtain ⟨⟨ds, D2⟩, h3, h4⟩ := Option.bind_eq_some_iff.mp h2
    obtain ⟨⟨r', outs⟩, h5, h6⟩ := Option.map_eq_some_iff.mp h4
    cases h6
    refine ⟨D, F, os, D1, st, nd, h1, fun vs H1 F1 R1 st1 o1 s1 => ?_⟩
    obtain ⟨F2, R2, st2, ow, pm⟩ := gath_ok st1 o1 h3
    have s2 := s1.permR (pm.symm.trans List.perm_append_comm)
    rw [List.append_nil]
    refine ⟨by rw [← o1.length]; exact hn, ds, R2, _, outs, ow, (List.nodup_append.mp s2.nd).1, h5, fun v H3 R R' w1 w2 s3 => ?_⟩
    have s4 := s2.trans s3 st2.chg
    have dis : ∀ a ∈ F2, a ∉ R2 := fun a ha hb => (List.nodup_append.mp s2.nd).2.2 a hb a ha rfl
    have st3 : StOk H3 D2 σ F2 := st2.mono s3.tup fun a ha o e => s3.keep a o e (dis a ha)
    obtain ⟨F3, R3, st4, pm4⟩ := wb_ok st3 o1 w2
    refine q v H3 F3 R st4 w1 (s4.less (C := R3) ?_)
    refine List.Perm.trans ?_ List.perm_append_comm
    rw [List.append_assoc]
    refine (List.Perm.append_left _ List.perm_append_comm).trans ?_
    rw [← List.append_assoc]
    refine (List.Perm.append_right _ pm4).trans ?_
    rw [List.append_assoc]
    exact List.Perm.append_left _ List.perm_append_comm
  · cases h2
end
end L2
set_option Elab.async false
set_option linter.all false
set_option maxRecDepth 100000
namespace L2
open PySem PySem.Spec PyProof.Rows
section
variable {X : Cx}
theorem ve_call {n k : Nat} {G : Fn} {f : Addr} {fd : FuncData} {ps : List Str} {x : Str} {p pos : Pos} {e : Expr} {es : List Expr} {g : M (List Opd)} (F : FnOk X.prog X.w X.K X.mg X.base CX0 k f fd ps (spV n G)) (hr : Room k X.A) (hg : Gl X x) (hm : X.mg x = some (.ref f)) (hk : PySem.W.keepIn X.K (.ref f) = true) (hb : Binds X.K fd ps [])
    (ha : VA X (e :: es) g) (hdb : (x == ("__debug__" : Str)) = false := by decide) (he : starEach (e :: es) X.env = (false, eval e X.env) :: starEach es X.env := by rfl) (hpl : (backTo pos (starEach es X.env)).any (·.1) = false := by rfl) :
    VE X (.Call (.Name x p) (e :: es) [] pos) (eCall n G g) := pe_imp (pe_call F hr hg hm hk hb .nil pass0 ha hdb he hpl) fun _ _ _ h => call_ok h
inductive Fl where
  | nx | rt (d : Vl) | bk | ct
abbrev MS := SD → Option (Fl × SD)
def fixd (fix : List Nat) (σ σ' : St) : Prop := σ'.length = σ.length ∧ ∀ i ∈ fix, σ'[i]? = σ[i]?
theorem fixd.refl {fix : List Nat} {σ : St} : fixd fix σ σ := ⟨rfl, fun _ _ => rfl⟩
theorem fixd.trans {fix : List Nat} {σ σ1 σ2 : St} (a : fixd fix σ σ1) (b : fixd fix σ1 σ2) : fixd fix σ σ2 := ⟨b.1.trans a.1, fun i hi => (b.2 i hi).trans (a.2 i hi)⟩
theorem fixd.set {fix : List Nat} {σ : St} {j : Nat} {v : Option V} (h : j ∉ fix) : fixd fix σ (σ.set j v) := ⟨List.length_set, fun i hi => List.getElem?_set_ne fun e => h (by rw [e]; exact hi)⟩
def Aft (fix : List Nat) (E : Ends) (σ : St) (H : Hp) (F : List Addr) (D' : SD) : Fl → Prop
  | .nx => ∀ σ' H' F', fixd fix σ σ' → StOk H' D' σ' F' → Stp H F H' F' → E.nx σ' H'
  | .bk => ∀ σ' H' F', fixd fix σ σ' → StOk H' D' σ' F' → Stp H F H' F' → E.bk σ' H'
  | .ct => ∀ σ' H' F', fixd fix σ σ' → StOk H' D' σ' F' → Stp H F H' F' → E.ct σ' H'
  | .rt d => ∀ v σ' H' F' R, fixd fix σ σ' → StOk H' D' σ' F' → Own H' d v R → Stp H F H' (F' ++ R) → E.rt v H'
def tS (fix : List Nat) (g : MS) : TS := fun E σ H => ∃ D F fl D', StOk H D σ F ∧ F.Nodup ∧ g D = some (fl, D') ∧ Aft fix E σ H F D' fl
def VS (X : Cx) (fix : List Nat) (st : Stmt) (g : MS) : Prop := PS X st (tS fix g)
def VSs (X : Cx) (fix : List Nat) (sts : List Stmt) (g : MS) : Prop := PSs X sts (tS fix g)
theorem ps_imp {st : Stmt} {t t' : TS} (h : PS X st t) (i : ∀ E σ H, t' E σ H → t E σ H) : PS X st t' := fun pins s σ H D I hw => h pins s σ H D I (i D σ H hw)
theorem pss_imp {st : List Stmt} {t t' : TS} (h : PSs X st t) (i : ∀ E σ H, t' E σ H → t E σ H) : PSs X st t' := fun pins s σ H D I hw => h pins s σ H D I (i D σ H hw)
theorem Aft.on {fix : List Nat} {E : Ends} {σ σ1 : St} {H H1 : Hp} {F F1 : List Addr} {D' : SD} {fl : Fl} (h : Aft fix E σ H F D' fl) (fx : fixd fix σ σ1) (s : Stp H F H1 F1) : Aft fix E σ1 H1 F1 D' fl := by
  cases fl with
  | nx => exact fun σ' H' F' f st s' => h σ' H' F' (fx.trans f) st (s.seq s')
  | bk => exact fun σ' H' F' f st s' => h σ' H' F' (fx.trans f) st (s.seq s')
  | ct => exact fun σ' H' F' f st s' => h σ' H' F' (fx.trans f) st (s.seq s')
  | rt d => exact fun v σ' H' F' R f st ow s' => h v σ' H' F' R (fx.trans f) st ow (s.seq s')
def sNil : MS := fun D => some (.nx, D)
@[simp] def sSeq (g h : MS) : MS := fun D => (g D).bind fun p => match p.1 with
  | .nx => h p.2
  | fl => some (fl, p.2)
theorem vss_nil {fix : List Nat} : VSs X fix [] sNil := by
  refine pss_imp pss_nil fun E σ H ⟨D, F, fl, D', st, nd, hg, q⟩ => ?_
  cases hg
  exact q σ H F fixd.refl st (Stp.perm nd (List.Perm.refl _))
theorem vss_one {fix : List Nat} {st : Stmt} {g : MS} (h : VS X fix st g) : VSs X fix [st] g := pss_one h
theorem seq_ok {fix : List Nat} {g h : MS} {E : Ends} {σ : St} {H : Hp} (w : tS fix (sSeq g h) E σ H) : tSeq (tS fix g) (tS fix h) E σ H := by
  obtain ⟨D, F, fl, D', st, nd, hg, q⟩ := w
  obtain ⟨⟨f1, D1⟩, h1, h2⟩ := Option.bind_eq_some_iff.mp hg
  cases f1 with
  | nx => exact ⟨D, F, .nx, D1, st, nd, h1, fun σ' H' F' fx st' s => ⟨D1, F', fl, D', st', s.nd, h2, q.on fx s⟩⟩
  | bk => cases h2; exact ⟨D, F, .bk, D1, st, nd, h1, q⟩
  | ct => cases h2; exact ⟨D, F, .ct, D1, st, nd, h1, q⟩
  | rt d => cases h2; exact ⟨D, F, .rt d, D1, st, nd, h1, q⟩
theorem vss_cons {fix : List Nat} {st : Stmt} {sts : List Stmt} {g h : MS} (h1 : VS X fix st g) (h2 : VSs X fix sts h) : VSs X fix (st :: sts) (sSeq g h) := pss_imp (pss_cons h1 h2) fun _ _ _ w => seq_ok w
@[simp] def sExpr (g : M Vl) : MS := fun D => (g D).map fun p => (.nx, p.2)
theorem vs_expr {fix : List Nat} {e : Expr} {g : M Vl} {pos : Pos} (h : VE X e g) (hs : swapsWith e none pos.line X.env = pure false := by rfl) : VS X fix (.Expr e pos) (sExpr g) := by
  refine ps_imp (ps_expr h hs) fun E σ H ⟨D, F, fl, D', st, nd, hg, q⟩ => ?_
  obtain ⟨⟨r, D1⟩, h1, h2⟩ := Option.map_eq_some_iff.mp hg
  cases h2
  exact ⟨D, F, r, _, st, nd, h1, fun v H' F' R st' ow s => q σ H' F' fixd.refl st' (s.less (List.Perm.refl _))⟩
@[simp] def sRet (g : M Vl) : MS := fun D => (g D).map fun p => (.rt p.1, p.2)
theorem vs_ret {fix : List Nat} {e : Expr} {g : M Vl} {pos : Pos} (h : VE X e g) : VS X fix (.Return (some e) pos) (sRet g) := by
  refine ps_imp (ps_ret h) fun E σ H ⟨D, F, fl, D', st, nd, hg, q⟩ => ?_
  obtain ⟨⟨r, D1⟩, h1, h2⟩ := Option.map_eq_some_iff.mp hg
  cases h2
  exact ⟨D, F, r, _, st, nd, h1, fun v H' F' R st' ow s => q v σ H' F' R fixd.refl st' ow s⟩
@[simp] def sIf (c : M Bool) (a b : MS) : MS := fun D => (c D).bind fun p => if p.1 = true then a p.2 else b p.2
theorem vs_if {fix : List Nat} {c : Expr} {a b : List Stmt} {gc : M Bool} {ga gb : MS} {pos : Pos} (hc : VT X c gc) (ha : VSs X fix a ga) (hb : VSs X fix b gb) : VS X fix (.If c a b pos) (sIf gc ga gb) := by
  refine ps_imp (ps_if hc ha hb) fun E σ H ⟨D, F, fl, D', st, nd, hg, q⟩ => ?_
  obtain ⟨⟨t, D1⟩, h1, h2⟩ := Option.bind_eq_some_iff.mp hg
  refine ⟨D, F, t, D1, st, nd, h1, fun H1 F1 st1 s1 => ?_⟩
  cases t with
  | true =>
    rw [if_pos rfl] at h2 ⊢
    exact ⟨D1, F1, fl, D', st1, s1.nd, h2, q.on fixd.refl s1⟩
  | false =>
    rw [if_neg Bool.false_ne_true] at h2 ⊢
    exact ⟨D1, F1, fl, D', st1, s1.nd, h2, q.on fixd.refl s1⟩
@[simp] def sSet (i : Nat) (g : M Vl) : MS := fun D => (g D).bind fun p => if i < p.2.length then some (.nx, p.2.set i (some p.1)) else none
theorem vs_set {fix : List Nat} {i : Nat} {x : Str} {e : Expr} {g : M Vl} {pos pos' : Pos} (hN : X.N.Nodup) (hi : X.N[i]? = some x) (hx : Loc X.env.scope x) (he : VE X e g) (hf : i ∉ fix) (hs : swapsWith e (some (.Name x pos')) pos.line X.env = pure false := by rfl)
    (hfn : X.fn x = true ∨ X.env.scope.names.lookup x = some .local := by first | exact .inl rfl | exact .inr rfl | assumption) : VS X fix (.Assign [.Name x pos'] e pos) (sSet i g) := by
  refine ps_imp (ps_set hN hi hx he hs hfn) fun E σ H ⟨D, F, fl, D', st, nd, hg, q⟩ => ?_
  obtain ⟨⟨r, D1⟩, h1, h2⟩ := Option.bind_eq_some_iff.mp hg
  split at h2
  · rename_i hl
    cases h2
    refine ⟨D, F, r, _, st, nd, h1, fun v H1 F1 R st1 ow s1 => ?_⟩
    obtain ⟨F2, R2, st2, pm⟩ := st1.put (i := i) ow hl
    exact q _ H1 F2 (fixd.set hf) st2 (s1.less pm)
  · cases h2
abbrev MG := Vl → SD → Option SD
def tG (fix : List Nat) (g : MG) : TG := fun v σ H Q => ∃ D F d R D', StOk H D σ F ∧ Own H d v R ∧ (F ++ R).Nodup ∧ g d D = some D' ∧ ∀ σ' H' F', fixd fix σ σ' → StOk H' D' σ' F' → Stp H (F ++ R) H' F' → Q σ' H'
def VG (X : Cx) (fix : List Nat) (e : Expr) (g : MG) : Prop := PG X e (tG fix g)
theorem pg_imp {e : Expr} {t t' : TG} (h : PG X e t) (i : ∀ v σ H Q, t' v σ H Q → t v σ H Q) : PG X e t' := fun pins s σ H x v Q I r hw => h pins s σ H x v Q I r (i x σ H Q hw)
@[simp] def gN (i : Nat) : MG := fun d D => if i < D.length then some (D.set i (some d)) else none
theorem vg_name {fix : List Nat} {i : Nat} {x : Str} {pos : Pos} (hN : X.N.Nodup) (hi : X.N[i]? = some x) (hx : Loc X.env.scope x) (hf : i ∉ fix) (hfn : X.fn x = true ∨ X.env.scope.names.lookup x = some .local := by first | exact .inl rfl | exact .inr rfl | assumption) : VG X fix (.Name x pos) (gN i) := by
  refine pg_imp (pg_name hN hi hx hfn) fun v σ H Q ⟨D, F, d, R, D', st, ow, nd, hg, q⟩ => ?_
  unfold gN at hg
  split at hg
  · rename_i hl
    cases hg
    obtain ⟨F2, R2, st2, pm⟩ := st.put (i := i) ow hl
    exact q _ H F2 (fixd.set hf) st2 ((Stp.perm nd (List.Perm.refl _)).less pm)
  · cases hg
def tGs (fix : List Nat) (g : List Vl → SD → Option SD) : TGs := fun vs σ H Q => ∃ D F ds R D', StOk H D σ F ∧ Owns H ds vs R ∧ (F ++ R).Nodup ∧ g ds D = some D' ∧ ∀ σ' H' F', fixd fix σ σ' → StOk H' D' σ' F' → Stp H (F ++ R) H' F' → Q σ' H'
def VGs (X : Cx) (fix : List Nat) (es : List Expr) (g : List Vl → SD → Option SD) : Prop := PGs X es (tGs fix g)
@[simp] def gNil' : List Vl → SD → Option SD
  | [], D => some D
  | _, _ => none
@[simp] def gCons' (g : MG) (h : List Vl → SD → Option SD) : List Vl → SD → Option SD
  | d :: ds, D => (g d D).bind (h ds)
  | _, _ => none
theorem pgs_imp {es : List Expr} {t t' : TGs} (h : PGs X es t) (i : ∀ v σ H Q, t' v σ H Q → t v σ H Q) : PGs X es t' := fun pins s σ H xs vs Q I r hw => h pins s σ H xs vs Q I r (i xs σ H Q hw)
theorem vgs_nil {fix : List Nat} : VGs X fix [] gNil' := by
  refine pgs_imp pgs_nil fun vs σ H Q ⟨D, F, ds, R, D', st, ow, nd, hg, q⟩ => ?_
  cases ds with
  | cons d ds => cases hg
  | nil =>
    cases hg
    exact ⟨ow.1, q σ H F fixd.refl st ((Stp.perm nd (List.Perm.refl _)).less (List.Perm.refl _))⟩
theorem vgs_cons {fix : List Nat} {e : Expr} {es : List Expr} {g : MG} {h : List Vl → SD → Option SD} (h1 : VG X fix e g) (h2 : VGs X fix es h) (hs : (assignEach (e :: es) X.env).map (·.2) = assign e X.env :: (assignEach es X.env).map (·.2) := by rfl) : VGs X fix (e :: es) (gCons' g h) := by
  refine pgs_imp (pgs_cons h1 h2 hs) fun vs σ H Q ⟨D, F, ds, R, D', st, ow, nd, hg, q⟩ => ?_
  cases ds with
  | nil => cases hg
  | cons d ds =>
    obtain ⟨v, r, R1, R2, rfl, w1, w2, rfl⟩ := ow
    obtain ⟨D1, g1, g2⟩ := Option.bind_eq_some_iff.mp (show (g d D).bind (h ds) = some D' from hg)
    have nd' : ((F ++ R1) ++ R2).Nodup := by rw [List.append_assoc]; exact nd
    refine ⟨v, r, rfl, D, F, d, R1, D1, st, w1, (List.nodup_append.mp nd').1, g1, fun σ1 H1 F1 fx st1 s1 => ?_⟩
    have dis : ∀ a ∈ R2, a ∉ F ++ R1 := fun a ha hb => (List.nodup_append.mp nd').2.2 a hb a ha rfl
    have w2' : Owns H1 ds r R2 := w2.mono s1.tup fun a ha o e => s1.keep a o e (dis a ha)
    have s2 : Stp H (F ++ (R1 ++ R2)) H1 (F1 ++ R2) := by
      refine ⟨fun a o e ha => s1.keep a o e fun h => ha ?_, fun a ha => ?_, List.nodup_append.mpr ⟨s1.nd, (List.nodup_append.mp nd').2.1, fun a ha b hb e => ?_⟩, s1.tup, s1.grow⟩
      · rw [← List.append_assoc]
        exact List.mem_append_left _ h
      · rcases List.mem_append.mp ha with ha | ha
        · rcases s1.sub a ha with h | h
          · left
            rw [← List.append_assoc]
            exact List.mem_append_left _ h
          · exact .inr h
        · left
          rw [← List.append_assoc]
          exact List.mem_append_right _ ha
      · subst e
        rcases s1.sub a ha with h | h
        · exact dis a hb h
        · obtain ⟨o, e, _⟩ := w2.chg a hb
          rw [e] at h
          cases h
    exact ⟨D1, F1, ds, R2, D', st1, w2', s2.nd, g2, fun σ2 H2 F2 fx2 st2 s3 => q σ2 H2 F2 (fx.trans fx2) st2 (s2.seq s3)⟩
@[simp] def gT (n : Nat) (h : List Vl → SD → Option SD) : MG := fun d D => match d with
  | .im (.tup is) => if is.length = n then h (is.map .im) D else none
  | .tpl ds => if ds.length = n then h ds D else none
  | _ => none
theorem owns_im {H : Hp} : ∀ {is : List Im} {vs : List V}, IsIs H is vs → Owns H (is.map .im) vs []
  | [], vs, h => ⟨h, rfl⟩
  | d :: is, vs, h => by
    obtain ⟨v, r, rfl, h1, h2⟩ := h
    exact ⟨v, r, [], [], rfl, ⟨h1, rfl⟩, owns_im h2, rfl⟩
theorem vg_tup {fix : List Nat} {es : List Expr} {k n : Nat} {pos : Pos} {h : List Vl → SD → Option SD} (hc : X.calm = true) (hs : VGs X fix es h) (hn : (assignEach es X.env).length = n := by rfl) (hst : (assignEach es X.env).findIdx? (·.1) = none := by rfl) : VG X fix (.Tuple es k pos) (gT n h) := by
  refine pg_imp (pg_tup hc hs hn hst) fun v σ H Q ⟨D, F, d, R, D', st, ow, nd, hg, q⟩ => ?_
  unfold gT at hg
  split at hg
  · rename_i is
    split at hg
    · rename_i hl
      obtain ⟨⟨a, xs, rfl, h1, h2⟩, rfl⟩ := ow
      exact ⟨a, xs, rfl, SqT.of h1, by rw [← h2.length]; exact hl, D, F, _, [], D', st, owns_im h2, nd, hg, q⟩
    · cases hg
  · rename_i ds
    split at hg
    · rename_i hl
      obtain ⟨a, xs, rfl, h1, h2⟩ := ow
      exact ⟨a, xs, rfl, SqT.of h1, by rw [← h2.length]; exact hl, D, F, _, R, D', st, h2, nd, hg, q⟩
    · cases hg
  · cases hg
@[simp] def sAsg (g : M Vl) (h : MG) : MS := fun D => (g D).bind fun p => (h p.1 p.2).map fun D' => (.nx, D')
theorem vs_asg {fix : List Nat} {tg e : Expr} {g : M Vl} {h : MG} {pos : Pos} (he : VE X e g) (hg : VG X fix tg h) (hs : swapsWithSole [tg] e pos.line X.env = pure false := by rfl) (hw : swappedStores [tg] e X.env = pure none := by rfl)
    (h1 : (assignEach [tg] X.env).map (·.2) = [assign tg X.env] := by rfl) : VS X fix (.Assign [tg] e pos) (sAsg g h) := by
  refine ps_imp (ps_asg he hg hs hw h1) fun E σ H ⟨D, F, fl, D', st, nd, hgg, q⟩ => ?_
  obtain ⟨⟨r, D1⟩, g1, g2⟩ := Option.bind_eq_some_iff.mp hgg
  obtain ⟨D2, g3, g4⟩ := Option.map_eq_some_iff.mp g2
  cases g4
  exact ⟨D, F, r, D1, st, nd, g1, fun v H1 F1 R st1 ow s1 => ⟨D1, F1, r, R, _, st1, ow, s1.nd, g3, fun σ' H' F' fx st' s2 => q σ' H' F' fx st' (s1.seq s2)⟩⟩
@[simp] def sPar (i j : Nat) (g : M (List Opd)) : MS := fun D => (g D).bind fun p => (gath p.1 p.2).bind fun q => match q.1 with
  | [d1, d2] => if i < q.2.length ∧ j < q.2.length then some (.nx, (q.2.set i (some d1)).set j (some d2)) else none
  | _ => none
theorem vs_par {fix : List Nat} {i j : Nat} {x y : Str} {a b : Expr} {g : M (List Opd)} {px py pt pos : Pos} {kt k2 pt2} (hc : X.calm = true) (hN : X.N.Nodup) (hi : X.N[i]? = some x) (hj : X.N[j]? = some y) (hij : i ≠ j)
    (hx : X.env.scope.names.lookup x = some .local) (hy : X.env.scope.names.lookup y = some .local) (ha : VA X [a, b] g) (hfi : i ∉ fix) (hfj : j ∉ fix)
    (hw : swappedStores [.Tuple [.Name x px, .Name y py] kt pt] (.Tuple [a, b] k2 pt2) X.env = pure (some [x, y]))
    (hs : swapsWithSole [.Tuple [.Name x px, .Name y py] kt pt] (.Tuple [a, b] k2 pt2) pos.line X.env = pure false := by rfl) :
    VS X fix (.Assign [.Tuple [.Name x px, .Name y py] kt pt] (.Tuple [a, b] k2 pt2) pos) (sPar i j g) := by
  refine ps_imp (ps_par hc hN hi hj hij hx hy ha hw hs) fun E σ H ⟨D, F, fl, D', st, nd, hg, q⟩ => ?_
  obtain ⟨⟨os, D1⟩, h1, h2⟩ := Option.bind_eq_some_iff.mp hg
  obtain ⟨⟨ds, D2⟩, h3, h4⟩ := Option.bind_eq_some_iff.mp h2
  refine ⟨D, F, os, D1, st, nd, h1, fun vs H1 F1 R1 st1 o1 s1 => ?_⟩
  obtain ⟨F2, R2, st2, ow, pm⟩ := gath_ok st1 o1 h3
  dsimp only at h4
  split at h4
  · rename_i d1 d2 e
    split at h4
    · rename_i hl
      cases h4
      obtain ⟨v, r, A, B, rfl, w1, w2, rfl⟩ := ow
      obtain ⟨u, r', A', B', rfl, w3, ⟨rfl, rfl⟩, rfl⟩ := w2
      obtain ⟨F3, G3, st3, pm3⟩ := st2.put (i := i) w1 hl.1
      obtain ⟨F4, G4, st4, pm4⟩ := st3.put (i := j) w3 (by rw [List.length_set]; exact hl.2)
      refine ⟨v, u, rfl, q _ H1 F4 ((fixd.set hfi).trans (fixd.set hfj)) st4 ((s1.permR pm.symm).less (C := G4 ++ G3) ?_)⟩
      rw [← List.append_assoc, List.append_nil, ← List.append_assoc]
      refine (List.Perm.append_right G3 pm4).trans ?_
      rw [List.append_assoc]
      refine (List.Perm.append_left F3 List.perm_append_comm).trans ?_
      rw [← List.append_assoc]
      exact List.Perm.append_right _ pm3
    · cases h4
  · cases h4
def whileN (c : M Bool) (b : MS) : Nat → MS
  | 0 => fun _ => none
  | n + 1 => fun D => (c D).bind fun p => if p.1 = true then (b p.2).bind fun q => match q.1 with
    | .nx => whileN c b n q.2
    | .ct => whileN c b n q.2
    | .bk => some (.nx, q.2)
    | .rt d => some (.rt d, q.2) else some (.nx, p.2)
theorem vs_while {fix : List Nat} {c : Expr} {body : List Stmt} {gc : M Bool} {gb : MS} {pos : Pos} (n : Nat) (hp : PassesOwn (model X.prog X.w) X.A X.env X.xe) (hc : VT X c gc) (hb : VSs X fix body gb) : VS X fix (.While c body [] pos) (whileN gc gb n) := by
  refine ps_imp (ps_while hp hc hb) fun E σ H ⟨D, F, fl, D', st, nd, hg, q⟩ => ?_
  refine ⟨fun m σ' H' => ∃ Dd F', StOk H' Dd σ' F' ∧ fixd fix σ σ' ∧ Stp H F H' F' ∧ whileN gc gb m Dd = some (fl, D'), ⟨n, D, F, st, fixd.refl, Stp.perm nd (List.Perm.refl _), hg⟩, ?_⟩
  rintro m σ1 H1 ⟨D1, F1, st1, fx1, s1, w⟩
  cases m with
  | zero => cases w
  | succ m =>
    rw [whileN] at w
    obtain ⟨⟨t, D2⟩, w1, w2⟩ := Option.bind_eq_some_iff.mp w
    refine ⟨D1, F1, t, D2, st1, s1.nd, w1, fun H2 F2 st2 s2 => ?_⟩
    cases t with
    | false =>
      rw [if_neg Bool.false_ne_true] at w2 ⊢
      cases w2
      exact q σ1 H2 F2 fx1 st2 (s1.seq s2)
    | true =>
      rw [if_pos rfl] at w2 ⊢
      obtain ⟨⟨f, D3⟩, w3, w4⟩ := Option.bind_eq_some_iff.mp w2
      refine ⟨fun σ' H' => ∃ Dd F', StOk H' Dd σ' F' ∧ fixd fix σ σ' ∧ Stp H F H' F' ∧ whileN gc gb m Dd = some (fl, D'), fun σ' H' h => ⟨m, Nat.lt_succ_self m, h⟩, D2, F2, f, D3, st2, s2.nd, w3, ?_⟩
      cases f with
      | nx => exact fun σ' H' F' fx st' s' => ⟨D3, F', st', fx1.trans fx, (s1.seq s2).seq s', w4⟩
      | ct => exact fun σ' H' F' fx st' s' => ⟨D3, F', st', fx1.trans fx, (s1.seq s2).seq s', w4⟩
      | bk =>
        cases w4
        exact fun σ' H' F' fx st' s' => q σ' H' F' (fx1.trans fx) st' ((s1.seq s2).seq s')
      | rt d =>
        cases w4
        exact fun v σ' H' F' R fx st' ow s' => q v σ' H' F' R (fx1.trans fx) st' ow ((s1.seq s2).seq s')
structure ItOk (J : It) (H : Hp) (R : List Addr) (ds : List Im) : Prop where
  go : ∀ H', StayS H H' → (∀ a ∈ R, ∀ o, H a = some o → H' a = some o) → ∀ (i : Nat) (d : Im), ds[i]? = some d → J.go i H' ∧ ∀ x H'', J.yld i H' x H'' → Same H' H'' ∧ IsI H'' d x
  stop : ∀ H', StayS H H' → (∀ a ∈ R, ∀ o, H a = some o → H' a = some o) → J.stop ds.length H'
def Lent (H : Hp) (σ : St) (R : List Addr) : Option (Nat × Vl) → Prop
  | none => True
  | some (i, d) => ∃ v, σ[i]? = some (some v) ∧ Own H d v R
def tI (g : M (List Im × Option (Nat × Vl))) : TI := fun σ H Rk => ∃ D F r D', StOk H D σ F ∧ F.Nodup ∧ g D = some (r, D') ∧ ∀ J H' F' R, StOk H' D' σ F' → ItOk J H' R r.1 → Lent H' σ R r.2 → (∀ a ∈ R, Chg H' a) → Stp H F H' (F' ++ R) → Rk J H'
def VI (X : Cx) (tg iter : Expr) (g : M (List Im × Option (Nat × Vl))) : Prop := PI X tg iter (tI g)
theorem pi_imp {tg iter : Expr} {t t' : TI} (h : PI X tg iter t) (i : ∀ σ H R, t' σ H R → t σ H R) : PI X tg iter t' := fun pins s σ H R I hw => h pins s σ H R I (i σ H R hw)
def forL (tg : MG) (b : MS) : List Im → MS
  | [] => fun D => some (.nx, D)
  | x :: r => fun D => (tg (.im x) D).bind fun D1 => (b D1).bind fun q => match q.1 with
    | .nx => forL tg b r q.2
    | .ct => forL tg b r q.2
    | .bk => some (.nx, q.2)
    | .rt d => some (.rt d, q.2)
@[simp] def rst : Option (Nat × Vl) → SD → SD
  | none, D => D
  | some (i, d), D => match D[i]? with
    | some (some .jk) => D.set i (some d)
    | _ => D
@[simp] def sFor (g : M (List Im × Option (Nat × Vl))) (tg : MG) (b : MS) : MS := fun D => (g D).bind fun p => (forL tg b p.1.1 p.2).map fun q => (q.1, rst p.1.2 q.2)
theorem rst_ok {H : Hp} {σ : St} {R F : List Addr} {o : Option (Nat × Vl)} {D : SD} (st : StOk H D σ F) (h : Lent H σ R o) : ∃ F1 G, StOk H (rst o D) σ F1 ∧ (F1 ++ G).Perm (F ++ R) := by
  cases o with
  | none => exact ⟨F, R, st, List.Perm.refl _⟩
  | some p =>
    obtain ⟨i, d⟩ := p
    obtain ⟨v, h1, h2⟩ := h
    unfold rst
    dsimp only
    split
    · exact st.back h2 h1
    · exact ⟨F, R, st, List.Perm.refl _⟩
def slotIn (fx : List Nat) : Option (Nat × Vl) → Prop
  | none => True
  | some (i, _) => i ∈ fx
theorem vs_for {fix fx : List Nat} {tg iter : Expr} {body : List Stmt} {g : M (List Im × Option (Nat × Vl))} {gt : MG} {gb : MS} {pos : Pos} (hp : PassesOwn (model X.prog X.w) X.A X.env X.xe) (hc : X.calm = true) (hi : VI X tg iter g) (hg : VG X fx tg gt) (hb : VSs X fx body gb)
    (hf : ∀ i ∈ fix, i ∈ fx) (hs : ∀ D r D', g D = some (r, D') → slotIn fx r.2) (hps : PS X (.For tg iter body [] pos) (tFor (tI g) (tG fx gt) (tS fx gb))) : VS X fix (.For tg iter body [] pos) (sFor g gt gb) := by
  refine ps_imp hps fun E σ H ⟨D, F, fl, D', st, nd, hgg, q⟩ => ?_
  obtain ⟨⟨⟨ds, o⟩, D1⟩, h1, h2⟩ := Option.bind_eq_some_iff.mp hgg
  obtain ⟨⟨f, D2⟩, h3, h4⟩ := Option.map_eq_some_iff.mp h2
  cases h4
  refine ⟨D, F, (ds, o), D1, st, nd, h1, fun J H1 F1 R st1 it ln cR s1 => ?_⟩
  have hso : slotIn fx o := hs D _ _ h1
  have nd1 := List.nodup_append.mp s1.nd
  -- what R holds stays while the body runs
  have keepR : ∀ {H2 : Hp} {F2 : List Addr}, Stp H1 F1 H2 F2 → ∀ a ∈ R, ∀ u, H1 a = some u → H2 a = some u := fun s a ha u e => s.keep a u e fun h => nd1.2.2 a h a ha rfl
  have lent : ∀ {H2 : Hp} {F2 : List Addr} {σ2 : St}, Stp H1 F1 H2 F2 → fixd fx σ σ2 → Lent H2 σ2 R o := fun {H2 F2 σ2} s f => by
    cases o with
    | none => trivial
    | some p =>
      obtain ⟨i, d⟩ := p
      obtain ⟨v, e1, e2⟩ := ln
      exact ⟨v, (f.2 i hso).trans e1, e2.mono s.tup (keepR s)⟩
  have fxx : ∀ {σ2 : St}, fixd fx σ σ2 → fixd fix σ σ2 := fun f => ⟨f.1, fun i hi => f.2 i (hf i hi)⟩
  -- leaving by going on
  have leave : ∀ {σ2 : St} {H2 : Hp} {F2 : List Addr} {D2 : SD}, Aft fix E σ H F (rst o D2) .nx → fixd fx σ σ2 → StOk H2 D2 σ2 F2 → Stp H1 F1 H2 F2 → E.nx σ2 H2 := fun {σ2 H2 F2 D2} q f st2 s2 => by
    obtain ⟨F3, G, st3, pm⟩ := rst_ok st2 (lent s2 f)
    exact q σ2 H2 F3 (fxx f) st3 ((s1.trans s2 cR).less pm)
  refine ⟨fun i m σ' H' => m + i = ds.length ∧ ∃ Dd F', fixd fx σ σ' ∧ StOk H' Dd σ' F' ∧ Stp H1 F1 H' F' ∧ forL gt gb (ds.drop i) Dd = some (f, D2), ⟨ds.length, rfl, D1, F1, fixd.refl, st1, Stp.perm nd1.1 (List.Perm.refl _), h3⟩, ?_⟩
  rintro i m σ' H' ⟨hm, Dd, F', fx', st', s', hw⟩
  by_cases hlt : i < ds.length
  · obtain ⟨hgo, hy⟩ := it.go H' s'.tup (keepR s') i ds[i] (by simp [hlt])
    rw [List.drop_eq_getElem_cons hlt, forL] at hw
    obtain ⟨D3, w1, w2⟩ := Option.bind_eq_some_iff.mp hw
    obtain ⟨⟨f2, D4⟩, w3, w4⟩ := Option.bind_eq_some_iff.mp w2
    refine .inr ⟨hgo, fun σ2 H2 => (m - 1) + (i + 1) = ds.length ∧ ∃ Dd F', fixd fx σ σ2 ∧ StOk H2 Dd σ2 F' ∧ Stp H1 F1 H2 F' ∧ forL gt gb (ds.drop (i + 1)) Dd = some (f, D2), fun σ2 H2 h => ⟨m - 1, by omega, h⟩, fun x H2 hx => ?_⟩
    obtain ⟨sm, isx⟩ := hy x H2 hx
    have st2 := st'.mono sm.tupS fun a _ o e => sm a o e
    have s2 := s'.same sm
    refine ⟨Dd, F', .im ds[i], [], D3, st2, ⟨isx, rfl⟩, by rw [List.append_nil]; exact s2.nd, w1, fun σ3 H3 F3 fx3 st3 sg => ?_⟩
    have s3 : Stp H1 F1 H3 F3 := s2.seq (by rw [List.append_nil] at sg; exact sg)
    refine ⟨D3, F3, f2, D4, st3, s3.nd, w3, ?_⟩
    cases f2 with
    | nx => exact fun σ4 H4 F4 fx4 st4 s4 => ⟨by omega, D4, F4, (fx'.trans fx3).trans fx4, st4, s3.seq s4, w4⟩
    | ct => exact fun σ4 H4 F4 fx4 st4 s4 => ⟨by omega, D4, F4, (fx'.trans fx3).trans fx4, st4, s3.seq s4, w4⟩
    | bk =>
      cases w4
      exact fun σ4 H4 F4 fx4 st4 s4 => leave q ((fx'.trans fx3).trans fx4) st4 (s3.seq s4)
    | rt d =>
      cases w4
      intro v σ4 H4 F4 R4 fx4 st4 ow4 s4
      have s5 := s3.seq s4
      have f5 := (fx'.trans fx3).trans fx4
      obtain ⟨F5, G5, st5, pm5⟩ := rst_ok (R := R) st4 (lent s5 f5)
      refine q v σ4 H4 F5 R4 (fxx f5) st5 ow4 ((s1.trans s5 cR).less (C := G5) ?_)
      rw [List.append_assoc]
      refine (List.Perm.append_left F5 List.perm_append_comm).trans ?_
      rw [← List.append_assoc]
      refine (List.Perm.append_right R4 pm5).trans ?_
      rw [List.append_assoc, List.append_assoc]
      exact List.Perm.append_left _ List.perm_append_comm
  · have hi : i = ds.length := by omega
    subst hi
    refine .inl ⟨it.stop H' s'.tup (keepR s'), ?_⟩
    rw [List.drop_of_length_le (Nat.le_refl _)] at hw
    cases hw
    exact leave q fx' st' s'
end
end L2
set_option Elab.async false
set_option linter.all false
set_option maxRecDepth 100000
namespace L2
open PySem PySem.Spec PyProof.Rows
section
variable {X : Cx}
theorem vs_forN {fix fx : List Nat} {tg iter : Expr} {body : List Stmt} {g : M (List Im × Option (Nat × Vl))} {gt : MG} {gb : MS} {pos : Pos} (hp : PassesOwn (model X.prog X.w) X.A X.env X.xe) (hc : X.calm = true) (hi : VI X tg iter g) (hg : VG X fx tg gt) (hb : VSs X fx body gb)
    (hf : ∀ i ∈ fix, i ∈ fx) (hs : ∀ D r D', g D = some (r, D') → slotIn fx r.2) (hfs : ∀ x, foldedSetIterable iter X.env x = pure x := by intro _; rfl) : VS X fix (.For tg iter body [] pos) (sFor g gt gb) :=
  vs_for hp hc hi hg hb hf hs (ps_for hp hc hi hg hb hfs)
def iSq (K : PySem.W.Frag) (tl : TE) : TI := fun σ H R => tl σ H fun x H1 => ∃ a, x = .ref a ∧ (((∃ xs, SqL K H1 a xs) ∧ R (Itl K a) H1) ∨ ((∃ xs, SqT K H1 a xs) ∧ R (Itt K a) H1))
theorem pi_sq {tg l : Expr} {tl : TE} (hl : PE X l tl) : PI X tg l (iSq X.K tl) := by
  intro pins s σ H R I h
  refine thn (hl pins s σ H _ I h) fun v s1 ⟨x, H1, I1, r1, q1⟩ => ?_
  obtain ⟨a, e, q⟩ := q1
  subst e
  cases r1
  rcases q with ⟨⟨xs, hq⟩, q⟩ | ⟨⟨xs, hq⟩, q⟩
  · obtain ⟨its, rv, p, hz⟩ := I1.list hq
    refine wpAny_pyIter_list p.isList ?_
    refine ⟨s1.heap.objs.size, [s1.heap.objs.size], _, _, H1, rfl, I1.kept (t' := s1.toks) fun b o e => Heap.get?_push_of_some _ e, turn_list a _, ⟨_, Heap.get?_push_size _ rfl, rfl, rfl⟩, fun b hb => ?_, q⟩
    have e : b = s1.heap.objs.size := by simpa using hb
    subst e
    exact I1.fpOk (Nat.le_refl _) (I1.hok.fresh (Nat.le_refl _))
  · obtain ⟨its, rv, p, hz⟩ := I1.tuple hq
    refine wpAny_pyIter_tuple (show s1.heap.IsTuple a its.toArray from p) ?_
    refine ⟨s1.heap.objs.size, [s1.heap.objs.size], _, _, H1, rfl, I1.kept (t' := s1.toks) fun b o e => Heap.get?_push_of_some _ e, turn_tuple a _, ⟨_, Heap.get?_push_size _ rfl, rfl, rfl⟩, fun b hb => ?_, q⟩
    have e : b = s1.heap.objs.size := by simpa using hb
    subst e
    exact I1.fpOk (Nat.le_refl _) (I1.hok.fresh (Nat.le_refl _))
theorem IsIs.get {H : Hp} : ∀ {ds : List Im} {vs : List V} {i : Nat} {d : Im}, IsIs H ds vs → ds[i]? = some d → ∃ v, vs[i]? = some v ∧ IsI H d v
  | [], _, _, _, _, e => by simp at e
  | d :: ds, _, 0, _, h, e => by
    obtain ⟨v, r, rfl, h1, h2⟩ := h
    simp at e
    subst e
    exact ⟨v, rfl, h1⟩
  | d :: ds, _, i + 1, _, h, e => by
    obtain ⟨v, r, rfl, h1, h2⟩ := h
    obtain ⟨u, g1, g2⟩ := IsIs.get (i := i) h2 (by simpa using e)
    exact ⟨u, by simpa using g1, g2⟩
theorem it_list {K : PySem.W.Frag} {H : Hp} {a : Addr} {xs : List V} {ds : List Im} (h : H a = some (.lst xs)) (hd : IsIs H ds xs) : ItOk (Itl K a) H [a] ds where
  go := fun H' t k i d e => by
    obtain ⟨v, g1, g2⟩ := hd.get e
    have h' := SqL.of (K := K) (k a (.head _) _ h)
    refine ⟨⟨xs, v, h', g1⟩, fun x H'' ⟨e1, e2⟩ => ?_⟩
    subst e1
    rw [e2 xs h'] at g1
    cases g1
    exact ⟨Same.refl _, g2.mono t.tup⟩
  stop := fun H' t k => ⟨xs, SqL.of (k a (.head _) _ h), by rw [← hd.length]; exact Nat.le_refl _⟩
theorem it_frz {K : PySem.W.Frag} {H : Hp} {a : Addr} {xs : List V} {o : Obj} {ds : List Im} (h : H a = some (.frz o (.lst xs))) (hd : IsIs H ds xs) : ItOk (Itl K a) H [] ds where
  go := fun H' t k i d e => by
    obtain ⟨v, g1, g2⟩ := hd.get e
    have h' : SqL K H' a xs := .inl (.inr ⟨o, t.frz _ _ _ h⟩)
    refine ⟨⟨xs, v, h', g1⟩, fun x H'' ⟨e1, e2⟩ => ?_⟩
    subst e1
    rw [e2 xs h'] at g1
    cases g1
    exact ⟨Same.refl _, g2.mono t.tup⟩
  stop := fun H' t k => ⟨xs, .inl (.inr ⟨o, t.frz _ _ _ h⟩), by rw [← hd.length]; exact Nat.le_refl _⟩
theorem it_tup {K : PySem.W.Frag} {H : Hp} {a : Addr} {xs : List V} {ds : List Im} (h : H a = some (.tup xs)) (hd : IsIs H ds xs) : ItOk (Itt K a) H [] ds where
  go := fun H' t k i d e => by
    obtain ⟨v, g1, g2⟩ := hd.get e
    have h' := SqT.of (K := K) (t.tup a _ h)
    refine ⟨⟨xs, v, h', g1⟩, fun x H'' ⟨e1, e2⟩ => ?_⟩
    subst e1
    rw [e2 xs h'] at g1
    cases g1
    exact ⟨Same.refl _, g2.mono t.tup⟩
  stop := fun H' t k => ⟨xs, SqT.of (t.tup a _ h), by rw [← hd.length]; exact Nat.le_refl _⟩
abbrev MI := M (List Im × Option (Nat × Vl))
@[simp] def srcV (d : Vl) : Option (List Im) := match d with
  | .im (.tup ds) => some ds
  | .lst ds => some ds
  | .fz ds => some ds
  | _ => none
@[simp] def iOpd (g : M Opd) : MI := fun D => (g D).bind fun p => match p.1 with
  | .vl d => (srcV d).map fun ds => ((ds, none), p.2)
  | .sl i => (eVar i p.2).bind fun q => (srcV q.1).map fun ds => ((ds, if q.1.cp = true then none else some (i, q.1)), q.2)
theorem src_ok {K : PySem.W.Frag} {H : Hp} {d : Vl} {v : V} {R : List Addr} {ds : List Im} (w : Own H d v R) (e : srcV d = some ds) :
    ∃ a, v = .ref a ∧ (((∃ xs, SqL K H a xs) ∧ ItOk (Itl K a) H R ds) ∨ ((∃ xs, SqT K H a xs) ∧ ItOk (Itt K a) H R ds)) := by
  unfold srcV at e
  split at e
  · cases e
    obtain ⟨⟨a, xs, rfl, h1, h2⟩, rfl⟩ := w
    exact ⟨a, rfl, .inr ⟨⟨xs, SqT.of h1⟩, it_tup h1 h2⟩⟩
  · cases e
    obtain ⟨a, xs, rfl, h1, h2, rfl⟩ := w
    exact ⟨a, rfl, .inl ⟨⟨xs, SqL.of h1⟩, it_list h1 h2⟩⟩
  · cases e
    obtain ⟨a, xs, o, rfl, h1, h2, rfl⟩ := w
    exact ⟨a, rfl, .inl ⟨⟨xs, .inl (.inr ⟨o, h1⟩)⟩, it_frz h1 h2⟩⟩
  · cases e
theorem vi_opd {tg l : Expr} {g : M Opd} (h : VO X l g) : VI X tg l (iOpd g) := by
  refine pi_imp (pi_sq h) fun σ H Rk ⟨D, F, r, D', st, nd, hg, q⟩ => ?_
  obtain ⟨⟨x, D1⟩, h1, h2⟩ := Option.bind_eq_some_iff.mp hg
  refine ⟨D, F, x, D1, st, nd, h1, fun v H1 F1 R st1 o1 s1 => ?_⟩
  cases x with
  | vl d =>
    obtain ⟨ds, h3, h4⟩ := Option.map_eq_some_iff.mp h2
    cases h4
    obtain ⟨a, rfl, hh⟩ := src_ok (K := X.K) o1 h3
    refine ⟨a, rfl, ?_⟩
    rcases hh with ⟨hx, it⟩ | ⟨hx, it⟩
    · exact .inl ⟨hx, q _ H1 F1 R st1 it trivial (Own.chg o1) s1⟩
    · exact .inr ⟨hx, q _ H1 F1 R st1 it trivial (Own.chg o1) s1⟩
  | sl i =>
    obtain ⟨⟨d, D2⟩, h3, h4⟩ := Option.bind_eq_some_iff.mp h2
    obtain ⟨ds, h5, h6⟩ := Option.map_eq_some_iff.mp h4
    cases h6
    obtain ⟨v', F2, R2, g1, g2, g3, g4⟩ := eVar_ok st1 h3
    obtain ⟨o1, rfl⟩ := o1
    rw [o1] at g1
    cases g1
    rw [List.append_nil] at s1
    have s2 := s1.permR g4.symm
    obtain ⟨a, rfl, hh⟩ := src_ok (K := X.K) g2 h5
    have ln : Lent H1 σ R2 (if d.cp = true then none else some (i, d)) := by
      split
      · trivial
      · exact ⟨_, o1, g2⟩
    refine ⟨a, rfl, ?_⟩
    rcases hh with ⟨hx, it⟩ | ⟨hx, it⟩
    · exact .inl ⟨hx, q _ H1 F2 R2 g3 it ln g2.chg s2⟩
    · exact .inr ⟨hx, q _ H1 F2 R2 g3 it ln g2.chg s2⟩
theorem slot_v {fx : List Nat} {g : M Vl} : ∀ D r D', iOpd (oV g) D = some (r, D') → slotIn fx r.2 := by
  intro D r D' h
  obtain ⟨⟨x, D1⟩, h1, h2⟩ := Option.bind_eq_some_iff.mp h
  unfold oV at h1
  obtain ⟨p, h3, h4⟩ := Option.map_eq_some_iff.mp h1
  cases h4
  obtain ⟨ds, h5, h6⟩ := Option.map_eq_some_iff.mp h2
  cases h6
  trivial
theorem slot_s {fx : List Nat} {i : Nat} (hi : i ∈ fx) : ∀ D r D', iOpd (oSl i) D = some (r, D') → slotIn fx r.2 := by
  intro D r D' h
  obtain ⟨⟨x, D1⟩, h1, h2⟩ := Option.bind_eq_some_iff.mp h
  unfold oSl at h1
  split at h1
  · cases h1
    obtain ⟨⟨d, D2⟩, h3, h4⟩ := Option.bind_eq_some_iff.mp h2
    obtain ⟨ds, h5, h6⟩ := Option.map_eq_some_iff.mp h4
    cases h6
    show slotIn fx (if d.cp = true then none else some (i, d))
    split
    · trivial
    · exact hi
  · cases h1
def rngI (lo : Int) (n : Nat) : List Im := (List.range n).map fun (k : Nat) => Im.int (lo + (k : Int))
theorem it_rng {H : Hp} {lo : Int} {n : Nat} : ItOk (Itr lo n) H [] (rngI lo n) where
  go := fun H' t k i d e => by
    have hi : i < n := by
      have := (List.getElem?_eq_some_iff.mp e).1
      rwa [rngI, List.length_map, List.length_range] at this
    refine ⟨hi, fun x H'' ⟨e1, e2⟩ => ?_⟩
    subst e1
    rw [rngI, List.getElem?_map, List.getElem?_range hi] at e
    cases e
    exact ⟨Same.refl _, e2⟩
  stop := fun H' t k => by
    show n ≤ _
    rw [rngI, List.length_map, List.length_range]
    exact Nat.le_refl _
def small (i : Int) : Prop := -1000000 ≤ i ∧ i ≤ 1000000
instance (i : Int) : Decidable (small i) := inferInstanceAs (Decidable (_ ∧ _))
@[simp] def iR1 (g : M (List Opd)) : MI := fun D => (g D).bind fun p => (rsls p.2 p.1).bind fun ds => match ds with
  | [.im (.int j)] => if small j then some ((rngI 0 j.toNat, none), p.2) else none
  | _ => none
theorem rdbs1 {H : Hp} {d : Im} {vs : List V} (h : Rdbs H [.im d] vs) : ∃ v, vs = [v] ∧ IsI H d v := by
  obtain ⟨v, r, rfl, ⟨R, h1, _⟩, h2⟩ := h
  cases (show r = [] from h2)
  exact ⟨v, rfl, h1⟩
theorem rdbs2 {H : Hp} {d e : Im} {vs : List V} (h : Rdbs H [.im d, .im e] vs) : ∃ v u, vs = [v, u] ∧ IsI H d v ∧ IsI H e u := by
  obtain ⟨v, r, rfl, ⟨R, h1, _⟩, h2⟩ := h
  obtain ⟨u, rfl, h3⟩ := rdbs1 h2
  exact ⟨v, u, rfl, h1, h3⟩
theorem vi_r1 {tg a : Expr} {g : M (List Opd)} {p pos : Pos} (hg : Gl X "range") (hm : X.mg "range" = none) (ha : VA X [a] g) (hs : starEach [a] X.env = [(false, eval a X.env)] := by rfl) : VI X tg (.Call (.Name "range" p) [a] [] pos) (iR1 g) := by
  refine pi_imp (pi_range1 hg hm ha hs) fun σ H Rk ⟨D, F, r, D', st, nd, hgg, q⟩ => ?_
  obtain ⟨⟨os, D1⟩, h1, h2⟩ := Option.bind_eq_some_iff.mp hgg
  obtain ⟨ds, h3, h4⟩ := Option.bind_eq_some_iff.mp h2
  refine ⟨D, F, os, D1, st, nd, h1, fun vs H1 F1 R1 st1 o1 s1 => ?_⟩
  have rd := o1.read st1 h3
  split at h4
  · rename_i j
    split at h4
    · rename_i hj
      cases h4
      obtain ⟨v, rfl, e⟩ := rdbs1 rd
      cases (show v = .int j from e)
      exact ⟨j, rfl, by have := hj.1; omega, by have := hj.2; omega, q _ H1 F1 [] st1 it_rng trivial (fun a ha => nomatch ha) (by rw [List.append_nil]; exact s1.less (List.Perm.refl _))⟩
    · cases h4
  · cases h4
theorem slot_r1 {fx : List Nat} {g : M (List Opd)} : ∀ D r D', iR1 g D = some (r, D') → slotIn fx r.2 := by
  intro D r D' h
  obtain ⟨⟨os, D1⟩, h1, h2⟩ := Option.bind_eq_some_iff.mp h
  obtain ⟨ds, h3, h4⟩ := Option.bind_eq_some_iff.mp h2
  split at h4
  · split at h4
    · cases h4; trivial
    · cases h4
  · cases h4
def VTs (X : Cx) (ifs : List Expr) (g : M Bool) : Prop := PTs X ifs (tVT g)
def kYes : M Bool := fun D => some (true, D)
theorem vts_nil : VTs X [] kYes := by
  intro pins s σ H Q I ⟨D, F, b, D', st, nd, hg, q⟩
  cases hg
  exact pts_nil pins s σ H Q I (q H F st (Stp.perm nd (List.Perm.refl _)))
theorem vts_one {c : Expr} {g : M Bool} (h : VT X c g) : VTs X [c] g := pts_one h
@[simp] def capD (caps : List Nat) (D : SD) : SD := caps.map fun i => D.getD i none
def jkAll : List Nat → SD → SD
  | [], D => D
  | i :: r, D => jkAll r (match D[i]? with | some (some _) => D.set i (some .jk) | _ => D)
@[simp] def putAll : List Nat → SD → SD → SD
  | i :: r, o :: C, D => putAll r C (D.set i o)
  | _, _, D => D
def compL (own : Nat) (tg : MG) (c : M Bool) (e : M Vl) : List Im → List Im → SD → Option (List Im × SD)
  | [], acc, C => some (acc, C)
  | x :: r, acc, C => (tg (.im x) (List.replicate own none ++ C)).bind fun D1 => (c D1).bind fun p => if p.1 = true then (e p.2).bind fun q => match q.1 with
      | .im d => if acc.length < 100000 then compL own tg c e r (acc ++ [d]) (q.2.drop own) else none
      | _ => none
    else compL own tg c e r acc (p.2.drop own)
@[simp] def eComp (own : Nat) (caps : List Nat) (gi : MI) (tg : MG) (c : M Bool) (e : M Vl) : M Vl := fun D => (gi D).bind fun p => (compL own tg c e p.1.1 [] (capD caps p.2)).map fun q => (.lst q.1, rst p.1.2 (putAll caps q.2 p.2))
def fixc (own n : Nat) : List Nat := (List.range n).map (· + own)
theorem getD_of {D : SD} {i : Nat} {o : Option Vl} (h : D[i]? = some o) : D.getD i none = o := by rw [List.getD_eq_getElem?_getD, h]; rfl
theorem StOk.void {H : Hp} {D : SD} {σ : St} {F : List Addr} (st : StOk H D σ F) (i : Nat) : ∃ F1 F2, StOk H (match D[i]? with | some (some _) => D.set i (some .jk) | _ => D) σ F1 ∧ SlOk H (D.getD i none) (σ.getD i none) F2 ∧ (F1 ++ F2).Perm F := by
  split
  · rename_i d hd
    obtain ⟨v, F1, F2, h1, h2, h3, h4⟩ := st.out hd
    refine ⟨F2, F1, h3, ?_, h4⟩
    rw [getD_of hd, List.getD_eq_getElem?_getD, h1]
    exact ⟨v, rfl, h2⟩
  · rename_i hn
    refine ⟨F, [], st, ?_, by rw [List.append_nil]⟩
    have : D.getD i none = none := by
      rw [List.getD_eq_getElem?_getD]
      cases e : D[i]? with
      | none => rfl
      | some o =>
        cases o with
        | none => rfl
        | some d => exact absurd e (hn d)
    rw [this]
    exact rfl
theorem capOut {H : Hp} {σ : St} : ∀ {caps : List Nat} {D : SD} {F : List Addr}, caps.Nodup → StOk H D σ F → ∃ F1 F2, StOk H (jkAll caps D) σ F1 ∧ StOk H (capD caps D) (caps.map fun i => σ.getD i none) F2 ∧ (F1 ++ F2).Perm F
  | [], D, F, _, st => ⟨F, [], st, ⟨rfl, rfl⟩, by rw [List.append_nil]⟩
  | i :: r, D, F, nd, st => by
    obtain ⟨F1, F2, h1, h2, h3⟩ := st.void i
    have hn := List.nodup_cons.mp nd
    obtain ⟨F3, F4, g1, g2, g3⟩ := capOut (caps := r) hn.2 h1
    refine ⟨F3, F2 ++ F4, g1, ⟨_, _, F2, F4, rfl, h2, ?_, rfl⟩, perm3.trans ((List.Perm.append_left _ g3).trans (List.perm_append_comm.trans h3))⟩
    have e : capD r (match D[i]? with | some (some _) => D.set i (some .jk) | _ => D) = capD r D := by
      unfold capD
      refine List.map_congr_left fun j hj => ?_
      split
      · rw [List.getD_eq_getElem?_getD, List.getD_eq_getElem?_getD, List.getElem?_set_ne]
        rintro rfl
        exact hn.1 hj
      · rfl
    rw [e] at g2
    exact g2
theorem StOk.putO {H : Hp} {D : SD} {σ : St} {F G : List Addr} {i : Nat} {o : Option Vl} (st : StOk H D σ F) (h : SlOk H o (σ.getD i none) G) : ∃ F1 F2, StOk H (D.set i o) σ F1 ∧ (F1 ++ F2).Perm (F ++ G) := by
  cases o with
  | some d =>
    obtain ⟨v, e, w⟩ := h
    refine st.back w ?_
    rw [List.getD_eq_getElem?_getD] at e
    cases q : σ[i]? with
    | none => rw [q] at e; cases e
    | some x => rw [q] at e; rw [show x = some v from e]
  | none =>
    cases (show G = [] from h)
    rw [List.append_nil]
    by_cases hi : i < D.length
    · cases q : D[i]? with
      | none => exact absurd (List.getElem?_eq_none_iff.mp q) (by omega)
      | some x =>
        cases x with
        | none =>
          refine ⟨F, [], ?_, by rw [List.append_nil]⟩
          have : D.set i none = D := by
            refine List.ext_getElem? fun j => ?_
            by_cases e : i = j
            · subst e; rw [q, List.getElem?_set_self hi]
            · rw [List.getElem?_set_ne e]
          rw [this]
          exact st
        | some d =>
          obtain ⟨v, F1, F2, h1, h2, h3, h4⟩ := st.out q
          have gen : ∀ {D : SD} {σ : St} {F : List Addr} {i : Nat}, StOk H D σ F → ∃ F1 F2, StOk H (D.set i none) σ F1 ∧ (F1 ++ F2).Perm F := by
            intro D
            induction D with
            | nil => intro σ F i st; exact ⟨F, [], by simpa using st, by rw [List.append_nil]⟩
            | cons o D ih =>
              intro σ F i st
              obtain ⟨x, r, A, B, rfl, s1, s2, rfl⟩ := st
              cases i with
              | zero => exact ⟨B, A, ⟨x, r, [], B, rfl, rfl, s2, rfl⟩, List.perm_append_comm⟩
              | succ i =>
                obtain ⟨C, E, c1, c2⟩ := ih (i := i) s2
                refine ⟨A ++ C, E, ⟨x, r, A, C, rfl, s1, c1, rfl⟩, ?_⟩
                rw [List.append_assoc]
                exact List.Perm.append_left _ c2
          exact gen st
    · refine ⟨F, [], ?_, by rw [List.append_nil]⟩
      rw [List.set_eq_of_length_le (by omega)]
      exact st
theorem capBack {H : Hp} {σ : St} : ∀ {caps : List Nat} {C D : SD} {F G : List Addr}, StOk H D σ F → StOk H C (caps.map fun i => σ.getD i none) G → ∃ F1 F2, StOk H (putAll caps C D) σ F1 ∧ (F1 ++ F2).Perm (F ++ G)
  | [], C, D, F, G, st, _ => ⟨F, G, by cases C <;> exact st, List.Perm.refl _⟩
  | i :: r, [], D, F, G, st, h => ⟨F, G, st, List.Perm.refl _⟩
  | i :: r, o :: C, D, F, G, st, h => by
    obtain ⟨x, t, G1, G2, e, h1, h2, rfl⟩ := h
    cases e
    obtain ⟨F1, A, g1, g2⟩ := st.putO h1
    obtain ⟨F2, B, k1, k2⟩ := capBack (caps := r) (C := C) g1 h2
    refine ⟨F2, B ++ A, k1, ?_⟩
    rw [← List.append_assoc, ← List.append_assoc]
    refine (List.Perm.append_right A k2).trans ?_
    rw [List.append_assoc]
    refine (List.Perm.append_left F1 List.perm_append_comm).trans ?_
    rw [← List.append_assoc]
    exact List.Perm.append_right _ g2
theorem putAll_jk : ∀ {caps : List Nat} {C D : SD}, caps.length = C.length → caps.Nodup → putAll caps C (jkAll caps D) = putAll caps C D := by
  -- what is put over is forgotten
  have comm : ∀ {r : List Nat} {C D : SD} {i : Nat} {o : Option Vl}, i ∉ r → putAll r C (D.set i o) = (putAll r C D).set i o := by
    intro r
    induction r with
    | nil => intro C D i o _; cases C <;> rfl
    | cons j r ih =>
      intro C D i o h
      cases C with
      | nil => rfl
      | cons c C =>
        have hj : i ≠ j := fun e => h (by rw [e]; exact .head _)
        show putAll r C ((D.set i o).set j c) = (putAll r C (D.set j c)).set i o
        rw [List.set_comm _ _ hj, ih fun z => h (.tail _ z)]
  have jcomm : ∀ {r : List Nat} {D : SD} {i : Nat} {o : Option Vl}, i ∉ r → jkAll r (D.set i o) = (jkAll r D).set i o := by
    intro r
    induction r with
    | nil => intro D i o _; rfl
    | cons j r ih =>
      intro D i o h
      have hj : i ≠ j := fun e => h (by rw [e]; exact .head _)
      show jkAll r (match (D.set i o)[j]? with | some (some _) => (D.set i o).set j (some .jk) | _ => D.set i o) = (jkAll r (match D[j]? with | some (some _) => D.set j (some .jk) | _ => D)).set i o
      rw [List.getElem?_set_ne hj]
      cases D[j]? with
      | none => exact ih fun z => h (.tail _ z)
      | some q =>
        cases q with
        | none => exact ih fun z => h (.tail _ z)
        | some d =>
          show jkAll r ((D.set i o).set j (some .jk)) = _
          rw [List.set_comm _ _ hj]
          exact ih fun z => h (.tail _ z)
  intro caps
  induction caps with
  | nil => intro C D _ _; cases C <;> rfl
  | cons i r ih =>
    intro C D hl nd
    have hn := List.nodup_cons.mp nd
    cases C with
    | nil => cases hl
    | cons c C =>
      have hl' : r.length = C.length := by simpa using hl
      show putAll r C ((jkAll r (match D[i]? with | some (some _) => D.set i (some .jk) | _ => D)).set i c) = putAll r C (D.set i c)
      split
      · rw [jcomm hn.1, List.set_set, ← jcomm hn.1, ih hl' hn.2]
      · rw [← jcomm hn.1, ih hl' hn.2]
theorem stOk_none {H : Hp} {D : SD} {r : St} {F : List Addr} (h : StOk H D r F) : ∀ {own : List Str}, StOk H (List.replicate own.length none ++ D) (own.map (fun _ => none) ++ r) F
  | [] => h
  | x :: own => ⟨none, _, [], F, rfl, rfl, stOk_none h (own := own), rfl⟩
theorem stOk_drop {H : Hp} : ∀ {n : Nat} {D : SD} {σ : St} {F : List Addr}, StOk H D σ F → ∃ F1 F2, StOk H (D.drop n) (σ.drop n) F1 ∧ (F1 ++ F2).Perm F
  | 0, D, σ, F, h => ⟨F, [], h, by rw [List.append_nil]⟩
  | n + 1, [], σ, F, h => by
    cases h.1
    exact ⟨[], F, ⟨rfl, rfl⟩, List.Perm.refl _⟩
  | n + 1, o :: D, σ, F, h => by
    obtain ⟨x, r, A, B, rfl, h1, h2, rfl⟩ := h
    obtain ⟨F1, F2, g1, g2⟩ := stOk_drop (n := n) h2
    exact ⟨F1, F2 ++ A, g1, by rw [← List.append_assoc]; exact (List.Perm.append_right A g2).trans List.perm_append_comm⟩
theorem Stp.both {H H1 : Hp} {F F1 R : List Addr} (a : Stp H F H1 (F1 ++ R)) : Stp H F H1 F1 := a.less (List.Perm.refl _)
theorem IsIs.snoc {H : Hp} : ∀ {ds : List Im} {vs : List V} {d : Im} {v : V}, IsIs H ds vs → IsI H d v → IsIs H (ds ++ [d]) (vs ++ [v])
  | [], vs, d, v, h, w => by cases (show vs = [] from h); exact ⟨v, [], rfl, w, rfl⟩
  | e :: ds, vs, d, v, h, w => by
    obtain ⟨u, r, rfl, h1, h2⟩ := h
    exact ⟨u, r ++ [v], rfl, h1, h2.snoc w⟩
theorem comp_ok {own : List Str} {caps : List Nat} {gi : MI} {gt : MG} {gc : M Bool} {ge : M Vl} {σ : St} {H : Hp} {Q : VK} (nd : caps.Nodup) (h : tV (eComp own.length caps gi gt gc ge) σ H Q) :
    tComp own caps (tI gi) (fun _ => tG (fixc own.length caps.length) gt) (fun _ => tVT gc) (fun _ => tV ge) σ H Q := by
  obtain ⟨D, F, r, D', st, ndF, hgg, q⟩ := h
  obtain ⟨⟨⟨xs, o⟩, D1⟩, h1, h2⟩ := Option.bind_eq_some_iff.mp hgg
  obtain ⟨⟨ds, C'⟩, h3, h4⟩ := Option.map_eq_some_iff.mp h2
  cases h4
  refine ⟨D, F, (xs, o), D1, st, ndF, h1, fun J H1 F1 R st1 it ln cR s1 Y => ?_⟩
  obtain ⟨Fo, Fc, so, sc, pm⟩ := capOut nd st1
  have s2 : Stp H F H1 (Fc ++ (Fo ++ R)) := s1.permR (by
    refine (List.Perm.append_right R pm.symm).trans ?_
    rw [List.append_assoc]
    exact perm3)
  have nd2 := List.nodup_append.mp s2.nd
  have cO : ∀ x ∈ Fo ++ R, Chg H1 x := fun x hx => by
    rcases List.mem_append.mp hx with hx | hx
    · exact so.chg x hx
    · exact cR x hx
  have keepO : ∀ {H2 : Hp} {F2 : List Addr}, Stp H1 Fc H2 F2 → ∀ a ∈ Fo ++ R, ∀ u, H1 a = some u → H2 a = some u := fun s a ha u e => s.keep a u e fun h => nd2.2.2 a h a ha rfl
  refine ⟨fun i m ys H' => m + i = xs.length ∧ ∃ acc C Fc', StOk H' C (caps.map fun i => σ.getD i none) Fc' ∧ C.length = caps.length ∧ Stp H1 Fc H' Fc' ∧ IsIs H' acc ys ∧ compL own.length gt gc ge (xs.drop i) acc C = some (ds, C'),
    ⟨xs.length, rfl, [], capD caps D1, Fc, sc, by rw [capD, List.length_map], Stp.perm nd2.1 (List.Perm.refl _), rfl, h3⟩, ?_⟩
  rintro i m ys H' ⟨hm, acc, C, Fc', sC, lC, s', hys, hw⟩
  by_cases hlt : i < xs.length
  · obtain ⟨hgo, hy⟩ := it.go H' s'.tup (fun a ha => keepO s' a (List.mem_append_right _ ha)) i xs[i] (by simp [hlt])
    rw [List.drop_eq_getElem_cons hlt, compL] at hw
    obtain ⟨D3, w1, w2⟩ := Option.bind_eq_some_iff.mp hw
    obtain ⟨⟨b, D4⟩, w3, w4⟩ := Option.bind_eq_some_iff.mp w2
    refine .inr ⟨hgo, fun ys2 H2 => (m - 1) + (i + 1) = xs.length ∧ ∃ acc C Fc', StOk H2 C (caps.map fun i => σ.getD i none) Fc' ∧ C.length = caps.length ∧ Stp H1 Fc H2 Fc' ∧ IsIs H2 acc ys2 ∧ compL own.length gt gc ge (xs.drop (i + 1)) acc C = some (ds, C'), fun ys2 H2 h => ⟨m - 1, by omega, h⟩, fun x H2 hx => ?_⟩
    obtain ⟨sm, isx⟩ := hy x H2 hx
    have sC2 := sC.mono sm.tupS fun a _ o e => sm a o e
    have s2' := s'.same sm
    have hys2 := hys.mono sm.tupS.tup
    refine ⟨List.replicate own.length none ++ C, Fc', .im xs[i], [], D3, stOk_none sC2, ⟨isx, rfl⟩, by rw [List.append_nil]; exact s2'.nd, w1, fun σ3 H3 F3 fx3 st3 sg => ⟨fun j v hj => ?_, ?_⟩⟩
    · -- captured names stay
      have hlen : own.length ≤ j := by
        by_cases hjo : j < own.length
        · rw [capS, List.getElem?_append_left (by simpa using hjo), List.getElem?_map] at hj
          cases e : own[j]? with
          | none => rw [e] at hj; cases hj
          | some z => rw [e] at hj; cases hj
        · omega
      have hlt2 : j < own.length + caps.length := by
        have := (List.getElem?_eq_some_iff.mp hj).1
        rwa [capS, List.length_append, List.length_map, List.length_map] at this
      have hm : j ∈ fixc own.length caps.length := List.mem_map.mpr ⟨j - own.length, List.mem_range.mpr (by omega), by omega⟩
      exact (fx3.2 j hm).trans hj
    · have s3 : Stp H1 Fc H3 F3 := s2'.seq (by rw [List.append_nil] at sg; exact sg)
      have hys2 := hys2.mono sg.tup.tup
      have σdrop : σ3.drop own.length = caps.map fun i => σ.getD i none := by
        have hl3 := st3.len
        refine List.ext_getElem? fun j => ?_
        by_cases hj : j < caps.length
        · have hm : j + own.length ∈ fixc own.length caps.length := List.mem_map.mpr ⟨j, List.mem_range.mpr hj, rfl⟩
          have := fx3.2 _ hm
          rw [List.getElem?_drop, Nat.add_comm, this, capS, List.getElem?_append_right (by simp), List.length_map, Nat.add_sub_cancel]
        · have l1 : σ3.length ≤ own.length + caps.length := by
            rw [fx3.1, capS, List.length_append, List.length_map, List.length_map]
            exact Nat.le_refl _
          rw [List.getElem?_eq_none (by rw [List.length_drop]; omega), List.getElem?_eq_none (by rw [List.length_map]; omega)]
      have lσ : σ3.length = own.length + caps.length := by rw [fx3.1, capS, List.length_append, List.length_map, List.length_map]
      refine ⟨D3, F3, b, D4, st3, s3.nd, w3, fun H4 F4 st4 s4 => ?_⟩
      have s5 := s3.seq s4
      dsimp only at w4 ⊢
      cases b with
      | false =>
        rw [if_neg Bool.false_ne_true] at w4 ⊢
        obtain ⟨F5, G5, st5, pm5⟩ := stOk_drop (n := own.length) st4
        rw [σdrop] at st5
        exact ⟨by omega, acc, D4.drop own.length, F5, st5, by rw [List.length_drop, st4.len, lσ]; omega, s5.less pm5, hys2.mono s4.tup.tup, w4⟩
      | true =>
        rw [if_pos rfl] at w4 ⊢
        obtain ⟨⟨v, D5⟩, w5, w6⟩ := Option.bind_eq_some_iff.mp w4
        dsimp only at w6
        split at w6
        · rename_i d
          split at w6
          · rename_i hl
            refine ⟨D4, F4, .im d, D5, st4, s5.nd, w5, fun u H5 F5 R5 st5 ow s6 => ?_⟩
            obtain ⟨iu, rfl⟩ := ow
            rw [List.append_nil] at s6
            have hacc := (hys2.mono s4.tup.tup).mono s6.tup.tup
            refine ⟨Nat.lt_of_le_of_lt (show ys.length ≤ 100000 by rw [← hacc.length]; omega) (by decide), ?_⟩
            obtain ⟨F6, G6, st6, pm6⟩ := stOk_drop (n := own.length) st5
            rw [σdrop] at st6
            exact ⟨by omega, acc ++ [d], D5.drop own.length, F6, st6, by rw [List.length_drop, st5.len, lσ]; omega, (s5.seq s6).less pm6, hacc.snoc iu, w6⟩
          · cases w6
        · cases w6
  · have hi : i = xs.length := by omega
    subst hi
    refine .inl ⟨it.stop H' s'.tup (fun a ha => keepO s' a (List.mem_append_right _ ha)), fun Dn hDn => ?_⟩
    rw [List.drop_of_length_le (Nat.le_refl _), compL] at hw
    cases hw
    have so' : StOk H' (jkAll caps D1) σ Fo := so.mono s'.tup fun a ha => keepO s' a (List.mem_append_left _ ha)
    obtain ⟨F4, G4, st4, pm4⟩ := capBack so' sC
    rw [putAll_jk (by rw [lC]) nd] at st4
    have ln' : Lent H' σ R o := by
      cases o with
      | none => trivial
      | some p =>
        obtain ⟨i, d⟩ := p
        obtain ⟨v, e1, e2⟩ := ln
        exact ⟨v, e1, e2.mono s'.tup fun a ha => keepO s' a (List.mem_append_right _ ha)⟩
    obtain ⟨F5, G5, st5, pm5⟩ := rst_ok (R := R) st4 ln'
    have sm : Same H' (upd H' Dn (.lst ys)) := (Same.refl H').upd hDn
    have s5 : Stp H F H' F5 := (s2.trans s' cO).less (C := G5 ++ G4) (by
      rw [← List.append_assoc]
      refine (List.Perm.append_right G4 pm5).trans ?_
      rw [List.append_assoc]
      refine (List.Perm.append_left F4 List.perm_append_comm).trans ?_
      rw [← List.append_assoc]
      refine (List.Perm.append_right R pm4).trans ?_
      rw [List.append_assoc]
      exact perm3)
    exact q _ _ F5 [Dn] (st5.mono sm.tupS fun a _ o e => sm a o e) ⟨Dn, ys, rfl, upd_same, hys.mono sm.tupS.tup, rfl⟩ (s5.add hDn st5.chg)
theorem ve_comp {tg iter elt : Expr} {ifs : List Expr} {scope : Scope} {pos : Pos} {own : List Str} {caps : List Nat} {gi : MI} {gt : MG} {gc : M Bool} {ge : M Vl} (hc : X.calm = true) (S : CompScope X scope own caps) (nd : caps.Nodup) (hi : VI X tg iter gi)
    (hg : ∀ Y, VG (X.blk (capN X own caps) scope Y) (fixc own.length caps.length) tg gt) (ht : ∀ Y, VTs (X.blk (capN X own caps) scope Y) ifs gc) (he : ∀ Y, VE (X.blk (capN X own caps) scope Y) elt ge)
    (hs : ∀ x, foldedSetIterable iter X.env x = pure x := by intro _; rfl) : VE X (.ListComp elt [⟨tg, iter, ifs, 0⟩] scope pos) (eComp own.length caps gi gt gc ge) :=
  pe_imp (pe_comp hc S hi hg ht he hs) fun σ H Q h => comp_ok nd h
end
end L2
set_option Elab.async false
set_option linter.all false
set_option maxRecDepth 100000
namespace L2
open PySem PySem.Spec PyProof.Rows
@[simp] def outsF (fix : List Nat) : List Vl → SD → Nat → List Vl
  | d :: ds, o :: D, j => (if d.cp = true then d else if j ∈ fix then o.getD .jk else .jk) :: outsF fix ds D (j + 1)
  | d :: ds, [], j => (if d.cp = true then d else .jk) :: outsF fix ds [] (j + 1)
  | [], _, _ => []
@[simp] def runF (n m : Nat) (fix : List Nat) (g : MS) : Fn := fun ds => if ds.length = n then match g (ds.map some ++ List.replicate (m - n) none) with
  | some (.rt r, D) => some (r, outsF fix ds D 0)
  | some (.nx, D) => some (.im .non, outsF fix ds D 0)
  | _ => none else none
theorem stOk_start {H : Hp} : ∀ {ds : List Vl} {vs : List V} {F : List Addr} {m : Nat}, Owns H ds vs F → StOk H (ds.map some ++ List.replicate m none) (vs.map some ++ List.replicate m none) F
  | [], vs, F, m, h => by
    obtain ⟨rfl, rfl⟩ := h
    show StOk H (List.replicate m none) (List.replicate m none) []
    induction m with
    | zero => exact ⟨rfl, rfl⟩
    | succ m ih => exact ⟨none, _, [], [], rfl, rfl, ih, rfl⟩
  | d :: ds, vs, F, m, h => by
    obtain ⟨v, r, F1, F2, rfl, h1, h2, rfl⟩ := h
    exact ⟨some v, _, F1, F2, rfl, ⟨v, rfl, h1⟩, stOk_start h2, rfl⟩
theorem outs_ok {H H' : Hp} {fix : List Nat} (t : StayS H H') : ∀ {ds : List Vl} {vs : List V} {F0 : List Addr} {D : SD} {σ : St} {F : List Addr} {j0 : Nat}, Owns H ds vs F0 → StOk H' D σ F → (∀ (j : Nat) (v : V), (j0 + j) ∈ fix → vs[j]? = some v → σ[j]? = some (some v)) →
    ∃ R G, Owns H' (outsF fix ds D j0) vs R ∧ (R ++ G).Perm F
  | [], vs, F0, D, σ, F, j0, h, st, _ => ⟨[], F, by unfold outsF; exact ⟨h.1, rfl⟩, List.Perm.refl _⟩
  | d :: ds, vs, F0, [], σ, F, j0, h, st, k => by
    obtain ⟨v, r, A, B, rfl, h1, h2, rfl⟩ := h
    obtain ⟨rfl, rfl⟩ := st
    obtain ⟨R, G, g1, g2⟩ := outs_ok (D := []) (σ := []) (F := []) (j0 := j0 + 1) t h2 ⟨rfl, rfl⟩ fun j v hj hv => by
      have := k (j + 1) v (by rw [show j0 + (j + 1) = j0 + 1 + j by omega]; exact hj) (by simpa using hv)
      simp at this
    rw [outsF]
    refine ⟨R, G, ⟨v, r, [], R, rfl, ?_, g1, rfl⟩, g2⟩
    split
    · rename_i hc
      have := h1.mono t fun a ha => by rw [h1.cp hc] at ha; cases ha
      rw [h1.cp hc] at this
      exact this
    · exact rfl
  | d :: ds, vs, F0, o :: D, σ, F, j0, h, st, k => by
    obtain ⟨v, r, A, B, rfl, h1, h2, rfl⟩ := h
    obtain ⟨x, s, C, E, rfl, s1, s2, rfl⟩ := st
    obtain ⟨R, G, g1, g2⟩ := outs_ok (D := D) (σ := s) (j0 := j0 + 1) t h2 s2 fun j v hj hv => by
      have := k (j + 1) v (by rw [show j0 + (j + 1) = j0 + 1 + j by omega]; exact hj) (by simpa using hv)
      simpa using this
    rw [outsF]
    split
    · rename_i hc
      have hm := h1.mono t fun a ha => by rw [h1.cp hc] at ha; cases ha
      rw [h1.cp hc] at hm
      refine ⟨R, G ++ C, ⟨v, r, [], R, rfl, hm, g1, rfl⟩, ?_⟩
      rw [← List.append_assoc]
      exact (List.Perm.append_right C g2).trans List.perm_append_comm
    · split
      · rename_i hf
        have hx : x = some v := by
          have := k 0 v hf rfl
          simpa using this
        subst hx
        cases o with
        | none =>
          refine ⟨R, G ++ C, ⟨v, r, [], R, rfl, rfl, g1, rfl⟩, ?_⟩
          rw [← List.append_assoc]
          exact (List.Perm.append_right C g2).trans List.perm_append_comm
        | some e =>
          obtain ⟨v', e1, w⟩ := s1
          cases e1
          refine ⟨C ++ R, G, ⟨v, r, C, R, rfl, w, g1, rfl⟩, ?_⟩
          rw [List.append_assoc]
          exact List.Perm.append_left _ g2
      · refine ⟨R, G ++ C, ⟨v, r, [], R, rfl, rfl, g1, rfl⟩, ?_⟩
        rw [← List.append_assoc]
        exact (List.Perm.append_right C g2).trans List.perm_append_comm
section
variable {P : Program} {w : World} {K : PySem.W.Frag} {mg : Str → Option Value} {base : Heap}
theorem fnV {x qual : Str} {st : Stmt} {f : Addr} {fd : FuncData} {N ps : List Str} {k n : Nat} {fix : List Nat} {g : MS} (F : Fun K x qual st f fd) (S : FnScope N ps (defScope st)) (hn : ps.length = n) (hfx : ∀ i ∈ fix, i < n)
    (hb : ∀ (cdv : Value) (A : Around) (outer : List Env) (s : Shared) (H : Hp) (E : XK), Room k (A.deeper (envOfC qual (defScope st) s.heap.objs.size f cdv)) → VSs (cxOf CX0 P w K mg base N qual (defScope st) f cdv A outer s H E).nox fix (defBody st) g) :
    FnOk P w K mg base CX0 (k + 1) f fd ps (spV n (runF n N.length fix g)) := by
  refine F.ok S (fun vs H Q E h => h.1.trans hn.symm) (fun cdv A outer s H vs Q E hr h => ⟨_, hb cdv A outer s H E hr, ?_⟩)
  obtain ⟨hl, ds, F0, r, outs, ow, nd, hg, q⟩ := h
  have hdl : ds.length = n := ow.length.trans hl
  unfold runF at hg
  rw [if_pos hdl] at hg
  have st := stOk_start (m := N.length - n) ow
  have es : start N vs = vs.map some ++ List.replicate (N.length - n) none := by unfold start; rw [hl]
  rw [es]
  have fin : ∀ {σ' : St} {H' : Hp} {F' : List Addr} {D' : SD} {v : V} {R : List Addr}, outsF fix ds D' 0 = outs → fixd fix (vs.map some ++ List.replicate (N.length - n) none) σ' → StOk H' D' σ' F' → Own H' r v R → Stp H F0 H' (F' ++ R) → Q v H' := fun {σ' H' F' D' v R} eo fx st' wr s' => by
    obtain ⟨R2, G, g1, g2⟩ := outs_ok (fix := fix) (j0 := 0) s'.tup ow st' fun j v hj hv => by
      rw [Nat.zero_add] at hj
      rw [fx.2 j hj, List.getElem?_append_left (by rw [List.length_map]; exact (List.getElem?_eq_some_iff.mp hv).1), List.getElem?_map, hv]
      rfl
    rw [eo] at g1
    refine q v H' R R2 wr g1 (s'.less (C := G) ?_)
    rw [List.append_assoc]
    exact (List.Perm.append_left R g2).trans List.perm_append_comm
  split at hg
  · rename_i r' D' e
    cases hg
    exact ⟨_, F0, .rt r, D', st, nd, e, fun v σ' H' F' R fx st' wr s' => fin rfl fx st' wr s'⟩
  · rename_i D' e
    cases hg
    exact ⟨_, F0, .nx, D', st, nd, e, fun σ' H' F' fx st' s' => fin rfl fx st' ⟨rfl, rfl⟩ (by rw [List.append_nil]; exact s')⟩
  · cases hg
end
def Out (H : Hp) (d : Vl) (Q : VK) : Prop := ∀ v H' R, Same H H' → Own H' d v R → R.Nodup → (∀ a ∈ R, H a = none) → Q v H'
theorem Out.imS {H H' : Hp} {d : Im} {Q : VK} {v : V} (q : Out H (.im d) Q) (s : Same H H') (h : IsI H' d v) : Q v H' := q v H' [] s ⟨h, rfl⟩ List.nodup_nil (fun a ha => nomatch ha)
theorem Out.i {H : Hp} {d : Im} {Q : VK} {v : V} (q : Out H (.im d) Q) (h : IsI H d v) : Q v H := q.imS (Same.refl H) h
theorem Out.l {H : Hp} {ds : List Im} {xs : List V} {Q : VK} {p : Addr} (q : Out H (.lst ds) Q) (hp : H p = none) (h : IsIs H ds xs) : Q (.ref p) (upd H p (.lst xs)) := by
  have s : Same H (upd H p (.lst xs)) := (Same.refl H).upd hp
  exact q _ _ [p] s ⟨p, xs, rfl, upd_same, h.mono s.tupS.tup, rfl⟩ (List.pairwise_singleton _ _) fun a ha => by rw [List.mem_singleton.mp ha]; exact hp
theorem Out.t {H : Hp} {ds : List Im} {xs : List V} {Q : VK} {p : Addr} (q : Out H (.im (.tup ds)) Q) (hp : H p = none) (h : IsIs H ds xs) : Q (.ref p) (upd H p (.tup xs)) := by
  have s : Same H (upd H p (.tup xs)) := (Same.refl H).upd hp
  exact q.imS s ⟨p, xs, rfl, upd_same, h.mono s.tupS.tup⟩
section
variable {X : Cx}
theorem OpR.imp {f : Value → Value → Sem Value} {r r' : R2} (h : OpR X f r) (i : ∀ x y H Q, r' x y H Q → r x y H Q) : OpR X f r' := fun pins s σ H x y v u Q I rx ry hh => h pins s σ H x y v u Q I rx ry (i x y H Q hh)
theorem CallR.imp {f : Value} {r r' : List V → Hp → VK → Prop} (h : CallR X f r) (i : ∀ xs H Q, r' xs H Q → r xs H Q) : CallR X f r' := fun pins s σ H xs us Q I rx hh => h pins s σ H xs us Q I rx (i xs H Q hh)
theorem IxR.imp {r r' : R2} (h : IxR X r) (i : ∀ x y H Q, r' x y H Q → r x y H Q) : IxR X r' := fun e1 e2 pins s σ H x y v u Q I rx ry hh => h e1 e2 pins s σ H x y v u Q I rx ry (i x y H Q hh)
theorem Rdb.i {H : Hp} {d : Im} {v : V} (h : Rdb H (.im d) v) : IsI H d v := h.elim fun _ w => w.1
end
end L2
set_option Elab.async false
set_option linter.all false
set_option maxRecDepth 100000
namespace L2
open PySem PySem.Spec PyProof.Rows
abbrev Op2 := Vl → Vl → Option Vl
@[simp] def oInt (C : Int → Int → Bool) (g : Int → Int → Im) : Op2 := fun a b => match a, b with
  | .im (.int i), .im (.int j) => if C i j = true then some (.im (g i j)) else none
  | _, _ => none
theorem oInt_some {C : Int → Int → Bool} {g : Int → Int → Im} {a b d : Vl} (h : oInt C g a b = some d) : ∃ i j, a = .im (.int i) ∧ b = .im (.int j) ∧ C i j = true ∧ d = .im (g i j) := by
  unfold oInt at h
  split at h
  · rename_i i j
    split at h
    · rename_i hc
      cases h
      exact ⟨i, j, rfl, rfl, hc, rfl⟩
    · cases h
  · cases h
section
variable {X : Cx}
theorem opv_I {f : Value → Value → Sem Value} {C : Int → Int → Prop} {B : Int → Int → Bool} {g : Int → Int → V} {h : Int → Int → Im} (o : OpR X f (rI C g)) (hB : ∀ i j, B i j = true → C i j) (hg : ∀ H i j, IsI H (h i j) (g i j)) : OpV X f (oInt B h) :=
  o.imp fun x y H Q ⟨d1, d2, d, r1, r2, e, q⟩ => by
    obtain ⟨i, j, rfl, rfl, hc, rfl⟩ := oInt_some e
    exact ⟨i, j, r1.i, r2.i, hB i j hc, Out.i q (hg H i j)⟩
theorem opv_I0 {f : Value → Value → Sem Value} {g : Int → Int → V} {h : Int → Int → Im} (o : OpR X f (rI0 g)) (hg : ∀ H i j, IsI H (h i j) (g i j)) : OpV X f (oInt (fun _ _ => true) h) :=
  o.imp fun x y H Q ⟨d1, d2, d, r1, r2, e, q⟩ => by
    obtain ⟨i, j, rfl, rfl, hc, rfl⟩ := oInt_some e
    exact ⟨i, j, r1.i, r2.i, Out.i q (hg H i j)⟩
@[simp] def vSub : Op2 := oInt (fun _ _ => true) fun i j => .int (i - j)
def mulOk (i j : Int) : Bool := !(decide (Builtin.Int.intBits i > shortFactorBits) && decide (Builtin.Int.intBits j > shortFactorBits) && Builtin.Int.intTooBig (Builtin.Int.intBits i + Builtin.Int.intBits j))
@[simp] def vMul : Op2 := oInt mulOk fun i j => .int (i * j)
@[simp] def vDiv : Op2 := oInt (fun _ j => decide (0 < j ∧ j < 1073741824)) fun i j => .int (i / j)
@[simp] def vMod : Op2 := oInt (fun _ j => decide (0 < j)) fun i j => .int (i % j)
@[simp] def vPow : Op2 := oInt (fun i j => decide (0 ≤ j ∧ j ≤ 1000000 ∧ i.natAbs < 2 ^ 64)) fun i j => .int (i ^ j.toNat)
@[simp] def vLt : Op2 := oInt (fun _ _ => true) fun i j => .bl (decide (i < j))
@[simp] def vLe : Op2 := oInt (fun _ _ => true) fun i j => .bl (decide (i ≤ j))
@[simp] def vGt : Op2 := oInt (fun _ _ => true) fun i j => .bl (decide (j < i))
@[simp] def vGe : Op2 := oInt (fun _ _ => true) fun i j => .bl (decide (j ≤ i))
theorem ov_sub : OpV X (binaryOp .Sub) vSub := opv_I0 op_sub fun _ _ _ => rfl
theorem ov_mul : OpV X (binaryOp .Mult) vMul := opv_I op_mulC (fun i j h => by unfold mulOk at h; unfold IntMulOk; rw [Bool.not_eq_true'] at h; rw [h]; exact Bool.false_ne_true) fun _ _ _ => rfl
theorem ov_div : OpV X (binaryOp .FloorDiv) vDiv := opv_I op_fdiv (fun i j h => show 0 < j ∧ j < 1073741824 from of_decide_eq_true h) fun _ _ _ => rfl
theorem ov_mod : OpV X (binaryOp .Mod) vMod := opv_I op_mod (fun i j h => of_decide_eq_true h) fun _ _ _ => rfl
theorem ov_pow : OpV X (binaryOp .Pow) vPow := opv_I op_pow (fun i j h => show 0 ≤ j ∧ j ≤ 1000000 ∧ i.natAbs < 2 ^ 64 from of_decide_eq_true h) fun _ _ _ => rfl
theorem ov_lt : OpV X (compareOp .Lt) vLt := opv_I0 op_lt fun _ _ _ => rfl
theorem ov_le : OpV X (compareOp .LtE) vLe := opv_I0 op_le fun _ _ _ => rfl
theorem ov_gt : OpV X (compareOp .Gt) vGt := opv_I0 op_gt fun _ _ _ => rfl
theorem ov_ge : OpV X (compareOp .GtE) vGe := opv_I0 op_ge fun _ _ _ => rfl
theorem op_catT0 : OpR X (binaryOp .Add) (fun x y H Q => ∃ a b ys, x = .ref a ∧ y = .ref b ∧ SqT X.K H a [] ∧ SqT X.K H b ys ∧ Q (.ref b) H) := by
  intro pins s σ H x y v u Q I rx ry h
  obtain ⟨a, b, ys, rfl, rfl, ha, hb, q⟩ := h
  cases rx
  cases ry
  obtain ⟨its, r1, p1, _⟩ := I.tuple ha
  obtain ⟨its2, r2, p2, _⟩ := I.tuple hb
  have e : its = [] := r1.nil_iff.mpr rfl
  subst e
  obtain ⟨⟨cls, dd, data, sl⟩, ho, hc, n, hd⟩ := id p1
  obtain ⟨⟨cls2, dd2, data2, sl2⟩, ho2, hc2, n2, hd2⟩ := id p2
  simp only at hc hd hc2 hd2
  subst hc hd hc2 hd2
  exact concat_meets ⟨_, ho, rfl⟩ ⟨_, ho2, rfl⟩ noFill_tuple_add seq_tuple_add PySem.F.slot_tuple_add PySem.F.entry_tuple_add (PySem.F.args_tuple_add_2 _ _) (tuple_addW0 a b _ _ n n2 dd dd2 sl sl2 rfl) ⟨ho, ho2, .ref b, H, I, rfl, q⟩
@[simp] def vAdd : Op2 := fun a b => match a, b with
  | .im (.int i), .im (.int j) => some (.im (.int (i + j)))
  | .im (.tup x), .im (.tup y) => if x.length + y.length ≤ 100000 then some (.im (.tup (x ++ y))) else none
  | .lst x, .lst y => if x.length + y.length ≤ 100000 then some (.lst (x ++ y)) else none
  | .im (.str x), .im (.str y) => if x.length + y.length ≤ 100000 then some (.im (.str (x ++ y))) else none
  | _, _ => none
theorem IsIs.app {H : Hp} : ∀ {a b : List Im} {x y : List V}, IsIs H a x → IsIs H b y → IsIs H (a ++ b) (x ++ y)
  | [], b, x, y, h, k => by cases (show x = [] from h); exact k
  | d :: a, b, x, y, h, k => by
    obtain ⟨v, r, rfl, h1, h2⟩ := h
    exact ⟨v, r ++ y, rfl, h1, h2.app k⟩
theorem IsIs.nil {H : Hp} {a : List Im} (h : IsIs H a []) : a = [] := by
  cases a with
  | nil => rfl
  | cons d a => obtain ⟨_, _, e, _⟩ := h; cases e
theorem ov_add : OpV X (binaryOp .Add) vAdd := by
  refine (op_add.or (op_catT0.or (op_catT.or (op_cat.or op_add_str)))).imp fun x y H Q ⟨d1, d2, d, r1, r2, e, q⟩ => ?_
  unfold vAdd at e
  split at e
  · cases e
    exact .inl ⟨_, _, r1.i, r2.i, Out.i q rfl⟩
  · rename_i a b
    split at e
    · rename_i hl
      cases e
      obtain ⟨p, xs, rfl, h1, h2⟩ := r1.i
      obtain ⟨p', ys, rfl, h3, h4⟩ := r2.i
      refine .inr ?_
      by_cases hx : xs = []
      · subst hx
        cases h2.nil
        exact .inl ⟨p, p', ys, rfl, rfl, SqT.of h1, SqT.of h3, Out.i q ⟨p', ys, rfl, h3, h4⟩⟩
      · refine .inr (.inl ⟨p, p', xs, ys, rfl, rfl, SqT.of h1, SqT.of h3, hx, le_line (by rw [← h2.length, ← h4.length]; exact hl), fun hy => ?_, fun hy n hn => Out.t q hn (h2.app h4)⟩)
        subst hy
        cases h4.nil
        rw [List.append_nil] at q
        exact Out.i q ⟨p, xs, rfl, h1, h2⟩
    · cases e
  · rename_i a b
    split at e
    · rename_i hl
      cases e
      obtain ⟨_, p, xs, rfl, h1, h2, _⟩ := r1
      obtain ⟨_, p', ys, rfl, h3, h4, _⟩ := r2
      exact .inr (.inr (.inr (.inl ⟨p, p', xs, ys, rfl, rfl, h1, h3, le_line (by rw [← h2.length, ← h4.length]; exact hl), fun n hn => Out.l q hn (h2.app h4)⟩)))
    · cases e
  · rename_i a b
    split at e
    · rename_i hl
      cases e
      exact .inr (.inr (.inr (.inr ⟨a, b, r1.i, r2.i, le_line hl, Out.i q rfl⟩)))
    · cases e
  · cases e
theorem rcAt_im {s : Shared} (n : Nat) {A : Around} {x y : Im} {u v : Value} (kx : Im.pl n x = true) (ky : Im.pl n y = true) (hu : A.units + n + 2 < cLine) (hx : ImV s.heap x u) (hy : ImV s.heap y v) : SeqAt.RcAt A s u v (pyEq x y) := by
  cases x with
  | non =>
    cases (show u = .none from hx)
    cases y with
    | non => cases (show v = .none from hy); exact SeqAt.RcAt.none_none
    | bl b => cases (show v = .bool b from hy); exact SeqAt.RcAt.none_bool b
    | int j => obtain ⟨t, rfl⟩ := hy; exact SeqAt.RcAt.none_int j t
    | str z => obtain ⟨t, rfl⟩ := hy; exact SeqAt.RcAt.none_str z t
    | tup ds => obtain ⟨a, o, items, m, rfl, h1, h2, h3, _⟩ := hy; exact SeqAt.RcAt.none_tuple ⟨o, h1, h2, m, h3⟩ (by omega)
    | fn a => cases n <;> cases ky
    | fl a => cases n <;> cases ky
  | bl b =>
    cases (show u = .bool b from hx)
    cases y with
    | non => cases (show v = .none from hy); exact SeqAt.RcAt.bool_none b
    | bl c => cases (show v = .bool c from hy); exact SeqAt.RcAt.bool_bool b c
    | int j => obtain ⟨t, rfl⟩ := hy; exact SeqAt.RcAt.bool_int b j t
    | str z => obtain ⟨t, rfl⟩ := hy; exact SeqAt.RcAt.bool_str b z t
    | tup ds => obtain ⟨a, o, items, m, rfl, h1, h2, h3, _⟩ := hy; exact SeqAt.RcAt.bool_tuple b ⟨o, h1, h2, m, h3⟩ (by omega)
    | fn a => cases n <;> cases ky
    | fl a => cases n <;> cases ky
  | int i =>
    obtain ⟨t0, rfl⟩ := hx
    cases y with
    | non => cases (show v = .none from hy); exact SeqAt.RcAt.int_none i t0
    | bl c => cases (show v = .bool c from hy); exact SeqAt.RcAt.int_bool i t0 c
    | int j => obtain ⟨t, rfl⟩ := hy; exact SeqAt.RcAt.int_int i t0 j t
    | str z => obtain ⟨t, rfl⟩ := hy; exact SeqAt.RcAt.int_str i t0 z t
    | tup ds => obtain ⟨a, o, items, m, rfl, h1, h2, h3, _⟩ := hy; exact SeqAt.RcAt.int_tuple i t0 ⟨o, h1, h2, m, h3⟩ (by omega)
    | fn a => cases n <;> cases ky
    | fl a => cases n <;> cases ky
  | str i =>
    obtain ⟨t0, rfl⟩ := hx
    cases y with
    | non => cases (show v = .none from hy); exact SeqAt.RcAt.str_none i t0
    | bl c => cases (show v = .bool c from hy); exact SeqAt.RcAt.str_bool i t0 c
    | int j => obtain ⟨t, rfl⟩ := hy; exact SeqAt.RcAt.str_int i t0 j t
    | str z => obtain ⟨t, rfl⟩ := hy; exact SeqAt.RcAt.str_str i t0 z t
    | tup ds => obtain ⟨a, o, items, m, rfl, h1, h2, h3, _⟩ := hy; exact SeqAt.RcAt.str_tuple i t0 ⟨o, h1, h2, m, h3⟩ (by omega)
    | fn a => cases n <;> cases ky
    | fl a => cases n <;> cases ky
  | fn a => cases n <;> cases kx
  | fl a => cases n <;> cases kx
  | tup ds =>
    cases n with
    | zero => cases kx
    | succ n =>
    obtain ⟨a, o, items, m, rfl, h1, h2, h3, h4⟩ := hx
    have ta : s.heap.IsTuple a items := ⟨o, h1, h2, m, h3⟩
    cases y with
    | non => cases (show v = .none from hy); exact SeqAt.RcAt.tuple_none ta (by omega)
    | bl c => cases (show v = .bool c from hy); exact SeqAt.RcAt.tuple_bool c ta (by omega)
    | int j => obtain ⟨t, rfl⟩ := hy; exact SeqAt.RcAt.tuple_int j t ta (by omega)
    | str z => obtain ⟨t, rfl⟩ := hy; exact SeqAt.RcAt.tuple_str z t ta (by omega)
    | fn a => cases ky
    | fl a => cases ky
    | tup es =>
      obtain ⟨b, o', items', m', rfl, g1, g2, g3, g4⟩ := hy
      have tb : s.heap.IsTuple b items' := ⟨o', g1, g2, m', g3⟩
      have l1 := h4.length
      have l2 := g4.length
      have l3 : items.toList.length = items.size := by simp
      have l4 : items'.toList.length = items'.size := by simp
      rw [l3] at l1
      rw [l4] at l2
      have q := SeqAt.RcAt.tuples (A := A) (e := fun j => pyEq (ds.getD j .non) (es.getD j .non)) ta tb (by omega) fun j j1 j2 => by
        obtain ⟨d1, e1, r1⟩ := h4.get (j := j) (v := items[j]) (by rw [Array.getElem?_toList]; simp [j1])
        obtain ⟨d2, e2, r2⟩ := g4.get (j := j) (v := items'[j]) (by rw [Array.getElem?_toList]; simp [j2])
        rw [List.getD_eq_getElem?_getD, e1, List.getD_eq_getElem?_getD, e2]
        exact eqAt_im n (pls_get kx e1) (pls_get ky e2) (by show A.units + 1 + n + 1 < cLine; omega) r1 r2
      rw [← l1, ← l2, pyEqs_range (ds := ds) (es := es) (fun j x y a b => by rw [List.getD_eq_getElem?_getD, a, List.getD_eq_getElem?_getD, b]; rfl)] at q
      rw [pyEq]
      exact q
@[simp] def vEq : Op2 := fun a b => match a, b with
  | .im x, .im y => if (Im.pl 8 x && Im.pl 8 y) = true then some (.im (.bl (pyEq x y))) else none
  | .lst x, .lst y => if (Im.pls 8 x && Im.pls 8 y) = true then some (.im (.bl (pyEqs x y))) else none
  | _, _ => none
theorem pyEqs_len : ∀ {x y : List Im}, x.length ≠ y.length → pyEqs x y = false
  | [], [], h => absurd rfl h
  | [], _ :: _, _ => rfl
  | _ :: _, [], _ => rfl
  | a :: x, b :: y, h => by
    rw [pyEqs, pyEqs_len (fun e => h (by rw [List.length_cons, List.length_cons, e])), Bool.and_false]
theorem lists_im {pins : List (Addr × Obj)} {σ : St} {H : Hp} {s : Shared} (I : Inv X pins σ H s) {a : Addr} {xs : List V} {ds : List Im} (h1 : H a = some (.lst xs)) (h2 : IsIs H ds xs) : ∃ its : List Value, s.heap.IsList a its.toArray ∧ ImVs s.heap ds its ∧ its.length = ds.length := by
  obtain ⟨z, its, n, rv, e⟩ := I.hok a _ h1
  have := h2.imv I.hok rv
  exact ⟨its, ⟨_, e, rfl, n, rfl⟩, this, this.length.symm⟩
theorem ov_eq (hu : X.A.units + 20 < cLine) : OpV X (compareOp .Eq) vEq := by
  intro pins s σ H x y v u Q I rx ry ⟨d1, d2, d, r1, r2, e, q⟩
  unfold vEq at e
  split at e
  · rename_i a b
    split at e
    · rename_i hp
      cases e
      rw [Bool.and_eq_true] at hp
      exact rcAt_im 8 hp.1 hp.2 (by omega) (r1.i.imv I.hok rx) (r2.i.imv I.hok ry) X.prog X.w _ _ ⟨.bl _, H, I, rfl, Out.i q rfl⟩
    · cases e
  · rename_i a b
    split at e
    · rename_i hp
      cases e
      rw [Bool.and_eq_true] at hp
      obtain ⟨_, p, xs, rfl, h1, h2, _⟩ := r1
      obtain ⟨_, p', ys, rfl, h3, h4, _⟩ := r2
      cases rx
      cases ry
      obtain ⟨i1, l1, v1, n1⟩ := lists_im I h1 h2
      obtain ⟨i2, l2, v2, n2⟩ := lists_im I h3 h4
      by_cases hl : a.length = b.length
      · have := SeqAt.RcAt.lists (A := X.A) (e := fun j => pyEq (a.getD j .non) (b.getD j .non)) l1 l2 (by rw [List.size_toArray, List.size_toArray, n1, n2]; exact hl) (by omega) fun j j1 j2 => by
          obtain ⟨d1, e1, r1⟩ := v1.get (j := j) (v := i1.toArray[j]) (by simp at j1; simp [j1])
          obtain ⟨d2, e2, r2⟩ := v2.get (j := j) (v := i2.toArray[j]) (by simp at j2; simp [j2])
          rw [List.getD_eq_getElem?_getD, e1, List.getD_eq_getElem?_getD, e2]
          exact eqAt_im 8 (pls_get hp.1 e1) (pls_get hp.2 e2) (by show X.A.units + 1 + 8 + 1 < cLine; omega) r1 r2
        refine this X.prog X.w _ _ ⟨.bl _, H, I, rfl, ?_⟩
        have e5 := pyEqs_range (ds := a) (es := b) (e := fun j => pyEq (a.getD j .non) (b.getD j .non)) (fun j x y a b => by rw [List.getD_eq_getElem?_getD, a, List.getD_eq_getElem?_getD, b]; rfl)
        rw [← hl, Nat.min_self, beq_self_eq_true, Bool.and_true] at e5
        rw [List.size_toArray, n1, e5]
        exact Out.i q rfl
      · refine SeqAt.RcAt.lists_lengths (A := X.A) l1 l2 (by rw [List.size_toArray, List.size_toArray, n1, n2]; simpa using hl) (by omega) X.prog X.w _ _ ⟨.bl _, H, I, rfl, ?_⟩
        rw [pyEqs_len hl] at q
        exact Out.i q rfl
    · cases e
  · cases e
end
end L2
set_option Elab.async false
set_option linter.all false
set_option maxRecDepth 100000
namespace L2
open PySem PySem.Spec PyProof.Rows
section
variable {X : Cx}
theorem rcNeAt_im {s : Shared} (n : Nat) {A : Around} {x y : Im} {u v : Value} (kx : Im.pl n x = true) (ky : Im.pl n y = true) (hu : A.units + n + 2 < cLine) (hx : ImV s.heap x u) (hy : ImV s.heap y v) : SeqAt.RcNeAt A s u v (!pyEq x y) := by
  cases x with
  | non =>
    cases (show u = .none from hx)
    cases y with
    | non => cases (show v = .none from hy); exact SeqAt.RcNeAt.none_none
    | bl b => cases (show v = .bool b from hy); exact SeqAt.RcNeAt.none_bool b
    | int j => obtain ⟨t, rfl⟩ := hy; exact SeqAt.RcNeAt.none_int j t
    | str z => obtain ⟨t, rfl⟩ := hy; exact SeqAt.RcNeAt.none_str z t
    | tup ds => obtain ⟨a, o, items, m, rfl, h1, h2, h3, _⟩ := hy; exact SeqAt.RcNeAt.none_tuple ⟨o, h1, h2, m, h3⟩ (by omega)
    | fn a => cases n <;> cases ky
    | fl a => cases n <;> cases ky
  | bl b =>
    cases (show u = .bool b from hx)
    cases y with
    | non => cases (show v = .none from hy); exact SeqAt.RcNeAt.bool_none b
    | bl c => cases (show v = .bool c from hy); exact SeqAt.RcNeAt.bool_bool b c
    | int j => obtain ⟨t, rfl⟩ := hy; exact SeqAt.RcNeAt.bool_int b j t
    | str z => obtain ⟨t, rfl⟩ := hy; exact SeqAt.RcNeAt.bool_str b z t
    | tup ds => obtain ⟨a, o, items, m, rfl, h1, h2, h3, _⟩ := hy; exact SeqAt.RcNeAt.bool_tuple b ⟨o, h1, h2, m, h3⟩ (by omega)
    | fn a => cases n <;> cases ky
    | fl a => cases n <;> cases ky
  | int i =>
    obtain ⟨t0, rfl⟩ := hx
    cases y with
    | non => cases (show v = .none from hy); exact SeqAt.RcNeAt.int_none i t0
    | bl c => cases (show v = .bool c from hy); exact SeqAt.RcNeAt.int_bool i t0 c
    | int j => obtain ⟨t, rfl⟩ := hy; exact SeqAt.RcNeAt.int_int i t0 j t
    | str z => obtain ⟨t, rfl⟩ := hy; exact SeqAt.RcNeAt.int_str i t0 z t
    | tup ds => obtain ⟨a, o, items, m, rfl, h1, h2, h3, _⟩ := hy; exact SeqAt.RcNeAt.int_tuple i t0 ⟨o, h1, h2, m, h3⟩ (by omega)
    | fn a => cases n <;> cases ky
    | fl a => cases n <;> cases ky
  | str i =>
    obtain ⟨t0, rfl⟩ := hx
    cases y with
    | non => cases (show v = .none from hy); exact SeqAt.RcNeAt.str_none i t0
    | bl c => cases (show v = .bool c from hy); exact SeqAt.RcNeAt.str_bool i t0 c
    | int j => obtain ⟨t, rfl⟩ := hy; exact SeqAt.RcNeAt.str_int i t0 j t
    | str z => obtain ⟨t, rfl⟩ := hy; exact SeqAt.RcNeAt.str_str i t0 z t
    | tup ds => obtain ⟨a, o, items, m, rfl, h1, h2, h3, _⟩ := hy; exact SeqAt.RcNeAt.str_tuple i t0 ⟨o, h1, h2, m, h3⟩ (by omega)
    | fn a => cases n <;> cases ky
    | fl a => cases n <;> cases ky
  | fn a => cases n <;> cases kx
  | fl a => cases n <;> cases kx
  | tup ds =>
    cases n with
    | zero => cases kx
    | succ n =>
    obtain ⟨a, o, items, m, rfl, h1, h2, h3, h4⟩ := hx
    have ta : s.heap.IsTuple a items := ⟨o, h1, h2, m, h3⟩
    cases y with
    | non => cases (show v = .none from hy); exact SeqAt.RcNeAt.tuple_none ta (by omega)
    | bl c => cases (show v = .bool c from hy); exact SeqAt.RcNeAt.tuple_bool c ta (by omega)
    | int j => obtain ⟨t, rfl⟩ := hy; exact SeqAt.RcNeAt.tuple_int j t ta (by omega)
    | str z => obtain ⟨t, rfl⟩ := hy; exact SeqAt.RcNeAt.tuple_str z t ta (by omega)
    | fn a => cases ky
    | fl a => cases ky
    | tup es =>
      obtain ⟨b, o', items', m', rfl, g1, g2, g3, g4⟩ := hy
      have tb : s.heap.IsTuple b items' := ⟨o', g1, g2, m', g3⟩
      have l1 := h4.length
      have l2 := g4.length
      have l3 : items.toList.length = items.size := by simp
      have l4 : items'.toList.length = items'.size := by simp
      rw [l3] at l1
      rw [l4] at l2
      have q := SeqAt.RcNeAt.tuples (A := A) (e := fun j => pyEq (ds.getD j .non) (es.getD j .non)) ta tb (by omega) fun j j1 j2 => by
        obtain ⟨d1, e1, r1⟩ := h4.get (j := j) (v := items[j]) (by rw [Array.getElem?_toList]; simp [j1])
        obtain ⟨d2, e2, r2⟩ := g4.get (j := j) (v := items'[j]) (by rw [Array.getElem?_toList]; simp [j2])
        rw [List.getD_eq_getElem?_getD, e1, List.getD_eq_getElem?_getD, e2]
        exact eqAt_im n (pls_get kx e1) (pls_get ky e2) (by show A.units + 1 + n + 1 < cLine; omega) r1 r2
      rw [← l1, ← l2, pyEqs_range (ds := ds) (es := es) (fun j x y a b => by rw [List.getD_eq_getElem?_getD, a, List.getD_eq_getElem?_getD, b]; rfl)] at q
      rw [pyEq]
      exact q
@[simp] def vNe : Op2 := fun a b => match a, b with
  | .im x, .im y => if (Im.pl 8 x && Im.pl 8 y) = true then some (.im (.bl (!pyEq x y))) else none
  | .lst x, .lst y => if (Im.pls 8 x && Im.pls 8 y) = true then some (.im (.bl (!pyEqs x y))) else none
  | _, _ => none
theorem ov_ne (hu : X.A.units + 20 < cLine) : OpV X (compareOp .NotEq) vNe := by
  intro pins s σ H x y v u Q I rx ry ⟨d1, d2, d, r1, r2, e, q⟩
  unfold vNe at e
  split at e
  · rename_i a b
    split at e
    · rename_i hp
      cases e
      rw [Bool.and_eq_true] at hp
      exact rcNeAt_im 8 hp.1 hp.2 (by omega) (r1.i.imv I.hok rx) (r2.i.imv I.hok ry) X.prog X.w _ _ ⟨.bl _, H, I, rfl, Out.i q rfl⟩
    · cases e
  · rename_i a b
    split at e
    · rename_i hp
      cases e
      rw [Bool.and_eq_true] at hp
      obtain ⟨_, p, xs, rfl, h1, h2, _⟩ := r1
      obtain ⟨_, p', ys, rfl, h3, h4, _⟩ := r2
      cases rx
      cases ry
      obtain ⟨i1, l1, v1, n1⟩ := lists_im I h1 h2
      obtain ⟨i2, l2, v2, n2⟩ := lists_im I h3 h4
      by_cases hl : a.length = b.length
      · have := SeqAt.RcNeAt.lists (A := X.A) (e := fun j => pyEq (a.getD j .non) (b.getD j .non)) l1 l2 (by rw [List.size_toArray, List.size_toArray, n1, n2]; exact hl) (by omega) fun j j1 j2 => by
          obtain ⟨d1, e1, r1⟩ := v1.get (j := j) (v := i1.toArray[j]) (by simp at j1; simp [j1])
          obtain ⟨d2, e2, r2⟩ := v2.get (j := j) (v := i2.toArray[j]) (by simp at j2; simp [j2])
          rw [List.getD_eq_getElem?_getD, e1, List.getD_eq_getElem?_getD, e2]
          exact eqAt_im 8 (pls_get hp.1 e1) (pls_get hp.2 e2) (by show X.A.units + 1 + 8 + 1 < cLine; omega) r1 r2
        refine this X.prog X.w _ _ ⟨.bl _, H, I, rfl, ?_⟩
        have e5 := pyEqs_range (ds := a) (es := b) (e := fun j => pyEq (a.getD j .non) (b.getD j .non)) (fun j x y a b => by rw [List.getD_eq_getElem?_getD, a, List.getD_eq_getElem?_getD, b]; rfl)
        rw [← hl, Nat.min_self, beq_self_eq_true, Bool.and_true] at e5
        rw [List.size_toArray, n1, e5]
        exact Out.i q rfl
      · refine SeqAt.RcNeAt.lists_lengths (A := X.A) l1 l2 (by rw [List.size_toArray, List.size_toArray, n1, n2]; simpa using hl) (by omega) X.prog X.w _ _ ⟨.bl _, H, I, rfl, ?_⟩
        rw [pyEqs_len hl] at q
        exact Out.i q rfl
    · cases e
  · cases e
@[simp] def oIs (n : Bool) : Op2 := fun a b => match a, b with
  | .im x, .im .non => some (.im (.bl (n != decide (x = .non))))
  | .im (.bl x), .im (.bl y) => some (.im (.bl (n != (x == y))))
  | _, _ => none
theorem non_iff {H : Hp} {d : Im} {v : V} (h : IsI H d v) : decide (v = .non) = decide (d = .non) := by
  cases d with
  | non => cases (show v = .non from h); rfl
  | bl b => cases (show v = .bl b from h); rfl
  | int b => cases (show v = .int b from h); rfl
  | str b => cases (show v = .str b from h); rfl
  | fn b => cases (show v = .ref b from h); rfl
  | tup ds => obtain ⟨a, xs, rfl, _⟩ := h; rfl
  | fl ds => obtain ⟨a, xs, o, rfl, _⟩ := h; rfl
theorem op_isB : OpR X (compareOp .Is) (fun x y H Q => ∃ a b, x = .bl a ∧ y = .bl b ∧ Q (.bl (a == b)) H) := by
  intro pins s σ H x y v u Q I rx ry ⟨a, b, e1, e2, q⟩
  subst e1 e2
  cases rx
  cases ry
  refine wpAny_is_plain (by cases a <;> cases b <;> rfl) ⟨.bl (a == b), H, I, ?_, q⟩
  cases a <;> cases b <;> rfl
theorem op_isnotB : OpR X (compareOp .IsNot) (fun x y H Q => ∃ a b, x = .bl a ∧ y = .bl b ∧ Q (.bl (!(a == b))) H) := by
  intro pins s σ H x y v u Q I rx ry ⟨a, b, e1, e2, q⟩
  subst e1 e2
  cases rx
  cases ry
  refine wpAny_isNot_plain (by cases a <;> cases b <;> rfl) ⟨.bl (!(a == b)), H, I, ?_, q⟩
  cases a <;> cases b <;> rfl
theorem ov_is : OpV X (compareOp .Is) (oIs false) := by
  refine (op_isN.or op_isB).imp fun x y H Q ⟨d1, d2, d, r1, r2, e, q⟩ => ?_
  unfold oIs at e
  split at e
  · rename_i a
    cases e
    refine .inl ⟨r2.i, ?_⟩
    rw [non_iff r1.i]
    refine Out.i q ?_
    show _ = _
    rw [Bool.false_bne]
  · cases e
    refine .inr ⟨_, _, r1.i, r2.i, Out.i q ?_⟩
    show _ = _
    rw [Bool.false_bne]
  · cases e
theorem ov_isnot : OpV X (compareOp .IsNot) (oIs true) := by
  refine (op_notN.or op_isnotB).imp fun x y H Q ⟨d1, d2, d, r1, r2, e, q⟩ => ?_
  unfold oIs at e
  split at e
  · rename_i a
    cases e
    refine .inl ⟨r2.i, ?_⟩
    rw [non_iff r1.i]
    refine Out.i q ?_
    show _ = _
    rw [Bool.true_bne]
  · cases e
    refine .inr ⟨_, _, r1.i, r2.i, Out.i q ?_⟩
    show _ = _
    rw [Bool.true_bne]
  · cases e
def dGet {κ : Type} [DecidableEq κ] (kvs : List (κ × Im)) (k : κ) : Option Im := (kvs.find? fun p => decide (p.1 = k)).map (·.2)
theorem dGet_ok {κ : Type} [DecidableEq κ] {H : Hp} {k : κ} : ∀ {kvs : List (κ × Im)} {kws : List (κ × V)}, PKv H kvs kws → (∀ d, dGet kvs k = some d → ∃ v, valV kws k = some v ∧ IsI H d v) ∧ (dGet kvs k = none → valV kws k = none)
  | _, _, .nil => ⟨(fun d e => by cases e), (fun _ => rfl)⟩
  | _, _, .cons (a := p) (b := q) h t => by
    obtain ⟨h1, h2⟩ := dGet_ok (k := k) t
    by_cases e : p.1 = k
    · have e' : q.1 = k := h.1.symm.trans e
      refine ⟨fun d hd => ?_, fun hn => ?_⟩
      · have : ∀ r, dGet (p :: r) k = some p.2 := fun r => by simp [dGet, List.find?_cons, e]
        rw [this] at hd
        cases hd
        exact ⟨q.2, valV_pos e', h.2⟩
      · have : ∀ r, dGet (p :: r) k = some p.2 := fun r => by simp [dGet, List.find?_cons, e]
        rw [this] at hn
        cases hn
    · have e' : ¬ q.1 = k := fun z => e (h.1.trans z)
      have : ∀ r, dGet (p :: r) k = dGet r k := fun r => by simp [dGet, List.find?_cons, e]
      rw [this, valV_neg e']
      exact ⟨h1, h2⟩
@[simp] def vIx : Op2 := fun a b => match a, b with
  | .im (.tup ds), .im (.int i) => (atI ds i).map .im
  | .lst ds, .im (.int i) => (atI ds i).map .im
  | .fz ds, .im (.int i) => (atI ds i).map .im
  | .dT kvs, .im (.tup k) => if Im.keys 7 k = true then (dGet kvs k).map .im else none
  | .dK kvs, .im (.int i) => (dGet kvs (.inl i)).map .im
  | .dK kvs, .im (.str i) => (dGet kvs (.inr i)).map .im
  | _, _ => none
theorem ix_dict (hu : X.A.units + 20 < cLine) : IxR X (fun x y H Q => ∃ a v, x = .ref a ∧ DGet H a y (some v) ∧ Q v H) := by
  intro value slice pins s σ H x y v u Q I rx ry ⟨a, z, e, g, q⟩ hs
  subst e
  cases rx
  exact tail_any (dict_typeIs I g) PySem.F.slot_dict_getitem.lookup (d_getItem hu I g ry fun w' s3 I3 rw' => ⟨z, H, I3, rw', q⟩) hs
theorem atI_is {H : Hp} {ds : List Im} {xs : List V} {i : Int} {d : Im} (h : IsIs H ds xs) (e : atI ds i = some d) : ∃ v, atI xs i = some v ∧ IsI H d v := by
  unfold atI at e ⊢
  rw [← h.length]
  obtain ⟨j, e1, e2⟩ := Option.bind_eq_some_iff.mp e
  obtain ⟨v, g1, g2⟩ := h.get e2
  exact ⟨v, by rw [e1]; exact g1, g2⟩
theorem ov_ix (hu : X.A.units + 20 < cLine) : IxR X (fun x y H Q => ∃ d1 d2 d, Rdb H d1 x ∧ Rdb H d2 y ∧ vIx d1 d2 = some d ∧ ∀ v H' R, Same H H' → Own H' d v R → R.Nodup → (∀ a ∈ R, H a = none) → Q v H') := by
  refine (ix_list.or (ix_tup.or (ix_dict hu))).imp fun x y H Q ⟨d1, d2, d, r1, r2, e, q⟩ => ?_
  unfold vIx at e
  split at e
  · obtain ⟨d', e1, e2⟩ := Option.map_eq_some_iff.mp e
    cases e2
    obtain ⟨p, xs, rfl, h1, h2⟩ := r1.i
    obtain ⟨v, g1, g2⟩ := atI_is h2 e1
    exact .inr (.inl ⟨p, xs, _, v, rfl, r2.i, SqT.of h1, g1, Out.i q g2⟩)
  · obtain ⟨d', e1, e2⟩ := Option.map_eq_some_iff.mp e
    cases e2
    obtain ⟨_, p, xs, rfl, h1, h2, _⟩ := r1
    obtain ⟨v, g1, g2⟩ := atI_is h2 e1
    exact .inl ⟨p, xs, _, v, rfl, r2.i, SqL.of h1, g1, Out.i q g2⟩
  · obtain ⟨d', e1, e2⟩ := Option.map_eq_some_iff.mp e
    cases e2
    obtain ⟨_, p, xs, o, rfl, h1, h2, _⟩ := r1
    obtain ⟨v, g1, g2⟩ := atI_is h2 e1
    exact .inl ⟨p, xs, _, v, rfl, r2.i, .inl (.inr ⟨o, h1⟩), g1, Out.i q g2⟩
  · rename_i kvs k
    split at e
    · rename_i hk
      obtain ⟨d', e1, e2⟩ := Option.map_eq_some_iff.mp e
      cases e2
      obtain ⟨_, p, kws, rfl, h1, h2, _⟩ := r1
      obtain ⟨v, g1, g2⟩ := (dGet_ok h2).1 d' e1
      obtain ⟨b, xs, rfl, k1, k2⟩ := r2.i
      exact .inr (.inr ⟨p, v, rfl, by rw [← g1]; exact DGet.t h1 ⟨hk, b, xs, rfl, k1, k2⟩, Out.i q g2⟩)
    · cases e
  · rename_i kvs i
    obtain ⟨d', e1, e2⟩ := Option.map_eq_some_iff.mp e
    cases e2
    obtain ⟨_, p, kws, rfl, h1, h2, _⟩ := r1
    obtain ⟨v, g1, g2⟩ := (dGet_ok h2).1 d' e1
    refine .inr (.inr ⟨p, v, rfl, ?_, Out.i q g2⟩)
    rw [show y = kV (.inl i) from r2.i, ← g1]
    exact DGet.k h1
  · rename_i kvs i
    obtain ⟨d', e1, e2⟩ := Option.map_eq_some_iff.mp e
    cases e2
    obtain ⟨_, p, kws, rfl, h1, h2, _⟩ := r1
    obtain ⟨v, g1, g2⟩ := (dGet_ok h2).1 d' e1
    refine .inr (.inr ⟨p, v, rfl, ?_, Out.i q g2⟩)
    rw [show y = kV (.inr i) from r2.i, ← g1]
    exact DGet.k h1
  · cases e
end
end L2
set_option Elab.async false
set_option linter.all false
set_option maxRecDepth 100000
namespace HT
open PySem PySem.Spec PyProof.Rows
section
variable {prog : Program} {w : World} {A : Around} {E : Value → Shared → Prop} {s : Shared}
theorem cut_all {t sl : Addr} {its : Array Value} {vl vu : Value} {lo hi : Option Int} {Q : Value → Shared → Prop} (p : IsTup s.heap t its) (hs : s.heap.IsSliceOf sl vl vu .none) (pl : IsPart vl lo) (pu : IsPart vu hi)
    (h0 : sIx its.size 0 lo = 0) (h1 : sIx its.size its.size hi = its.size) (q : Q (.ref t) s) : wpAny (model prog w) A (getItem (.ref t) (.ref sl)) Q E s := by
  obtain ⟨os, ho, hc, hd⟩ := id hs
  have ty : s.TypeIs (.ref sl) "slice" := ⟨os, ho, hc⟩
  unfold getItem
  try with_reducible refine wpAny_holding ?_
  first | refine wpAny_bind (wpAny_pure ?_) | skip
  refine wpAny_bind (wpAny_sequenceKey p.typeIs (by decide) ?_)
  refine wpAny_bind (wpAny_callSpecial?_slot (name := Str.ofString "__getitem__") p.typeIs PyProof.Rows.slot_tuple_getitem (wpAny_call_entry PyProof.Rows.slot_tuple_getitem p.typeIs entry_tuple_getitem ?_ (args_tuple_getitem _ _)))
  show wpAny _ _ (Builtin.Tuple.tupleItemsOf (.ref t) >>= _) _ _ s
  refine wpAny_bind (tupleItemsOf_ p ?_)
  refine wpAny_bind (wpAny_typeOf ty ?_)
  rw [if_pos (by decide)]
  refine wpAny_bind (sliceApplied_gen hs pl pu ?_)
  rw [h0, h1]
  show wpAny _ _ (if (((0 : Nat) : Int) == 0 && (1 : Int) == 1 && (its.size - 0) == its.size) = true then _ else _) _ _ s
  rw [if_pos (by simp)]
  refine wpAny_bind (m := Builtin.Tuple.tupleIsExact _) (wpAny_bind (wpAny_typeOf p.typeIs (wpAny_pure ?_)))
  show wpAny _ _ (if (Value.type "tuple" == Value.type "tuple") = true then _ else _) _ _ s
  rw [if_pos (by decide)]
  exact wpAny_bind (wpAny_rule (wpAny_pure ⟨_, rfl, wpAny_pure q⟩))
end
end HT
namespace L2
open PySem PySem.Spec PyProof.Rows
section
variable {X : Cx}
@[simp] def eNeg (g : M Vl) : M Vl := fun D => (g D).bind fun p => match p.1 with
  | .im (.int i) => some (.im (.int (-i)), p.2)
  | _ => none
theorem ve_neg {a : Expr} {g : M Vl} {pos : Pos} (h : VE X a g) : VE X (.UnaryOp .USub a pos) (eNeg g) := by
  refine pe_imp (pe_un un_neg h) fun σ H Q ⟨D, F, r, D', st, nd, hg, q⟩ => ?_
  obtain ⟨⟨x, D1⟩, h1, h2⟩ := Option.bind_eq_some_iff.mp hg
  refine ⟨D, F, x, D1, st, nd, h1, fun v H1 F1 R st1 ow s1 => ?_⟩
  dsimp only at h2
  split at h2
  · rename_i i
    cases h2
    exact ⟨i, ow.1, q _ H1 F1 [] st1 ⟨rfl, rfl⟩ (by rw [List.append_nil]; exact s1.both)⟩
  · cases h2
def tP (g : M (Option Int)) : TO := fun σ H Q => ∃ D F l D', StOk H D σ F ∧ F.Nodup ∧ g D = some (l, D') ∧ ∀ H' F', StOk H' D' σ F' → Stp H F H' F' → Q l H'
def VP (X : Cx) (e : Option Expr) (g : M (Option Int)) : Prop := PO X e (tP g)
theorem po_imp {e : Option Expr} {t t' : TO} (h : PO X e t) (i : ∀ σ H Q, t' σ H Q → t σ H Q) : PO X e t' := fun pins s σ H Q I hw => h pins s σ H Q I (i σ H Q hw)
def pNone : M (Option Int) := fun D => some (none, D)
@[simp] def pSome (g : M Vl) : M (Option Int) := fun D => (g D).bind fun p => match p.1 with
  | .im (.int i) => some (some i, p.2)
  | _ => none
theorem vp_none : VP X none pNone := by
  refine po_imp po_none fun σ H Q ⟨D, F, r, D', st, nd, hg, q⟩ => ?_
  cases hg
  exact q H F st (Stp.perm nd (List.Perm.refl _))
theorem vp_some {e : Expr} {g : M Vl} (h : VE X e g) : VP X (some e) (pSome g) := by
  refine po_imp (po_some h) fun σ H Q ⟨D, F, r, D', st, nd, hg, q⟩ => ?_
  obtain ⟨⟨x, D1⟩, h1, h2⟩ := Option.bind_eq_some_iff.mp hg
  refine ⟨D, F, x, D1, st, nd, h1, fun v H1 F1 R st1 ow s1 => ?_⟩
  dsimp only at h2
  split at h2
  · rename_i i
    cases h2
    exact ⟨i, ow.1, q H1 F1 st1 s1.both⟩
  · cases h2
def cutL {α : Type} (xs : List α) (lo hi : Option Int) : List α := (xs.drop (HT.sIx xs.length 0 lo)).take (HT.sIx xs.length xs.length hi - HT.sIx xs.length 0 lo)
theorem IsIs.drop {H : Hp} : ∀ {ds : List Im} {xs : List V} (n : Nat), IsIs H ds xs → IsIs H (ds.drop n) (xs.drop n)
  | ds, xs, 0, h => h
  | [], xs, n + 1, h => by cases (show xs = [] from h); exact rfl
  | d :: ds, xs, n + 1, h => by
    obtain ⟨v, r, rfl, h1, h2⟩ := h
    exact h2.drop n
theorem IsIs.take {H : Hp} : ∀ {ds : List Im} {xs : List V} (n : Nat), IsIs H ds xs → IsIs H (ds.take n) (xs.take n)
  | ds, xs, 0, h => rfl
  | [], xs, n + 1, h => by cases (show xs = [] from h); exact rfl
  | d :: ds, xs, n + 1, h => by
    obtain ⟨v, r, rfl, h1, h2⟩ := h
    exact ⟨v, _, rfl, h1, h2.take n⟩
theorem IsIs.cut {H : Hp} {ds : List Im} {xs : List V} (lo hi : Option Int) (h : IsIs H ds xs) : IsIs H (cutL ds lo hi) (cutV xs lo hi) := by
  unfold cutL cutV
  rw [h.length]
  exact (h.drop _).take _
@[simp] def vSl (d : Vl) (lo hi : Option Int) : Option Vl := match d with
  | .im (.tup ds) => some (.im (.tup (cutL ds lo hi)))
  | .lst ds => some (.lst (cutL ds lo hi))
  | .fz ds => some (.lst (cutL ds lo hi))
  | _ => none
def rSlA (K : PySem.W.Frag) : V → Option Int → Option Int → Hp → VK → Prop := fun x lo hi H Q => ∃ a xs, x = .ref a ∧ SqT K H a xs ∧ HT.sIx xs.length 0 lo = 0 ∧ HT.sIx xs.length xs.length hi = xs.length ∧ Q (.ref a) H
theorem sl_V : SlR X (fun x lo hi H Q => ∃ d r, Rdb H d x ∧ vSl d lo hi = some r ∧ Out H r Q) := by
  have all : SlR X (rSlA X.K) := by
    intro pins s σ H x v vl vu lo hi sl Q I rx hs pl pu h
    obtain ⟨a, xs, rfl, hx, h0, h1, q⟩ := h
    cases rx
    obtain ⟨its, r, ht, hz⟩ := I.tuple hx
    have hlen : its.toArray.size = xs.length := by rw [List.size_toArray]; exact r.length.symm
    exact ⟨"tuple", _, PyProof.Rows.slot_tuple_getitem.lookup, ht.typeIs, HT.cut_all ht hs pl pu (by rw [hlen]; exact h0) (by rw [hlen]; exact h1) ⟨.ref a, H, I, rfl, q⟩⟩
  intro pins s σ H x v vl vu lo hi sl Q I rx hs pl pu ⟨d, r, rd, e, q⟩
  unfold vSl at e
  split at e
  · rename_i ds
    cases e
    obtain ⟨p, xs, rfl, h1, h2⟩ := rd.i
    by_cases hw : HT.sIx xs.length 0 lo = 0 ∧ HT.sIx xs.length xs.length hi = xs.length
    · refine all pins s σ H _ v vl vu lo hi sl Q I rx hs pl pu ⟨p, xs, rfl, SqT.of h1, hw.1, hw.2, Out.i q ⟨p, xs, rfl, h1, ?_⟩⟩
      have : cutL ds lo hi = ds := by
        unfold cutL
        rw [h2.length, hw.1, hw.2, List.drop_zero, Nat.sub_zero, ← h2.length, List.take_length]
      rw [this]
      exact h2
    · exact sl_tup pins s σ H _ v vl vu lo hi sl Q I rx hs pl pu ⟨p, xs, rfl, SqT.of h1, hw, fun n hn => Out.t q hn (h2.cut lo hi)⟩
  · cases e
    obtain ⟨_, p, xs, rfl, h1, h2, _⟩ := rd
    exact sl_list pins s σ H _ v vl vu lo hi sl Q I rx hs pl pu ⟨p, xs, rfl, SqL.of h1, fun n hn => Out.l q hn (h2.cut lo hi)⟩
  · cases e
    obtain ⟨_, p, xs, o, rfl, h1, h2, _⟩ := rd
    exact sl_list pins s σ H _ v vl vu lo hi sl Q I rx hs pl pu ⟨p, xs, rfl, .inl (.inr ⟨o, h1⟩), fun n hn => Out.l q hn (h2.cut lo hi)⟩
  · cases e
@[simp] def eSl (g : M Opd) (l h : M (Option Int)) : M Vl := fun D => (g D).bind fun p => (l p.2).bind fun q => (h q.2).bind fun r => (rsl r.2 p.1).bind fun d => (vSl d q.1 r.1).map fun d' => (d', r.2)
theorem ve_slice {e : Expr} {lo hi : Option Expr} {g : M Opd} {gl gh : M (Option Int)} {p2 pos : Pos} (he : VO X e g) (hl : VP X lo gl) (hh : VP X hi gh) : VE X (.Subscript e (.Slice lo hi none p2) pos) (eSl g gl gh) := by
  refine pe_imp (pe_slice sl_V he hl hh) fun σ H Q ⟨D, F, r, D', st, nd, hg, q⟩ => ?_
  obtain ⟨⟨x, D1⟩, h1, h2⟩ := Option.bind_eq_some_iff.mp hg
  obtain ⟨⟨l, D2⟩, h3, h4⟩ := Option.bind_eq_some_iff.mp h2
  obtain ⟨⟨u, D3⟩, h5, h6⟩ := Option.bind_eq_some_iff.mp h4
  obtain ⟨d, h7, h8⟩ := Option.bind_eq_some_iff.mp h6
  obtain ⟨d', h9, h10⟩ := Option.map_eq_some_iff.mp h8
  cases h10
  refine ⟨D, F, x, D1, st, nd, h1, fun v H1 F1 R st1 o1 s1 => ⟨D1, F1, l, D2, st1, (List.nodup_append.mp s1.nd).1, h3, fun H2 F2 st2 s2 => ⟨D2, F2, u, D3, st2, s2.nd, h5, fun H3 F3 st3 s3 => ?_⟩⟩⟩
  have s4 := s2.seq s3
  have o3 : OpdOk H3 σ x v R := o1.mono s4.tup fun a ha o e => s4.keep a o e fun h => (List.nodup_append.mp s1.nd).2.2 a h a ha rfl
  have s5 := s1.trans s4 o1.chg
  exact ⟨d, _, o3.read st3 h7, h9, fun w H4 R4 s6 ow ndR fr => q w H4 F3 R4 (st3.mono s6.tupS fun a _ o e => s6 a o e) ow (s5.new s6 ndR fr st3.chg)⟩
abbrev OpN := List Vl → Option Vl
@[simp] def vLen : OpN := fun ds => match ds with
  | [.im (.tup x)] => some (.im (.int x.length))
  | [.lst x] => some (.im (.int x.length))
  | [.fz x] => some (.im (.int x.length))
  | [.lstM x] => some (.im (.int x.length))
  | [.dK x] => some (.im (.int x.length))
  | [.im (.str x)] => if x.length ≤ 100000 then some (.im (.int x.length)) else none
  | _ => none
theorem rdbs1v {H : Hp} {d : Vl} {vs : List V} (h : Rdbs H [d] vs) : ∃ v, vs = [v] ∧ Rdb H d v := by
  obtain ⟨v, r, rfl, h1, h2⟩ := h
  cases (show r = [] from h2)
  exact ⟨v, rfl, h1⟩
theorem rdbs2v {H : Hp} {d e : Vl} {vs : List V} (h : Rdbs H [d, e] vs) : ∃ v u, vs = [v, u] ∧ Rdb H d v ∧ Rdb H e u := by
  obtain ⟨v, r, rfl, h1, h2⟩ := h
  obtain ⟨u, rfl, h3⟩ := rdbs1v h2
  exact ⟨v, u, rfl, h1, h3⟩
theorem PKv.length {κ : Type} {H : Hp} {l : List (κ × Im)} {m : List (κ × V)} (h : PKv H l m) : l.length = m.length := Paired.length h
theorem cv_len : CallV X (.builtin "len") vLen := by
  refine (call_len_seq.or (call_len_str.or call_lenD)).imp fun xs H Q ⟨ds, d, rd, e, q⟩ => ?_
  unfold vLen at e
  split at e
  · cases e
    obtain ⟨v, rfl, h⟩ := rdbs1v rd
    obtain ⟨p, xs, rfl, h1, h2⟩ := h.i
    exact .inl ⟨p, xs, rfl, .inr (SqT.of h1), by rw [← h2.length]; exact Out.i q rfl⟩
  · cases e
    obtain ⟨v, rfl, _, p, xs, rfl, h1, h2, _⟩ := rdbs1v rd
    exact .inl ⟨p, xs, rfl, .inl (SqL.of h1), by rw [← h2.length]; exact Out.i q rfl⟩
  · cases e
    obtain ⟨v, rfl, _, p, xs, o, rfl, h1, h2, _⟩ := rdbs1v rd
    exact .inl ⟨p, xs, rfl, .inl (.inl (.inr ⟨o, h1⟩)), by rw [← h2.length]; exact Out.i q rfl⟩
  · cases e
    obtain ⟨v, rfl, _, p, xs, G, rfl, h1, h2, _⟩ := rdbs1v rd
    exact .inl ⟨p, xs, rfl, .inl (SqL.of h1), by rw [← h2.length]; exact Out.i q rfl⟩
  · cases e
    obtain ⟨v, rfl, _, p, kws, rfl, h1, h2, _⟩ := rdbs1v rd
    exact .inr (.inr ⟨p, kws, rfl, h1, by rw [← h2.length]; exact Out.i q rfl⟩)
  · split at e
    · rename_i hl
      cases e
      obtain ⟨v, rfl, h⟩ := rdbs1v rd
      cases (show v = _ from h.i)
      exact .inr (.inl ⟨_, rfl, le_line hl, Out.i q rfl⟩)
    · cases e
  · cases e
@[simp] def vTuple : OpN := fun ds => match ds with
  | [d] => (srcV d).map fun x => .im (.tup x)
  | _ => none
@[simp] def vList : OpN := fun ds => match ds with
  | [d] => (srcV d).map .lst
  | _ => none
theorem cv_tuple : CallV X (.type "tuple") vTuple := by
  refine call_tuple_of.imp fun xs H Q ⟨ds, d, rd, e, q⟩ => ?_
  unfold vTuple at e
  split at e
  · obtain ⟨x, e1, e2⟩ := Option.map_eq_some_iff.mp e
    cases e2
    obtain ⟨v, rfl, h⟩ := rdbs1v rd
    unfold srcV at e1
    split at e1
    · cases e1
      obtain ⟨p, xs, rfl, h1, h2⟩ := h.i
      exact ⟨p, xs, rfl, .inr ⟨SqT.of h1, Out.i q ⟨p, xs, rfl, h1, h2⟩⟩⟩
    · cases e1
      obtain ⟨_, p, xs, rfl, h1, h2, _⟩ := h
      exact ⟨p, xs, rfl, .inl ⟨SqL.of h1, fun l hl => Out.t q hl h2⟩⟩
    · cases e1
      obtain ⟨_, p, xs, o, rfl, h1, h2, _⟩ := h
      exact ⟨p, xs, rfl, .inl ⟨.inl (.inr ⟨o, h1⟩), fun l hl => Out.t q hl h2⟩⟩
    · cases e1
  · cases e
theorem cv_list : CallV X (.type "list") vList := by
  refine call_list_of.imp fun xs H Q ⟨ds, d, rd, e, q⟩ => ?_
  unfold vList at e
  split at e
  · obtain ⟨x, e1, e2⟩ := Option.map_eq_some_iff.mp e
    cases e2
    obtain ⟨v, rfl, h⟩ := rdbs1v rd
    unfold srcV at e1
    split at e1
    · cases e1
      obtain ⟨p, xs, rfl, h1, h2⟩ := h.i
      exact ⟨p, xs, rfl, .inr (SqT.of h1), fun l hl => Out.l q hl h2⟩
    · cases e1
      obtain ⟨_, p, xs, rfl, h1, h2, _⟩ := h
      exact ⟨p, xs, rfl, .inl (SqL.of h1), fun l hl => Out.l q hl h2⟩
    · cases e1
      obtain ⟨_, p, xs, o, rfl, h1, h2, _⟩ := h
      exact ⟨p, xs, rfl, .inl (.inl (.inr ⟨o, h1⟩)), fun l hl => Out.l q hl h2⟩
    · cases e1
  · cases e
@[simp] def vInt : OpN := fun ds => match ds with
  | [.im (.int i)] => some (.im (.int i))
  | [.im (.bl b)] => some (.im (.int (if b then 1 else 0)))
  | _ => none
theorem cv_int : CallV X (.type "int") vInt := by
  refine call_int1.imp fun xs H Q ⟨ds, d, rd, e, q⟩ => ?_
  unfold vInt at e
  split at e
  · cases e
    obtain ⟨v, rfl, h⟩ := rdbs1v rd
    cases (show v = _ from h.i)
    exact .inl ⟨_, rfl, Out.i q rfl⟩
  · cases e
    obtain ⟨v, rfl, h⟩ := rdbs1v rd
    cases (show v = _ from h.i)
    exact .inr ⟨_, rfl, Out.i q rfl⟩
  · cases e
@[simp] def vMax2 : OpN := fun ds => match ds with
  | [.im (.int i), .im (.int j)] => some (.im (.int (if j > i then j else i)))
  | _ => none
@[simp] def vMin2 : OpN := fun ds => match ds with
  | [.im (.int i), .im (.int j)] => some (.im (.int (if j < i then j else i)))
  | _ => none
theorem cv_max2 (hc : X.calm = true) : CallV X (.builtin "max") vMax2 := by
  refine (call_max2 hc).imp fun xs H Q ⟨ds, d, rd, e, q⟩ => ?_
  unfold vMax2 at e
  split at e
  · cases e
    obtain ⟨v, u, rfl, h, k⟩ := rdbs2v rd
    cases (show v = _ from h.i)
    cases (show u = _ from k.i)
    exact ⟨_, _, rfl, Out.i q rfl⟩
  · cases e
theorem cv_min2 (hc : X.calm = true) : CallV X (.builtin "min") vMin2 := by
  refine (call_min2 hc).imp fun xs H Q ⟨ds, d, rd, e, q⟩ => ?_
  unfold vMin2 at e
  split at e
  · cases e
    obtain ⟨v, u, rfl, h, k⟩ := rdbs2v rd
    cases (show v = _ from h.i)
    cases (show u = _ from k.i)
    exact ⟨_, _, rfl, Out.i q rfl⟩
  · cases e
@[simp] def bls : List Im → Option (List Bool)
  | [] => some []
  | .bl b :: ds => (bls ds).map fun r => b :: r
  | _ :: _ => none
theorem bls_ok {H : Hp} : ∀ {ds : List Im} {xs : List V} {bs : List Bool}, IsIs H ds xs → bls ds = some bs → xs = bs.map V.bl
  | [], xs, bs, h, e => by cases e; exact h
  | .bl b :: ds, xs, bs, h, e => by
    obtain ⟨v, r, rfl, h1, h2⟩ := h
    rw [bls] at e
    obtain ⟨p, e1, e2⟩ := Option.map_eq_some_iff.mp e
    cases e2
    cases (show v = .bl b from h1)
    rw [bls_ok h2 e1]
    rfl
  | .non :: _, _, _, _, e => by cases e
  | .int _ :: _, _, _, _, e => by cases e
  | .str _ :: _, _, _, _, e => by cases e
  | .tup _ :: _, _, _, _, e => by cases e
  | .fn _ :: _, _, _, _, e => by cases e
  | .fl _ :: _, _, _, _, e => by cases e
@[simp] def vAll : OpN := fun ds => match ds with
  | [.lst x] => (bls x).map fun bs => .im (.bl (bs.all id))
  | _ => none
@[simp] def vAny : OpN := fun ds => match ds with
  | [.lst x] => (bls x).map fun bs => .im (.bl (bs.any id))
  | _ => none
theorem cv_all (hc : X.calm = true) : CallV X (.builtin "all") vAll := by
  refine (call_allB hc).imp fun xs H Q ⟨ds, d, rd, e, q⟩ => ?_
  unfold vAll at e
  split at e
  · obtain ⟨x, e1, e2⟩ := Option.map_eq_some_iff.mp e
    cases e2
    obtain ⟨v, rfl, _, p, xs, rfl, h1, h2, _⟩ := rdbs1v rd
    rw [bls_ok h2 e1] at h1
    exact ⟨p, x, rfl, h1, Out.i q rfl⟩
  · cases e
end
end L2
set_option Elab.async false
set_option linter.all false
set_option maxRecDepth 100000
namespace L2
open PySem PySem.Spec PyProof.Rows
section
variable {X : Cx}
theorem call_anyB (hc : X.calm = true) : CallR X (.builtin "any") (fun xs H Q => ∃ l bs, xs = [.ref l] ∧ H l = some (.lst (List.map V.bl bs)) ∧ Q (.bl (bs.any id)) H) := by
  intro pins s σ H xs us Q I r h
  obtain ⟨l, bs, rfl, hl, q⟩ := h
  obtain ⟨u, rfl, ru⟩ := vals1 r
  cases ru
  obtain ⟨z, its, n, rv, e⟩ := I.hok l _ hl
  have isl : s.heap.IsList l its.toArray := ⟨_, e, rfl, n, rfl⟩
  refine call_any_walk (wpAny_pyIter_list isl ⟨s.heap.objs.size, [s.heap.objs.size, l], [s.heap.objs.size], its.toArray.size, _, _, fun i => (bs[i]?).getD false, rfl, Walks.list (A := X.A.in1) (I.ok.hd hc) _ l (Nat.ne_of_lt (Heap.lt_size e)) its.toArray,
    ⟨⟨_, Heap.get?_push_size _ rfl, rfl, rfl⟩, isl.push _⟩, fun i v s' Q' E' hP hQ => ?_, fun h' tk hk => ?_⟩)
  · obtain ⟨b, eb, rfl⟩ := bools_get rv i v (by simpa using hP)
    simp only [eb, Option.getD_some] at hQ
    exact wpAny_truthy_bool hQ
  · have el : its.toArray.size = bs.length := by
      have := rv.length
      rw [List.length_map] at this
      rw [List.size_toArray, this]
    rw [el, LSm.range_any]
    exact ⟨.bl _, H, I.kept (LSm.kept_iter hk), rfl, q⟩
theorem cv_any (hc : X.calm = true) : CallV X (.builtin "any") vAny := by
  refine (call_anyB hc).imp fun xs H Q ⟨ds, d, rd, e, q⟩ => ?_
  unfold vAny at e
  split at e
  · obtain ⟨x, e1, e2⟩ := Option.map_eq_some_iff.mp e
    cases e2
    obtain ⟨v, rfl, _, p, xs, rfl, h1, h2, _⟩ := rdbs1v rd
    rw [bls_ok h2 e1] at h1
    exact ⟨p, x, rfl, h1, Out.i q rfl⟩
  · cases e
@[simp] def isiB (T : String) (d : Vl) : Option Bool :=
  if T = "int" then match d with
    | .im (.int _) => some true
    | .im (.bl _) => some true
    | .im (.str _) => some false
    | .im (.tup _) => some false
    | .im .non => some false
    | .lst _ => some false
    | .im (.fl _) => some false
    | .dT _ => some false
    | .dK _ => some false
    | _ => none
  else if T = "bool" then match d with
    | .im (.int _) => some false
    | .im (.bl _) => some true
    | .im (.str _) => some false
    | .im (.tup _) => some false
    | .im .non => some false
    | .lst _ => some false
    | .im (.fl _) => some false
    | .dT _ => some false
    | .dK _ => some false
    | _ => none
  else if T = "str" then match d with
    | .im (.int _) => some false
    | .im (.bl _) => some false
    | .im (.str _) => some true
    | .im (.tup _) => some false
    | .im .non => some false
    | .lst _ => some false
    | .im (.fl _) => some false
    | .dT _ => some false
    | .dK _ => some false
    | _ => none
  else if T = "tuple" then match d with
    | .im (.int _) => some false
    | .im (.bl _) => some false
    | .im (.str _) => some false
    | .im (.tup _) => some true
    | .im .non => some false
    | .lst _ => some false
    | .im (.fl _) => some false
    | .dT _ => some false
    | .dK _ => some false
    | _ => none
  else none
theorem dict_obj {pins : List (Addr × Obj)} {σ : St} {H : Hp} {s : Shared} (I : Inv X pins σ H s) {a : Addr} (h : (∃ k, H a = some (.dT k)) ∨ ∃ k, H a = some (.dK k)) : ∃ o, s.heap.get? a = some o ∧ o.cls = .type "dict" := by
  rcases h with ⟨k, h⟩ | ⟨k, h⟩
  · obtain ⟨_, _, xs, _, o, es, ep, h1, h2, _⟩ := (show ObjOk X.prog X.w H s.heap a (.dT k) from I.hok a _ h)
    exact ⟨o, h1, h2.1⟩
  · obtain ⟨_, _, vs, _, o, es, ep, h1, h2, _⟩ := (show ObjOk X.prog X.w H s.heap a (.dK k) from I.hok a _ h)
    exact ⟨o, h1, h2.1⟩
theorem call_isiV : CallR X (.builtin "isinstance") (fun xs H Q => ∃ x T d b, xs = [x, .ty T] ∧ Rdb H d x ∧ isiB T d = some b ∧ Q (.bl b) H) := by
  intro pins s σ H xs us Q I r h
  obtain ⟨x, T, d, b, rfl, rd, hi, q⟩ := h
  have r0 := r
  cases r with
  | cons r rr =>
    cases rr with
    | cons r' rr =>
      cases rr
      cases r'
      have f1 : ∀ {b : Bool}, Q (.bl b) H → EP X pins σ Q (.bool b) { s with toks := s.toks + 1 } := fun {b} q => ⟨.bl b, H, I.tok _, rfl, q⟩
      have dI : ∀ {a : Addr}, (∃ o, s.heap.get? a = some o ∧ o.cls = .type "dict") → (T = "int" ∨ T = "bool" ∨ T = "str" ∨ T = "tuple") → b = false → wpAny (model X.prog X.w) X.A (call (.builtin "isinstance") [.ref a, .type T]) (EP X pins σ Q) X.xe s := by
        rintro a ⟨o, ho, hc⟩ hT rfl
        rcases hT with rfl | rfl | rfl | rfl
        · exact IsiPair.dict_int ho hc (f1 q)
        · exact IsiPair.dict_bool ho hc (f1 q)
        · exact IsiPair.dict_str ho hc (f1 q)
        · exact IsiPair.dict_tuple ho hc (f1 q)
      have nI : (T = "int" ∨ T = "bool" ∨ T = "str" ∨ T = "tuple") → b = false → wpAny (model X.prog X.w) X.A (call (.builtin "isinstance") [.none, .type T]) (EP X pins σ Q) X.xe s := by
        rintro hT rfl
        rcases hT with rfl | rfl | rfl | rfl
        · exact IsiPair.NoneType_int (f1 q)
        · exact IsiPair.NoneType_bool (f1 q)
        · exact IsiPair.NoneType_str (f1 q)
        · exact IsiPair.NoneType_tuple (f1 q)
      have cI : IsiR X.K H x T b → wpAny (model X.prog X.w) X.A (call (.builtin "isinstance") [_, .type T]) (EP X pins σ Q) X.xe s := fun hh => call_isi pins s σ H _ _ Q I r0 ⟨x, T, b, rfl, hh, q⟩
      unfold isiB at hi
      split at hi
      · rename_i hT
        subst hT
        split at hi
        · cases hi; exact cI (.inl ⟨_, rd.i, .inl ⟨rfl, rfl⟩⟩)
        · cases hi; exact cI (.inr (.inl ⟨_, rd.i, .inr (.inl ⟨rfl, rfl⟩)⟩))
        · cases hi; exact cI (.inr (.inr (.inl ⟨_, rd.i, .inr (.inl ⟨rfl, rfl⟩)⟩)))
        · cases hi; obtain ⟨a, xs, e, h1, h2⟩ := rd.i; exact cI (.inr (.inr (.inr (.inl ⟨a, xs, e, SqT.of h1, .inr (.inl ⟨rfl, rfl⟩)⟩))))
        · cases hi; cases (show x = .non from rd.i); cases r; exact nI (.inl rfl) rfl
        · cases hi; obtain ⟨_, a, xs, e, h1, h2, _⟩ := rd; exact cI (.inr (.inr (.inr (.inr ⟨a, xs, e, SqL.of h1, .inr (.inl ⟨rfl, rfl⟩)⟩))))
        · cases hi; obtain ⟨a, xs, o, e, h1, h2⟩ := rd.i; exact cI (.inr (.inr (.inr (.inr ⟨a, xs, e, .inl (.inr ⟨o, h1⟩), .inr (.inl ⟨rfl, rfl⟩)⟩))))
        · cases hi; obtain ⟨_, a, xs, rfl, h1, h2, _⟩ := rd; cases r; exact dI (dict_obj I (.inl ⟨_, h1⟩)) (.inl rfl) rfl
        · cases hi; obtain ⟨_, a, xs, rfl, h1, h2, _⟩ := rd; cases r; exact dI (dict_obj I (.inr ⟨_, h1⟩)) (.inl rfl) rfl
        · cases hi
      · split at hi
        · rename_i hT
          subst hT
          split at hi
          · cases hi; exact cI (.inl ⟨_, rd.i, .inr (.inr (.inr (.inl ⟨rfl, rfl⟩)))⟩)
          · cases hi; exact cI (.inr (.inl ⟨_, rd.i, .inl ⟨rfl, rfl⟩⟩))
          · cases hi; exact cI (.inr (.inr (.inl ⟨_, rd.i, .inr (.inr (.inr (.inl ⟨rfl, rfl⟩)))⟩)))
          · cases hi; obtain ⟨a, xs, e, h1, h2⟩ := rd.i; exact cI (.inr (.inr (.inr (.inl ⟨a, xs, e, SqT.of h1, .inr (.inr (.inr (.inl ⟨rfl, rfl⟩)))⟩))))
          · cases hi; cases (show x = .non from rd.i); cases r; exact nI (.inr (.inl rfl)) rfl
          · cases hi; obtain ⟨_, a, xs, e, h1, h2, _⟩ := rd; exact cI (.inr (.inr (.inr (.inr ⟨a, xs, e, SqL.of h1, .inr (.inr (.inr (.inl ⟨rfl, rfl⟩)))⟩))))
          · cases hi; obtain ⟨a, xs, o, e, h1, h2⟩ := rd.i; exact cI (.inr (.inr (.inr (.inr ⟨a, xs, e, .inl (.inr ⟨o, h1⟩), .inr (.inr (.inr (.inl ⟨rfl, rfl⟩)))⟩))))
          · cases hi; obtain ⟨_, a, xs, rfl, h1, h2, _⟩ := rd; cases r; exact dI (dict_obj I (.inl ⟨_, h1⟩)) (.inr (.inl rfl)) rfl
          · cases hi; obtain ⟨_, a, xs, rfl, h1, h2, _⟩ := rd; cases r; exact dI (dict_obj I (.inr ⟨_, h1⟩)) (.inr (.inl rfl)) rfl
          · cases hi
        · split at hi
          · rename_i hT
            subst hT
            split at hi
            · cases hi; exact cI (.inl ⟨_, rd.i, .inr (.inr (.inl ⟨rfl, rfl⟩))⟩)
            · cases hi; exact cI (.inr (.inl ⟨_, rd.i, .inr (.inr (.inr (.inl ⟨rfl, rfl⟩)))⟩))
            · cases hi; exact cI (.inr (.inr (.inl ⟨_, rd.i, .inl ⟨rfl, rfl⟩⟩)))
            · cases hi; obtain ⟨a, xs, e, h1, h2⟩ := rd.i; exact cI (.inr (.inr (.inr (.inl ⟨a, xs, e, SqT.of h1, .inr (.inr (.inl ⟨rfl, rfl⟩))⟩))))
            · cases hi; cases (show x = .non from rd.i); cases r; exact nI (.inr (.inr (.inl rfl))) rfl
            · cases hi; obtain ⟨_, a, xs, e, h1, h2, _⟩ := rd; exact cI (.inr (.inr (.inr (.inr ⟨a, xs, e, SqL.of h1, .inr (.inr (.inl ⟨rfl, rfl⟩))⟩))))
            · cases hi; obtain ⟨a, xs, o, e, h1, h2⟩ := rd.i; exact cI (.inr (.inr (.inr (.inr ⟨a, xs, e, .inl (.inr ⟨o, h1⟩), .inr (.inr (.inl ⟨rfl, rfl⟩))⟩))))
            · cases hi; obtain ⟨_, a, xs, rfl, h1, h2, _⟩ := rd; cases r; exact dI (dict_obj I (.inl ⟨_, h1⟩)) (.inr (.inr (.inl rfl))) rfl
            · cases hi; obtain ⟨_, a, xs, rfl, h1, h2, _⟩ := rd; cases r; exact dI (dict_obj I (.inr ⟨_, h1⟩)) (.inr (.inr (.inl rfl))) rfl
            · cases hi
          · split at hi
            · rename_i hT
              subst hT
              split at hi
              · cases hi; exact cI (.inl ⟨_, rd.i, .inr (.inl ⟨rfl, rfl⟩)⟩)
              · cases hi; exact cI (.inr (.inl ⟨_, rd.i, .inr (.inr (.inl ⟨rfl, rfl⟩))⟩))
              · cases hi; exact cI (.inr (.inr (.inl ⟨_, rd.i, .inr (.inr (.inl ⟨rfl, rfl⟩))⟩)))
              · cases hi; obtain ⟨a, xs, e, h1, h2⟩ := rd.i; exact cI (.inr (.inr (.inr (.inl ⟨a, xs, e, SqT.of h1, .inl ⟨rfl, rfl⟩⟩))))
              · cases hi; cases (show x = .non from rd.i); cases r; exact nI (.inr (.inr (.inr rfl))) rfl
              · cases hi; obtain ⟨_, a, xs, e, h1, h2, _⟩ := rd; exact cI (.inr (.inr (.inr (.inr ⟨a, xs, e, SqL.of h1, .inr (.inr (.inr (.inr ⟨rfl, rfl⟩)))⟩))))
              · cases hi; obtain ⟨a, xs, o, e, h1, h2⟩ := rd.i; exact cI (.inr (.inr (.inr (.inr ⟨a, xs, e, .inl (.inr ⟨o, h1⟩), .inr (.inr (.inr (.inr ⟨rfl, rfl⟩)))⟩))))
              · cases hi; obtain ⟨_, a, xs, rfl, h1, h2, _⟩ := rd; cases r; exact dI (dict_obj I (.inl ⟨_, h1⟩)) (.inr (.inr (.inr rfl))) rfl
              · cases hi; obtain ⟨_, a, xs, rfl, h1, h2, _⟩ := rd; cases r; exact dI (dict_obj I (.inr ⟨_, h1⟩)) (.inr (.inr (.inr rfl))) rfl
              · cases hi
            · cases hi
@[simp] def eIsi (T : String) (g : M Opd) : M Vl := fun D => (g D).bind fun p => (rsl p.2 p.1).bind fun d => (isiB T d).map fun b => (.im (.bl b), p.2)
theorem ve_isi {T : String} {x : Str} {e : Expr} {g : M Opd} {p p2 pos : Pos} (hg : Gl X "isinstance") (hm : X.mg "isinstance" = none) (hv : bootBuiltins "isinstance" = some (.builtin "isinstance")) (hgT : Gl X x) (hmT : X.mg x = none) (hvT : bootBuiltins x = some (.type T)) (h : VO X e g)
    (hn : x ≠ "__name__" := by decide) (hd : (x == ("__debug__" : Str)) = false := by decide) (he : starEach [e, .Name x p2] X.env = (false, eval e X.env) :: starEach [.Name x p2] X.env := by rfl) (hs2 : starEach [.Name x p2] X.env = (false, eval (.Name x p2) X.env) :: starEach [] X.env := by rfl)
    (hpl : (backTo pos (starEach [.Name x p2] X.env)).any (·.1) = false := by rfl) : VE X (.Call (.Name "isinstance" p) [e, .Name x p2] [] pos) (eIsi T g) := by
  refine pe_imp (pe_callB call_isiV hg hm hv (pa_cons h (pa_cons (pe_bltn (v := .ty T) hgT hmT hvT rfl hn hd) pa_nil hs2) he) (by decide) (by decide) he hpl) fun σ H Q ⟨D, F, r, D', st, nd, hgg, q⟩ => ?_
  obtain ⟨⟨o, D1⟩, h1, h2⟩ := Option.bind_eq_some_iff.mp hgg
  obtain ⟨d, h3, h4⟩ := Option.bind_eq_some_iff.mp h2
  obtain ⟨b, h5, h6⟩ := Option.map_eq_some_iff.mp h4
  cases h6
  exact ⟨D, F, o, D1, st, nd, h1, fun v H1 F1 R st1 o1 s1 => ⟨v, T, d, b, rfl, o1.read st1 h3, h5, q _ H1 F1 [] st1 ⟨rfl, rfl⟩ (by rw [List.append_nil]; exact s1.both)⟩⟩
@[simp] def truB : Vl → Option Bool
  | .im .non => some false
  | .im (.bl b) => some b
  | .im (.int i) => some (i != 0)
  | .im (.str x) => if x.length ≤ 100000 then some ((x.length : Int) != 0) else none
  | .im (.tup ds) => some (!ds.isEmpty)
  | .lst ds => some (!ds.isEmpty)
  | .fz ds => some (!ds.isEmpty)
  | .dK kvs => some (!kvs.isEmpty)
  | _ => none
theorem IsIs.emp {H : Hp} {ds : List Im} {xs : List V} (h : IsIs H ds xs) : (!xs.isEmpty) = !ds.isEmpty := by
  cases ds with
  | nil => cases (show xs = [] from h); rfl
  | cons d ds => obtain ⟨v, r, rfl, _⟩ := h; rfl
theorem tru_V {H : Hp} {d : Vl} {v : V} {b : Bool} (h : Rdb H d v) (e : truB d = some b) : TruV X.K v H b := by
  unfold truB at e
  split at e
  · cases e; cases (show v = _ from h.i); rfl
  · cases e; cases (show v = _ from h.i); rfl
  · cases e; cases (show v = _ from h.i); rfl
  · split at e
    · rename_i hl
      cases e; cases (show v = _ from h.i); exact ⟨le_line hl, rfl⟩
    · cases e
  · cases e
    obtain ⟨p, xs, rfl, h1, h2⟩ := h.i
    exact .inr (.inl ⟨xs, SqT.of h1, h2.emp.symm⟩)
  · cases e
    obtain ⟨_, p, xs, rfl, h1, h2, _⟩ := h
    exact .inl ⟨xs, SqL.of h1, h2.emp.symm⟩
  · cases e
    obtain ⟨_, p, xs, o, rfl, h1, h2, _⟩ := h
    exact .inl ⟨xs, .inl (.inr ⟨o, h1⟩), h2.emp.symm⟩
  · cases e
    obtain ⟨_, p, kws, rfl, h1, h2, _⟩ := h
    refine .inr (.inr ⟨kws, h1, ?_⟩)
    cases h2 <;> rfl
  · cases e
@[simp] def kTru (g : M Opd) : M Bool := fun D => (g D).bind fun p => (rsl p.2 p.1).bind fun d => (truB d).map fun b => (b, p.2)
theorem vt_tru {e : Expr} {g : M Opd} (h : VO X e g) (he : ∀ whole, isTrue e X.env whole = (do let v ← whole; standAt e.pos; holding [v] (truthy v)) := by intro _; rfl) : VT X e (kTru g) := by
  refine pt_imp (pt_truth h he) fun σ H Q ⟨D, F, b, D', st, nd, hgg, q⟩ => ?_
  obtain ⟨⟨o, D1⟩, h1, h2⟩ := Option.bind_eq_some_iff.mp hgg
  obtain ⟨d, h3, h4⟩ := Option.bind_eq_some_iff.mp h2
  obtain ⟨b', h5, h6⟩ := Option.map_eq_some_iff.mp h4
  cases h6
  exact ⟨D, F, o, D1, st, nd, h1, fun v H1 F1 R st1 o1 s1 => ⟨_, tru_V (o1.read st1 h3) h5, q H1 F1 st1 s1.both⟩⟩
theorem ve_globF {x : Str} {f : Addr} {pos : Pos} (hg : Gl X x) (hm : X.mg x = some (.ref f)) (hd : (x == ("__debug__" : Str)) = false := by decide) : VE X (.Name x pos) (eC (.fn f)) := ve_c (pe_glob (v := .ref f) hg hm rfl hd) fun _ => rfl
end
end L2
set_option Elab.async false
set_option linter.all false
set_option maxRecDepth 100000
namespace L2
open PySem PySem.Spec PyProof.Rows
theorem Stp.chg {H : Hp} {F F1 : List Addr} {a : Addr} {o' : HO} (ha : a ∈ F) (c : Chg H a) (nd : F1.Nodup) (sb : ∀ x ∈ F1, x ∈ F) : Stp H F (upd H a o') F1 := by
  obtain ⟨o, e, ht, hf⟩ := c
  refine ⟨fun x u ex hx => ?_, fun x hx => .inl (sb x hx), nd, StayS.of (fun x xs ex => ?_) (fun x p u ex => ?_), fun x u ex => ?_⟩
  · rw [upd_ne (fun z => hx (by rw [z]; exact ha))]
    exact ex
  · rw [upd_ne]
    · exact ex
    · rintro rfl
      rw [e] at ex
      exact ht xs (Option.some.inj ex)
  · rw [upd_ne]
    · exact ex
    · rintro rfl
      rw [e] at ex
      exact hf p u (Option.some.inj ex)
  · by_cases hx : x = a
    · subst hx
      exact ⟨o', upd_same⟩
    · exact ⟨u, (upd_ne hx).trans ex⟩
theorem IsI.updC {H : Hp} {a : Addr} {o' : HO} (c : Chg H a) : TupS H (upd H a o') := (Stp.chg (F := [a]) (F1 := []) (.head _) c List.nodup_nil (fun x hx => nomatch hx)).tup.tup
def MtV (X : Cx) (id : String) (mt : Vl → List Vl → Option (Vl × Vl)) : Prop :=
  MtR X id fun x vs H Q => ∃ c ds r c' R S, Own H c x R ∧ Owns H ds vs S ∧ (R ++ S).Nodup ∧ mt c ds = some (r, c') ∧ ∀ v H' R1 R2, Own H' r v R1 → Own H' c' x R2 → Stp H (R ++ S) H' (R1 ++ R2) → Q v H'
@[simp] def listy : Vl → Bool
  | .lst _ => true
  | .lstM _ => true
  | _ => false
@[simp] def eMut (ty : Vl → Bool) (i : Nat) (mt : Vl → List Vl → Option (Vl × Vl)) (g : M (List Opd)) : M Vl := fun D => match D[i]? with
  | some (some c0) => if ty c0 = true then (g D).bind fun p => (gath p.1 p.2).bind fun q => match q.2[i]? with
      | some (some c) => (mt c q.1).map fun r => (r.1, q.2.set i (some r.2))
      | _ => none
    else none
  | _ => none
theorem mut_ok {K : PySem.W.Frag} {T : String} {ty : Vl → Bool} {i : Nat} {mt : Vl → List Vl → Option (Vl × Vl)} {g : M (List Opd)} {σ : St} {H : Hp} {Q : VK} (hty : ∀ H c x R, Own H c x R → ty c = true → tyV K T x H)
    (h : tV (eMut ty i mt g) σ H Q) : ∃ x, σ[i]? = some (some x) ∧ tyV K T x H ∧ tA g σ H fun vs H2 => ∃ c ds r c' R S, Own H2 c x R ∧ Owns H2 ds vs S ∧ (R ++ S).Nodup ∧ mt c ds = some (r, c') ∧ ∀ v H' R1 R2, Own H' r v R1 → Own H' c' x R2 → Stp H2 (R ++ S) H' (R1 ++ R2) → Q v H' := by
  obtain ⟨D, F, r, D', st, nd, hg, q⟩ := h
  unfold eMut at hg
  split at hg
  · rename_i c0 hc0
    split at hg
    · rename_i ht
      obtain ⟨x, A0, B0, hx, w0, _, _⟩ := st.out hc0
      refine ⟨x, hx, hty H c0 x _ w0 ht, ?_⟩
      obtain ⟨⟨os, D1⟩, h1, h2⟩ := Option.bind_eq_some_iff.mp hg
      obtain ⟨⟨ds, D2⟩, h3, h4⟩ := Option.bind_eq_some_iff.mp h2
      refine ⟨D, F, os, D1, st, nd, h1, fun vs H1 F1 R1 st1 o1 s1 => ?_⟩
      obtain ⟨F2, S, st2, ow, pm⟩ := gath_ok st1 o1 h3
      dsimp only at h4
      split at h4
      · rename_i c hc
        obtain ⟨⟨r', c'⟩, h5, h6⟩ := Option.map_eq_some_iff.mp h4
        cases h6
        obtain ⟨x', R, F3, hx', w1, st3, pm3⟩ := st2.out hc
        rw [hx] at hx'
        cases hx'
        have s2 : Stp H F H1 ((R ++ S) ++ F3) := s1.permR (pm.symm.trans ((List.Perm.append_right S pm3.symm).trans (by
          rw [List.append_assoc]
          exact List.perm_append_comm)))
        have nd2 := List.nodup_append.mp s2.nd
        refine ⟨c, ds, _, c', R, S, w1, ow, nd2.1, h5, fun v H' A B wa wb s3 => ?_⟩
        have st4 : StOk H' (D2.set i (some .jk)) σ F3 := st3.mono s3.tup fun a ha o e => s3.keep a o e fun h => nd2.2.2 a h a ha rfl
        obtain ⟨F4, G, st5, pm5⟩ := st4.back wb hx
        rw [List.set_set] at st5
        refine q v H' F4 A st5 wa ((s2.trans s3 st3.chg).less (C := G) ?_)
        rw [List.append_assoc]
        refine (List.Perm.append_left F4 List.perm_append_comm).trans ?_
        rw [← List.append_assoc]
        refine (List.Perm.append_right A pm5).trans ?_
        rw [List.append_assoc]
        refine List.perm_append_comm.trans ?_
        rw [List.append_assoc]
        refine List.perm_append_comm.trans ?_
        rw [List.append_assoc, List.append_assoc]
        refine (List.Perm.append_left A ?_)
        exact List.perm_append_comm
      · cases h4
    · cases hg
  · cases hg
section
variable {X : Cx}
theorem list_ty {K : PySem.W.Frag} : ∀ (H : Hp) (c : Vl) (x : V) (R : List Addr), Own H c x R → listy c = true → tyV K "list" x H := by
  intro H c x R h e
  cases c with
  | lst ds => obtain ⟨a, xs, rfl, h1, _⟩ := h; exact .inl ⟨rfl, xs, SqL.of h1⟩
  | lstM ds => obtain ⟨a, xs, G, rfl, h1, _⟩ := h; exact .inl ⟨rfl, xs, SqL.of h1⟩
  | _ => cases e
theorem ve_mut {T : String} {name : Str} {id : String} {ty : Vl → Bool} {i : Nat} {mt : Vl → List Vl → Option (Vl × Vl)} {o e : Expr} {es : List Expr} {g : M (List Opd)} {apos cpos : Pos} (hty : ∀ H c x R, Own H c x R → ty c = true → tyV X.K T x H)
    (pa : PlainAttrs T) (slot : Slot T name id) (ht : typeOf (.builtin id) = pure (.type "method_descriptor")) (hm : MtV X id mt) (ho : PE X o (tVar i)) (ha : VA X (e :: es) g)
    (hbase : attributeBase o name X.env (eval o X.env) = eval o X.env := by rfl)
    (hfew : ((backTo cpos (starEach (e :: es) X.env)).all (fun x => !x.1) && (backToKw cpos (keywordEach [] X.env)).all (fun x => x.1.isSome)
      && decide ((e :: es).length + ([] : List Keyword).length + (if ([] : List Keyword).isEmpty then 0 else 1) < 30)) = true := by rfl)
    (hline : (apos.endLine == cpos.line) = true := by rfl) (hs : starEach (e :: es) X.env = (false, eval e X.env) :: starEach es X.env := by rfl) (hplain : (backTo cpos (starEach es X.env)).any (·.1) = false := by rfl) :
    VE X (.Call (.Attribute o name apos) (e :: es) [] cpos) (eMut ty i mt g) :=
  pe_imp (pe_bm pa slot ht hm ho ha hbase hfew hline hs hplain) fun σ H Q h => by
    obtain ⟨x, hx, h1, h2⟩ := mut_ok hty h
    exact ⟨x, hx, h1, h2⟩
@[simp] def mAppend : Vl → List Vl → Option (Vl × Vl) := fun c ds => match c, ds with
  | .lst xs, [.im d] => if xs.length < 100000 then some (.im .non, .lst (xs ++ [d])) else none
  | _, _ => none
theorem lt_line {n : Nat} (h : n < 100000) : n < sizeLine := Nat.lt_of_lt_of_le h (by decide)
theorem mv_append : MtV X "list.append" mAppend := by
  intro pins s σ H x vs v us Q I rx rv ⟨c, ds, r, c', R, S, wc, wd, nd, e, q⟩
  unfold mAppend at e
  split at e
  · split at e
    · rename_i hl
      cases e
      obtain ⟨a, ys, rfl, h1, h2, rfl⟩ := wc
      obtain ⟨y, t, S1, S2, rfl, ⟨hy, rfl⟩, ⟨rfl, rfl⟩, rfl⟩ := wd
      have c : Chg H a := ⟨_, h1, (fun _ e => by cases e), (fun _ _ e => by cases e)⟩
      refine mt_append pins s σ H _ _ v us Q I rx rv ⟨a, ys, y, rfl, rfl, h1, lt_line (by rw [← h2.length]; exact hl), q .non _ [] [a] ⟨rfl, rfl⟩ ?_ (Stp.chg (.head _) c (List.pairwise_singleton _ _) fun x hx => by simpa using hx)⟩
      exact ⟨a, _, rfl, upd_same, (h2.snoc hy).mono (IsI.updC c), rfl⟩
    · cases e
  · cases e
@[simp] def mPopAt : Vl → List Vl → Option (Vl × Vl) := fun c ds => match c, ds with
  | .lst xs, [.im (.int i)] => if 0 ≤ i ∧ i < xs.length then (xs[i.toNat]?).map fun d => (.im d, .lst (xs.eraseIdx i.toNat)) else none
  | _, _ => none
theorem IsIs.erase {H : Hp} : ∀ {ds : List Im} {xs : List V} (n : Nat), IsIs H ds xs → IsIs H (ds.eraseIdx n) (xs.eraseIdx n)
  | [], xs, n, h => by cases (show xs = [] from h); exact rfl
  | d :: ds, xs, 0, h => by obtain ⟨v, r, rfl, h1, h2⟩ := h; exact h2
  | d :: ds, xs, n + 1, h => by obtain ⟨v, r, rfl, h1, h2⟩ := h; exact ⟨v, _, rfl, h1, h2.erase n⟩
theorem mv_popAt : MtV X "list.pop" mPopAt := by
  intro pins s σ H x vs v us Q I rx rv ⟨c, ds, r, c', R, S, wc, wd, nd, e, q⟩
  unfold mPopAt at e
  split at e
  · rename_i i
    split at e
    · rename_i hi
      obtain ⟨d, e1, e2⟩ := Option.map_eq_some_iff.mp e
      cases e2
      obtain ⟨a, ys, rfl, h1, h2, rfl⟩ := wc
      obtain ⟨y, t, S1, S2, rfl, ⟨hy, rfl⟩, ⟨rfl, rfl⟩, rfl⟩ := wd
      cases (show y = .int i from hy)
      obtain ⟨y, g1, g2⟩ := h2.get e1
      have c : Chg H a := ⟨_, h1, (fun _ e => by cases e), (fun _ _ e => by cases e)⟩
      have hz : ys.length ≤ sizeLine := (I.hok a _ h1).1
      have hn := line63
      refine mt_popAt pins s σ H _ _ v us Q I rx rv ⟨a, ys, i, i.toNat, y, rfl, rfl, h1, by omega, by have := h2.length; omega, seqIndex_of hi.1 (by rw [← h2.length]; exact hi.2), g1, q y _ [] [a] ⟨g2.mono (IsI.updC c), rfl⟩ ?_ (Stp.chg (.head _) c (List.pairwise_singleton _ _) fun x hx => by simpa using hx)⟩
      exact ⟨a, _, rfl, upd_same, (h2.erase _).mono (IsI.updC c), rfl⟩
    · cases e
  · cases e
def PutV (X : Cx) (pt : Vl → Vl → Vl → Option Vl) : Prop :=
  PSet X fun o i v H Q => ∃ c k d c' R S, Own H c o R ∧ Own H k i [] ∧ Own H d v S ∧ (R ++ S).Nodup ∧ pt c k d = some c' ∧ ∀ H' R', Own H' c' o R' → Stp H (R ++ S) H' R' → Q H'
@[simp] def putV (c k d : Vl) : Option Vl := match c, k, d with
  | .lst xs, .im (.int i), .im d => (ixN xs.length i).map fun j => .lst (xs.set j d)
  | _, _, _ => none
theorem IsIs.set {H : Hp} {d : Im} {v : V} (w : IsI H d v) : ∀ {ds : List Im} {xs : List V} (n : Nat), IsIs H ds xs → IsIs H (ds.set n d) (xs.set n v)
  | [], xs, n, h => by cases (show xs = [] from h); exact rfl
  | e :: ds, xs, 0, h => by obtain ⟨u, r, rfl, h1, h2⟩ := h; exact ⟨v, r, rfl, w, h2⟩
  | e :: ds, xs, n + 1, h => by obtain ⟨u, r, rfl, h1, h2⟩ := h; exact ⟨u, _, rfl, h1, IsIs.set w n h2⟩
theorem pv_list : PutV X putV := by
  intro pins s σ H o i v ov iv u Q I ro ri rv ⟨c, k, d, c', R, S, wc, wk, wd, nd, e, q⟩
  unfold putV at e
  split at e
  · obtain ⟨j, e1, e2⟩ := Option.map_eq_some_iff.mp e
    cases e2
    obtain ⟨a, ys, rfl, h1, h2, rfl⟩ := wc
    obtain ⟨hd, rfl⟩ := wd
    have c : Chg H a := ⟨_, h1, (fun _ e => by cases e), (fun _ _ e => by cases e)⟩
    refine set_list pins s σ H _ _ _ ov iv u Q I ro ri rv ⟨a, ys, _, j, rfl, wk.1, h1, by rw [← h2.length]; exact e1, q _ [a] ?_ (Stp.chg (.head _) c (List.pairwise_singleton _ _) fun x hx => by simpa using hx)⟩
    exact ⟨a, _, rfl, upd_same, (IsIs.set hd j h2).mono (IsI.updC c), rfl⟩
  · cases e
@[simp] def gIx (i : Nat) (gk : M Vl) (pt : Vl → Vl → Vl → Option Vl) : MG := fun d D => match D[i]? with
  | some (some _) => (gk D).bind fun p => if p.1.cp = true then match p.2[i]? with
      | some (some c) => (pt c p.1 d).map fun c' => p.2.set i (some c')
      | _ => none
    else none
  | _ => none
theorem vg_ix {fix : List Nat} {i : Nat} {o k : Expr} {gk : M Vl} {pt : Vl → Vl → Vl → Option Vl} {pos : Pos} (ho : PE X o (tVar i)) (hk : VE X k gk) (hp : PutV X pt)
    (ha : ∀ v, assign (.Subscript o k pos) X.env v = (do
      let ov ← holding [v] (eval o X.env)
      let iv ← holding [v, ov] (eval k X.env)
      standAt pos
      holding [v, ov, iv] (setItem ov iv v)
      release [v, ov, iv] []) := by intro _; rfl) : VG X fix (.Subscript o k pos) (gIx i gk pt) := by
  refine pg_imp (pg_sub ho hk hp ha) fun v σ H Q ⟨D, F, d, R, D', st, ow, nd, hg, q⟩ => ?_
  unfold gIx at hg
  split at hg
  · rename_i c0 hc0
    obtain ⟨x, A0, B0, hx, w0, _, _⟩ := st.out hc0
    obtain ⟨⟨kd, D1⟩, h1, h2⟩ := Option.bind_eq_some_iff.mp hg
    split at h2
    · rename_i hcp
      refine ⟨x, hx, D, F, kd, D1, st, (List.nodup_append.mp nd).1, h1, fun kv H1 F1 RK st1 wk s1 => ?_⟩
      obtain rfl := wk.cp hcp
      rw [List.append_nil] at s1
      have nd0 := List.nodup_append.mp nd
      dsimp only at h2
      split at h2
      · rename_i c hc
        obtain ⟨c', h5, h6⟩ := Option.map_eq_some_iff.mp h2
        cases h6
        obtain ⟨x', RC, F3, hx', w1, st3, pm3⟩ := st1.out hc
        rw [hx] at hx'
        cases hx'
        have ow1 : Own H1 d v R := ow.mono s1.tup fun a ha o e => s1.keep a o e fun h => nd0.2.2 a h a ha rfl
        -- the whole: F and R
        have s2 : Stp H (F ++ R) H1 ((RC ++ R) ++ F3) := by
          have e0 : Stp H (F ++ R) H (F ++ R) := Stp.perm nd (List.Perm.refl _)
          have := Stp.trans (F1 := F) (R := R) e0 s1 ow.chg
          refine this.permR ((List.Perm.append_right R pm3.symm).trans ?_)
          rw [List.append_assoc]
          exact List.perm_append_comm
        have nd2 := List.nodup_append.mp s2.nd
        refine ⟨c, kd, d, c', RC, R, w1, wk, ow1, nd2.1, h5, fun H' R' w' s3 => ?_⟩
        have st4 : StOk H' (D1.set i (some .jk)) σ F3 := st3.mono s3.tup fun a ha o e => s3.keep a o e fun h => nd2.2.2 a h a ha rfl
        obtain ⟨F4, G, st5, pm5⟩ := st4.back w' hx
        rw [List.set_set] at st5
        exact q σ H' F4 fixd.refl st5 ((s2.trans s3 st3.chg).less (pm5.trans List.perm_append_comm))
      · cases h2
    · cases h2
  · cases hg
end
end L2
set_option Elab.async false
set_option linter.all false
set_option maxRecDepth 100000
namespace L2
open PySem PySem.Spec PyProof.Rows
section
variable {X : Cx}
def zipI : List Im → List Im → List Im
  | x :: xs, y :: ys => .tup [x, y] :: zipI xs ys
  | _, _ => []
theorem zipI_len : ∀ (xs ys : List Im), (zipI xs ys).length = min xs.length ys.length
  | [], ys => by simp [zipI]
  | x :: xs, [] => by simp [zipI]
  | x :: xs, y :: ys => by simp [zipI, zipI_len xs ys]
theorem zipI_get : ∀ (xs ys : List Im) (i : Nat) (d : Im), (zipI xs ys)[i]? = some d → ∃ x y, xs[i]? = some x ∧ ys[i]? = some y ∧ d = .tup [x, y]
  | [], ys, i, d, h => by simp [zipI] at h
  | x :: xs, [], i, d, h => by simp [zipI] at h
  | x :: xs, y :: ys, 0, d, h => by simp [zipI] at h; exact ⟨x, y, rfl, rfl, h.symm⟩
  | x :: xs, y :: ys, i + 1, d, h => by
    obtain ⟨a, b, h1, h2, h3⟩ := zipI_get xs ys i d (by simpa [zipI] using h)
    exact ⟨a, b, by simpa using h1, by simpa using h2, h3⟩
@[simp] def iZ (g : M (List Opd)) : MI := fun D => (g D).bind fun p => (rsls p.2 p.1).bind fun ds => match ds with
  | [.im (.tup x), .im (.tup y)] => some ((zipI x y, none), p.2)
  | _ => none
theorem it_zip {K : PySem.W.Frag} {H : Hp} {a b : Addr} {xs ys : List V} {ds es : List Im} (h : H a = some (.tup xs)) (hd : IsIs H ds xs) (h' : H b = some (.tup ys)) (hd' : IsIs H es ys) : ItOk (Itz K a b) H [] (zipI ds es) where
  go := fun H' t k i d e => by
    obtain ⟨x, y, e1, e2, rfl⟩ := zipI_get ds es i d e
    obtain ⟨v, g1, g2⟩ := hd.get e1
    obtain ⟨u, k1, k2⟩ := hd'.get e2
    have q1 := SqT.of (K := K) (t.tup a _ h)
    have q2 := SqT.of (K := K) (t.tup b _ h')
    refine ⟨⟨xs, ys, v, u, q1, q2, g1, k1⟩, fun z H'' ⟨T, x', y', f, ez, eH, y1, y2⟩ => ?_⟩
    subst ez eH
    have z1 := y1 xs q1
    have z2 := y2 ys q2
    rw [g1] at z1
    rw [k1] at z2
    cases z1
    cases z2
    have s : Same H' (upd H' T (.tup [v, u])) := (Same.refl H').upd f
    exact ⟨s, T, [v, u], rfl, upd_same, ⟨v, [u], rfl, (g2.mono t.tup).mono s.tupS.tup, u, [], rfl, (k2.mono t.tup).mono s.tupS.tup, rfl⟩⟩
  stop := fun H' t k => ⟨xs, ys, SqT.of (t.tup a _ h), SqT.of (t.tup b _ h'), by rw [zipI_len, ← hd.length, ← hd'.length]; omega⟩
theorem vi_zip {a b : Expr} {g : M (List Opd)} {p pos : Pos} {es : List Expr} {ek : Nat} {ps : Pos} (hg : Gl X "zip") (hm : X.mg "zip" = none) (ha : VA X [a, b] g) (hs : starEach [a, b] X.env = [(false, eval a X.env), (false, eval b X.env)] := by rfl) (hs2 : starEach [b] X.env = [(false, eval b X.env)] := by rfl) :
    VI X (.Tuple es ek ps) (.Call (.Name "zip" p) [a, b] [] pos) (iZ g) := by
  refine pi_imp (pi_zip hg hm ha hs hs2) fun σ H Rk ⟨D, F, r, D', st, nd, hgg, q⟩ => ?_
  obtain ⟨⟨os, D1⟩, h1, h2⟩ := Option.bind_eq_some_iff.mp hgg
  obtain ⟨ds, h3, h4⟩ := Option.bind_eq_some_iff.mp h2
  refine ⟨D, F, os, D1, st, nd, h1, fun vs H1 F1 R1 st1 o1 s1 => ?_⟩
  have rd := o1.read st1 h3
  split at h4
  · cases h4
    obtain ⟨v, u, rfl, e, e'⟩ := rdbs2 rd
    obtain ⟨a, xs, rfl, k1, k2⟩ := e
    obtain ⟨b, ys, rfl, k3, k4⟩ := e'
    exact ⟨a, b, rfl, ⟨xs, SqT.of k1⟩, ⟨ys, SqT.of k3⟩, q _ H1 F1 [] st1 (it_zip k1 k2 k3 k4) trivial (fun a ha => nomatch ha) (by rw [List.append_nil]; exact s1.both)⟩
  · cases h4
def enumI : Nat → List Im → List Im
  | _, [] => []
  | n, x :: xs => .tup [.int n, x] :: enumI (n + 1) xs
theorem enumI_len : ∀ (n : Nat) (xs : List Im), (enumI n xs).length = xs.length
  | _, [] => rfl
  | n, x :: xs => by rw [enumI, List.length_cons, List.length_cons, enumI_len (n + 1) xs]
theorem enumI_get : ∀ (n : Nat) (xs : List Im) (i : Nat) (d : Im), (enumI n xs)[i]? = some d → ∃ x, xs[i]? = some x ∧ d = .tup [.int ((n + i : Nat) : Int), x]
  | n, [], i, d, h => by simp [enumI] at h
  | n, x :: xs, 0, d, h => by simp [enumI] at h; exact ⟨x, rfl, h.symm⟩
  | n, x :: xs, i + 1, d, h => by
    obtain ⟨y, h1, h2⟩ := enumI_get (n + 1) xs i d (by simpa [enumI] using h)
    exact ⟨y, by simpa using h1, by rw [h2]; congr 4; omega⟩
theorem it_enum {K : PySem.W.Frag} {H : Hp} {a : Addr} {xs : List V} {ds : List Im} (h : H a = some (.tup xs)) (hd : IsIs H ds xs) : ItOk (Ite K a) H [] (enumI 0 ds) where
  go := fun H' t k i d e => by
    obtain ⟨x, e1, rfl⟩ := enumI_get 0 ds i d e
    obtain ⟨v, g1, g2⟩ := hd.get e1
    have q1 := SqT.of (K := K) (t.tup a _ h)
    refine ⟨⟨xs, v, q1, g1⟩, fun z H'' ⟨T, x', f, ez, eH, y1⟩ => ?_⟩
    subst ez eH
    have z1 := y1 xs q1
    rw [g1] at z1
    cases z1
    have s : Same H' (upd H' T (.tup [.int i, v])) := (Same.refl H').upd f
    exact ⟨s, T, [.int i, v], rfl, upd_same, ⟨.int i, [v], rfl, by rw [Nat.zero_add]; rfl, v, [], rfl, (g2.mono t.tup).mono s.tupS.tup, rfl⟩⟩
  stop := fun H' t k => ⟨xs, SqT.of (t.tup a _ h), by rw [enumI_len, ← hd.length]; omega⟩
@[simp] def iE (g : M (List Opd)) : MI := fun D => (g D).bind fun p => (rsls p.2 p.1).bind fun ds => match ds with
  | [.im (.tup x)] => some ((enumI 0 x, none), p.2)
  | _ => none
theorem vi_enum {a : Expr} {g : M (List Opd)} {p pos : Pos} {es : List Expr} {ek : Nat} {ps : Pos} (hg : Gl X "enumerate") (hm : X.mg "enumerate" = none) (ha : VA X [a] g) (hs : starEach [a] X.env = [(false, eval a X.env)] := by rfl) :
    VI X (.Tuple es ek ps) (.Call (.Name "enumerate" p) [a] [] pos) (iE g) := by
  refine pi_imp (pi_enum hg hm ha hs) fun σ H Rk ⟨D, F, r, D', st, nd, hgg, q⟩ => ?_
  obtain ⟨⟨os, D1⟩, h1, h2⟩ := Option.bind_eq_some_iff.mp hgg
  obtain ⟨ds, h3, h4⟩ := Option.bind_eq_some_iff.mp h2
  refine ⟨D, F, os, D1, st, nd, h1, fun vs H1 F1 R1 st1 o1 s1 => ?_⟩
  have rd := o1.read st1 h3
  split at h4
  · cases h4
    obtain ⟨v, rfl, e⟩ := rdbs1 rd
    obtain ⟨a, xs, rfl, k1, k2⟩ := e
    exact ⟨a, rfl, ⟨xs, SqT.of k1⟩, q _ H1 F1 [] st1 (it_enum k1 k2) trivial (fun a ha => nomatch ha) (by rw [List.append_nil]; exact s1.both)⟩
  · cases h4
theorem slot_e {fx : List Nat} {g : M (List Opd)} : ∀ D r D', iE g D = some (r, D') → slotIn fx r.2 := by
  intro D r D' h
  obtain ⟨⟨os, D1⟩, h1, h2⟩ := Option.bind_eq_some_iff.mp h
  obtain ⟨ds, h3, h4⟩ := Option.bind_eq_some_iff.mp h2
  split at h4
  · cases h4; trivial
  · cases h4
@[simp] def vMin3 : OpN := fun ds => match ds with
  | [.im (.int i), .im (.int j), .im (.int k)] => some (.im (.int (min (min i j) k)))
  | _ => none
theorem call_min3 (hc : X.calm = true) : CallR X (.builtin "min") (fun xs H Q => ∃ i j k, xs = [.int i, .int j, .int k] ∧ Q (.int (min (min i j) k)) H) := by
  intro pins s σ H xs us Q I r h
  obtain ⟨i, j, k, rfl, q⟩ := h
  cases r with
  | cons a r =>
    obtain ⟨u, w', rfl, ⟨t', rfl⟩, ⟨t'', rfl⟩⟩ := vals2 r
    obtain ⟨t, rfl⟩ := a
    refine min_three_ints (I.ok.hd hc) fun h' tk kk => ⟨.int (min (min i j) k), H, I.kept kk, ?_, q⟩
    by_cases h1 : j < i
    · rw [if_pos h1]
      by_cases h2 : k < j
      · rw [if_pos h2, show min (min i j) k = k by omega]; exact ⟨_, rfl⟩
      · rw [if_neg h2, show min (min i j) k = j by omega]; exact ⟨_, rfl⟩
    · rw [if_neg h1]
      by_cases h2 : k < i
      · rw [if_pos h2, show min (min i j) k = k by omega]; exact ⟨_, rfl⟩
      · rw [if_neg h2, show min (min i j) k = i by omega]; exact ⟨_, rfl⟩
theorem cv_min3 (hc : X.calm = true) : CallV X (.builtin "min") vMin3 := by
  refine (call_min3 hc).imp fun xs H Q ⟨ds, d, rd, e, q⟩ => ?_
  unfold vMin3 at e
  split at e
  · cases e
    obtain ⟨v, r, rfl, h, rd⟩ := rd
    obtain ⟨u, w, rfl, k, l⟩ := rdbs2v rd
    cases (show v = _ from h.i)
    cases (show u = _ from k.i)
    cases (show w = _ from l.i)
    exact ⟨_, _, _, rfl, Out.i q rfl⟩
  · cases e
def rngV (lo : Int) (n : Nat) : List V := (List.range n).map fun (k : Nat) => V.int (lo + (k : Int))
def tLR (ta : TA) : TE := fun σ H Q => ta σ H fun vs H1 => ∃ j : Int, vs = [.int j] ∧ small j ∧ ∀ l, H1 l = none → Q (.ref l) (upd H1 l (.lst (rngV 0 j.toNat)))
theorem pe_listRange1 {a : Expr} {ta : TA} {p p2 pos pos2 : Pos} (hc : X.calm = true) (hl : Gl X "list") (hlm : X.mg "list" = none) (hg : Gl X "range") (hm : X.mg "range" = none) (ha : PA X [a] ta) (hs : starEach [a] X.env = [(false, eval a X.env)] := by rfl) :
    PE X (.Call (.Name "list" p2) [.Call (.Name "range" p) [a] [] pos] [] pos2) (tLR ta) := by
  intro pins s σ H Q I h
  refine wpAny_Call_Name_kw (ld_blt I hl hlm (show bootBuiltins "list" = some (.type "list") by decide +kernel) (PyProof.Rows.callWith_type1 ?_ rfl rfl) (by decide) (by decide))
  refine Calls.spliced_cons ?_
  refine Call_ (ld_blt I hg hm boot_range (PyProof.Rows.callWith_type1 (thn (ha pos pins s σ H _ I h) fun us s1 ⟨vs, H1, I1, r1, q1⟩ => ?_) hs rfl))
  obtain ⟨j, e, sm, q⟩ := q1
  subst e
  obtain ⟨u, rfl, t, rfl⟩ := vals1 r1
  refine call_range_1 (Calls.spliced_nil ?_)
  refine call_list_range (n := j.toNat) (I1.ok.hd hc) (IsRange.new ..) (small_one (by omega) (by omega) (by have := sm.1; omega) (by have := sm.2; omega)) (by rw [rangeSize_one]; split <;> omega) (by have := sm.2; omega) fun h' tk acc c' kp e it => ?_
  have I2 : Inv X pins σ H1 { s1 with heap := s1.heap.push { cls := .type "range", data := .fields #[.int 0 s1.toks, .int j t, .int 1 (s1.toks + 1)] }, toks := s1.toks + 1 + 1 } := I1.kept fun b o e => Heap.get?_push_of_some _ e
  have rv : Vals (rngV 0 j.toNat) acc.toList := by
    refine paired_of (show (rngV 0 j.toNat).length = acc.toList.length from (by rw [rngV, List.length_map, List.length_range]; exact it.1.symm)) fun i v u h1 h2 => ?_
    have hi : i < j.toNat := by
      have := (List.getElem?_eq_some_iff.mp h1).1
      rwa [rngV, List.length_map, List.length_range] at this
    rw [rngV, List.getElem?_map, List.getElem?_range hi] at h1
    cases h1
    obtain ⟨t, rfl⟩ := it.2 i u (by simpa using h2)
    exact ⟨t, by rw [Int.mul_one]⟩
  refine ⟨.ref _, _, I2.laid (t' := tk) (o := .lst (rngV 0 j.toNat)) kp (Nat.le_refl _) (show _ ∧ ∃ its m, Vals (rngV 0 j.toNat) its ∧ _ from ⟨?_, acc.toList, c', rv, by simpa using e⟩), rfl, q _ (I2.hok.fresh (Nat.le_refl _))⟩
  rw [rngV, List.length_map, List.length_range]
  have h2 := sm.2
  have hz : sizeLine = 16777216 := sizeLine_eq
  omega
@[simp] def eListRange1 (g : M (List Opd)) : M Vl := fun D => (g D).bind fun p => (rsls p.2 p.1).bind fun ds => match ds with
  | [.im (.int j)] => if small j then some (.lst (rngI 0 j.toNat), p.2) else none
  | _ => none
theorem ve_listRange1 {a : Expr} {g : M (List Opd)} {p p2 pos pos2 : Pos} (hl : Gl X "list") (hlm : X.mg "list" = none) (hg : Gl X "range") (hm : X.mg "range" = none) (ha : VA X [a] g) (hs : starEach [a] X.env = [(false, eval a X.env)] := by rfl) (hc : X.calm = true := by rfl) :
    VE X (.Call (.Name "list" p2) [.Call (.Name "range" p) [a] [] pos] [] pos2) (eListRange1 g) := by
  refine pe_imp (pe_listRange1 hc hl hlm hg hm ha hs) fun σ H Q ⟨D, F, r, D', st, nd, hgg, q⟩ => ?_
  obtain ⟨⟨os, D1⟩, h1, h2⟩ := Option.bind_eq_some_iff.mp hgg
  obtain ⟨ds, h3, h4⟩ := Option.bind_eq_some_iff.mp h2
  refine ⟨D, F, os, D1, st, nd, h1, fun vs H1 F1 R1 st1 o1 s1 => ?_⟩
  have rd := o1.read st1 h3
  split at h4
  · rename_i j
    split at h4
    · rename_i hj
      cases h4
      obtain ⟨v, rfl, e⟩ := rdbs1 rd
      cases (show v = .int j from e)
      refine ⟨j, rfl, hj, fun l fl => ?_⟩
      have s2 : Same H1 (upd H1 l (.lst (rngV 0 j.toNat))) := (Same.refl H1).upd fl
      have hi : ∀ H, IsIs H (rngI 0 j.toNat) (rngV 0 j.toNat) := fun H => by
        unfold rngI rngV
        generalize List.range j.toNat = ks
        induction ks with
        | nil => rfl
        | cons k r ih => exact ⟨_, _, rfl, rfl, ih⟩
      exact q _ _ F1 [l] (st1.mono s2.tupS fun a _ o e => s2 a o e) ⟨l, _, rfl, upd_same, hi _, rfl⟩ (s1.new s2 (List.pairwise_singleton _ _) (fun a ha => by rw [List.mem_singleton.mp ha]; exact fl) st1.chg)
    · cases h4
  · cases h4
def insI (lt : Im → Im → Bool) (x : Im) : List Im → List Im
  | [] => [x]
  | y :: r => if lt x y = true then x :: y :: r else y :: insI lt x r
def srtI (lt : Im → Im → Bool) : List Im → List Im
  | [] => []
  | x :: r => insI lt x (srtI lt r)
def ltI : Im → Im → Bool
  | .int i, .int j => decide (i < j)
  | _, _ => false
def ints? : List Im → Option (List Int)
  | [] => some []
  | .int i :: r => (ints? r).map fun s => i :: s
  | _ :: _ => none
@[simp] def vSorted : OpN := fun ds => match ds with
  | [.lst x] => (ints? x).bind fun ns => if ns.Nodup ∧ ns.length < 64 then some (.lst (srtI ltI x)) else none
  | _ => none
theorem ints_map (ns : List Int) : ints? (ns.map .int) = some ns := by
  induction ns with
  | nil => rfl
  | cons n r ih => rw [List.map_cons, ints?, ih]; rfl
def insZ (x : Int) : List Int → List Int
  | [] => [x]
  | y :: r => if x < y then x :: y :: r else y :: insZ x r
def srtZ : List Int → List Int
  | [] => []
  | x :: r => insZ x (srtZ r)
theorem ins_eq (x : Int) : ∀ l : List Int, insI ltI (.int x) (l.map .int) = (insZ x l).map .int
  | [] => rfl
  | y :: r => by
    rw [List.map_cons, insI, insZ, ltI]
    by_cases h : x < y
    · rw [if_pos (by simpa using h), if_pos h]; rfl
    · rw [if_neg (by simpa using h), if_neg h, ins_eq x r]; rfl
theorem srt_eq : ∀ l : List Int, srtI ltI (l.map .int) = (srtZ l).map .int
  | [] => rfl
  | x :: r => by rw [List.map_cons, srtI, srt_eq r, ins_eq]; rfl
theorem ins_perm (x : Int) : ∀ l : List Int, (insZ x l).Perm (x :: l)
  | [] => List.Perm.refl _
  | y :: r => by
    rw [insZ]
    split
    · exact List.Perm.refl _
    · exact ((ins_perm x r).cons y).trans (List.Perm.swap x y r)
theorem srt_perm : ∀ l : List Int, (srtZ l).Perm l
  | [] => List.Perm.refl _
  | x :: r => (ins_perm x _).trans ((srt_perm r).cons x)
theorem ins_up (x : Int) : ∀ l : List Int, l.Pairwise (· ≤ ·) → (insZ x l).Pairwise (· ≤ ·)
  | [], _ => List.pairwise_singleton _ _
  | y :: r, h => by
    obtain ⟨h1, h2⟩ := List.pairwise_cons.mp h
    rw [insZ]
    split
    · rename_i hxy
      refine List.pairwise_cons.mpr ⟨fun z hz => ?_, h⟩
      rcases List.mem_cons.mp hz with rfl | hz
      · omega
      · have := h1 z hz; omega
    · rename_i hxy
      refine List.pairwise_cons.mpr ⟨fun z hz => ?_, ins_up x r h2⟩
      rcases List.mem_cons.mp ((ins_perm x r).mem_iff.mp hz) with rfl | hz
      · omega
      · exact h1 z hz
theorem srt_up : ∀ l : List Int, (srtZ l).Pairwise (· ≤ ·)
  | [] => List.Pairwise.nil
  | x :: r => ins_up x _ (srt_up r)
theorem srt_lt {l : List Int} (h : l.Nodup) : (srtZ l).Pairwise (· < ·) := by
  have h1 := srt_up l
  have h2 : (srtZ l).Nodup := (srt_perm l).nodup_iff.mpr h
  exact List.Pairwise.imp₂ (fun a b x y => by omega) h1 h2
theorem asc_uniq : ∀ {l m : List Int}, l.Perm m → l.Pairwise (· < ·) → m.Pairwise (· < ·) → l = m
  | [], m, h, _, _ => h.nil_eq
  | a :: l, [], h, _, _ => absurd h.length_eq (by simp)
  | a :: l, b :: m, h, hl, hm => by
    have hl' := List.pairwise_cons.mp hl
    have hm' := List.pairwise_cons.mp hm
    have e : a = b := by
      rcases List.mem_cons.mp (h.mem_iff.mp (.head _)) with z | z
      · exact z
      · rcases List.mem_cons.mp (h.mem_iff.mpr (.head _)) with y | y
        · exact y.symm
        · have h1 := hl'.1 b y
          have h2 := hm'.1 a z
          omega
    subst e
    rw [asc_uniq h.cons_inv hl'.2 hm'.2]
theorem ints_some : ∀ {x : List Im} {ns : List Int}, ints? x = some ns → x = ns.map .int
  | [], ns, h => by cases h; rfl
  | .int i :: r, ns, h => by
    rw [ints?] at h
    obtain ⟨s, h1, rfl⟩ := Option.map_eq_some_iff.mp h
    rw [ints_some h1]; rfl
  | .non :: _, _, h => by cases h
  | .bl _ :: _, _, h => by cases h
  | .str _ :: _, _, h => by cases h
  | .tup _ :: _, _, h => by cases h
  | .fn _ :: _, _, h => by cases h
  | .fl _ :: _, _, h => by cases h
theorem ints_val {H : Hp} : ∀ {ns : List Int} {vs : List V}, IsIs H (ns.map .int) vs → vs = ns.map V.int
  | [], vs, h => h
  | n :: r, vs, h => by
    obtain ⟨v, t, rfl, h1, h2⟩ := h
    cases (show v = .int n from h1)
    rw [ints_val h2]
    rfl
theorem val_ints {H : Hp} : ∀ ns : List Int, IsIs H (ns.map .int) (ns.map V.int)
  | [] => rfl
  | n :: r => ⟨.int n, _, rfl, rfl, val_ints r⟩
theorem cv_sorted (hc : X.calm = true) (hu : X.A.units + 20 < cLine) : CallV X (.builtin "sorted") vSorted := by
  refine (call_sortedZ hc).imp fun xs H Q ⟨ds, d, rd, e, q⟩ => ?_
  unfold vSorted at e
  split at e
  · rename_i x
    obtain ⟨ns, e1, e2⟩ := Option.bind_eq_some_iff.mp e
    split at e2
    · rename_i hn
      cases e2
      obtain ⟨v, rfl, _, p, xs, rfl, h1, h2, _⟩ := rdbs1v rd
      cases ints_some e1
      cases ints_val h2
      refine ⟨p, ns, rfl, h1, hn.1, hn.2, fun l ns' fl pm up => ?_⟩
      rw [srt_eq] at q
      rw [asc_uniq (pm.trans (srt_perm ns).symm) up (srt_lt hn.1)]
      exact Out.l q fl (val_ints _)
    · cases e2
  · cases e
theorem pv_put (hu : X.A.units + 20 < cLine) : PutV X putV := pv_list
end
end L2
set_option Elab.async false
set_option linter.all false
set_option maxRecDepth 100000
namespace L2
open PySem PySem.Spec PyProof.Rows
section
variable {X : Cx}
def keyI : Im → Option Key
  | .int i => some (.inl i)
  | .str x => some (.inr x)
  | _ => none
@[simp] theorem keyI_int (i : Int) : keyI (.int i) = some (.inl i) := rfl
@[simp] theorem keyI_str (x : Str) : keyI (.str x) = some (.inr x) := rfl
def kI : Key → Im
  | .inl i => .int i
  | .inr x => .str x
@[simp] theorem kI_inl (i : Int) : kI (.inl i) = .int i := rfl
@[simp] theorem kI_inr (x : Str) : kI (.inr x) = .str x := rfl
end
end L2
set_option Elab.async false
set_option linter.all false
set_option maxRecDepth 100000
namespace L2
open PySem PySem.Spec PyProof.Rows
section
variable {X : Cx}
def lentO : Opd → Vl → Option (Nat × Vl)
  | .sl i, d => some (i, d)
  | .vl _, _ => none
@[simp] theorem lentO_sl (i : Nat) (d : Vl) : lentO (.sl i) d = some (i, d) := rfl
@[simp] theorem lentO_vl (c d : Vl) : lentO (.vl c) d = none := rfl
end
end L2
set_option Elab.async false
set_option linter.all false
set_option maxRecDepth 100000
namespace L2
open PySem PySem.Spec PyProof.Rows
section
variable {prog : Program} {w : World} {A : Around} {E : Value → Shared → Prop} {s : Shared}
end
section
variable {X : Cx}
end
end L2
set_option Elab.async false
set_option linter.all false
set_option maxRecDepth 100000
namespace L2
open PySem PySem.Spec PyProof.Rows
section
variable {X : Cx}
end
end L2
set_option Elab.async false
set_option linter.all false
set_option maxRecDepth 100000
namespace L2
open PySem PySem.Spec PyProof.Rows
section
variable {prog : Program} {w : World} {A : Around} {E : Value → Shared → Prop} {s : Shared}
end
end L2
set_option Elab.async false
set_option linter.all false
set_option maxRecDepth 100000
namespace L2
open PySem PySem.Spec PyProof.Rows
end L2
set_option Elab.async false
set_option linter.all false
set_option maxRecDepth 100000
namespace L2
open PySem PySem.Spec PyProof.Rows
section
variable {prog : Program} {w : World} {A : Around} {E : Value → Shared → Prop} {s : Shared}
end
section
variable {X : Cx}
end
end L2
set_option Elab.async false
set_option linter.all false
set_option maxRecDepth 100000
namespace L2
open PySem PySem.Spec PyProof.Rows
section
variable {X : Cx}
end
end L2
set_option Elab.async false
set_option linter.all false
set_option maxRecDepth 100000
namespace L2
open PySem PySem.Spec PyProof.Rows
section
variable {X : Cx}
end
end L2
set_option Elab.async false
set_option linter.all false
set_option maxRecDepth 100000
namespace L2
open PySem PySem.Spec PyProof.Rows
section
variable {X : Cx}
end
end L2
set_option Elab.async false
set_option linter.all false
set_option maxRecDepth 100000
namespace L2
open PySem PySem.Spec PyProof.Rows
section
variable {X : Cx}
end
end L2
set_option Elab.async false
set_option linter.all false
set_option maxRecDepth 100000
namespace L2
open PySem PySem.Spec PyProof.Rows
section
variable {X : Cx}
def frzV : Vl → Vl
  | .lst x => .im (.fl x)
  | d => d
@[simp] theorem frzV_lst (x : List Im) : frzV (.lst x) = .im (.fl x) := rfl
@[simp] theorem frzV_im (d : Im) : frzV (.im d) = .im d := rfl
@[simp] def eFz (g : M Vl) : M Vl := fun D => (g D).map fun p => (frzV p.1, p.2)
theorem frz_stay {H : Hp} {a : Addr} {xs : List V} {ob : Obj} (k1 : H a = some (.lst xs)) : StayS H (upd H a (.frz ob (.lst xs))) := StayS.of (fun b xs e => by
    have : b ≠ a := fun z => by subst z; rw [k1] at e; cases e
    rw [upd_ne this]; exact e) fun b o u e => by
    have : b ≠ a := fun z => by subst z; rw [k1] at e; cases e
    rw [upd_ne this]; exact e
theorem ve_fz {e : Expr} {g : M Vl} (h : VE X e g) : VE X e (eFz g) := by
  intro pins s σ H Q I ⟨D, F, r, D', st, nd, hg, q⟩
  obtain ⟨⟨r0, D1⟩, h1, h2⟩ := Option.map_eq_some_iff.mp hg
  cases h2
  refine thn (h pins s σ H (fun v H1 => ∃ F1 R, StOk H1 D1 σ F1 ∧ Own H1 r0 v R ∧ Stp H F H1 (F1 ++ R)) I ⟨D, F, r0, D1, st, nd, h1, fun v H1 F1 R a b c => ⟨F1, R, a, b, c⟩⟩) fun u s1 ⟨v, H1, I1, rv, F1, R, st1, ow, s2⟩ => ?_
  cases r0 with
  | lst x =>
    obtain ⟨a, xs, rfl, k1, k2, rfl⟩ := ow
    cases rv
    obtain ⟨z, its, n, rel, f1⟩ := I1.hok a _ k1
    have I2 : Inv X pins σ (upd H1 a (.frz { cls := .type "list", data := .seq its.toArray n } (.lst xs))) s1 := I1.write (h' := s1.heap) (t' := s1.toks) (e := a) (by rw [k1]; trivial) (.inl rfl) (fun b u _ e => e) ⟨_, f1⟩ ⟨f1, z, its, n, rel, f1⟩
    have nd2 := List.nodup_append.mp s2.nd
    have hF2 : a ∉ F1 := fun z => nd2.2.2 a z a (.head _) rfl
    have stay := frz_stay (ob := { cls := .type "list", data := .seq its.toArray n }) k1
    refine ⟨.ref a, _, I2, rfl, q _ _ F1 [] (st1.mono stay fun b hb o e => by
        have ne : b ≠ a := fun z => by subst z; exact hF2 hb
        rw [upd_ne ne]; exact e) ⟨⟨a, xs, _, rfl, upd_same, k2.mono stay.tup⟩, rfl⟩ ?_⟩
    rw [List.append_nil]
    refine ⟨fun b o e hb => ?_, fun b hb => s2.sub b (List.mem_append_left _ hb), nd2.1, s2.tup.trans stay, fun b o e => ?_⟩
    · have : b ≠ a := fun z => by
        subst z
        rcases s2.sub b (List.mem_append_right _ (.head _)) with h | h
        · exact hb h
        · rw [e] at h; cases h
      rw [upd_ne this]
      exact s2.keep b o e hb
    · by_cases z : b = a
      · exact ⟨_, by rw [z]; exact upd_same⟩
      · obtain ⟨o', e'⟩ := s2.grow b o e
        exact ⟨o', by rw [upd_ne z]; exact e'⟩
  | _ => exact ⟨v, H1, I1, rv, q v H1 F1 R st1 ow s2⟩
theorem pe_callV {CX : CXT} {k : Nat} {f : Addr} {fd : FuncData} {ps : List Str} {sp : Sp} {E : XK} {x : Str} {p pos : Pos} {e : Expr} {es : List Expr} {tv : TE} {t : TA} {ds : List Value} {dvs : List V}
    (F : FnOk X.prog X.w X.K X.mg X.base CX k f fd ps sp) (hr : Room k X.A) (hv : PE X (.Name x p) tv) (hk : PySem.W.keepIn X.K (.ref f) = true) (hb : Binds X.K fd ps ds) (hd : Vals dvs ds) (hx : Passes CX X E)
    (ha : PA X (e :: es) t) (he : starEach (e :: es) X.env = (false, eval e X.env) :: starEach es X.env := by rfl) (hpl : (backTo pos (starEach es X.env)).any (·.1) = false := by rfl) :
    PE X (.Call (.Name x p) (e :: es) [] pos) (fun σ H Q => tv σ H fun v H1 => v = .ref f ∧ tCall sp dvs E t σ H1 Q) := by
  intro pins s σ H Q I h
  refine wpAny_Call_Name_kw (thn (hv pins s σ H _ I h) fun v s1 ⟨y, H1, I1, r1, e1, q1⟩ => ?_)
  subst e1
  cases r1
  refine PySem.W.callWith_K (h₀ := X.base) I1.ok.mod.kin hk (thn (ha pos pins s1 σ H1 _ I1 q1) fun us s2 ⟨vs, H2, I2, r, q⟩ => ⟨I2.kIn, ?_⟩) he hpl
  exact run_fn F hr hb hd hx I2 r q
@[simp] def eCallP (i : Nat) (f : Addr) (n : Nat) (G : Fn) (g : M (List Opd)) : M Vl := fun D => match D[i]? with
  | some (some (.im (.fn a))) => if a = f then eCall n G g D else none
  | _ => none
theorem ve_callP {i n k : Nat} {G : Fn} {f : Addr} {fd : FuncData} {ps : List Str} {x : Str} {p pos : Pos} {e : Expr} {es : List Expr} {g : M (List Opd)} (F : FnOk X.prog X.w X.K X.mg X.base CX0 k f fd ps (spV n G)) (hr : Room k X.A) (hv : PE X (.Name x p) (tVar i)) (hk : PySem.W.keepIn X.K (.ref f) = true) (hb : Binds X.K fd ps [])
    (ha : VA X (e :: es) g) (he : starEach (e :: es) X.env = (false, eval e X.env) :: starEach es X.env := by rfl) (hpl : (backTo pos (starEach es X.env)).any (·.1) = false := by rfl) :
    VE X (.Call (.Name x p) (e :: es) [] pos) (eCallP i f n G g) := by
  refine pe_imp (pe_callV F hr hv hk hb .nil pass0 ha he hpl) fun σ H Q ⟨D, F0, r, D', st, nd, hg, q⟩ => ?_
  unfold eCallP at hg
  split at hg
  · rename_i a hd
    split at hg
    · rename_i ha
      subst ha
      obtain ⟨v, F1, F2, h1, h2, h3, h4⟩ := st.out hd
      exact ⟨v, h1, h2.1, call_ok ⟨D, F0, r, D', st, nd, hg, q⟩⟩
    · cases hg
  · cases hg
end
end L2
set_option Elab.async false
set_option linter.all false
set_option maxRecDepth 100000
namespace HT
open PySem PySem.Spec PyProof.Rows
section
variable {prog : Program} {w : World} {A : Around} {E : Value → Shared → Prop} {s : Shared}
theorem places_rev (n : Nat) : Builtin.Slice.slicePlaces ((n : Int) - 1) (-1) (-1) = n := by
  unfold Builtin.Slice.slicePlaces
  rw [if_neg (by decide)]
  split
  · rw [show (- -1 : Int) = 1 by decide, Int.ediv_one]; omega
  · show (0 : Int).toNat = n
    omega
theorem revApplied {sl : Addr} {t : Tok} {n : Nat} {Q : Int × Int × Nat → Shared → Prop} (hs : s.heap.IsSliceOf sl .none .none (.int (-1) t)) (h : Q ((n : Int) - 1, -1, n) s) : wpAny (model prog w) A (Builtin.Slice.sliceApplied (.ref sl) (pure (n : Int))) Q E s := by
  obtain ⟨os, hos, hcs, hds⟩ := id hs
  unfold Builtin.Slice.sliceApplied Builtin.Slice.sliceFields
  refine wpAny_bind (wpAny_bind (wpAny_field hos hds (x := .none) rfl (wpAny_bind (wpAny_field hos hds (x := .none) rfl (wpAny_bind (wpAny_field hos hds (x := .int (-1) t) rfl (wpAny_pure ?_)))))))
  refine wpAny_bind (slicePart_int ?_)
  show wpAny _ _ (if ((-1 : Int) == 0) = true then _ else _) _ _ s
  rw [if_neg (by decide)]
  refine wpAny_bind (slicePart_none (wpAny_bind (slicePart_none (wpAny_bind (wpAny_pure ?_)))))
  show wpAny _ _ (pure ((n : Int) - 1, (-1 : Int), Builtin.Slice.slicePlaces ((n : Int) - 1) (-1) (-1))) _ _ s
  rw [places_rev]
  exact wpAny_pure h
theorem fm_congr {α β : Type} {f g : α → Option β} : ∀ (l : List α), (∀ x ∈ l, f x = g x) → l.filterMap f = l.filterMap g
  | [], _ => rfl
  | x :: r, h => by rw [List.filterMap_cons, List.filterMap_cons, h x (.head _), fm_congr r fun y hy => h y (.tail _ hy)]
theorem pick_rev (xs : Array Value) : ((List.range xs.size).filterMap fun (m : Nat) => xs[((xs.size : Int) - 1 + (m : Int) * (-1)).toNat]?).toArray = xs.toList.reverse.toArray := by
  have e : (List.range xs.size).filterMap (fun (m : Nat) => xs[((xs.size : Int) - 1 + (m : Int) * (-1)).toNat]?) = ((List.range xs.size).map fun k => xs.size - 1 - k).filterMap (xs[·]?) := by
    rw [List.filterMap_map]
    refine fm_congr _ fun k hk => ?_
    have := List.mem_range.mp hk
    show xs[_]? = xs[xs.size - 1 - k]?
    congr 1
    omega
  rw [e, PySem.W.krv_range, List.filterMap_reverse, PySem.W.krv_all]
theorem getItem_rev {t sl : Addr} {items : Array Value} {tk : Tok} {Q : Value → Shared → Prop} (ht : IsTup s.heap t items) (hs : s.heap.IsSliceOf sl .none .none (.int (-1) tk))
    (h : Q (.ref s.heap.objs.size) { s with heap := s.heap.push { cls := .type "tuple", data := .seq items.toList.reverse.toArray } })
    (hsz : items.size ≤ sizeLine) : wpAny (model prog w) A (getItem (.ref t) (.ref sl)) Q E s := by
  obtain ⟨os, hos, hcs, hds⟩ := id hs
  have hTs : s.TypeIs (.ref sl) "slice" := ⟨os, hos, hcs⟩
  unfold getItem
  try with_reducible refine wpAny_holding ?_
  first | refine wpAny_bind (wpAny_pure ?_) | skip
  refine wpAny_bind (wpAny_sequenceKey ht.typeIs (by decide) ?_)
  refine wpAny_bind (wpAny_callSpecial?_slot (name := Str.ofString "__getitem__") ht.typeIs PyProof.Rows.slot_tuple_getitem (wpAny_call_entry PyProof.Rows.slot_tuple_getitem ht.typeIs entry_tuple_getitem ?_ (args_tuple_getitem _ _)))
  show wpAny _ _ (Builtin.Tuple.tupleItemsOf (.ref t) >>= _) _ _ s
  refine wpAny_bind (tupleItemsOf_ ht (wpAny_bind (wpAny_typeOf hTs ?_)))
  rw [if_pos (by decide)]
  refine wpAny_bind (revApplied hs ?_)
  show wpAny _ _ (if (((items.size : Int) - 1) == 0 && (-1 : Int) == 1 && items.size == items.size) = true then _ else _) _ _ s
  rw [if_neg (by simp), pick_rev]
  have hz : sizeOk (.seq items.toList.reverse.toArray) := by
    show items.toList.reverse.toArray.size ≤ sizeLine
    simpa using hsz
  first
    | exact wpAny_bind (m := Builtin.Tuple.tupleExact _) (wpAny_newObj_type (wpAny_pure ⟨_, rfl, wpAny_pure h⟩) hz)
    | exact wpAny_bind (m := Builtin.Tuple.tupleExact _) (wpAny_newObj_type (wpAny_bind (wpAny_pure (wpAny_pure ⟨_, rfl, wpAny_pure h⟩))) hz)
    | exact wpAny_bind (wpAny_bind (m := Builtin.Tuple.tupleExact _) (wpAny_newObj_type (wpAny_pure (wpAny_pure ⟨_, rfl, wpAny_pure h⟩)) hz))
    | exact wpAny_bind (wpAny_bind (m := Builtin.Tuple.tupleExact _) (wpAny_newObj_type (wpAny_pure ⟨_, rfl, wpAny_pure h⟩) hz))
end
end HT
namespace L2
open PySem PySem.Spec PyProof.Rows
section
variable {X : Cx}
def tRev (K : PySem.W.Frag) (te ts : TE) : TE := fun σ H Q => te σ H fun x H1 => ts σ H1 fun y H2 => y = .int (-1) ∧ ∃ a xs, x = .ref a ∧ SqT K H2 a xs ∧ ∀ p, H2 p = none → Q (.ref p) (upd H2 p (.tup xs.reverse))
theorem pe_rev {e st : Expr} {te ts : TE} {p2 pos : Pos} (he : PE X e te) (hs : PE X st ts) : PE X (.Subscript e (.Slice none none (some st) p2) pos) (tRev X.K te ts) := by
  intro pins s σ H Q I h
  refine Subscript_ (thn (he pins s σ H _ I h) fun v s1 ⟨x, H1, I1, r1, q1⟩ => ?_)
  refine wpAny_Slice ?_
  rw [evalPart_none, evalPart_some]
  refine wpAny_pure (wpAny_pure ?_)
  refine thn (hs pins s1 σ H1 _ I1 q1) fun vs s2 ⟨y, H2, I2, r2, e1, a, xs, ex, hx, q⟩ => ?_
  subst e1 ex
  cases r1
  obtain ⟨t, rfl⟩ := r2
  have I3 : Inv X pins σ H2 { s2 with heap := s2.heap.push { cls := .type "slice", data := .fields #[.none, .none, .int (-1) t] } } := I2.kept (t' := s2.toks) fun b ob q => Heap.get?_push_of_some _ q
  obtain ⟨its, r, ht, hz⟩ := I3.tuple hx
  show wpAny (model X.prog X.w) X.A (subscriptTail e (.Slice none none (some st) p2) (.ref a) (.ref s2.heap.objs.size)) (EP X pins σ Q) X.xe { s2 with heap := s2.heap.push { cls := .type "slice", data := .fields #[.none, .none, .int (-1) t] } }
  refine tail_any (ops := [.ref a, .ref s2.heap.objs.size]) ht.typeIs PyProof.Rows.slot_tuple_getitem.lookup (HT.getItem_rev ht (Heap.IsSliceOf.new ..) ?_ (by rw [List.size_toArray, ← r.length]; exact hz)) (by with_unfolding_all rfl)
  refine ⟨.ref _, _, I3.laid (t' := s2.toks) (o := .tup xs.reverse) (fun b ob q => Heap.get?_push_of_some _ q) (Nat.le_refl _) ?_, rfl, q _ (I3.hok.fresh (Nat.le_refl _))⟩
  exact ⟨by rw [List.length_reverse]; exact hz, its.reverse, r.reverse, IsTup.new _ _⟩
theorem IsIs.rev {H : Hp} : ∀ {ds : List Im} {xs : List V}, IsIs H ds xs → IsIs H ds.reverse xs.reverse
  | [], xs, h => by cases (show xs = [] from h); rfl
  | d :: ds, xs, h => by
    obtain ⟨v, r, rfl, h1, h2⟩ := h
    rw [List.reverse_cons, List.reverse_cons]
    exact h2.rev.app ⟨v, [], rfl, h1, rfl⟩
@[simp] def eRev (g : M Opd) : M Vl := fun D => (g D).bind fun p => (rsl p.2 p.1).bind fun d => match d with
  | .im (.tup x) => some (.im (.tup x.reverse), p.2)
  | _ => none
theorem ve_rev {e st : Expr} {g : M Opd} {p2 pos : Pos} (he : VO X e g) (hs : VE X st (eNeg (eC (.int 1)))) : VE X (.Subscript e (.Slice none none (some st) p2) pos) (eRev g) := by
  refine pe_imp (pe_rev he hs) fun σ H Q ⟨D, F, r, D', st, nd, hg, q⟩ => ?_
  obtain ⟨⟨x, D1⟩, h1, h2⟩ := Option.bind_eq_some_iff.mp hg
  obtain ⟨d, h3, h4⟩ := Option.bind_eq_some_iff.mp h2
  split at h4
  · rename_i x'
    cases h4
    refine ⟨D, F, x, D1, st, nd, h1, fun v H1 F1 R st1 o1 s1 => ⟨D1, F1, .im (.int (-1)), D1, st1, (List.nodup_append.mp s1.nd).1, rfl, fun w H2 F2 R2 st2 ow2 s2 => ?_⟩⟩
    obtain ⟨e2, rfl⟩ := ow2
    rw [List.append_nil] at s2
    have o3 : OpdOk H2 σ x v R := o1.mono s2.tup fun a ha o e => s2.keep a o e fun h => (List.nodup_append.mp s1.nd).2.2 a h a ha rfl
    have s5 := s1.trans s2 o1.chg
    obtain ⟨p, xs, rfl, k1, k2⟩ := (o3.read st2 h3).i
    refine ⟨e2, p, xs, rfl, SqT.of k1, fun l hl => ?_⟩
    have s6 : Same H2 (upd H2 l (.tup xs.reverse)) := (Same.refl H2).upd hl
    exact q _ _ F2 [] (st2.mono s6.tupS fun a _ o e => s6 a o e) ⟨⟨l, _, rfl, upd_same, (k2.mono s6.tupS.tup).rev⟩, rfl⟩ (s5.new s6 List.nodup_nil (fun a ha => nomatch ha) st2.chg)
  · cases h4
end
end L2
set_option Elab.async false
set_option linter.all false
set_option maxRecDepth 100000
namespace L2
open PySem
@[simp] theorem eC_ap (d : Im) (D : SD) : eC d D = some (.im d, D) := rfl
@[simp] theorem aNil_ap (D : SD) : aNil D = some ([], D) := rfl
@[simp] theorem sNil_ap (D : SD) : sNil D = some (.nx, D) := rfl
@[simp] theorem pNone_ap (D : SD) : pNone D = some (none, D) := rfl
@[simp] theorem kYes_ap (D : SD) : kYes D = some (true, D) := rfl
@[simp] theorem cp_im (d : Im) : (Vl.im d).cp = true := rfl
@[simp] theorem cp_fz (d : List Im) : (Vl.fz d).cp = true := rfl
@[simp] theorem cp_lst (d : List Im) : (Vl.lst d).cp = false := rfl
@[simp] theorem cp_dT (d : List (List Im × Im)) : (Vl.dT d).cp = false := rfl
@[simp] theorem cp_dK (d : List (Key × Im)) : (Vl.dK d).cp = false := rfl
@[simp] theorem rsl_vl (D : SD) (d : Vl) : rsl D (.vl d) = some d := rfl
@[simp] theorem rsl_sl (D : SD) (i : Nat) : rsl D (.sl i) = (D[i]?).getD none := rfl
@[simp] theorem rsls_nil (D : SD) : rsls D [] = some [] := rfl
@[simp] theorem rsls_cons (D : SD) (o : Opd) (os : List Opd) : rsls D (o :: os) = (rsl D o).bind fun d => (rsls D os).map fun ds => d :: ds := rfl
@[simp] theorem gath_nil (D : SD) : gath [] D = some ([], D) := rfl
@[simp] theorem gath_vl (d : Vl) (os : List Opd) (D : SD) : gath (.vl d :: os) D = (gath os D).map fun p => (d :: p.1, p.2) := rfl
@[simp] theorem gath_sl (i : Nat) (os : List Opd) (D : SD) : gath (.sl i :: os) D = (eVar i D).bind fun p => (gath os p.2).map fun q => (p.1 :: q.1, q.2) := rfl
@[simp] theorem ims_nil : ims [] = some [] := rfl
@[simp] theorem ims_im (d : Im) (ds : List Vl) : ims (.im d :: ds) = (ims ds).map fun r => d :: r := rfl
@[simp] theorem asB_bl (b : Bool) : asB (.im (.bl b)) = some b := rfl
theorem mulOk_r {i j : Int} (h1 : -(2 ^ 64) < j) (h2 : j < 2 ^ 64) : mulOk i j = true := by
  have : Builtin.Int.intBits j ≤ 64 := intBits_le_64 h1 h2
  have h' : ¬ (Builtin.Int.intBits j > shortFactorBits) := Nat.not_lt.mpr this
  unfold mulOk
  rw [decide_eq_false h']
  simp
theorem mulOk_l {i j : Int} (h1 : -(2 ^ 64) < i) (h2 : i < 2 ^ 64) : mulOk i j = true := by
  have : Builtin.Int.intBits i ≤ 64 := intBits_le_64 h1 h2
  have h' : ¬ (Builtin.Int.intBits i > shortFactorBits) := Nat.not_lt.mpr this
  unfold mulOk
  rw [decide_eq_false h']
  simp
end L2
namespace L2
open PySem
theorem take_all {α : Type} {xs : List α} {n : Nat} (h : xs.length ≤ n) : xs.take n = xs := List.take_of_length_le h
theorem cut_from {α : Type} (xs : List α) (k : Nat) : cutL xs (some (k : Int)) none = xs.drop k := by
  unfold cutL
  rw [HT.sIx_nat, HT.sIx_none]
  by_cases h : k ≤ xs.length
  · rw [Nat.min_eq_left h, take_all (by rw [List.length_drop]; omega)]
  · rw [Nat.min_eq_right (by omega), Nat.sub_self, List.take_zero, List.drop_of_length_le (by omega)]
theorem cut_to {α : Type} (xs : List α) (k : Nat) : cutL xs none (some (k : Int)) = xs.take k := by
  unfold cutL
  rw [HT.sIx_nat, HT.sIx_none, List.drop_zero, Nat.sub_zero]
  by_cases h : k ≤ xs.length
  · rw [Nat.min_eq_left h]
  · rw [Nat.min_eq_right (by omega), List.take_length, take_all (by omega)]
theorem cut_butlast {α : Type} (xs : List α) : cutL xs none (some (-1)) = xs.dropLast := by
  unfold cutL HT.sIx
  simp only [List.drop_zero, Nat.sub_zero]
  rw [if_pos (by decide), List.dropLast_eq_take]
  congr 1
  omega
theorem atI_pos {α : Type} {xs : List α} {i : Int} {d : α} (h0 : 0 ≤ i) (h : xs[i.toNat]? = some d) : atI xs i = some d := by
  unfold atI ixN
  have hi : i.toNat < xs.length := (List.getElem?_eq_some_iff.mp h).1
  rw [if_pos h0, if_pos (by omega)]
  exact h
theorem atI_end {α : Type} {xs : List α} {d : α} (h : xs.getLast? = some d) : atI xs (-1) = some d := by
  rw [List.getLast?_eq_getElem?] at h
  have hi : xs.length - 1 < xs.length := (List.getElem?_eq_some_iff.mp h).1
  unfold atI ixN
  rw [if_neg (by decide), if_pos (by omega)]
  show xs[(-1 + (xs.length : Int)).toNat]? = some d
  rw [show (-1 + (xs.length : Int)).toNat = xs.length - 1 by omega]
  exact h
theorem forL_inv {tg : MG} {b : MS} (I : Nat → SD → Prop) (R : Vl → SD → Prop) : ∀ {xs : List Im} {D : SD}, I 0 D →
    (∀ (i : Nat) (x : Im) (D : SD), xs[i]? = some x → I i D → ∃ D1 fl D2, tg (.im x) D = some D1 ∧ b D1 = some (fl, D2) ∧ (((fl = .nx ∨ fl = .ct) ∧ I (i + 1) D2) ∨ ∃ d, fl = .rt d ∧ R d D2)) →
    (∃ D', forL tg b xs D = some (.nx, D') ∧ I xs.length D') ∨ ∃ d D', forL tg b xs D = some (.rt d, D') ∧ R d D' := by
  intro xs
  induction xs generalizing I with
  | nil => intro D h0 _; exact .inl ⟨D, rfl, h0⟩
  | cons x r ih =>
    intro D h0 h
    obtain ⟨D1, fl, D2, h1, h2, h3⟩ := h 0 x D rfl h0
    rcases h3 with ⟨hf, hI⟩ | ⟨d, rfl, hR⟩
    · have := ih (fun i => I (i + 1)) (D := D2) hI fun i y D' hy hI' => h (i + 1) y D' (by simpa using hy) hI'
      have e : forL tg b (x :: r) D = forL tg b r D2 := by
        rw [forL]
        dsimp only
        rw [h1]
        show (b D1).bind _ = _
        rw [h2]
        rcases hf with rfl | rfl <;> rfl
      rw [e]
      exact this
    · refine .inr ⟨d, D2, ?_, hR⟩
      rw [forL]
      dsimp only
      rw [h1]
      show (b D1).bind _ = _
      rw [h2]
      rfl
theorem forL_go {tg : MG} {b : MS} (I : Nat → SD → Prop) {xs : List Im} {D : SD} (h0 : I 0 D)
    (h : ∀ (i : Nat) (x : Im) (D : SD), xs[i]? = some x → I i D → ∃ D1 fl D2, tg (.im x) D = some D1 ∧ b D1 = some (fl, D2) ∧ (fl = .nx ∨ fl = .ct) ∧ I (i + 1) D2) :
    ∃ D', forL tg b xs D = some (.nx, D') ∧ I xs.length D' := by
  rcases forL_inv I (fun _ _ => False) h0 (fun i x D hx hI => by
    obtain ⟨D1, fl, D2, h1, h2, h3, h4⟩ := h i x D hx hI
    exact ⟨D1, fl, D2, h1, h2, .inl ⟨h3, h4⟩⟩) with h | ⟨_, _, _, h⟩
  · exact h
  · exact h.elim
theorem whileN_inv {c : M Bool} {b : MS} (I : Nat → SD → Prop) (Post : SD → Prop) (step : ∀ m D, I m D → ∃ t D1, c D = some (t, D1) ∧ (t = true → ∃ fl D2, b D1 = some (fl, D2) ∧ (fl = .nx ∨ fl = .ct) ∧ ∃ m', m' < m ∧ I m' D2) ∧ (t = false → Post D1)) :
    ∀ (n m : Nat) (D : SD), I m D → m < n → ∃ D', whileN c b n D = some (.nx, D') ∧ Post D' := by
  intro n
  induction n with
  | zero => intro m D _ h; omega
  | succ n ih =>
    intro m D hI hm
    obtain ⟨t, D1, h1, h2, h3⟩ := step m D hI
    rw [whileN]
    dsimp only
    rw [h1]
    cases t with
    | false => exact ⟨D1, rfl, h3 rfl⟩
    | true =>
      obtain ⟨fl, D2, h4, hf, m', hm', hI'⟩ := h2 rfl
      obtain ⟨D', h5, h6⟩ := ih m' D2 hI' (by omega)
      refine ⟨D', ?_, h6⟩
      simp only [Option.bind_some, if_true, h4]
      rcases hf with rfl | rfl <;> exact h5
theorem filter_true {α : Type} (xs : List α) : xs.filter (fun _ => true) = xs := List.filter_eq_self.mpr fun _ _ => rfl
end L2
namespace L2
open PySem
theorem sSeq_nx {g h : MS} {D D1 : SD} (e : g D = some (.nx, D1)) : sSeq g h D = h D1 := by unfold sSeq; rw [e]; rfl
theorem sSeq_rt {g h : MS} {D D1 : SD} {d : Vl} (e : g D = some (.rt d, D1)) : sSeq g h D = some (.rt d, D1) := by unfold sSeq; rw [e]; rfl
theorem sFor_eq {g : MI} {tg : MG} {b : MS} {D D1 D2 : SD} {xs : List Im} {o : Option (Nat × Vl)} {fl : Fl} (e : g D = some ((xs, o), D1)) (h : forL tg b xs D1 = some (fl, D2)) : sFor g tg b D = some (fl, rst o D2) := by
  unfold sFor; rw [e]; show (forL tg b xs D1).map _ = _; rw [h]; rfl
theorem runF_rt {n m : Nat} {fix : List Nat} {g : MS} {ds : List Vl} {D : SD} {r : Vl} (hl : ds.length = n) (e : g (ds.map some ++ List.replicate (m - n) none) = some (.rt r, D)) : runF n m fix g ds = some (r, outsF fix ds D 0) := by
  unfold runF; rw [if_pos hl, e]
theorem eComp_eq {own : Nat} {caps : List Nat} {gi : MI} {tg : MG} {c : M Bool} {e : M Vl} {D D1 C' : SD} {xs ds : List Im} {o : Option (Nat × Vl)} (h1 : gi D = some ((xs, o), D1)) (h2 : compL own tg c e xs [] (capD caps D1) = some (ds, C')) : eComp own caps gi tg c e D = some (.lst ds, rst o (putAll caps C' D1)) := by
  unfold eComp; rw [h1]; show (compL own tg c e xs [] (capD caps D1)).map _ = _; rw [h2]; rfl
theorem sRet_eq {g : M Vl} {D D1 : SD} {d : Vl} (e : g D = some (d, D1)) : sRet g D = some (.rt d, D1) := by unfold sRet; rw [e]; rfl
theorem sIf_t {c : M Bool} {a b : MS} {D D1 : SD} (e : c D = some (true, D1)) : sIf c a b D = a D1 := by unfold sIf; rw [e]; rfl
theorem sIf_f {c : M Bool} {a b : MS} {D D1 : SD} (e : c D = some (false, D1)) : sIf c a b D = b D1 := by unfold sIf; rw [e]; rfl
end L2
namespace L2
open PySem
theorem runF_is {n m : Nat} {fix : List Nat} {g : MS} {ds : List Vl} (D : SD) {r : Vl} {outs : List Vl} (hl : ds.length = n) (e : g (ds.map some ++ List.replicate (m - n) none) = some (.rt r, D)) (ho : outsF fix ds D 0 = outs) : runF n m fix g ds = some (r, outs) := by
  rw [runF_rt hl e, ho]
end L2
namespace L2
open PySem
theorem compL_fmT {α : Type} {own : Nat} {tg : MG} {c : M Bool} {e : M Vl} {C : SD} (φ : α → Im) (p : α → Bool) (f : α → Im) : ∀ (xs : List α) (acc : List Im), (∀ x ∈ xs, ∃ D1 D2, tg (.im (φ x)) (List.replicate own none ++ C) = some D1 ∧ c D1 = some (p x, D2) ∧ (p x = false → D2.drop own = C) ∧ (p x = true → ∃ D3, e D2 = some (.im (f x), D3) ∧ D3.drop own = C)) →
    acc.length + xs.length ≤ 100000 → compL own tg c e (xs.map φ) acc C = some (acc ++ (xs.filter p).map f, C)
  | [], acc, _, _ => by simp [compL]
  | x :: r, acc, h, hl => by
    obtain ⟨D1, D2, h1, h2, h3, h4⟩ := h x (.head _)
    rw [List.length_cons] at hl
    rw [List.map_cons, compL, h1]
    show (c D1).bind _ = _
    rw [h2]
    show (if p x = true then _ else _) = _
    cases hp : p x with
    | false =>
      rw [if_neg Bool.false_ne_true]
      show compL own tg c e (r.map φ) acc (D2.drop own) = _
      rw [h3 hp, compL_fmT φ p f r acc (fun y hy => h y (.tail _ hy)) (by omega), List.filter_cons, hp]
      rfl
    | true =>
      obtain ⟨D3, h5, h6⟩ := h4 hp
      rw [if_pos rfl]
      show (e D2).bind _ = _
      rw [h5]
      show (if acc.length < 100000 then compL own tg c e (r.map φ) (acc ++ [f x]) (D3.drop own) else none) = _
      rw [if_pos (by omega), h6, compL_fmT φ p f r (acc ++ [f x]) (fun y hy => h y (.tail _ hy)) (by rw [List.length_append, List.length_singleton]; omega), List.filter_cons, hp]
      simp
theorem compL_mapT {α : Type} {own : Nat} {tg : MG} {c : M Bool} {e : M Vl} {C : SD} (φ : α → Im) (f : α → Im) (xs : List α) (h : ∀ x ∈ xs, ∃ D1 D2 D3, tg (.im (φ x)) (List.replicate own none ++ C) = some D1 ∧ c D1 = some (true, D2) ∧ e D2 = some (.im (f x), D3) ∧ D3.drop own = C)
    (hl : xs.length ≤ 100000) : compL own tg c e (xs.map φ) [] C = some (xs.map f, C) := by
  have := compL_fmT (own := own) (tg := tg) (c := c) (e := e) (C := C) φ (fun _ => true) f xs [] (fun x hx => by
    obtain ⟨D1, D2, D3, h1, h2, h3, h4⟩ := h x hx
    exact ⟨D1, D2, h1, h2, (fun z => by cases z), (fun _ => ⟨D3, h3, h4⟩)⟩) (by rw [List.length_nil]; omega)
  rw [filter_true] at this
  exact this
theorem zipI_map {α β : Type} (φ : α → Im) (ψ : β → Im) : ∀ (xs : List α) (ys : List β), zipI (xs.map φ) (ys.map ψ) = (xs.zip ys).map fun p => .tup [φ p.1, ψ p.2]
  | [], ys => by simp [zipI]
  | x :: xs, [] => by simp [zipI]
  | x :: xs, y :: ys => by simp [zipI, zipI_map φ ψ xs ys]
theorem cut_map {α β : Type} (f : α → β) (xs : List α) (lo hi : Option Int) : cutL (xs.map f) lo hi = (cutL xs lo hi).map f := by
  unfold cutL
  rw [List.length_map, List.map_take, List.map_drop]
end L2
set_option Elab.async false
set_option linter.all false
set_option maxRecDepth 100000
namespace G
open PySem L2
def e_between_1 : M Vl := (eBin vMod (oV (eBin vSub (oV (eBin vSub (oSl 1) (oSl 0))) (oV (eC (.int 1))))) (oSl 2))
def g_between : MS := (sRet (eComp 2 [0] (iZ (aCons (oSl 1) (aCons (oV (eBin vAdd (oV (eSl (oSl 1) (pSome (eC (.int 1))) pNone)) (oV (eSl (oSl 1) pNone (pSome (eC (.int 1))))))) aNil))) (gT 2 (gCons' (gN 0) (gCons' (gN 1) gNil'))) kYes G.e_between_1))
def F_between : Fn := runF 2 2 [0, 1] g_between
def g_room : MS := (sSeq (sIf (kB (eBin vGt (oSl 1) (oSl 0))) (sRet (eC .non)) sNil) (sSeq (sIf (kB (eBin vLe (oV (eBin vMul (oSl 1) (oV (eC (.int 3))))) (oSl 0))) (sRet (eBin vSub (oSl 0) (oV (eBin vMul (oSl 1) (oV (eC (.int 2))))))) sNil) (sRet (eBin vDiv (oV (eBin vSub (oSl 0) (oSl 1))) (oV (eC (.int 2)))))))
def F_room : Fn := runF 2 2 [0, 1] g_room
def g_greatest_left : MS := (sRet (eCallB vMin2 (aCons (oSl 1) (aCons (oV (eBin vIx (oSl 0) (oV (eNeg (eC (.int 1)))))) aNil))))
def F_greatest_left : Fn := runF 2 2 [0, 1] g_greatest_left
def b_row_from_1 : MS := (sSeq (sSet 5 (eCall 2 G.F_room (aCons (oSl 1) (aCons (oV (eBin vIx (oSl 3) (oV (eNeg (eC (.int 1)))))) aNil)))) (sSeq (sIf (kB (eBin (oIs false) (oSl 5) (oV (eC .non)))) (sRet (eCallB vTuple (aCons (oSl 3) aNil))) sNil) (sExpr (eMut listy 3 mAppend (aCons (oV (eCallB vMax2 (aCons (oV (eC (.int 0))) (aCons (oV (eBin vSub (oSl 4) (oSl 5))) aNil)))) aNil)))))
def g_row_from : MS := (sSeq (sSet 3 (eLst (aCons (oSl 2) aNil))) (sSeq (sFor (iOpd (oV (eSl (oSl 0) pNone (pSome (eNeg (eC (.int 1))))))) (gN 4) G.b_row_from_1) (sRet (eCallB vTuple (aCons (oSl 3) aNil)))))
def F_row_from : Fn := runF 3 6 [0, 1, 2] g_row_from
def g_goes_through : MS := (sSeq (sSet 3 (eCall 2 G.F_room (aCons (oSl 1) (aCons (oV (eBin vIx (oSl 2) (oV (eNeg (eC (.int 1)))))) aNil)))) (sRet (eB (kAnd (kB (eBin (oIs true) (oSl 3) (oV (eC .non)))) (kB (eBin vGe (oV (eBin vAdd (oSl 3) (oV (eBin vIx (oSl 2) (oV (eC (.int 0))))))) (oV (eBin vIx (oSl 0) (oV (eNeg (eC (.int 1))))))))))))
def F_goes_through : Fn := runF 3 4 [0, 1, 2] g_goes_through
def e_rows_of_1 : M Vl := (eCall 3 G.F_row_from (aCons (oSl 1) (aCons (oSl 2) (aCons (oSl 0) aNil))))
def g_rows_of : MS := (sRet (eComp 1 [0, 1] (iR1 (aCons (oV (eBin vAdd (oV (eCall 2 G.F_greatest_left (aCons (oSl 0) (aCons (oSl 1) aNil)))) (oV (eC (.int 1))))) aNil)) (gN 0) kYes G.e_rows_of_1))
def F_rows_of : Fn := runF 2 2 [0, 1] g_rows_of
def e_rows_through_1 : M Vl := (eVar 0)
def c_rows_through_2 : M Bool := (kTru (oV (eCall 3 G.F_goes_through (aCons (oSl 1) (aCons (oSl 2) (aCons (oSl 0) aNil))))))
def g_rows_through : MS := (sRet (eComp 1 [0, 1] (iOpd (oV (eCall 2 G.F_rows_of (aCons (oSl 0) (aCons (oSl 1) aNil))))) (gN 0) G.c_rows_through_2 G.e_rows_through_1))
def F_rows_through : Fn := runF 2 2 [0, 1] g_rows_through
def k_least_time_1 : M Bool := (kB (eBin vLt (oSl 3) (oSl 4)))
def b_least_time_2 : MS := (sSeq (sSet 5 (eBin vDiv (oV (eBin vAdd (oSl 3) (oSl 4))) (oV (eC (.int 2))))) (sIf (kTru (oV (eCall 2 G.F_rows_through (aCons (oSl 2) (aCons (oSl 5) aNil))))) (sSet 4 (eVar 5)) (sSet 3 (eBin vAdd (oSl 5) (oV (eC (.int 1)))))))
def g_least_time : MS := (sSeq (sSet 2 (eCall 2 G.F_between (aCons (oSl 0) (aCons (oSl 1) aNil)))) (sSeq (sSet 3 (eC (.int 0))) (sSeq (sSet 4 (eBin vSub (oSl 0) (oV (eC (.int 1))))) (sSeq (whileN G.k_least_time_1 G.b_least_time_2 1000000) (sRet (eVar 3))))))
def F_least_time : Fn := runF 2 6 [0, 1] g_least_time
def e_too_little_1 : M Vl := (eCall 3 G.F_goes_through (aCons (oSl 1) (aCons (oSl 2) (aCons (oSl 0) aNil))))
def g_too_little : MS := (sSeq (sSet 3 (eCall 2 G.F_between (aCons (oSl 0) (aCons (oSl 1) aNil)))) (sSeq (sSet 4 (eCall 2 G.F_rows_of (aCons (oSl 3) (aCons (oSl 2) aNil)))) (sSeq (sIf (kTru (oV (eCallB vAny (aCons (oV (eComp 1 [3, 2] (iOpd (oSl 4)) (gN 0) kYes G.e_too_little_1)) aNil)))) (sRet (eC .non)) sNil) (sRet (eCallB vTuple (aCons (oSl 4) aNil))))))
def F_too_little : Fn := runF 3 5 [0, 1, 2] g_too_little
def g_l_hand : MS := (sSeq (sSet 2 (eC (.int 0))) (sSeq (sIf (kB (eBin vLt (oSl 1) (oV (eCallB vLen (aCons (oSl 0) aNil))))) (sSet 2 (eBin vIx (oSl 0) (oSl 1))) sNil) (sSeq (sSet 3 (eBin vMul (oV (eBin vMul (oV (eBin vPow (oV (eC (.int 10))) (oV (eC (.int 60))))) (oV (eBin vPow (oV (eC (.int 10))) (oV (eC (.int 60))))))) (oV (eBin vPow (oV (eC (.int 10))) (oV (eC (.int 60))))))) (sSeq (sSet 4 (eBin vMul (oV (eBin vMod (oSl 2) (oSl 3))) (oV (eCallB vInt (aCons (oV (eBin vGe (oSl 2) (oV (eBin vPow (oV (eC (.int 10))) (oV (eC (.int 18))))))) aNil))))) (sRet (eLst (aCons (oSl 4) (aCons (oV (eBin vAdd (oV (eBin vAdd (oV (eBin vMod (oSl 2) (oV (eC (.int 2305843009213693951))))) (oV (eBin vMul (oV (eC (.int 7919))) (oSl 1))))) (oV (eC (.int 3))))) (aCons (oV (eC (.int 0))) aNil)))))))))
def F_l_hand : Fn := runF 2 5 [0, 1] g_l_hand
def g_l_take : MS := (sSeq (sIf (kB (eBin vGt (oV (eBin vIx (oSl 0) (oV (eC (.int 0))))) (oV (eC (.int 0))))) (sSeq (sSet 2 (eBin vMod (oV (eBin vIx (oSl 0) (oV (eC (.int 0))))) (oSl 1))) (sSeq (sAsg (eBin vDiv (oV (eBin vIx (oSl 0) (oV (eC (.int 0))))) (oSl 1)) (gIx 0 (eC (.int 0)) putV)) (sRet (eVar 2)))) sNil) (sSeq (sAsg (eBin vAdd (oV (eBin vIx (oSl 0) (oV (eC (.int 2))))) (oV (eC (.int 1)))) (gIx 0 (eC (.int 2)) putV)) (sSeq (sSet 3 (eBin vIx (oSl 0) (oV (eC (.int 2))))) (sSeq (sSet 4 (eBin vMod (oV (eBin vMul (oV (eBin vIx (oSl 0) (oV (eC (.int 1))))) (oV (eBin vAdd (oV (eBin vAdd (oV (eC (.int 48271))) (oV (eBin vMul (oV (eBin vMul (oV (eC (.int 2))) (oSl 3))) (oSl 3))))) (oV (eBin vMul (oV (eC (.int 65537))) (oSl 3))))))) (oV (eC (.int 2305843009213693921))))) (sSeq (sSet 5 (eBin vAdd (oV (eBin vAdd (oV (eBin vMod (oSl 4) (oV (eC (.int 1000003))))) (oV (eBin vMul (oSl 3) (oV (eC (.int 99991))))))) (oV (eC (.int 11))))) (sSeq (sSet 4 (eBin vMod (oV (eBin vMul (oSl 4) (oSl 5))) (oV (eC (.int 2305843009213693907))))) (sRet (eBin vMod (oV (eBin vAdd (oV (eBin vDiv (oSl 4) (oV (eC (.int 97))))) (oV (eBin vDiv (oSl 4) (oV (eC (.int 1000033))))))) (oSl 1)))))))))
def F_l_take : Fn := runF 2 6 [0, 1] g_l_take
def g_l_of : MS := (sRet (eBin vIx (oSl 1) (oV (eCall 2 G.F_l_take (aCons (oSl 0) (aCons (oV (eCallB vLen (aCons (oSl 1) aNil))) aNil))))))
def F_l_of : Fn := runF 2 2 [0, 1] g_l_of
def b_l_ring_of_1 : MS := (sSeq (sSet 6 (eCall 2 G.F_l_take (aCons (oSl 0) (aCons (oV (eCallB vLen (aCons (oSl 3) aNil))) aNil)))) (sSeq (sIf (kAnd (kB (eBin vGt (oSl 5) (oV (eC (.int 0))))) (kB (eBin vEq (oV (eCall 2 G.F_l_take (aCons (oSl 0) (aCons (oV (eC (.int 4))) aNil)))) (oV (eC (.int 0)))))) (sSet 6 (eCallB vMin3 (aCons (oSl 6) (aCons (oV (eBin vSub (oV (eCallB vLen (aCons (oSl 3) aNil))) (oV (eC (.int 1))))) (aCons (oV (eC (.int 1))) aNil))))) sNil) (sExpr (eMut listy 4 mAppend (aCons (oV (eMut listy 3 mPopAt (aCons (oSl 6) aNil))) aNil)))))
def g_l_ring_of : MS := (sSeq (sSet 1 (eBin vAdd (oV (eC (.int 1))) (oV (eCall 2 G.F_l_take (aCons (oSl 0) (aCons (oV (eCall 2 G.F_l_of (aCons (oSl 0) (aCons (oV (eLst (aCons (oV (eC (.int 4))) (aCons (oV (eC (.int 10))) (aCons (oV (eC (.int 20))) (aCons (oV (eC (.int 20))) (aCons (oV (eC (.int 40))) (aCons (oV (eC (.int 40))) (aCons (oV (eC (.int 40))) (aCons (oV (eC (.int 200))) aNil)))))))))) aNil)))) aNil)))))) (sSeq (sSet 2 (eBin vAdd (oV (eC (.int 1))) (oV (eCall 2 G.F_l_take (aCons (oSl 0) (aCons (oV (eCallB vMin2 (aCons (oSl 1) (aCons (oV (eCall 2 G.F_l_of (aCons (oSl 0) (aCons (oV (eLst (aCons (oV (eC (.int 2))) (aCons (oV (eC (.int 3))) (aCons (oV (eC (.int 4))) (aCons (oV (eC (.int 8))) aNil)))))) aNil)))) aNil)))) aNil)))))) (sSeq (sSet 3 (eListRange1 (aCons (oSl 1) aNil))) (sSeq (sSet 4 (eLst aNil)) (sSeq (sFor (iR1 (aCons (oSl 2) aNil)) (gN 5) G.b_l_ring_of_1) (sRet (eTup (aCons (oSl 1) (aCons (oV (eCallB vTuple (aCons (oV (eCallB vSorted (aCons (oSl 4) aNil))) aNil))) aNil)))))))))
def F_l_ring_of : Fn := runF 1 7 [0] g_l_ring_of
def g_l_steps : MS := (sRet (eBin vAdd (oV (eBin vAdd (oSl 0) (oSl 1))) (oV (eCallB vMin2 (aCons (oSl 0) (aCons (oSl 1) aNil))))))
def F_l_steps : Fn := runF 2 2 [0, 1] g_l_steps
def b_l_between_1 : MS := (sSeq (sSet 5 (eBin vIx (oSl 1) (oV (eBin vMod (oV (eBin vAdd (oSl 3) (oV (eC (.int 1))))) (oV (eCallB vLen (aCons (oSl 1) aNil))))))) (sExpr (eMut listy 2 mAppend (aCons (oV (eBin vMod (oV (eBin vSub (oV (eBin vSub (oSl 5) (oSl 4))) (oV (eC (.int 1))))) (oSl 0))) aNil))))
def g_l_between : MS := (sSeq (sSet 2 (eLst aNil)) (sSeq (sFor (iE (aCons (oSl 1) aNil)) (gT 2 (gCons' (gN 3) (gCons' (gN 4) gNil'))) G.b_l_between_1) (sRet (eVar 2))))
def F_l_between : Fn := runF 2 6 [0, 1] g_l_between
def k_l_rooms_1 : M Bool := (kB (eBin vGt (oV (eCall 2 G.F_l_steps (aCons (oSl 3) (aCons (oSl 2) aNil)))) (oSl 0)))
def b_l_rooms_2 : MS := (sSet 2 (eBin vSub (oSl 2) (oV (eC (.int 1)))))
def b_l_rooms_3 : MS := (sSeq (whileN G.k_l_rooms_1 G.b_l_rooms_2 1000000) (sExpr (eMut listy 1 mAppend (aCons (oSl 2) aNil))))
def g_l_rooms : MS := (sSeq (sSet 1 (eLst aNil)) (sSeq (sSet 2 (eVar 0)) (sSeq (sFor (iR1 (aCons (oV (eBin vAdd (oSl 0) (oV (eC (.int 1))))) aNil)) (gN 3) G.b_l_rooms_3) (sRet (eVar 1)))))
def F_l_rooms : Fn := runF 1 4 [0] g_l_rooms
def b_l_row_1 : MS := (sSeq (sIf (kB (eBin vGe (oV (eBin vIx (oSl 3) (oV (eNeg (eC (.int 1)))))) (oV (eCallB vLen (aCons (oSl 1) aNil))))) (sRet (eCallB vTuple (aCons (oSl 3) aNil))) sNil) (sExpr (eMut listy 3 mAppend (aCons (oV (eCallB vMax2 (aCons (oV (eC (.int 0))) (aCons (oV (eBin vSub (oSl 4) (oV (eBin vIx (oSl 1) (oV (eBin vIx (oSl 3) (oV (eNeg (eC (.int 1)))))))))) aNil)))) aNil))))
def g_l_row : MS := (sSeq (sSet 3 (eLst (aCons (oSl 2) aNil))) (sSeq (sFor (iOpd (oV (eSl (oSl 0) pNone (pSome (eNeg (eC (.int 1))))))) (gN 4) G.b_l_row_1) (sRet (eCallB vTuple (aCons (oSl 3) aNil)))))
def F_l_row : Fn := runF 3 5 [0, 1, 2] g_l_row
def e_l_all_rows_1 : M Vl := (eCall 3 G.F_l_row (aCons (oSl 1) (aCons (oSl 2) (aCons (oSl 0) aNil))))
def g_l_all_rows : MS := (sSeq (sAsg (eTup (aCons (oV (eCall 2 G.F_l_between (aCons (oSl 0) (aCons (oSl 1) aNil)))) (aCons (oV (eCall 1 G.F_l_rooms (aCons (oSl 2) aNil))) aNil))) (gT 2 (gCons' (gN 3) (gCons' (gN 4) gNil')))) (sSeq (sSet 5 (eCallB vMin2 (aCons (oSl 2) (aCons (oV (eBin vIx (oSl 3) (oV (eNeg (eC (.int 1)))))) aNil)))) (sRet (eCallB vTuple (aCons (oV (eComp 1 [3, 4] (iR1 (aCons (oV (eBin vAdd (oSl 5) (oV (eC (.int 1))))) aNil)) (gN 0) kYes G.e_l_all_rows_1)) aNil)))))
def F_l_all_rows : Fn := runF 3 6 [0, 1, 2] g_l_all_rows
def b_l_rows_1 : MS := (sIf (kAnd (kB (eBin vEq (oV (eCallB vLen (aCons (oSl 6) aNil))) (oV (eCallB vLen (aCons (oSl 1) aNil))))) (kB (eBin vLt (oV (eBin vIx (oSl 6) (oV (eNeg (eC (.int 1)))))) (oV (eCallB vLen (aCons (oSl 4) aNil)))))) (sIf (kB (eBin vGe (oV (eBin vAdd (oV (eBin vIx (oSl 4) (oV (eBin vIx (oSl 6) (oV (eNeg (eC (.int 1)))))))) (oV (eBin vIx (oSl 6) (oV (eC (.int 0))))))) (oV (eBin vIx (oSl 3) (oV (eNeg (eC (.int 1)))))))) (sRet (eC .non)) sNil) sNil)
def g_l_rows : MS := (sSeq (sPar 3 4 (aCons (oV (eCall 2 G.F_l_between (aCons (oSl 0) (aCons (oSl 1) aNil)))) (aCons (oV (eCall 1 G.F_l_rooms (aCons (oSl 2) aNil))) aNil))) (sSeq (sSet 5 (eCall 3 G.F_l_all_rows (aCons (oSl 0) (aCons (oSl 1) (aCons (oSl 2) aNil))))) (sSeq (sFor (iOpd (oSl 5)) (gN 6) G.b_l_rows_1) (sRet (eVar 5)))))
def F_l_rows : Fn := runF 3 7 [0, 1, 2] g_l_rows
def e_l_same_1 (rec : Fn) : M Vl := (eCall 2 rec (aCons (oSl 0) (aCons (oSl 1) aNil)))
def g_l_same (rec : Fn) : MS := (sSeq (sIf (kTru (oV (eIsi "tuple" (oSl 1)))) (sSeq (sIf (kOr (kNot (kTru (oV (eIsi "tuple" (oSl 0))))) (kB (eBin vNe (oV (eCallB vLen (aCons (oSl 0) aNil))) (oV (eCallB vLen (aCons (oSl 1) aNil)))))) (sRet (eC (.bl false))) sNil) (sRet (eCallB vAll (aCons (oV (eComp 2 [] (iZ (aCons (oSl 0) (aCons (oSl 1) aNil))) (gT 2 (gCons' (gN 0) (gCons' (gN 1) gNil'))) kYes (G.e_l_same_1 rec))) aNil)))) sNil) (sSeq (sIf (kB (eBin (oIs false) (oSl 1) (oV (eC .non)))) (sRet (eBin (oIs false) (oSl 0) (oV (eC .non)))) sNil) (sSeq (sIf (kTru (oV (eIsi "str" (oSl 1)))) (sRet (eB (kAnd (kB (eIsi "str" (oSl 0))) (kB (eBin vEq (oSl 0) (oSl 1)))))) sNil) (sRet (eB (kAnd (kB (eIsi "int" (oSl 0))) (kAnd (kB (eB (kNot (kB (eIsi "bool" (oSl 0)))))) (kB (eBin vEq (oSl 0) (oSl 1))))))))))
def F_l_same : Nat → Fn
  | 0 => fun _ => none
  | k + 1 => runF 2 2 [0, 1] (g_l_same (F_l_same k))
end G
set_option Elab.async false
set_option linter.all false
set_option maxRecDepth 100000
namespace G
open PySem L2
end G
set_option Elab.async false
set_option linter.all false
set_option maxRecDepth 100000
namespace G
open PySem L2
end G
set_option Elab.async false
set_option linter.all false
set_option maxRecDepth 100000
namespace G
open PySem L2
def g_is_whole : MS := (sRet (eB (kAnd (kB (eIsi "int" (oSl 0))) (kB (eB (kNot (kB (eIsi "bool" (oSl 0)))))))))
def F_is_whole : Fn := runF 1 1 [0] g_is_whole
def e_is_rising_1 (f_is_whole : Addr) : M Vl := (eCallP 1 f_is_whole 1 G.F_is_whole (aCons (oSl 0) aNil))
def e_is_rising_2 (f_is_whole : Addr) : M Vl := (eBin vLt (oSl 0) (oSl 1))
def g_is_rising (f_is_whole : Addr) : MS := (sSeq (sIf (kOr (kNot (kTru (oV (eIsi "tuple" (oSl 0))))) (kNot (kTru (oV (eCallB vAll (aCons (oV (eComp 1 [1] (iOpd (oSl 0)) (gN 0) kYes (G.e_is_rising_1 f_is_whole))) aNil)))))) (sRet (eC (.bl false))) sNil) (sRet (eCallB vAll (aCons (oV (eComp 2 [] (iZ (aCons (oSl 0) (aCons (oV (eSl (oSl 0) (pSome (eC (.int 1))) pNone)) aNil))) (gT 2 (gCons' (gN 0) (gCons' (gN 1) gNil'))) kYes (G.e_is_rising_2 f_is_whole))) aNil))))
def F_is_rising (f_is_whole : Addr) : Fn := runF 2 2 [0, 1] (g_is_rising f_is_whole)
def g_are_spots (f_is_whole : Addr) : MS := (sSeq (sIf (kOr (kNot (kTru (oV (eCall 1 G.F_is_whole (aCons (oSl 0) aNil))))) (kOr (kNot (kTru (oV (eCall 2 (G.F_is_rising f_is_whole) (aCons (oSl 1) (aCons (oV (eC (.fn f_is_whole))) aNil)))))) (kB (eBin vEq (oV (eCallB vLen (aCons (oSl 1) aNil))) (oV (eC (.int 0))))))) (sRet (eC (.bl false))) sNil) (sRet (eB (kAnd (kB (eBin vLe (oV (eC (.int 0))) (oV (eBin vIx (oSl 1) (oV (eC (.int 0))))))) (kB (eBin vLt (oV (eBin vIx (oSl 1) (oV (eNeg (eC (.int 1)))))) (oSl 0)))))))
def F_are_spots (f_is_whole : Addr) : Fn := runF 2 2 [0, 1] (g_are_spots f_is_whole)
def e_is_row_like_1 : M Vl := (eCall 1 G.F_is_whole (aCons (oSl 0) aNil))
def g_is_row_like : MS := (sRet (eB (kAnd (kB (eIsi "tuple" (oSl 0))) (kB (eCallB vAll (aCons (oV (eComp 1 [] (iOpd (oSl 0)) (gN 0) kYes G.e_is_row_like_1)) aNil))))))
def F_is_row_like : Fn := runF 1 1 [0] g_is_row_like
def e_are_rows_like_1 : M Vl := (eCall 1 G.F_is_row_like (aCons (oSl 0) aNil))
def g_are_rows_like : MS := (sRet (eB (kAnd (kB (eIsi "tuple" (oSl 0))) (kB (eCallB vAll (aCons (oV (eComp 1 [] (iOpd (oSl 0)) (gN 0) kYes G.e_are_rows_like_1)) aNil))))))
def F_are_rows_like : Fn := runF 1 1 [0] g_are_rows_like
def g_shows_too_little (f_is_whole : Addr) : MS := (sSeq (sIf (kOr (kNot (kTru (oV (eCall 2 (G.F_are_spots f_is_whole) (aCons (oSl 0) (aCons (oSl 1) aNil)))))) (kOr (kNot (kTru (oV (eCall 1 G.F_is_whole (aCons (oSl 2) aNil))))) (kOr (kB (eBin vLt (oSl 2) (oV (eC (.int 0))))) (kNot (kTru (oV (eCall 1 G.F_are_rows_like (aCons (oSl 3) aNil)))))))) (sRet (eC (.bl false))) sNil) (sSeq (sIf (kB (eBin vNe (oV (eCallB vLen (aCons (oSl 3) aNil))) (oV (eBin vAdd (oV (eCall 2 G.F_greatest_left (aCons (oV (eCall 2 G.F_between (aCons (oSl 0) (aCons (oSl 1) aNil)))) (aCons (oSl 2) aNil)))) (oV (eC (.int 1))))))) (sRet (eC (.bl false))) sNil) (sRet (eBin vEq (oSl 3) (oV (eCall 3 G.F_too_little (aCons (oSl 0) (aCons (oSl 1) (aCons (oSl 2) aNil)))))))))
def F_shows_too_little (f_is_whole : Addr) : Fn := runF 4 4 [0, 1, 2, 3] (g_shows_too_little f_is_whole)
def e_l_papers_1 : M Vl := (eBin vEq (oSl 0) (oV (eC (.int 1))))
def b_l_papers_2 : MS := (sExpr (eMut listy 8 mAppend (aCons (oV (eBin vAdd (oV (eBin vAdd (oV (eSl (oSl 1) pNone (pSome (eVar 2)))) (oV (eTup (aCons (oSl 9) aNil))))) (oV (eSl (oSl 1) (pSome (eBin vAdd (oSl 2) (oV (eC (.int 1))))) pNone)))) aNil)))
def g_l_papers : MS := (sSeq (sSet 2 (eCall 2 G.F_l_take (aCons (oSl 0) (aCons (oV (eCallB vLen (aCons (oSl 1) aNil))) aNil)))) (sSeq (sSet 3 (eBin vIx (oSl 1) (oSl 2))) (sSeq (sSet 4 (eCall 2 G.F_l_take (aCons (oSl 0) (aCons (oV (eCallB vLen (aCons (oSl 3) aNil))) aNil)))) (sSeq (sSet 5 (eCall 2 G.F_l_of (aCons (oSl 0) (aCons (oV (eLst (aCons (oV (eBin vAdd (oV (eBin vIx (oSl 3) (oSl 4))) (oV (eC (.int 1))))) (aCons (oV (eBin vSub (oV (eBin vIx (oSl 3) (oSl 4))) (oV (eC (.int 1))))) (aCons (oV (eC (.int 0))) (aCons (oV (eC .non)) (aCons (oV (eC (.str "1"))) (aCons (oV (eTup (aCons (oV (eC (.int 1))) aNil))) aNil)))))))) aNil)))) (sSeq (sSet 6 (eBin vAdd (oV (eBin vAdd (oV (eSl (oSl 3) pNone (pSome (eVar 4)))) (oV (eTup (aCons (oSl 5) aNil))))) (oV (eSl (oSl 3) (pSome (eBin vAdd (oSl 4) (oV (eC (.int 1))))) pNone)))) (sSeq (sSet 7 (eCallB vTuple (aCons (oV (eComp 1 [] (iOpd (oSl 3)) (gN 0) kYes G.e_l_papers_1)) aNil))) (sSeq (sSet 8 (eLst (aCons (oSl 1) (aCons (oV (eBin vAdd (oV (eSl (oSl 1) pNone (pSome (eVar 2)))) (oV (eSl (oSl 1) (pSome (eBin vAdd (oSl 2) (oV (eC (.int 1))))) pNone)))) (aCons (oV (eRev (oSl 1))) (aCons (oV (eFz (eCallB vList (aCons (oSl 1) aNil)))) aNil)))))) (sSeq (sSet 8 (eBin vAdd (oSl 8) (oV (eLst (aCons (oV (eBin vAdd (oSl 1) (oV (eTup (aCons (oSl 3) aNil))))) (aCons (oV (eTup (aCons (oSl 1) aNil))) (aCons (oV (eBin vAdd (oSl 1) (oV (eTup (aCons (oV (eTup aNil)) aNil))))) aNil))))))) (sSeq (sFor (iOpd (oV (eTup (aCons (oSl 6) (aCons (oV (eFz (eCallB vList (aCons (oSl 3) aNil)))) (aCons (oSl 7) (aCons (oV (eBin vAdd (oSl 3) (oV (eTup (aCons (oV (eC (.int 0))) aNil))))) (aCons (oV (eSl (oSl 3) pNone (pSome (eVar 4)))) (aCons (oV (eTup (aCons (oSl 3) aNil))) (aCons (oV (eC .non)) aNil)))))))))) (gN 9) G.b_l_papers_2) (sRet (eBin vAdd (oSl 8) (oV (eLst (aCons (oV (eBin vAdd (oV (eBin vAdd (oV (eSl (oSl 1) pNone (pSome (eVar 2)))) (oV (eTup (aCons (oSl 3) aNil))))) (oV (eSl (oSl 1) (pSome (eVar 2)) pNone)))) (aCons (oV (eC .non)) (aCons (oV (eTup aNil)) (aCons (oV (eC (.bl true))) (aCons (oV (eC (.str "rows"))) aNil))))))))))))))))))
def F_l_papers : Fn := runF 2 10 [0, 1] g_l_papers
def b_law_1_k48 (f_is_whole : Addr) : MS := (sSeq (sSet 8 (eCall 4 (G.F_shows_too_little f_is_whole) (aCons (oSl 3) (aCons (oSl 4) (aCons (oSl 5) (aCons (oSl 7) aNil)))))) (sSeq (sIf (kNot (kTru (oV (eIsi "bool" (oSl 8))))) (sRet (eC (.bl false))) sNil) (sIf (kB (eBin vNe (oSl 8) (oV (eB (kAnd (kB (eBin (oIs true) (oSl 6) (oV (eC .non)))) (kB (eCall 2 (G.F_l_same 6) (aCons (oSl 7) (aCons (oSl 6) aNil))))))))) (sRet (eC (.bl false))) sNil)))
def b_law_2_k48 (f_is_whole : Addr) : MS := (sSeq (sSet 2 (eCall 2 G.F_l_hand (aCons (oSl 0) (aCons (oSl 1) aNil)))) (sSeq (sAsg (eCall 1 G.F_l_ring_of (aCons (oSl 2) aNil)) (gT 2 (gCons' (gN 3) (gCons' (gN 4) gNil')))) (sSeq (sSet 5 (eCallB vMax2 (aCons (oV (eC (.int 0))) (aCons (oV (eBin vSub (oV (eCall 2 G.F_least_time (aCons (oSl 3) (aCons (oSl 4) aNil)))) (oV (eCall 2 G.F_l_take (aCons (oSl 2) (aCons (oV (eC (.int 5))) aNil)))))) aNil)))) (sSeq (sSet 6 (eCall 3 G.F_l_rows (aCons (oSl 3) (aCons (oSl 4) (aCons (oSl 5) aNil))))) (sFor (iOpd (oV (eCall 2 G.F_l_papers (aCons (oSl 2) (aCons (oV (eCall 3 G.F_l_all_rows (aCons (oSl 3) (aCons (oSl 4) (aCons (oSl 5) aNil))))) aNil))))) (gN 7) (G.b_law_1_k48 f_is_whole))))))
def g_law_k48 (f_is_whole : Addr) : MS := (sSeq (sFor (iR1 (aCons (oV (eCallB vMax2 (aCons (oV (eC (.int 1))) (aCons (oV (eCallB vMin2 (aCons (oV (eC (.int 8))) (aCons (oV (eCallB vLen (aCons (oSl 0) aNil))) aNil)))) aNil)))) aNil)) (gN 1) (G.b_law_2_k48 f_is_whole)) (sRet (eBin (oIs false) (oV (eCall 4 (G.F_shows_too_little f_is_whole) (aCons (oV (eC (.int 4))) (aCons (oV (eTup (aCons (oV (eC (.int 0))) (aCons (oV (eC (.int 2))) aNil)))) (aCons (oV (eC (.int 0))) (aCons (oV (eTup (aCons (oV (eTup (aCons (oV (eC (.int 0))) (aCons (oV (eC (.int 1))) aNil)))) aNil))) aNil)))))) (oV (eC (.bl true))))))
def F_law_k48 (f_is_whole : Addr) : Fn := runF 1 9 [0] (g_law_k48 f_is_whole)
end G
set_option Elab.async false
set_option linter.all false
set_option maxRecDepth 100000
namespace K48
open PySem L2 PyProof.Rows
def top (i : Nat) : Stmt := PySem.Challenge.pw_mowfloor_k48_papers_of_time.main.body.getD i (.Pass ⟨0, 0, 0, 0⟩)
structure Txt (mg : Str → Option Value) : Prop where
  b_all : mg "all" = none
  b_any : mg "any" = none
  b_bool : mg "bool" = none
  b_enumerate : mg "enumerate" = none
  b_int : mg "int" = none
  b_isinstance : mg "isinstance" = none
  b_len : mg "len" = none
  b_list : mg "list" = none
  b_max : mg "max" = none
  b_min : mg "min" = none
  b_range : mg "range" = none
  b_sorted : mg "sorted" = none
  b_str : mg "str" = none
  b_tuple : mg "tuple" = none
  b_zip : mg "zip" = none
theorem bt_all : bootBuiltins "all" = some (.builtin "all") := by decide +kernel
theorem bt_any : bootBuiltins "any" = some (.builtin "any") := by decide +kernel
theorem bt_bool : bootBuiltins "bool" = some (.type "bool") := by decide +kernel
theorem bt_int : bootBuiltins "int" = some (.type "int") := by decide +kernel
theorem bt_isinstance : bootBuiltins "isinstance" = some (.builtin "isinstance") := by decide +kernel
theorem bt_len : bootBuiltins "len" = some (.builtin "len") := by decide +kernel
theorem bt_list : bootBuiltins "list" = some (.type "list") := by decide +kernel
theorem bt_max : bootBuiltins "max" = some (.builtin "max") := by decide +kernel
theorem bt_min : bootBuiltins "min" = some (.builtin "min") := by decide +kernel
theorem bt_sorted : bootBuiltins "sorted" = some (.builtin "sorted") := by decide +kernel
theorem bt_str : bootBuiltins "str" = some (.type "str") := by decide +kernel
theorem bt_tuple : bootBuiltins "tuple" = some (.type "tuple") := by decide +kernel
theorem hu20 {A : Around} {k : Nat} (hr : Room k A) : A.units + 20 < cLine := by have := hr.un; omega
abbrev s_is_whole : Stmt := top 1
abbrev N_is_whole : List Str := ["thing"]
abbrev s_is_rising : Stmt := top 2
abbrev N_is_rising : List Str := ["thing", "is_kind"]
abbrev s_between : Stmt := top 4
abbrev N_between : List Str := ["many", "spots"]
abbrev s_room : Stmt := top 5
abbrev N_room : List Str := ["time", "left"]
abbrev s_greatest_left : Stmt := top 6
abbrev N_greatest_left : List Str := ["spaces", "time"]
abbrev s_row_from : Stmt := top 7
abbrev N_row_from : List Str := ["spaces", "time", "left", "row", "space", "right"]
abbrev s_goes_through : Stmt := top 8
abbrev N_goes_through : List Str := ["spaces", "time", "row", "right"]
abbrev s_rows_of : Stmt := top 9
abbrev N_rows_of : List Str := ["spaces", "time"]
abbrev s_rows_through : Stmt := top 10
abbrev N_rows_through : List Str := ["spaces", "time"]
abbrev s_least_time : Stmt := top 11
abbrev N_least_time : List Str := ["many", "spots", "spaces", "least", "enough", "middle"]
abbrev s_too_little : Stmt := top 13
abbrev N_too_little : List Str := ["many", "spots", "time", "spaces", "rows"]
abbrev s_are_spots : Stmt := top 14
abbrev N_are_spots : List Str := ["many", "spots"]
abbrev s_is_row_like : Stmt := top 15
abbrev N_is_row_like : List Str := ["thing"]
abbrev s_are_rows_like : Stmt := top 16
abbrev N_are_rows_like : List Str := ["thing"]
abbrev s_shows_too_little : Stmt := top 17
abbrev N_shows_too_little : List Str := ["many", "spots", "time", "thing"]
abbrev s_l_hand : Stmt := top 19
abbrev N_l_hand : List Str := ["_law_script", "_law_k", "_law_cell", "_law_bound", "_law_digits"]
abbrev s_l_take : Stmt := top 20
abbrev N_l_take : List Str := ["_law_hand_here", "_law_many", "_law_digit", "_law_turn", "_law_mixed", "_law_odd"]
abbrev s_l_of : Stmt := top 21
abbrev N_l_of : List Str := ["_law_hand_here", "_law_some"]
abbrev s_l_ring_of : Stmt := top 22
abbrev N_l_ring_of : List Str := ["_law_hand_here", "_law_many", "_law_few", "_law_left", "_law_spots", "_law_turn", "_law_at"]
abbrev s_l_steps : Stmt := top 23
abbrev N_l_steps : List Str := ["_law_left", "_law_right"]
abbrev s_l_between : Stmt := top 24
abbrev N_l_between : List Str := ["_law_many", "_law_spots", "_law_some", "_law_k", "_law_spot", "_law_later"]
abbrev s_l_rooms : Stmt := top 25
abbrev N_l_rooms : List Str := ["_law_time", "_law_rooms_here", "_law_right", "_law_left"]
abbrev s_l_row : Stmt := top 26
abbrev N_l_row : List Str := ["_law_between_here", "_law_rooms_here", "_law_first", "_law_row_here", "_law_gap"]
abbrev s_l_all_rows : Stmt := top 27
abbrev N_l_all_rows : List Str := ["_law_many", "_law_spots", "_law_time", "_law_between_here", "_law_rooms_here", "_law_most"]
abbrev s_l_rows : Stmt := top 28
abbrev N_l_rows : List Str := ["_law_many", "_law_spots", "_law_time", "_law_between_here", "_law_rooms_here", "_law_rows_here", "_law_row_here"]
abbrev s_l_same : Stmt := top 29
abbrev N_l_same : List Str := ["_law_told", "_law_due"]
abbrev s_l_papers : Stmt := top 30
abbrev N_l_papers : List Str := ["_law_hand_here", "_law_rows_here", "_law_at", "_law_row_here", "_law_place", "_law_number", "_law_odd", "_law_truth", "_law_some", "_law_other"]
abbrev s_law : Stmt := top 31
abbrev N_law : List Str := ["_law_script", "_law_k", "_law_hand_here", "_law_many", "_law_spots", "_law_time", "_law_due", "_law_thing", "_law_told"]
section
variable {P : Program} {w : World} {K : PySem.W.Frag} {mg : Str → Option Value} {base : Heap}
theorem sc_is_whole : FnScope N_is_whole ["thing"] (defScope s_is_whole) := ⟨rfl, rfl, rfl, by decide +kernel, rfl, by decide +kernel, by decide +kernel⟩
set_option maxHeartbeats 4000000 in
theorem ok_is_whole {f : Addr} {fd : FuncData} (F : Fun K "is_whole" "is_whole" s_is_whole f fd) (T : Txt mg) :
    FnOk P w K mg base CX0 1 f fd ["thing"] (spV 1 G.F_is_whole) := by
  have nd := sc_is_whole.nd
  refine fnV F sc_is_whole rfl (by decide) (fun cdv A outer s H E hr => ?_)
  exact (vss_one (vs_ret (ve_and (ve_kb (ve_isi rfl T.b_isinstance bt_isinstance rfl T.b_int bt_int (vo_var (pv 0)))) (ve_kb (ve_one (ve_not (ve_kb (ve_isi rfl T.b_isinstance bt_isinstance rfl T.b_bool bt_bool (vo_var (pv 0))))))))))
theorem sc_is_rising : FnScope N_is_rising ["thing", "is_kind"] (defScope s_is_rising) := ⟨rfl, rfl, rfl, by decide +kernel, rfl, by decide +kernel, by decide +kernel⟩
set_option maxHeartbeats 4000000 in
theorem ok_is_rising {f : Addr} {fd : FuncData} (F : Fun K "is_rising" "is_rising" s_is_rising f fd) (T : Txt mg)
    {f_is_whole : Addr} {fd_is_whole : FuncData} (U_is_whole : Fun K "is_whole" "is_whole" s_is_whole f_is_whole fd_is_whole) (G_is_whole : FnOk P w K mg base CX0 1 f_is_whole fd_is_whole ["thing"] (spV 1 G.F_is_whole)) (b_is_whole : Binds K fd_is_whole ["thing"] []) (m_is_whole : mg "is_whole" = some (.ref f_is_whole)) :
    FnOk P w K mg base CX0 2 f fd ["thing", "is_kind"] (spV 2 (G.F_is_rising f_is_whole)) := by
  have nd := sc_is_rising.nd
  refine fnV F sc_is_rising rfl (by decide) (fun cdv A outer s H E hr => ?_)
  exact (vss_cons (vs_if (VW.vt (vw_or (vt_not (vt_tru (vo_val (ve_isi rfl T.b_isinstance bt_isinstance rfl T.b_tuple bt_tuple (vo_var (pv 0)))))) (vw_or1 (vt_not (vt_tru (vo_val (ve_callB (cv_all rfl) (by rfl) T.b_all bt_all (va_cons (vo_val (ve_comp (own := ["part"]) (caps := [1]) rfl (cscope (defScope s_is_rising) ["thing", "is_kind"] (by decide +kernel)) (by decide) (vi_opd (vo_var (pv 0))) (fun Y => (vg_name (i := 0) (show (["part", "is_kind"] : List Str).Nodup by decide +kernel) rfl (by first | exact Or.inl rfl | exact Or.inr rfl) (by decide))) (fun Y => vts_nil) (fun Y => (ve_callP G_is_whole (hr.mono (by omega)) (pv 1) U_is_whole.kp b_is_whole (va_cons (vo_var (pv 0)) va_nil))))) va_nil)))))))) (vss_one (vs_ret ve_bl)) vss_nil) (vss_one (vs_ret (ve_callB (cv_all rfl) (by rfl) T.b_all bt_all (va_cons (vo_val (ve_comp (own := ["ahead", "behind"]) (caps := []) rfl (cscope (defScope s_is_rising) ["thing", "is_kind"] (by decide +kernel)) (by decide) (vi_zip rfl T.b_zip (va_cons (vo_var (pv 0)) (va_cons (vo_val (ve_slice (vo_var (pv 0)) (vp_some ve_int) vp_none)) va_nil))) (fun Y => (vg_tup rfl (vgs_cons (vg_name (i := 0) (show (["ahead", "behind"] : List Str).Nodup by decide +kernel) rfl (by first | exact Or.inl rfl | exact Or.inr rfl) (by decide)) (vgs_cons (vg_name (i := 1) (show (["ahead", "behind"] : List Str).Nodup by decide +kernel) rfl (by first | exact Or.inl rfl | exact Or.inr rfl) (by decide)) vgs_nil)))) (fun Y => vts_nil) (fun Y => (ve_cmp ov_lt (vo_var (pv 0)) (vo_var (pv 1)) (nomark _))))) va_nil)))))
theorem sc_between : FnScope N_between ["many", "spots"] (defScope s_between) := ⟨rfl, rfl, rfl, by decide +kernel, rfl, by decide +kernel, by decide +kernel⟩
set_option maxHeartbeats 4000000 in
theorem ok_between {f : Addr} {fd : FuncData} (F : Fun K "between" "between" s_between f fd) (T : Txt mg) :
    FnOk P w K mg base CX0 1 f fd ["many", "spots"] (spV 2 G.F_between) := by
  have nd := sc_between.nd
  refine fnV F sc_between rfl (by decide) (fun cdv A outer s H E hr => ?_)
  exact (vss_one (vs_ret (ve_comp (own := ["ahead", "behind"]) (caps := [0]) rfl (cscope (defScope s_between) ["many", "spots"] (by decide +kernel)) (by decide) (vi_zip rfl T.b_zip (va_cons (vo_var (pv 1)) (va_cons (vo_val (ve_op ov_add (vo_val (ve_slice (vo_var (pv 1)) (vp_some ve_int) vp_none)) (vo_val (ve_slice (vo_var (pv 1)) vp_none (vp_some ve_int))))) va_nil))) (fun Y => (vg_tup rfl (vgs_cons (vg_name (i := 0) (show (["ahead", "behind", "many"] : List Str).Nodup by decide +kernel) rfl (by first | exact Or.inl rfl | exact Or.inr rfl) (by decide)) (vgs_cons (vg_name (i := 1) (show (["ahead", "behind", "many"] : List Str).Nodup by decide +kernel) rfl (by first | exact Or.inl rfl | exact Or.inr rfl) (by decide)) vgs_nil)))) (fun Y => vts_nil) (fun Y => (ve_op ov_mod (vo_val (ve_op ov_sub (vo_val (ve_op ov_sub (vo_var (pv 1)) (vo_var (pv 0)))) (vo_val ve_int))) (vo_var (pv 2)))))))
theorem sc_room : FnScope N_room ["time", "left"] (defScope s_room) := ⟨rfl, rfl, rfl, by decide +kernel, rfl, by decide +kernel, by decide +kernel⟩
set_option maxHeartbeats 4000000 in
theorem ok_room {f : Addr} {fd : FuncData} (F : Fun K "room" "room" s_room f fd) (T : Txt mg) :
    FnOk P w K mg base CX0 1 f fd ["time", "left"] (spV 2 G.F_room) := by
  have nd := sc_room.nd
  refine fnV F sc_room rfl (by decide) (fun cdv A outer s H E hr => ?_)
  exact (vss_cons (vs_if (vt_cmp ov_gt (vo_var (pv 1)) (vo_var (pv 0)) (nomark _)) (vss_one (vs_ret ve_non)) vss_nil) (vss_cons (vs_if (vt_cmp ov_le (vo_val (ve_op ov_mul (vo_var (pv 1)) (vo_val ve_int))) (vo_var (pv 0)) (nomark _)) (vss_one (vs_ret (ve_op ov_sub (vo_var (pv 0)) (vo_val (ve_op ov_mul (vo_var (pv 1)) (vo_val ve_int)))))) vss_nil) (vss_one (vs_ret (ve_op ov_div (vo_val (ve_op ov_sub (vo_var (pv 0)) (vo_var (pv 1)))) (vo_val ve_int))))))
theorem sc_greatest_left : FnScope N_greatest_left ["spaces", "time"] (defScope s_greatest_left) := ⟨rfl, rfl, rfl, by decide +kernel, rfl, by decide +kernel, by decide +kernel⟩
set_option maxHeartbeats 4000000 in
theorem ok_greatest_left {f : Addr} {fd : FuncData} (F : Fun K "greatest_left" "greatest_left" s_greatest_left f fd) (T : Txt mg) :
    FnOk P w K mg base CX0 1 f fd ["spaces", "time"] (spV 2 G.F_greatest_left) := by
  have nd := sc_greatest_left.nd
  refine fnV F sc_greatest_left rfl (by decide) (fun cdv A outer s H E hr => ?_)
  exact (vss_one (vs_ret (ve_callB (cv_min2 rfl) (by rfl) T.b_min bt_min (va_cons (vo_var (pv 1)) (va_cons (vo_val (ve_ix (ov_ix (hu20 hr)) (vo_var (pv 0)) (vo_val (ve_neg ve_int)) (fun _ _ => rfl))) va_nil)))))
theorem sc_row_from : FnScope N_row_from ["spaces", "time", "left"] (defScope s_row_from) := ⟨rfl, rfl, rfl, by decide +kernel, rfl, by decide +kernel, by decide +kernel⟩
set_option maxHeartbeats 4000000 in
theorem ok_row_from {f : Addr} {fd : FuncData} (F : Fun K "row_from" "row_from" s_row_from f fd) (T : Txt mg)
    {f_room : Addr} {fd_room : FuncData} (U_room : Fun K "room" "room" s_room f_room fd_room) (G_room : FnOk P w K mg base CX0 1 f_room fd_room ["time", "left"] (spV 2 G.F_room)) (b_room : Binds K fd_room ["time", "left"] []) (m_room : mg "room" = some (.ref f_room)) :
    FnOk P w K mg base CX0 2 f fd ["spaces", "time", "left"] (spV 3 G.F_row_from) := by
  have nd := sc_row_from.nd
  refine fnV F sc_row_from rfl (by decide) (fun cdv A outer s H E hr => ?_)
  exact (vss_cons (vs_set (i := 3) nd rfl (by first | exact Or.inl rfl | exact Or.inr rfl) (ve_lst (va_cons (vo_var (pv 2)) va_nil)) (by decide)) (vss_cons (vs_forN (fx := [0, 1, 2]) PassesOwn.never rfl (vi_opd (vo_val (ve_slice (vo_var (pv 0)) vp_none (vp_some (ve_neg ve_int))))) (vg_name (i := 4) nd rfl (by first | exact Or.inl rfl | exact Or.inr rfl) (by decide)) (vss_cons (vs_set (i := 5) nd rfl (by first | exact Or.inl rfl | exact Or.inr rfl) (ve_call G_room (hr.mono (by omega)) rfl m_room U_room.kp b_room (va_cons (vo_var (pv 1)) (va_cons (vo_val (ve_ix (ov_ix (hu20 hr)) (vo_var (pv 3)) (vo_val (ve_neg ve_int)) (fun _ _ => rfl))) va_nil))) (by decide)) (vss_cons (vs_if (vt_cmp ov_is (vo_var (pv 5)) (vo_val ve_non) (nomark _)) (vss_one (vs_ret (ve_callTy cv_tuple rfl T.b_tuple bt_tuple (va_cons (vo_var (pv 3)) va_nil)))) vss_nil) (vss_one (vs_expr (ve_mut list_ty PySem.F.plainAttrs_list PySem.F.slot_list_append PySem.F.type_list_append mv_append (pv 3) (va_cons (vo_val (ve_callB (cv_max2 rfl) (by rfl) T.b_max bt_max (va_cons (vo_val ve_int) (va_cons (vo_val (ve_op ov_sub (vo_var (pv 4)) (vo_var (pv 5)))) va_nil)))) va_nil)))))) (by decide) slot_v) (vss_one (vs_ret (ve_callTy cv_tuple rfl T.b_tuple bt_tuple (va_cons (vo_var (pv 3)) va_nil))))))
theorem sc_goes_through : FnScope N_goes_through ["spaces", "time", "row"] (defScope s_goes_through) := ⟨rfl, rfl, rfl, by decide +kernel, rfl, by decide +kernel, by decide +kernel⟩
set_option maxHeartbeats 4000000 in
theorem ok_goes_through {f : Addr} {fd : FuncData} (F : Fun K "goes_through" "goes_through" s_goes_through f fd) (T : Txt mg)
    {f_room : Addr} {fd_room : FuncData} (U_room : Fun K "room" "room" s_room f_room fd_room) (G_room : FnOk P w K mg base CX0 1 f_room fd_room ["time", "left"] (spV 2 G.F_room)) (b_room : Binds K fd_room ["time", "left"] []) (m_room : mg "room" = some (.ref f_room)) :
    FnOk P w K mg base CX0 2 f fd ["spaces", "time", "row"] (spV 3 G.F_goes_through) := by
  have nd := sc_goes_through.nd
  refine fnV F sc_goes_through rfl (by decide) (fun cdv A outer s H E hr => ?_)
  exact (vss_cons (vs_set (i := 3) nd rfl (by first | exact Or.inl rfl | exact Or.inr rfl) (ve_call G_room (hr.mono (by omega)) rfl m_room U_room.kp b_room (va_cons (vo_var (pv 1)) (va_cons (vo_val (ve_ix (ov_ix (hu20 hr)) (vo_var (pv 2)) (vo_val (ve_neg ve_int)) (fun _ _ => rfl))) va_nil))) (by decide)) (vss_one (vs_ret (ve_and (ve_kb (ve_cmp ov_isnot (vo_var (pv 3)) (vo_val ve_non) (nomark _))) (ve_kb (ve_one (ve_cmp ov_ge (vo_val (ve_op ov_add (vo_var (pv 3)) (vo_val (ve_ix (ov_ix (hu20 hr)) (vo_var (pv 2)) (vo_val ve_int) (fun _ _ => rfl))))) (vo_val (ve_ix (ov_ix (hu20 hr)) (vo_var (pv 0)) (vo_val (ve_neg ve_int)) (fun _ _ => rfl))) (nomark _))))))))
theorem sc_rows_of : FnScope N_rows_of ["spaces", "time"] (defScope s_rows_of) := ⟨rfl, rfl, rfl, by decide +kernel, rfl, by decide +kernel, by decide +kernel⟩
set_option maxHeartbeats 4000000 in
theorem ok_rows_of {f : Addr} {fd : FuncData} (F : Fun K "rows_of" "rows_of" s_rows_of f fd) (T : Txt mg)
    {f_greatest_left : Addr} {fd_greatest_left : FuncData} (U_greatest_left : Fun K "greatest_left" "greatest_left" s_greatest_left f_greatest_left fd_greatest_left) (G_greatest_left : FnOk P w K mg base CX0 1 f_greatest_left fd_greatest_left ["spaces", "time"] (spV 2 G.F_greatest_left)) (b_greatest_left : Binds K fd_greatest_left ["spaces", "time"] []) (m_greatest_left : mg "greatest_left" = some (.ref f_greatest_left))
    {f_row_from : Addr} {fd_row_from : FuncData} (U_row_from : Fun K "row_from" "row_from" s_row_from f_row_from fd_row_from) (G_row_from : FnOk P w K mg base CX0 2 f_row_from fd_row_from ["spaces", "time", "left"] (spV 3 G.F_row_from)) (b_row_from : Binds K fd_row_from ["spaces", "time", "left"] []) (m_row_from : mg "row_from" = some (.ref f_row_from)) :
    FnOk P w K mg base CX0 3 f fd ["spaces", "time"] (spV 2 G.F_rows_of) := by
  have nd := sc_rows_of.nd
  refine fnV F sc_rows_of rfl (by decide) (fun cdv A outer s H E hr => ?_)
  exact (vss_one (vs_ret (ve_comp (own := ["left"]) (caps := [0, 1]) rfl (cscope (defScope s_rows_of) ["spaces", "time"] (by decide +kernel)) (by decide) (vi_r1 rfl T.b_range (va_cons (vo_val (ve_op ov_add (vo_val (ve_call G_greatest_left (hr.mono (by omega)) rfl m_greatest_left U_greatest_left.kp b_greatest_left (va_cons (vo_var (pv 0)) (va_cons (vo_var (pv 1)) va_nil)))) (vo_val ve_int))) va_nil)) (fun Y => (vg_name (i := 0) (show (["left", "spaces", "time"] : List Str).Nodup by decide +kernel) rfl (by first | exact Or.inl rfl | exact Or.inr rfl) (by decide))) (fun Y => vts_nil) (fun Y => (ve_call G_row_from (hr.mono (by omega)) rfl m_row_from U_row_from.kp b_row_from (va_cons (vo_var (pv 1)) (va_cons (vo_var (pv 2)) (va_cons (vo_var (pv 0)) va_nil))))))))
theorem sc_rows_through : FnScope N_rows_through ["spaces", "time"] (defScope s_rows_through) := ⟨rfl, rfl, rfl, by decide +kernel, rfl, by decide +kernel, by decide +kernel⟩
set_option maxHeartbeats 4000000 in
theorem ok_rows_through {f : Addr} {fd : FuncData} (F : Fun K "rows_through" "rows_through" s_rows_through f fd) (T : Txt mg)
    {f_rows_of : Addr} {fd_rows_of : FuncData} (U_rows_of : Fun K "rows_of" "rows_of" s_rows_of f_rows_of fd_rows_of) (G_rows_of : FnOk P w K mg base CX0 3 f_rows_of fd_rows_of ["spaces", "time"] (spV 2 G.F_rows_of)) (b_rows_of : Binds K fd_rows_of ["spaces", "time"] []) (m_rows_of : mg "rows_of" = some (.ref f_rows_of))
    {f_goes_through : Addr} {fd_goes_through : FuncData} (U_goes_through : Fun K "goes_through" "goes_through" s_goes_through f_goes_through fd_goes_through) (G_goes_through : FnOk P w K mg base CX0 2 f_goes_through fd_goes_through ["spaces", "time", "row"] (spV 3 G.F_goes_through)) (b_goes_through : Binds K fd_goes_through ["spaces", "time", "row"] []) (m_goes_through : mg "goes_through" = some (.ref f_goes_through)) :
    FnOk P w K mg base CX0 4 f fd ["spaces", "time"] (spV 2 G.F_rows_through) := by
  have nd := sc_rows_through.nd
  refine fnV F sc_rows_through rfl (by decide) (fun cdv A outer s H E hr => ?_)
  exact (vss_one (vs_ret (ve_comp (own := ["row"]) (caps := [0, 1]) rfl (cscope (defScope s_rows_through) ["spaces", "time"] (by decide +kernel)) (by decide) (vi_opd (vo_val (ve_call G_rows_of (hr.mono (by omega)) rfl m_rows_of U_rows_of.kp b_rows_of (va_cons (vo_var (pv 0)) (va_cons (vo_var (pv 1)) va_nil))))) (fun Y => (vg_name (i := 0) (show (["row", "spaces", "time"] : List Str).Nodup by decide +kernel) rfl (by first | exact Or.inl rfl | exact Or.inr rfl) (by decide))) (fun Y => (vts_one (vt_tru (vo_val (ve_call G_goes_through (hr.mono (by omega)) rfl m_goes_through U_goes_through.kp b_goes_through (va_cons (vo_var (pv 1)) (va_cons (vo_var (pv 2)) (va_cons (vo_var (pv 0)) va_nil)))))))) (fun Y => (ve_var (pv 0))))))
theorem sc_least_time : FnScope N_least_time ["many", "spots"] (defScope s_least_time) := ⟨rfl, rfl, rfl, by decide +kernel, rfl, by decide +kernel, by decide +kernel⟩
set_option maxHeartbeats 4000000 in
theorem ok_least_time {f : Addr} {fd : FuncData} (F : Fun K "least_time" "least_time" s_least_time f fd) (T : Txt mg)
    {f_between : Addr} {fd_between : FuncData} (U_between : Fun K "between" "between" s_between f_between fd_between) (G_between : FnOk P w K mg base CX0 1 f_between fd_between ["many", "spots"] (spV 2 G.F_between)) (b_between : Binds K fd_between ["many", "spots"] []) (m_between : mg "between" = some (.ref f_between))
    {f_rows_through : Addr} {fd_rows_through : FuncData} (U_rows_through : Fun K "rows_through" "rows_through" s_rows_through f_rows_through fd_rows_through) (G_rows_through : FnOk P w K mg base CX0 4 f_rows_through fd_rows_through ["spaces", "time"] (spV 2 G.F_rows_through)) (b_rows_through : Binds K fd_rows_through ["spaces", "time"] []) (m_rows_through : mg "rows_through" = some (.ref f_rows_through)) :
    FnOk P w K mg base CX0 5 f fd ["many", "spots"] (spV 2 G.F_least_time) := by
  have nd := sc_least_time.nd
  refine fnV F sc_least_time rfl (by decide) (fun cdv A outer s H E hr => ?_)
  exact (vss_cons (vs_set (i := 2) nd rfl (by first | exact Or.inl rfl | exact Or.inr rfl) (ve_call G_between (hr.mono (by omega)) rfl m_between U_between.kp b_between (va_cons (vo_var (pv 0)) (va_cons (vo_var (pv 1)) va_nil))) (by decide)) (vss_cons (vs_set (i := 3) nd rfl (by first | exact Or.inl rfl | exact Or.inr rfl) ve_int (by decide)) (vss_cons (vs_set (i := 4) nd rfl (by first | exact Or.inl rfl | exact Or.inr rfl) (ve_op ov_sub (vo_var (pv 0)) (vo_val ve_int)) (by decide)) (vss_cons (vs_while 1000000 PassesOwn.never (vt_cmp ov_lt (vo_var (pv 3)) (vo_var (pv 4)) (nomark _)) (vss_cons (vs_set (i := 5) nd rfl (by first | exact Or.inl rfl | exact Or.inr rfl) (ve_op ov_div (vo_val (ve_op ov_add (vo_var (pv 3)) (vo_var (pv 4)))) (vo_val ve_int)) (by decide)) (vss_one (vs_if (vt_tru (vo_val (ve_call G_rows_through (hr.mono (by omega)) rfl m_rows_through U_rows_through.kp b_rows_through (va_cons (vo_var (pv 2)) (va_cons (vo_var (pv 5)) va_nil))))) (vss_one (vs_set (i := 4) nd rfl (by first | exact Or.inl rfl | exact Or.inr rfl) (ve_var (pv 5)) (by decide))) (vss_one (vs_set (i := 3) nd rfl (by first | exact Or.inl rfl | exact Or.inr rfl) (ve_op ov_add (vo_var (pv 5)) (vo_val ve_int)) (by decide))))))) (vss_one (vs_ret (ve_var (pv 3))))))))
theorem sc_too_little : FnScope N_too_little ["many", "spots", "time"] (defScope s_too_little) := ⟨rfl, rfl, rfl, by decide +kernel, rfl, by decide +kernel, by decide +kernel⟩
set_option maxHeartbeats 4000000 in
theorem ok_too_little {f : Addr} {fd : FuncData} (F : Fun K "too_little" "too_little" s_too_little f fd) (T : Txt mg)
    {f_between : Addr} {fd_between : FuncData} (U_between : Fun K "between" "between" s_between f_between fd_between) (G_between : FnOk P w K mg base CX0 1 f_between fd_between ["many", "spots"] (spV 2 G.F_between)) (b_between : Binds K fd_between ["many", "spots"] []) (m_between : mg "between" = some (.ref f_between))
    {f_rows_of : Addr} {fd_rows_of : FuncData} (U_rows_of : Fun K "rows_of" "rows_of" s_rows_of f_rows_of fd_rows_of) (G_rows_of : FnOk P w K mg base CX0 3 f_rows_of fd_rows_of ["spaces", "time"] (spV 2 G.F_rows_of)) (b_rows_of : Binds K fd_rows_of ["spaces", "time"] []) (m_rows_of : mg "rows_of" = some (.ref f_rows_of))
    {f_goes_through : Addr} {fd_goes_through : FuncData} (U_goes_through : Fun K "goes_through" "goes_through" s_goes_through f_goes_through fd_goes_through) (G_goes_through : FnOk P w K mg base CX0 2 f_goes_through fd_goes_through ["spaces", "time", "row"] (spV 3 G.F_goes_through)) (b_goes_through : Binds K fd_goes_through ["spaces", "time", "row"] []) (m_goes_through : mg "goes_through" = some (.ref f_goes_through)) :
    FnOk P w K mg base CX0 4 f fd ["many", "spots", "time"] (spV 3 G.F_too_little) := by
  have nd := sc_too_little.nd
  refine fnV F sc_too_little rfl (by decide) (fun cdv A outer s H E hr => ?_)
  exact (vss_cons (vs_set (i := 3) nd rfl (by first | exact Or.inl rfl | exact Or.inr rfl) (ve_call G_between (hr.mono (by omega)) rfl m_between U_between.kp b_between (va_cons (vo_var (pv 0)) (va_cons (vo_var (pv 1)) va_nil))) (by decide)) (vss_cons (vs_set (i := 4) nd rfl (by first | exact Or.inl rfl | exact Or.inr rfl) (ve_call G_rows_of (hr.mono (by omega)) rfl m_rows_of U_rows_of.kp b_rows_of (va_cons (vo_var (pv 3)) (va_cons (vo_var (pv 2)) va_nil))) (by decide)) (vss_cons (vs_if (vt_tru (vo_val (ve_callB (cv_any rfl) (by rfl) T.b_any bt_any (va_cons (vo_val (ve_comp (own := ["row"]) (caps := [3, 2]) rfl (cscope (defScope s_too_little) ["many", "spots", "time", "spaces", "rows"] (by decide +kernel)) (by decide) (vi_opd (vo_var (pv 4))) (fun Y => (vg_name (i := 0) (show (["row", "spaces", "time"] : List Str).Nodup by decide +kernel) rfl (by first | exact Or.inl rfl | exact Or.inr rfl) (by decide))) (fun Y => vts_nil) (fun Y => (ve_call G_goes_through (hr.mono (by omega)) rfl m_goes_through U_goes_through.kp b_goes_through (va_cons (vo_var (pv 1)) (va_cons (vo_var (pv 2)) (va_cons (vo_var (pv 0)) va_nil))))))) va_nil)))) (vss_one (vs_ret ve_non)) vss_nil) (vss_one (vs_ret (ve_callTy cv_tuple rfl T.b_tuple bt_tuple (va_cons (vo_var (pv 4)) va_nil)))))))
theorem sc_are_spots : FnScope N_are_spots ["many", "spots"] (defScope s_are_spots) := ⟨rfl, rfl, rfl, by decide +kernel, rfl, by decide +kernel, by decide +kernel⟩
set_option maxHeartbeats 4000000 in
theorem ok_are_spots {f : Addr} {fd : FuncData} (F : Fun K "are_spots" "are_spots" s_are_spots f fd) (T : Txt mg)
    {f_is_whole : Addr} {fd_is_whole : FuncData} (U_is_whole : Fun K "is_whole" "is_whole" s_is_whole f_is_whole fd_is_whole) (G_is_whole : FnOk P w K mg base CX0 1 f_is_whole fd_is_whole ["thing"] (spV 1 G.F_is_whole)) (b_is_whole : Binds K fd_is_whole ["thing"] []) (m_is_whole : mg "is_whole" = some (.ref f_is_whole))
    {f_is_rising : Addr} {fd_is_rising : FuncData} (U_is_rising : Fun K "is_rising" "is_rising" s_is_rising f_is_rising fd_is_rising) (G_is_rising : FnOk P w K mg base CX0 2 f_is_rising fd_is_rising ["thing", "is_kind"] (spV 2 (G.F_is_rising f_is_whole))) (b_is_rising : Binds K fd_is_rising ["thing", "is_kind"] []) (m_is_rising : mg "is_rising" = some (.ref f_is_rising)) :
    FnOk P w K mg base CX0 3 f fd ["many", "spots"] (spV 2 (G.F_are_spots f_is_whole)) := by
  have nd := sc_are_spots.nd
  refine fnV F sc_are_spots rfl (by decide) (fun cdv A outer s H E hr => ?_)
  exact (vss_cons (vs_if (VW.vt (vw_or (vt_not (vt_tru (vo_val (ve_call G_is_whole (hr.mono (by omega)) rfl m_is_whole U_is_whole.kp b_is_whole (va_cons (vo_var (pv 0)) va_nil))))) (vw_or (vt_not (vt_tru (vo_val (ve_call G_is_rising (hr.mono (by omega)) rfl m_is_rising U_is_rising.kp b_is_rising (va_cons (vo_var (pv 1)) (va_cons (vo_val (ve_globF rfl m_is_whole)) va_nil)))))) (vw_or1 (vt_cmp (ov_eq (hu20 hr)) (vo_val (ve_callB cv_len (by rfl) T.b_len bt_len (va_cons (vo_var (pv 1)) va_nil))) (vo_val ve_int) (nomark _)))))) (vss_one (vs_ret ve_bl)) vss_nil) (vss_one (vs_ret (ve_and (ve_kb (ve_cmp ov_le (vo_val ve_int) (vo_val (ve_ix (ov_ix (hu20 hr)) (vo_var (pv 1)) (vo_val ve_int) (fun _ _ => rfl))) (nomark _))) (ve_kb (ve_one (ve_cmp ov_lt (vo_val (ve_ix (ov_ix (hu20 hr)) (vo_var (pv 1)) (vo_val (ve_neg ve_int)) (fun _ _ => rfl))) (vo_var (pv 0)) (nomark _))))))))
theorem sc_is_row_like : FnScope N_is_row_like ["thing"] (defScope s_is_row_like) := ⟨rfl, rfl, rfl, by decide +kernel, rfl, by decide +kernel, by decide +kernel⟩
set_option maxHeartbeats 4000000 in
theorem ok_is_row_like {f : Addr} {fd : FuncData} (F : Fun K "is_row_like" "is_row_like" s_is_row_like f fd) (T : Txt mg)
    {f_is_whole : Addr} {fd_is_whole : FuncData} (U_is_whole : Fun K "is_whole" "is_whole" s_is_whole f_is_whole fd_is_whole) (G_is_whole : FnOk P w K mg base CX0 1 f_is_whole fd_is_whole ["thing"] (spV 1 G.F_is_whole)) (b_is_whole : Binds K fd_is_whole ["thing"] []) (m_is_whole : mg "is_whole" = some (.ref f_is_whole)) :
    FnOk P w K mg base CX0 2 f fd ["thing"] (spV 1 G.F_is_row_like) := by
  have nd := sc_is_row_like.nd
  refine fnV F sc_is_row_like rfl (by decide) (fun cdv A outer s H E hr => ?_)
  exact (vss_one (vs_ret (ve_and (ve_kb (ve_isi rfl T.b_isinstance bt_isinstance rfl T.b_tuple bt_tuple (vo_var (pv 0)))) (ve_kb (ve_one (ve_callB (cv_all rfl) (by rfl) T.b_all bt_all (va_cons (vo_val (ve_comp (own := ["part"]) (caps := []) rfl (cscope (defScope s_is_row_like) ["thing"] (by decide +kernel)) (by decide) (vi_opd (vo_var (pv 0))) (fun Y => (vg_name (i := 0) (show (["part"] : List Str).Nodup by decide +kernel) rfl (by first | exact Or.inl rfl | exact Or.inr rfl) (by decide))) (fun Y => vts_nil) (fun Y => (ve_call G_is_whole (hr.mono (by omega)) rfl m_is_whole U_is_whole.kp b_is_whole (va_cons (vo_var (pv 0)) va_nil))))) va_nil)))))))
theorem sc_are_rows_like : FnScope N_are_rows_like ["thing"] (defScope s_are_rows_like) := ⟨rfl, rfl, rfl, by decide +kernel, rfl, by decide +kernel, by decide +kernel⟩
set_option maxHeartbeats 4000000 in
theorem ok_are_rows_like {f : Addr} {fd : FuncData} (F : Fun K "are_rows_like" "are_rows_like" s_are_rows_like f fd) (T : Txt mg)
    {f_is_row_like : Addr} {fd_is_row_like : FuncData} (U_is_row_like : Fun K "is_row_like" "is_row_like" s_is_row_like f_is_row_like fd_is_row_like) (G_is_row_like : FnOk P w K mg base CX0 2 f_is_row_like fd_is_row_like ["thing"] (spV 1 G.F_is_row_like)) (b_is_row_like : Binds K fd_is_row_like ["thing"] []) (m_is_row_like : mg "is_row_like" = some (.ref f_is_row_like)) :
    FnOk P w K mg base CX0 3 f fd ["thing"] (spV 1 G.F_are_rows_like) := by
  have nd := sc_are_rows_like.nd
  refine fnV F sc_are_rows_like rfl (by decide) (fun cdv A outer s H E hr => ?_)
  exact (vss_one (vs_ret (ve_and (ve_kb (ve_isi rfl T.b_isinstance bt_isinstance rfl T.b_tuple bt_tuple (vo_var (pv 0)))) (ve_kb (ve_one (ve_callB (cv_all rfl) (by rfl) T.b_all bt_all (va_cons (vo_val (ve_comp (own := ["part"]) (caps := []) rfl (cscope (defScope s_are_rows_like) ["thing"] (by decide +kernel)) (by decide) (vi_opd (vo_var (pv 0))) (fun Y => (vg_name (i := 0) (show (["part"] : List Str).Nodup by decide +kernel) rfl (by first | exact Or.inl rfl | exact Or.inr rfl) (by decide))) (fun Y => vts_nil) (fun Y => (ve_call G_is_row_like (hr.mono (by omega)) rfl m_is_row_like U_is_row_like.kp b_is_row_like (va_cons (vo_var (pv 0)) va_nil))))) va_nil)))))))
theorem sc_shows_too_little : FnScope N_shows_too_little ["many", "spots", "time", "thing"] (defScope s_shows_too_little) := ⟨rfl, rfl, rfl, by decide +kernel, rfl, by decide +kernel, by decide +kernel⟩
set_option maxHeartbeats 4000000 in
theorem ok_shows_too_little {f : Addr} {fd : FuncData} (F : Fun K "shows_too_little" "shows_too_little" s_shows_too_little f fd) (T : Txt mg)
    {f_is_whole : Addr} {fd_is_whole : FuncData} (U_is_whole : Fun K "is_whole" "is_whole" s_is_whole f_is_whole fd_is_whole) (G_is_whole : FnOk P w K mg base CX0 1 f_is_whole fd_is_whole ["thing"] (spV 1 G.F_is_whole)) (b_is_whole : Binds K fd_is_whole ["thing"] []) (m_is_whole : mg "is_whole" = some (.ref f_is_whole))
    {f_are_spots : Addr} {fd_are_spots : FuncData} (U_are_spots : Fun K "are_spots" "are_spots" s_are_spots f_are_spots fd_are_spots) (G_are_spots : FnOk P w K mg base CX0 3 f_are_spots fd_are_spots ["many", "spots"] (spV 2 (G.F_are_spots f_is_whole))) (b_are_spots : Binds K fd_are_spots ["many", "spots"] []) (m_are_spots : mg "are_spots" = some (.ref f_are_spots))
    {f_are_rows_like : Addr} {fd_are_rows_like : FuncData} (U_are_rows_like : Fun K "are_rows_like" "are_rows_like" s_are_rows_like f_are_rows_like fd_are_rows_like) (G_are_rows_like : FnOk P w K mg base CX0 3 f_are_rows_like fd_are_rows_like ["thing"] (spV 1 G.F_are_rows_like)) (b_are_rows_like : Binds K fd_are_rows_like ["thing"] []) (m_are_rows_like : mg "are_rows_like" = some (.ref f_are_rows_like))
    {f_greatest_left : Addr} {fd_greatest_left : FuncData} (U_greatest_left : Fun K "greatest_left" "greatest_left" s_greatest_left f_greatest_left fd_greatest_left) (G_greatest_left : FnOk P w K mg base CX0 1 f_greatest_left fd_greatest_left ["spaces", "time"] (spV 2 G.F_greatest_left)) (b_greatest_left : Binds K fd_greatest_left ["spaces", "time"] []) (m_greatest_left : mg "greatest_left" = some (.ref f_greatest_left))
    {f_between : Addr} {fd_between : FuncData} (U_between : Fun K "between" "between" s_between f_between fd_between) (G_between : FnOk P w K mg base CX0 1 f_between fd_between ["many", "spots"] (spV 2 G.F_between)) (b_between : Binds K fd_between ["many", "spots"] []) (m_between : mg "between" = some (.ref f_between))
    {f_too_little : Addr} {fd_too_little : FuncData} (U_too_little : Fun K "too_little" "too_little" s_too_little f_too_little fd_too_little) (G_too_little : FnOk P w K mg base CX0 4 f_too_little fd_too_little ["many", "spots", "time"] (spV 3 G.F_too_little)) (b_too_little : Binds K fd_too_little ["many", "spots", "time"] []) (m_too_little : mg "too_little" = some (.ref f_too_little)) :
    FnOk P w K mg base CX0 5 f fd ["many", "spots", "time", "thing"] (spV 4 (G.F_shows_too_little f_is_whole)) := by
  have nd := sc_shows_too_little.nd
  refine fnV F sc_shows_too_little rfl (by decide) (fun cdv A outer s H E hr => ?_)
  exact (vss_cons (vs_if (VW.vt (vw_or (vt_not (vt_tru (vo_val (ve_call G_are_spots (hr.mono (by omega)) rfl m_are_spots U_are_spots.kp b_are_spots (va_cons (vo_var (pv 0)) (va_cons (vo_var (pv 1)) va_nil)))))) (vw_or (vt_not (vt_tru (vo_val (ve_call G_is_whole (hr.mono (by omega)) rfl m_is_whole U_is_whole.kp b_is_whole (va_cons (vo_var (pv 2)) va_nil))))) (vw_or (vt_cmp ov_lt (vo_var (pv 2)) (vo_val ve_int) (nomark _)) (vw_or1 (vt_not (vt_tru (vo_val (ve_call G_are_rows_like (hr.mono (by omega)) rfl m_are_rows_like U_are_rows_like.kp b_are_rows_like (va_cons (vo_var (pv 3)) va_nil)))))))))) (vss_one (vs_ret ve_bl)) vss_nil) (vss_cons (vs_if (vt_cmp (ov_ne (hu20 hr)) (vo_val (ve_callB cv_len (by rfl) T.b_len bt_len (va_cons (vo_var (pv 3)) va_nil))) (vo_val (ve_op ov_add (vo_val (ve_call G_greatest_left (hr.mono (by omega)) rfl m_greatest_left U_greatest_left.kp b_greatest_left (va_cons (vo_val (ve_call G_between (hr.mono (by omega)) rfl m_between U_between.kp b_between (va_cons (vo_var (pv 0)) (va_cons (vo_var (pv 1)) va_nil)))) (va_cons (vo_var (pv 2)) va_nil)))) (vo_val ve_int))) (nomark _)) (vss_one (vs_ret ve_bl)) vss_nil) (vss_one (vs_ret (ve_cmp (ov_eq (hu20 hr)) (vo_var (pv 3)) (vo_val (ve_call G_too_little (hr.mono (by omega)) rfl m_too_little U_too_little.kp b_too_little (va_cons (vo_var (pv 0)) (va_cons (vo_var (pv 1)) (va_cons (vo_var (pv 2)) va_nil))))) (nomark _))))))
theorem sc_l_hand : FnScope N_l_hand ["_law_script", "_law_k"] (defScope s_l_hand) := ⟨rfl, rfl, rfl, by decide +kernel, rfl, by decide +kernel, by decide +kernel⟩
set_option maxHeartbeats 4000000 in
theorem ok_l_hand {f : Addr} {fd : FuncData} (F : Fun K "_law_hand" "_law_hand" s_l_hand f fd) (T : Txt mg) :
    FnOk P w K mg base CX0 1 f fd ["_law_script", "_law_k"] (spV 2 G.F_l_hand) := by
  have nd := sc_l_hand.nd
  refine fnV F sc_l_hand rfl (by decide) (fun cdv A outer s H E hr => ?_)
  exact (vss_cons (vs_set (i := 2) nd rfl (by first | exact Or.inl rfl | exact Or.inr rfl) ve_int (by decide)) (vss_cons (vs_if (vt_cmp ov_lt (vo_var (pv 1)) (vo_val (ve_callB cv_len (by rfl) T.b_len bt_len (va_cons (vo_var (pv 0)) va_nil))) (nomark _)) (vss_one (vs_set (i := 2) nd rfl (by first | exact Or.inl rfl | exact Or.inr rfl) (ve_ix (ov_ix (hu20 hr)) (vo_var (pv 0)) (vo_var (pv 1)) (fun _ _ => rfl)) (by decide))) vss_nil) (vss_cons (vs_set (i := 3) nd rfl (by first | exact Or.inl rfl | exact Or.inr rfl) (ve_op ov_mul (vo_val (ve_op ov_mul (vo_val (ve_op ov_pow (vo_val ve_int) (vo_val ve_int))) (vo_val (ve_op ov_pow (vo_val ve_int) (vo_val ve_int))))) (vo_val (ve_op ov_pow (vo_val ve_int) (vo_val ve_int)))) (by decide)) (vss_cons (vs_set (i := 4) nd rfl (by first | exact Or.inl rfl | exact Or.inr rfl) (ve_op ov_mul (vo_val (ve_op ov_mod (vo_var (pv 2)) (vo_var (pv 3)))) (vo_val (ve_callTy cv_int rfl T.b_int bt_int (va_cons (vo_val (ve_cmp ov_ge (vo_var (pv 2)) (vo_val (ve_op ov_pow (vo_val ve_int) (vo_val ve_int))) (nomark _))) va_nil)))) (by decide)) (vss_one (vs_ret (ve_lst (va_cons (vo_var (pv 4)) (va_cons (vo_val (ve_op ov_add (vo_val (ve_op ov_add (vo_val (ve_op ov_mod (vo_var (pv 2)) (vo_val ve_int))) (vo_val (ve_op ov_mul (vo_val ve_int) (vo_var (pv 1)))))) (vo_val ve_int))) (va_cons (vo_val ve_int) va_nil))))))))))
theorem sc_l_take : FnScope N_l_take ["_law_hand_here", "_law_many"] (defScope s_l_take) := ⟨rfl, rfl, rfl, by decide +kernel, rfl, by decide +kernel, by decide +kernel⟩
set_option maxHeartbeats 4000000 in
theorem ok_l_take {f : Addr} {fd : FuncData} (F : Fun K "_law_take" "_law_take" s_l_take f fd) (T : Txt mg) :
    FnOk P w K mg base CX0 1 f fd ["_law_hand_here", "_law_many"] (spV 2 G.F_l_take) := by
  have nd := sc_l_take.nd
  refine fnV F sc_l_take rfl (by decide) (fun cdv A outer s H E hr => ?_)
  exact (vss_cons (vs_if (vt_cmp ov_gt (vo_val (ve_ix (ov_ix (hu20 hr)) (vo_var (pv 0)) (vo_val ve_int) (fun _ _ => rfl))) (vo_val ve_int) (nomark _)) (vss_cons (vs_set (i := 2) nd rfl (by first | exact Or.inl rfl | exact Or.inr rfl) (ve_op ov_mod (vo_val (ve_ix (ov_ix (hu20 hr)) (vo_var (pv 0)) (vo_val ve_int) (fun _ _ => rfl))) (vo_var (pv 1))) (by decide)) (vss_cons (vs_asg (ve_op ov_div (vo_val (ve_ix (ov_ix (hu20 hr)) (vo_var (pv 0)) (vo_val ve_int) (fun _ _ => rfl))) (vo_var (pv 1))) (vg_ix (pv 0) ve_int (pv_put (hu20 hr)))) (vss_one (vs_ret (ve_var (pv 2)))))) vss_nil) (vss_cons (vs_asg (ve_op ov_add (vo_val (ve_ix (ov_ix (hu20 hr)) (vo_var (pv 0)) (vo_val ve_int) (fun _ _ => rfl))) (vo_val ve_int)) (vg_ix (pv 0) ve_int (pv_put (hu20 hr)))) (vss_cons (vs_set (i := 3) nd rfl (by first | exact Or.inl rfl | exact Or.inr rfl) (ve_ix (ov_ix (hu20 hr)) (vo_var (pv 0)) (vo_val ve_int) (fun _ _ => rfl)) (by decide)) (vss_cons (vs_set (i := 4) nd rfl (by first | exact Or.inl rfl | exact Or.inr rfl) (ve_op ov_mod (vo_val (ve_op ov_mul (vo_val (ve_ix (ov_ix (hu20 hr)) (vo_var (pv 0)) (vo_val ve_int) (fun _ _ => rfl))) (vo_val (ve_op ov_add (vo_val (ve_op ov_add (vo_val ve_int) (vo_val (ve_op ov_mul (vo_val (ve_op ov_mul (vo_val ve_int) (vo_var (pv 3)))) (vo_var (pv 3)))))) (vo_val (ve_op ov_mul (vo_val ve_int) (vo_var (pv 3)))))))) (vo_val ve_int)) (by decide)) (vss_cons (vs_set (i := 5) nd rfl (by first | exact Or.inl rfl | exact Or.inr rfl) (ve_op ov_add (vo_val (ve_op ov_add (vo_val (ve_op ov_mod (vo_var (pv 4)) (vo_val ve_int))) (vo_val (ve_op ov_mul (vo_var (pv 3)) (vo_val ve_int))))) (vo_val ve_int)) (by decide)) (vss_cons (vs_set (i := 4) nd rfl (by first | exact Or.inl rfl | exact Or.inr rfl) (ve_op ov_mod (vo_val (ve_op ov_mul (vo_var (pv 4)) (vo_var (pv 5)))) (vo_val ve_int)) (by decide)) (vss_one (vs_ret (ve_op ov_mod (vo_val (ve_op ov_add (vo_val (ve_op ov_div (vo_var (pv 4)) (vo_val ve_int))) (vo_val (ve_op ov_div (vo_var (pv 4)) (vo_val ve_int))))) (vo_var (pv 1)))))))))))
theorem sc_l_of : FnScope N_l_of ["_law_hand_here", "_law_some"] (defScope s_l_of) := ⟨rfl, rfl, rfl, by decide +kernel, rfl, by decide +kernel, by decide +kernel⟩
set_option maxHeartbeats 4000000 in
theorem ok_l_of {f : Addr} {fd : FuncData} (F : Fun K "_law_of" "_law_of" s_l_of f fd) (T : Txt mg)
    {f_l_take : Addr} {fd_l_take : FuncData} (U_l_take : Fun K "_law_take" "_law_take" s_l_take f_l_take fd_l_take) (G_l_take : FnOk P w K mg base CX0 1 f_l_take fd_l_take ["_law_hand_here", "_law_many"] (spV 2 G.F_l_take)) (b_l_take : Binds K fd_l_take ["_law_hand_here", "_law_many"] []) (m_l_take : mg "_law_take" = some (.ref f_l_take)) :
    FnOk P w K mg base CX0 2 f fd ["_law_hand_here", "_law_some"] (spV 2 G.F_l_of) := by
  have nd := sc_l_of.nd
  refine fnV F sc_l_of rfl (by decide) (fun cdv A outer s H E hr => ?_)
  exact (vss_one (vs_ret (ve_ix (ov_ix (hu20 hr)) (vo_var (pv 1)) (vo_val (ve_call G_l_take (hr.mono (by omega)) rfl m_l_take U_l_take.kp b_l_take (va_cons (vo_var (pv 0)) (va_cons (vo_val (ve_callB cv_len (by rfl) T.b_len bt_len (va_cons (vo_var (pv 1)) va_nil))) va_nil)))) (fun _ _ => rfl))))
theorem sc_l_ring_of : FnScope N_l_ring_of ["_law_hand_here"] (defScope s_l_ring_of) := ⟨rfl, rfl, rfl, by decide +kernel, rfl, by decide +kernel, by decide +kernel⟩
set_option maxHeartbeats 4000000 in
theorem ok_l_ring_of {f : Addr} {fd : FuncData} (F : Fun K "_law_ring_of" "_law_ring_of" s_l_ring_of f fd) (T : Txt mg)
    {f_l_take : Addr} {fd_l_take : FuncData} (U_l_take : Fun K "_law_take" "_law_take" s_l_take f_l_take fd_l_take) (G_l_take : FnOk P w K mg base CX0 1 f_l_take fd_l_take ["_law_hand_here", "_law_many"] (spV 2 G.F_l_take)) (b_l_take : Binds K fd_l_take ["_law_hand_here", "_law_many"] []) (m_l_take : mg "_law_take" = some (.ref f_l_take))
    {f_l_of : Addr} {fd_l_of : FuncData} (U_l_of : Fun K "_law_of" "_law_of" s_l_of f_l_of fd_l_of) (G_l_of : FnOk P w K mg base CX0 2 f_l_of fd_l_of ["_law_hand_here", "_law_some"] (spV 2 G.F_l_of)) (b_l_of : Binds K fd_l_of ["_law_hand_here", "_law_some"] []) (m_l_of : mg "_law_of" = some (.ref f_l_of)) :
    FnOk P w K mg base CX0 3 f fd ["_law_hand_here"] (spV 1 G.F_l_ring_of) := by
  have nd := sc_l_ring_of.nd
  refine fnV F sc_l_ring_of rfl (by decide) (fun cdv A outer s H E hr => ?_)
  exact (vss_cons (vs_set (i := 1) nd rfl (by first | exact Or.inl rfl | exact Or.inr rfl) (ve_op ov_add (vo_val ve_int) (vo_val (ve_call G_l_take (hr.mono (by omega)) rfl m_l_take U_l_take.kp b_l_take (va_cons (vo_var (pv 0)) (va_cons (vo_val (ve_call G_l_of (hr.mono (by omega)) rfl m_l_of U_l_of.kp b_l_of (va_cons (vo_var (pv 0)) (va_cons (vo_val (ve_lst (va_cons (vo_val ve_int) (va_cons (vo_val ve_int) (va_cons (vo_val ve_int) (va_cons (vo_val ve_int) (va_cons (vo_val ve_int) (va_cons (vo_val ve_int) (va_cons (vo_val ve_int) (va_cons (vo_val ve_int) va_nil)))))))))) va_nil)))) va_nil))))) (by decide)) (vss_cons (vs_set (i := 2) nd rfl (by first | exact Or.inl rfl | exact Or.inr rfl) (ve_op ov_add (vo_val ve_int) (vo_val (ve_call G_l_take (hr.mono (by omega)) rfl m_l_take U_l_take.kp b_l_take (va_cons (vo_var (pv 0)) (va_cons (vo_val (ve_callB (cv_min2 rfl) (by rfl) T.b_min bt_min (va_cons (vo_var (pv 1)) (va_cons (vo_val (ve_call G_l_of (hr.mono (by omega)) rfl m_l_of U_l_of.kp b_l_of (va_cons (vo_var (pv 0)) (va_cons (vo_val (ve_lst (va_cons (vo_val ve_int) (va_cons (vo_val ve_int) (va_cons (vo_val ve_int) (va_cons (vo_val ve_int) va_nil)))))) va_nil)))) va_nil)))) va_nil))))) (by decide)) (vss_cons (vs_set (i := 3) nd rfl (by first | exact Or.inl rfl | exact Or.inr rfl) (ve_listRange1 rfl T.b_list rfl T.b_range (va_cons (vo_var (pv 1)) va_nil)) (by decide)) (vss_cons (vs_set (i := 4) nd rfl (by first | exact Or.inl rfl | exact Or.inr rfl) (ve_lst va_nil) (by decide)) (vss_cons (vs_forN (fx := [0]) PassesOwn.never rfl (vi_r1 rfl T.b_range (va_cons (vo_var (pv 2)) va_nil)) (vg_name (i := 5) nd rfl (by first | exact Or.inl rfl | exact Or.inr rfl) (by decide)) (vss_cons (vs_set (i := 6) nd rfl (by first | exact Or.inl rfl | exact Or.inr rfl) (ve_call G_l_take (hr.mono (by omega)) rfl m_l_take U_l_take.kp b_l_take (va_cons (vo_var (pv 0)) (va_cons (vo_val (ve_callB cv_len (by rfl) T.b_len bt_len (va_cons (vo_var (pv 3)) va_nil))) va_nil))) (by decide)) (vss_cons (vs_if (VW.vt (vw_and (vt_cmp ov_gt (vo_var (pv 5)) (vo_val ve_int) (nomark _)) (vw_and1 (vt_cmp (ov_eq (hu20 hr)) (vo_val (ve_call G_l_take (hr.mono (by omega)) rfl m_l_take U_l_take.kp b_l_take (va_cons (vo_var (pv 0)) (va_cons (vo_val ve_int) va_nil)))) (vo_val ve_int) (nomark _))))) (vss_one (vs_set (i := 6) nd rfl (by first | exact Or.inl rfl | exact Or.inr rfl) (ve_callB (cv_min3 rfl) (by rfl) T.b_min bt_min (va_cons (vo_var (pv 6)) (va_cons (vo_val (ve_op ov_sub (vo_val (ve_callB cv_len (by rfl) T.b_len bt_len (va_cons (vo_var (pv 3)) va_nil))) (vo_val ve_int))) (va_cons (vo_val ve_int) va_nil)))) (by decide))) vss_nil) (vss_one (vs_expr (ve_mut list_ty PySem.F.plainAttrs_list PySem.F.slot_list_append PySem.F.type_list_append mv_append (pv 4) (va_cons (vo_val (ve_mut list_ty PySem.F.plainAttrs_list PySem.F.slot_list_pop PySem.F.type_list_pop mv_popAt (pv 3) (va_cons (vo_var (pv 6)) va_nil))) va_nil)))))) (by decide) slot_r1) (vss_one (vs_ret (ve_tup (va_cons (vo_var (pv 1)) (va_cons (vo_val (ve_callTy cv_tuple rfl T.b_tuple bt_tuple (va_cons (vo_val (ve_callB (cv_sorted rfl (hu20 hr)) (by rfl) T.b_sorted bt_sorted (va_cons (vo_var (pv 4)) va_nil))) va_nil))) va_nil))))))))))
theorem sc_l_steps : FnScope N_l_steps ["_law_left", "_law_right"] (defScope s_l_steps) := ⟨rfl, rfl, rfl, by decide +kernel, rfl, by decide +kernel, by decide +kernel⟩
set_option maxHeartbeats 4000000 in
theorem ok_l_steps {f : Addr} {fd : FuncData} (F : Fun K "_law_steps" "_law_steps" s_l_steps f fd) (T : Txt mg) :
    FnOk P w K mg base CX0 1 f fd ["_law_left", "_law_right"] (spV 2 G.F_l_steps) := by
  have nd := sc_l_steps.nd
  refine fnV F sc_l_steps rfl (by decide) (fun cdv A outer s H E hr => ?_)
  exact (vss_one (vs_ret (ve_op ov_add (vo_val (ve_op ov_add (vo_var (pv 0)) (vo_var (pv 1)))) (vo_val (ve_callB (cv_min2 rfl) (by rfl) T.b_min bt_min (va_cons (vo_var (pv 0)) (va_cons (vo_var (pv 1)) va_nil)))))))
theorem sc_l_between : FnScope N_l_between ["_law_many", "_law_spots"] (defScope s_l_between) := ⟨rfl, rfl, rfl, by decide +kernel, rfl, by decide +kernel, by decide +kernel⟩
set_option maxHeartbeats 4000000 in
theorem ok_l_between {f : Addr} {fd : FuncData} (F : Fun K "_law_between" "_law_between" s_l_between f fd) (T : Txt mg) :
    FnOk P w K mg base CX0 1 f fd ["_law_many", "_law_spots"] (spV 2 G.F_l_between) := by
  have nd := sc_l_between.nd
  refine fnV F sc_l_between rfl (by decide) (fun cdv A outer s H E hr => ?_)
  exact (vss_cons (vs_set (i := 2) nd rfl (by first | exact Or.inl rfl | exact Or.inr rfl) (ve_lst va_nil) (by decide)) (vss_cons (vs_forN (fx := [0, 1]) PassesOwn.never rfl (vi_enum rfl T.b_enumerate (va_cons (vo_var (pv 1)) va_nil)) (vg_tup rfl (vgs_cons (vg_name (i := 3) nd rfl (by first | exact Or.inl rfl | exact Or.inr rfl) (by decide)) (vgs_cons (vg_name (i := 4) nd rfl (by first | exact Or.inl rfl | exact Or.inr rfl) (by decide)) vgs_nil))) (vss_cons (vs_set (i := 5) nd rfl (by first | exact Or.inl rfl | exact Or.inr rfl) (ve_ix (ov_ix (hu20 hr)) (vo_var (pv 1)) (vo_val (ve_op ov_mod (vo_val (ve_op ov_add (vo_var (pv 3)) (vo_val ve_int))) (vo_val (ve_callB cv_len (by rfl) T.b_len bt_len (va_cons (vo_var (pv 1)) va_nil))))) (fun _ _ => rfl)) (by decide)) (vss_one (vs_expr (ve_mut list_ty PySem.F.plainAttrs_list PySem.F.slot_list_append PySem.F.type_list_append mv_append (pv 2) (va_cons (vo_val (ve_op ov_mod (vo_val (ve_op ov_sub (vo_val (ve_op ov_sub (vo_var (pv 5)) (vo_var (pv 4)))) (vo_val ve_int))) (vo_var (pv 0)))) va_nil))))) (by decide) slot_e) (vss_one (vs_ret (ve_var (pv 2))))))
theorem sc_l_rooms : FnScope N_l_rooms ["_law_time"] (defScope s_l_rooms) := ⟨rfl, rfl, rfl, by decide +kernel, rfl, by decide +kernel, by decide +kernel⟩
set_option maxHeartbeats 4000000 in
theorem ok_l_rooms {f : Addr} {fd : FuncData} (F : Fun K "_law_rooms" "_law_rooms" s_l_rooms f fd) (T : Txt mg)
    {f_l_steps : Addr} {fd_l_steps : FuncData} (U_l_steps : Fun K "_law_steps" "_law_steps" s_l_steps f_l_steps fd_l_steps) (G_l_steps : FnOk P w K mg base CX0 1 f_l_steps fd_l_steps ["_law_left", "_law_right"] (spV 2 G.F_l_steps)) (b_l_steps : Binds K fd_l_steps ["_law_left", "_law_right"] []) (m_l_steps : mg "_law_steps" = some (.ref f_l_steps)) :
    FnOk P w K mg base CX0 2 f fd ["_law_time"] (spV 1 G.F_l_rooms) := by
  have nd := sc_l_rooms.nd
  refine fnV F sc_l_rooms rfl (by decide) (fun cdv A outer s H E hr => ?_)
  exact (vss_cons (vs_set (i := 1) nd rfl (by first | exact Or.inl rfl | exact Or.inr rfl) (ve_lst va_nil) (by decide)) (vss_cons (vs_set (i := 2) nd rfl (by first | exact Or.inl rfl | exact Or.inr rfl) (ve_var (pv 0)) (by decide)) (vss_cons (vs_forN (fx := [0]) PassesOwn.never rfl (vi_r1 rfl T.b_range (va_cons (vo_val (ve_op ov_add (vo_var (pv 0)) (vo_val ve_int))) va_nil)) (vg_name (i := 3) nd rfl (by first | exact Or.inl rfl | exact Or.inr rfl) (by decide)) (vss_cons (vs_while 1000000 PassesOwn.never (vt_cmp ov_gt (vo_val (ve_call G_l_steps (hr.mono (by omega)) rfl m_l_steps U_l_steps.kp b_l_steps (va_cons (vo_var (pv 3)) (va_cons (vo_var (pv 2)) va_nil)))) (vo_var (pv 0)) (nomark _)) (vss_one (vs_set (i := 2) nd rfl (by first | exact Or.inl rfl | exact Or.inr rfl) (ve_op ov_sub (vo_var (pv 2)) (vo_val ve_int)) (by decide)))) (vss_one (vs_expr (ve_mut list_ty PySem.F.plainAttrs_list PySem.F.slot_list_append PySem.F.type_list_append mv_append (pv 1) (va_cons (vo_var (pv 2)) va_nil))))) (by decide) slot_r1) (vss_one (vs_ret (ve_var (pv 1)))))))
theorem sc_l_row : FnScope N_l_row ["_law_between_here", "_law_rooms_here", "_law_first"] (defScope s_l_row) := ⟨rfl, rfl, rfl, by decide +kernel, rfl, by decide +kernel, by decide +kernel⟩
set_option maxHeartbeats 4000000 in
theorem ok_l_row {f : Addr} {fd : FuncData} (F : Fun K "_law_row" "_law_row" s_l_row f fd) (T : Txt mg) :
    FnOk P w K mg base CX0 1 f fd ["_law_between_here", "_law_rooms_here", "_law_first"] (spV 3 G.F_l_row) := by
  have nd := sc_l_row.nd
  refine fnV F sc_l_row rfl (by decide) (fun cdv A outer s H E hr => ?_)
  exact (vss_cons (vs_set (i := 3) nd rfl (by first | exact Or.inl rfl | exact Or.inr rfl) (ve_lst (va_cons (vo_var (pv 2)) va_nil)) (by decide)) (vss_cons (vs_forN (fx := [0, 1, 2]) PassesOwn.never rfl (vi_opd (vo_val (ve_slice (vo_var (pv 0)) vp_none (vp_some (ve_neg ve_int))))) (vg_name (i := 4) nd rfl (by first | exact Or.inl rfl | exact Or.inr rfl) (by decide)) (vss_cons (vs_if (vt_cmp ov_ge (vo_val (ve_ix (ov_ix (hu20 hr)) (vo_var (pv 3)) (vo_val (ve_neg ve_int)) (fun _ _ => rfl))) (vo_val (ve_callB cv_len (by rfl) T.b_len bt_len (va_cons (vo_var (pv 1)) va_nil))) (nomark _)) (vss_one (vs_ret (ve_callTy cv_tuple rfl T.b_tuple bt_tuple (va_cons (vo_var (pv 3)) va_nil)))) vss_nil) (vss_one (vs_expr (ve_mut list_ty PySem.F.plainAttrs_list PySem.F.slot_list_append PySem.F.type_list_append mv_append (pv 3) (va_cons (vo_val (ve_callB (cv_max2 rfl) (by rfl) T.b_max bt_max (va_cons (vo_val ve_int) (va_cons (vo_val (ve_op ov_sub (vo_var (pv 4)) (vo_val (ve_ix (ov_ix (hu20 hr)) (vo_var (pv 1)) (vo_val (ve_ix (ov_ix (hu20 hr)) (vo_var (pv 3)) (vo_val (ve_neg ve_int)) (fun _ _ => rfl))) (fun _ _ => rfl))))) va_nil)))) va_nil))))) (by decide) slot_v) (vss_one (vs_ret (ve_callTy cv_tuple rfl T.b_tuple bt_tuple (va_cons (vo_var (pv 3)) va_nil))))))
theorem sc_l_all_rows : FnScope N_l_all_rows ["_law_many", "_law_spots", "_law_time"] (defScope s_l_all_rows) := ⟨rfl, rfl, rfl, by decide +kernel, rfl, by decide +kernel, by decide +kernel⟩
set_option maxHeartbeats 4000000 in
theorem ok_l_all_rows {f : Addr} {fd : FuncData} (F : Fun K "_law_all_rows" "_law_all_rows" s_l_all_rows f fd) (T : Txt mg)
    {f_l_rooms : Addr} {fd_l_rooms : FuncData} (U_l_rooms : Fun K "_law_rooms" "_law_rooms" s_l_rooms f_l_rooms fd_l_rooms) (G_l_rooms : FnOk P w K mg base CX0 2 f_l_rooms fd_l_rooms ["_law_time"] (spV 1 G.F_l_rooms)) (b_l_rooms : Binds K fd_l_rooms ["_law_time"] []) (m_l_rooms : mg "_law_rooms" = some (.ref f_l_rooms))
    {f_l_between : Addr} {fd_l_between : FuncData} (U_l_between : Fun K "_law_between" "_law_between" s_l_between f_l_between fd_l_between) (G_l_between : FnOk P w K mg base CX0 1 f_l_between fd_l_between ["_law_many", "_law_spots"] (spV 2 G.F_l_between)) (b_l_between : Binds K fd_l_between ["_law_many", "_law_spots"] []) (m_l_between : mg "_law_between" = some (.ref f_l_between))
    {f_l_row : Addr} {fd_l_row : FuncData} (U_l_row : Fun K "_law_row" "_law_row" s_l_row f_l_row fd_l_row) (G_l_row : FnOk P w K mg base CX0 1 f_l_row fd_l_row ["_law_between_here", "_law_rooms_here", "_law_first"] (spV 3 G.F_l_row)) (b_l_row : Binds K fd_l_row ["_law_between_here", "_law_rooms_here", "_law_first"] []) (m_l_row : mg "_law_row" = some (.ref f_l_row)) :
    FnOk P w K mg base CX0 3 f fd ["_law_many", "_law_spots", "_law_time"] (spV 3 G.F_l_all_rows) := by
  have nd := sc_l_all_rows.nd
  refine fnV F sc_l_all_rows rfl (by decide) (fun cdv A outer s H E hr => ?_)
  exact (vss_cons (vs_asg (ve_tup (va_cons (vo_val (ve_call G_l_between (hr.mono (by omega)) rfl m_l_between U_l_between.kp b_l_between (va_cons (vo_var (pv 0)) (va_cons (vo_var (pv 1)) va_nil)))) (va_cons (vo_val (ve_call G_l_rooms (hr.mono (by omega)) rfl m_l_rooms U_l_rooms.kp b_l_rooms (va_cons (vo_var (pv 2)) va_nil))) va_nil))) (vg_tup rfl (vgs_cons (vg_name (i := 3) nd rfl (by first | exact Or.inl rfl | exact Or.inr rfl) (by decide)) (vgs_cons (vg_name (i := 4) nd rfl (by first | exact Or.inl rfl | exact Or.inr rfl) (by decide)) vgs_nil)))) (vss_cons (vs_set (i := 5) nd rfl (by first | exact Or.inl rfl | exact Or.inr rfl) (ve_callB (cv_min2 rfl) (by rfl) T.b_min bt_min (va_cons (vo_var (pv 2)) (va_cons (vo_val (ve_ix (ov_ix (hu20 hr)) (vo_var (pv 3)) (vo_val (ve_neg ve_int)) (fun _ _ => rfl))) va_nil))) (by decide)) (vss_one (vs_ret (ve_callTy cv_tuple rfl T.b_tuple bt_tuple (va_cons (vo_val (ve_comp (own := ["_law_first"]) (caps := [3, 4]) rfl (cscope (defScope s_l_all_rows) ["_law_many", "_law_spots", "_law_time", "_law_between_here", "_law_rooms_here", "_law_most"] (by decide +kernel)) (by decide) (vi_r1 rfl T.b_range (va_cons (vo_val (ve_op ov_add (vo_var (pv 5)) (vo_val ve_int))) va_nil)) (fun Y => (vg_name (i := 0) (show (["_law_first", "_law_between_here", "_law_rooms_here"] : List Str).Nodup by decide +kernel) rfl (by first | exact Or.inl rfl | exact Or.inr rfl) (by decide))) (fun Y => vts_nil) (fun Y => (ve_call G_l_row (hr.mono (by omega)) rfl m_l_row U_l_row.kp b_l_row (va_cons (vo_var (pv 1)) (va_cons (vo_var (pv 2)) (va_cons (vo_var (pv 0)) va_nil))))))) va_nil))))))
theorem sc_l_rows : FnScope N_l_rows ["_law_many", "_law_spots", "_law_time"] (defScope s_l_rows) := ⟨rfl, rfl, rfl, by decide +kernel, rfl, by decide +kernel, by decide +kernel⟩
set_option maxHeartbeats 4000000 in
theorem ok_l_rows {f : Addr} {fd : FuncData} (F : Fun K "_law_rows" "_law_rows" s_l_rows f fd) (T : Txt mg)
    {f_l_rooms : Addr} {fd_l_rooms : FuncData} (U_l_rooms : Fun K "_law_rooms" "_law_rooms" s_l_rooms f_l_rooms fd_l_rooms) (G_l_rooms : FnOk P w K mg base CX0 2 f_l_rooms fd_l_rooms ["_law_time"] (spV 1 G.F_l_rooms)) (b_l_rooms : Binds K fd_l_rooms ["_law_time"] []) (m_l_rooms : mg "_law_rooms" = some (.ref f_l_rooms))
    {f_l_between : Addr} {fd_l_between : FuncData} (U_l_between : Fun K "_law_between" "_law_between" s_l_between f_l_between fd_l_between) (G_l_between : FnOk P w K mg base CX0 1 f_l_between fd_l_between ["_law_many", "_law_spots"] (spV 2 G.F_l_between)) (b_l_between : Binds K fd_l_between ["_law_many", "_law_spots"] []) (m_l_between : mg "_law_between" = some (.ref f_l_between))
    {f_l_all_rows : Addr} {fd_l_all_rows : FuncData} (U_l_all_rows : Fun K "_law_all_rows" "_law_all_rows" s_l_all_rows f_l_all_rows fd_l_all_rows) (G_l_all_rows : FnOk P w K mg base CX0 3 f_l_all_rows fd_l_all_rows ["_law_many", "_law_spots", "_law_time"] (spV 3 G.F_l_all_rows)) (b_l_all_rows : Binds K fd_l_all_rows ["_law_many", "_law_spots", "_law_time"] []) (m_l_all_rows : mg "_law_all_rows" = some (.ref f_l_all_rows)) :
    FnOk P w K mg base CX0 4 f fd ["_law_many", "_law_spots", "_law_time"] (spV 3 G.F_l_rows) := by
  have nd := sc_l_rows.nd
  refine fnV F sc_l_rows rfl (by decide) (fun cdv A outer s H E hr => ?_)
  exact (vss_cons (vs_par (i := 3) (j := 4) rfl nd rfl rfl (by decide) rfl rfl (va_cons (vo_val (ve_call G_l_between (hr.mono (by omega)) rfl m_l_between U_l_between.kp b_l_between (va_cons (vo_var (pv 0)) (va_cons (vo_var (pv 1)) va_nil)))) (va_cons (vo_val (ve_call G_l_rooms (hr.mono (by omega)) rfl m_l_rooms U_l_rooms.kp b_l_rooms (va_cons (vo_var (pv 2)) va_nil))) va_nil)) (by decide) (by decide) rfl) (vss_cons (vs_set (i := 5) nd rfl (by first | exact Or.inl rfl | exact Or.inr rfl) (ve_call G_l_all_rows (hr.mono (by omega)) rfl m_l_all_rows U_l_all_rows.kp b_l_all_rows (va_cons (vo_var (pv 0)) (va_cons (vo_var (pv 1)) (va_cons (vo_var (pv 2)) va_nil)))) (by decide)) (vss_cons (vs_forN (fx := [5, 0, 1, 2]) PassesOwn.never rfl (vi_opd (vo_var (pv 5))) (vg_name (i := 6) nd rfl (by first | exact Or.inl rfl | exact Or.inr rfl) (by decide)) (vss_one (vs_if (VW.vt (vw_and (vt_cmp (ov_eq (hu20 hr)) (vo_val (ve_callB cv_len (by rfl) T.b_len bt_len (va_cons (vo_var (pv 6)) va_nil))) (vo_val (ve_callB cv_len (by rfl) T.b_len bt_len (va_cons (vo_var (pv 1)) va_nil))) (nomark _)) (vw_and1 (vt_cmp ov_lt (vo_val (ve_ix (ov_ix (hu20 hr)) (vo_var (pv 6)) (vo_val (ve_neg ve_int)) (fun _ _ => rfl))) (vo_val (ve_callB cv_len (by rfl) T.b_len bt_len (va_cons (vo_var (pv 4)) va_nil))) (nomark _))))) (vss_one (vs_if (vt_cmp ov_ge (vo_val (ve_op ov_add (vo_val (ve_ix (ov_ix (hu20 hr)) (vo_var (pv 4)) (vo_val (ve_ix (ov_ix (hu20 hr)) (vo_var (pv 6)) (vo_val (ve_neg ve_int)) (fun _ _ => rfl))) (fun _ _ => rfl))) (vo_val (ve_ix (ov_ix (hu20 hr)) (vo_var (pv 6)) (vo_val ve_int) (fun _ _ => rfl))))) (vo_val (ve_ix (ov_ix (hu20 hr)) (vo_var (pv 3)) (vo_val (ve_neg ve_int)) (fun _ _ => rfl))) (nomark _)) (vss_one (vs_ret ve_non)) vss_nil)) vss_nil)) (by decide) (slot_s (by decide))) (vss_one (vs_ret (ve_var (pv 5)))))))
theorem sc_l_same : FnScope N_l_same ["_law_told", "_law_due"] (defScope s_l_same) := ⟨rfl, rfl, rfl, by decide +kernel, rfl, by decide +kernel, by decide +kernel⟩
set_option maxHeartbeats 4000000 in
theorem ok_l_same {f_l_same : Addr} {fd_l_same : FuncData} (U_l_same : Fun K "_law_same" "_law_same" s_l_same f_l_same fd_l_same) (T : Txt mg) (b_l_same : Binds K fd_l_same ["_law_told", "_law_due"] []) (m_l_same : mg "_law_same" = some (.ref f_l_same)) :
    ∀ k, FnOk P w K mg base CX0 (1 + k) f_l_same fd_l_same ["_law_told", "_law_due"] (spV 2 (G.F_l_same k)) := by
  intro k
  induction k with
  | zero => exact ⟨fun vs H Q E h => h.1, fun A outer s H args us vs Q E hr he hb hv h => absurd h.2 (by rintro ⟨_, _, _, _, _, _, e, _⟩; cases e)⟩
  | succ k Grec =>
    have nd := sc_l_same.nd
    refine fnV (k := 1 + k) U_l_same sc_l_same rfl (by decide) (fun cdv A outer s H E hr => ?_)
    exact (vss_cons (vs_if (vt_tru (vo_val (ve_isi rfl T.b_isinstance bt_isinstance rfl T.b_tuple bt_tuple (vo_var (pv 1))))) (vss_cons (vs_if (VW.vt (vw_or (vt_not (vt_tru (vo_val (ve_isi rfl T.b_isinstance bt_isinstance rfl T.b_tuple bt_tuple (vo_var (pv 0)))))) (vw_or1 (vt_cmp (ov_ne (hu20 hr)) (vo_val (ve_callB cv_len (by rfl) T.b_len bt_len (va_cons (vo_var (pv 0)) va_nil))) (vo_val (ve_callB cv_len (by rfl) T.b_len bt_len (va_cons (vo_var (pv 1)) va_nil))) (nomark _))))) (vss_one (vs_ret ve_bl)) vss_nil) (vss_one (vs_ret (ve_callB (cv_all rfl) (by rfl) T.b_all bt_all (va_cons (vo_val (ve_comp (own := ["_law_one", "_law_other"]) (caps := []) rfl (cscope (defScope s_l_same) ["_law_told", "_law_due"] (by decide +kernel)) (by decide) (vi_zip rfl T.b_zip (va_cons (vo_var (pv 0)) (va_cons (vo_var (pv 1)) va_nil))) (fun Y => (vg_tup rfl (vgs_cons (vg_name (i := 0) (show (["_law_one", "_law_other"] : List Str).Nodup by decide +kernel) rfl (by first | exact Or.inl rfl | exact Or.inr rfl) (by decide)) (vgs_cons (vg_name (i := 1) (show (["_law_one", "_law_other"] : List Str).Nodup by decide +kernel) rfl (by first | exact Or.inl rfl | exact Or.inr rfl) (by decide)) vgs_nil)))) (fun Y => vts_nil) (fun Y => (ve_call Grec (hr.mono (Nat.le_refl _)) rfl m_l_same U_l_same.kp b_l_same (va_cons (vo_var (pv 0)) (va_cons (vo_var (pv 1)) va_nil)))))) va_nil))))) vss_nil) (vss_cons (vs_if (vt_cmp ov_is (vo_var (pv 1)) (vo_val ve_non) (nomark _)) (vss_one (vs_ret (ve_cmp ov_is (vo_var (pv 0)) (vo_val ve_non) (nomark _)))) vss_nil) (vss_cons (vs_if (vt_tru (vo_val (ve_isi rfl T.b_isinstance bt_isinstance rfl T.b_str bt_str (vo_var (pv 1))))) (vss_one (vs_ret (ve_and (ve_kb (ve_isi rfl T.b_isinstance bt_isinstance rfl T.b_str bt_str (vo_var (pv 0)))) (ve_kb (ve_one (ve_cmp (ov_eq (hu20 hr)) (vo_var (pv 0)) (vo_var (pv 1)) (nomark _))))))) vss_nil) (vss_one (vs_ret (ve_and (ve_kb (ve_isi rfl T.b_isinstance bt_isinstance rfl T.b_int bt_int (vo_var (pv 0)))) (ve_and (ve_kb (ve_not (ve_kb (ve_isi rfl T.b_isinstance bt_isinstance rfl T.b_bool bt_bool (vo_var (pv 0)))))) (ve_kb (ve_one (ve_cmp (ov_eq (hu20 hr)) (vo_var (pv 0)) (vo_var (pv 1)) (nomark _)))))))))))
theorem sc_l_papers : FnScope N_l_papers ["_law_hand_here", "_law_rows_here"] (defScope s_l_papers) := ⟨rfl, rfl, rfl, by decide +kernel, rfl, by decide +kernel, by decide +kernel⟩
set_option maxHeartbeats 4000000 in
theorem ok_l_papers {f : Addr} {fd : FuncData} (F : Fun K "_law_papers" "_law_papers" s_l_papers f fd) (T : Txt mg)
    {f_l_take : Addr} {fd_l_take : FuncData} (U_l_take : Fun K "_law_take" "_law_take" s_l_take f_l_take fd_l_take) (G_l_take : FnOk P w K mg base CX0 1 f_l_take fd_l_take ["_law_hand_here", "_law_many"] (spV 2 G.F_l_take)) (b_l_take : Binds K fd_l_take ["_law_hand_here", "_law_many"] []) (m_l_take : mg "_law_take" = some (.ref f_l_take))
    {f_l_of : Addr} {fd_l_of : FuncData} (U_l_of : Fun K "_law_of" "_law_of" s_l_of f_l_of fd_l_of) (G_l_of : FnOk P w K mg base CX0 2 f_l_of fd_l_of ["_law_hand_here", "_law_some"] (spV 2 G.F_l_of)) (b_l_of : Binds K fd_l_of ["_law_hand_here", "_law_some"] []) (m_l_of : mg "_law_of" = some (.ref f_l_of)) :
    FnOk P w K mg base CX0 3 f fd ["_law_hand_here", "_law_rows_here"] (spV 2 G.F_l_papers) := by
  have nd := sc_l_papers.nd
  refine fnV F sc_l_papers rfl (by decide) (fun cdv A outer s H E hr => ?_)
  exact (vss_cons (vs_set (i := 2) nd rfl (by first | exact Or.inl rfl | exact Or.inr rfl) (ve_call G_l_take (hr.mono (by omega)) rfl m_l_take U_l_take.kp b_l_take (va_cons (vo_var (pv 0)) (va_cons (vo_val (ve_callB cv_len (by rfl) T.b_len bt_len (va_cons (vo_var (pv 1)) va_nil))) va_nil))) (by decide)) (vss_cons (vs_set (i := 3) nd rfl (by first | exact Or.inl rfl | exact Or.inr rfl) (ve_ix (ov_ix (hu20 hr)) (vo_var (pv 1)) (vo_var (pv 2)) (fun _ _ => rfl)) (by decide)) (vss_cons (vs_set (i := 4) nd rfl (by first | exact Or.inl rfl | exact Or.inr rfl) (ve_call G_l_take (hr.mono (by omega)) rfl m_l_take U_l_take.kp b_l_take (va_cons (vo_var (pv 0)) (va_cons (vo_val (ve_callB cv_len (by rfl) T.b_len bt_len (va_cons (vo_var (pv 3)) va_nil))) va_nil))) (by decide)) (vss_cons (vs_set (i := 5) nd rfl (by first | exact Or.inl rfl | exact Or.inr rfl) (ve_call G_l_of (hr.mono (by omega)) rfl m_l_of U_l_of.kp b_l_of (va_cons (vo_var (pv 0)) (va_cons (vo_val (ve_lst (va_cons (vo_val (ve_op ov_add (vo_val (ve_ix (ov_ix (hu20 hr)) (vo_var (pv 3)) (vo_var (pv 4)) (fun _ _ => rfl))) (vo_val ve_int))) (va_cons (vo_val (ve_op ov_sub (vo_val (ve_ix (ov_ix (hu20 hr)) (vo_var (pv 3)) (vo_var (pv 4)) (fun _ _ => rfl))) (vo_val ve_int))) (va_cons (vo_val ve_int) (va_cons (vo_val ve_non) (va_cons (vo_val ve_str) (va_cons (vo_val (ve_tup (va_cons (vo_val ve_int) va_nil))) va_nil)))))))) va_nil))) (by decide)) (vss_cons (vs_set (i := 6) nd rfl (by first | exact Or.inl rfl | exact Or.inr rfl) (ve_op ov_add (vo_val (ve_op ov_add (vo_val (ve_slice (vo_var (pv 3)) vp_none (vp_some (ve_var (pv 4))))) (vo_val (ve_tup (va_cons (vo_var (pv 5)) va_nil))))) (vo_val (ve_slice (vo_var (pv 3)) (vp_some (ve_op ov_add (vo_var (pv 4)) (vo_val ve_int))) vp_none))) (by decide)) (vss_cons (vs_set (i := 7) nd rfl (by first | exact Or.inl rfl | exact Or.inr rfl) (ve_callTy cv_tuple rfl T.b_tuple bt_tuple (va_cons (vo_val (ve_comp (own := ["_law_one"]) (caps := []) rfl (cscope (defScope s_l_papers) ["_law_hand_here", "_law_rows_here", "_law_at", "_law_row_here", "_law_place", "_law_number", "_law_odd", "_law_truth", "_law_some", "_law_other"] (by decide +kernel)) (by decide) (vi_opd (vo_var (pv 3))) (fun Y => (vg_name (i := 0) (show (["_law_one"] : List Str).Nodup by decide +kernel) rfl (by first | exact Or.inl rfl | exact Or.inr rfl) (by decide))) (fun Y => vts_nil) (fun Y => (ve_cmp (ov_eq (hu20 hr)) (vo_var (pv 0)) (vo_val ve_int) (nomark _))))) va_nil)) (by decide)) (vss_cons (vs_set (i := 8) nd rfl (by first | exact Or.inl rfl | exact Or.inr rfl) (ve_lst (va_cons (vo_var (pv 1)) (va_cons (vo_val (ve_op ov_add (vo_val (ve_slice (vo_var (pv 1)) vp_none (vp_some (ve_var (pv 2))))) (vo_val (ve_slice (vo_var (pv 1)) (vp_some (ve_op ov_add (vo_var (pv 2)) (vo_val ve_int))) vp_none)))) (va_cons (vo_val (ve_rev (vo_var (pv 1)) (ve_neg ve_int))) (va_cons (vo_val (ve_fz (ve_callTy cv_list rfl T.b_list bt_list (va_cons (vo_var (pv 1)) va_nil)))) va_nil))))) (by decide)) (vss_cons (vs_set (i := 8) nd rfl (by first | exact Or.inl rfl | exact Or.inr rfl) (ve_op ov_add (vo_var (pv 8)) (vo_val (ve_lst (va_cons (vo_val (ve_op ov_add (vo_var (pv 1)) (vo_val (ve_tup (va_cons (vo_var (pv 3)) va_nil))))) (va_cons (vo_val (ve_tup (va_cons (vo_var (pv 1)) va_nil))) (va_cons (vo_val (ve_op ov_add (vo_var (pv 1)) (vo_val (ve_tup (va_cons (vo_val (ve_tup va_nil)) va_nil))))) va_nil)))))) (by decide)) (vss_cons (vs_forN (fx := [0, 1]) PassesOwn.never rfl (vi_opd (vo_val (ve_tup (va_cons (vo_var (pv 6)) (va_cons (vo_val (ve_fz (ve_callTy cv_list rfl T.b_list bt_list (va_cons (vo_var (pv 3)) va_nil)))) (va_cons (vo_var (pv 7)) (va_cons (vo_val (ve_op ov_add (vo_var (pv 3)) (vo_val (ve_tup (va_cons (vo_val ve_int) va_nil))))) (va_cons (vo_val (ve_slice (vo_var (pv 3)) vp_none (vp_some (ve_var (pv 4))))) (va_cons (vo_val (ve_tup (va_cons (vo_var (pv 3)) va_nil))) (va_cons (vo_val ve_non) va_nil)))))))))) (vg_name (i := 9) nd rfl (by first | exact Or.inl rfl | exact Or.inr rfl) (by decide)) (vss_one (vs_expr (ve_mut list_ty PySem.F.plainAttrs_list PySem.F.slot_list_append PySem.F.type_list_append mv_append (pv 8) (va_cons (vo_val (ve_op ov_add (vo_val (ve_op ov_add (vo_val (ve_slice (vo_var (pv 1)) vp_none (vp_some (ve_var (pv 2))))) (vo_val (ve_tup (va_cons (vo_var (pv 9)) va_nil))))) (vo_val (ve_slice (vo_var (pv 1)) (vp_some (ve_op ov_add (vo_var (pv 2)) (vo_val ve_int))) vp_none)))) va_nil)))) (by decide) slot_v) (vss_one (vs_ret (ve_op ov_add (vo_var (pv 8)) (vo_val (ve_lst (va_cons (vo_val (ve_op ov_add (vo_val (ve_op ov_add (vo_val (ve_slice (vo_var (pv 1)) vp_none (vp_some (ve_var (pv 2))))) (vo_val (ve_tup (va_cons (vo_var (pv 3)) va_nil))))) (vo_val (ve_slice (vo_var (pv 1)) (vp_some (ve_var (pv 2))) vp_none)))) (va_cons (vo_val ve_non) (va_cons (vo_val (ve_tup va_nil)) (va_cons (vo_val ve_bl) (va_cons (vo_val ve_str) va_nil)))))))))))))))))))
theorem sc_law : FnScope N_law ["_law_script"] (defScope s_law) := ⟨rfl, rfl, rfl, by decide +kernel, rfl, by decide +kernel, by decide +kernel⟩
set_option maxHeartbeats 4000000 in
theorem ok_law {f : Addr} {fd : FuncData} (F : Fun K "law" "law" s_law f fd) (T : Txt mg)
    {f_is_whole : Addr} {fd_is_whole : FuncData} (U_is_whole : Fun K "is_whole" "is_whole" s_is_whole f_is_whole fd_is_whole) (G_is_whole : FnOk P w K mg base CX0 1 f_is_whole fd_is_whole ["thing"] (spV 1 G.F_is_whole)) (b_is_whole : Binds K fd_is_whole ["thing"] []) (m_is_whole : mg "is_whole" = some (.ref f_is_whole))
    {f_l_hand : Addr} {fd_l_hand : FuncData} (U_l_hand : Fun K "_law_hand" "_law_hand" s_l_hand f_l_hand fd_l_hand) (G_l_hand : FnOk P w K mg base CX0 1 f_l_hand fd_l_hand ["_law_script", "_law_k"] (spV 2 G.F_l_hand)) (b_l_hand : Binds K fd_l_hand ["_law_script", "_law_k"] []) (m_l_hand : mg "_law_hand" = some (.ref f_l_hand))
    {f_l_ring_of : Addr} {fd_l_ring_of : FuncData} (U_l_ring_of : Fun K "_law_ring_of" "_law_ring_of" s_l_ring_of f_l_ring_of fd_l_ring_of) (G_l_ring_of : FnOk P w K mg base CX0 3 f_l_ring_of fd_l_ring_of ["_law_hand_here"] (spV 1 G.F_l_ring_of)) (b_l_ring_of : Binds K fd_l_ring_of ["_law_hand_here"] []) (m_l_ring_of : mg "_law_ring_of" = some (.ref f_l_ring_of))
    {f_least_time : Addr} {fd_least_time : FuncData} (U_least_time : Fun K "least_time" "least_time" s_least_time f_least_time fd_least_time) (G_least_time : FnOk P w K mg base CX0 5 f_least_time fd_least_time ["many", "spots"] (spV 2 G.F_least_time)) (b_least_time : Binds K fd_least_time ["many", "spots"] []) (m_least_time : mg "least_time" = some (.ref f_least_time))
    {f_l_take : Addr} {fd_l_take : FuncData} (U_l_take : Fun K "_law_take" "_law_take" s_l_take f_l_take fd_l_take) (G_l_take : FnOk P w K mg base CX0 1 f_l_take fd_l_take ["_law_hand_here", "_law_many"] (spV 2 G.F_l_take)) (b_l_take : Binds K fd_l_take ["_law_hand_here", "_law_many"] []) (m_l_take : mg "_law_take" = some (.ref f_l_take))
    {f_l_rows : Addr} {fd_l_rows : FuncData} (U_l_rows : Fun K "_law_rows" "_law_rows" s_l_rows f_l_rows fd_l_rows) (G_l_rows : FnOk P w K mg base CX0 4 f_l_rows fd_l_rows ["_law_many", "_law_spots", "_law_time"] (spV 3 G.F_l_rows)) (b_l_rows : Binds K fd_l_rows ["_law_many", "_law_spots", "_law_time"] []) (m_l_rows : mg "_law_rows" = some (.ref f_l_rows))
    {f_l_papers : Addr} {fd_l_papers : FuncData} (U_l_papers : Fun K "_law_papers" "_law_papers" s_l_papers f_l_papers fd_l_papers) (G_l_papers : FnOk P w K mg base CX0 3 f_l_papers fd_l_papers ["_law_hand_here", "_law_rows_here"] (spV 2 G.F_l_papers)) (b_l_papers : Binds K fd_l_papers ["_law_hand_here", "_law_rows_here"] []) (m_l_papers : mg "_law_papers" = some (.ref f_l_papers))
    {f_l_all_rows : Addr} {fd_l_all_rows : FuncData} (U_l_all_rows : Fun K "_law_all_rows" "_law_all_rows" s_l_all_rows f_l_all_rows fd_l_all_rows) (G_l_all_rows : FnOk P w K mg base CX0 3 f_l_all_rows fd_l_all_rows ["_law_many", "_law_spots", "_law_time"] (spV 3 G.F_l_all_rows)) (b_l_all_rows : Binds K fd_l_all_rows ["_law_many", "_law_spots", "_law_time"] []) (m_l_all_rows : mg "_law_all_rows" = some (.ref f_l_all_rows))
    {f_shows_too_little : Addr} {fd_shows_too_little : FuncData} (U_shows_too_little : Fun K "shows_too_little" "shows_too_little" s_shows_too_little f_shows_too_little fd_shows_too_little) (G_shows_too_little : FnOk P w K mg base CX0 5 f_shows_too_little fd_shows_too_little ["many", "spots", "time", "thing"] (spV 4 (G.F_shows_too_little f_is_whole))) (b_shows_too_little : Binds K fd_shows_too_little ["many", "spots", "time", "thing"] []) (m_shows_too_little : mg "shows_too_little" = some (.ref f_shows_too_little))
    {f_l_same : Addr} {fd_l_same : FuncData} (U_l_same : Fun K "_law_same" "_law_same" s_l_same f_l_same fd_l_same) (G_l_same : FnOk P w K mg base CX0 7 f_l_same fd_l_same ["_law_told", "_law_due"] (spV 2 (G.F_l_same 6))) (b_l_same : Binds K fd_l_same ["_law_told", "_law_due"] []) (m_l_same : mg "_law_same" = some (.ref f_l_same)) :
    FnOk P w K mg base CX0 8 f fd ["_law_script"] (spV 1 (G.F_law_k48 f_is_whole)) := by
  have nd := sc_law.nd
  refine fnV F sc_law rfl (by decide) (fun cdv A outer s H E hr => ?_)
  exact (vss_cons (vs_forN (fx := [0]) PassesOwn.never rfl (vi_r1 rfl T.b_range (va_cons (vo_val (ve_callB (cv_max2 rfl) (by rfl) T.b_max bt_max (va_cons (vo_val ve_int) (va_cons (vo_val (ve_callB (cv_min2 rfl) (by rfl) T.b_min bt_min (va_cons (vo_val ve_int) (va_cons (vo_val (ve_callB cv_len (by rfl) T.b_len bt_len (va_cons (vo_var (pv 0)) va_nil))) va_nil)))) va_nil)))) va_nil)) (vg_name (i := 1) nd rfl (by first | exact Or.inl rfl | exact Or.inr rfl) (by decide)) (vss_cons (vs_set (i := 2) nd rfl (by first | exact Or.inl rfl | exact Or.inr rfl) (ve_call G_l_hand (hr.mono (by omega)) rfl m_l_hand U_l_hand.kp b_l_hand (va_cons (vo_var (pv 0)) (va_cons (vo_var (pv 1)) va_nil))) (by decide)) (vss_cons (vs_asg (ve_call G_l_ring_of (hr.mono (by omega)) rfl m_l_ring_of U_l_ring_of.kp b_l_ring_of (va_cons (vo_var (pv 2)) va_nil)) (vg_tup rfl (vgs_cons (vg_name (i := 3) nd rfl (by first | exact Or.inl rfl | exact Or.inr rfl) (by decide)) (vgs_cons (vg_name (i := 4) nd rfl (by first | exact Or.inl rfl | exact Or.inr rfl) (by decide)) vgs_nil)))) (vss_cons (vs_set (i := 5) nd rfl (by first | exact Or.inl rfl | exact Or.inr rfl) (ve_callB (cv_max2 rfl) (by rfl) T.b_max bt_max (va_cons (vo_val ve_int) (va_cons (vo_val (ve_op ov_sub (vo_val (ve_call G_least_time (hr.mono (by omega)) rfl m_least_time U_least_time.kp b_least_time (va_cons (vo_var (pv 3)) (va_cons (vo_var (pv 4)) va_nil)))) (vo_val (ve_call G_l_take (hr.mono (by omega)) rfl m_l_take U_l_take.kp b_l_take (va_cons (vo_var (pv 2)) (va_cons (vo_val ve_int) va_nil)))))) va_nil))) (by decide)) (vss_cons (vs_set (i := 6) nd rfl (by first | exact Or.inl rfl | exact Or.inr rfl) (ve_call G_l_rows (hr.mono (by omega)) rfl m_l_rows U_l_rows.kp b_l_rows (va_cons (vo_var (pv 3)) (va_cons (vo_var (pv 4)) (va_cons (vo_var (pv 5)) va_nil)))) (by decide)) (vss_one (vs_forN (fx := [0]) PassesOwn.never rfl (vi_opd (vo_val (ve_call G_l_papers (hr.mono (by omega)) rfl m_l_papers U_l_papers.kp b_l_papers (va_cons (vo_var (pv 2)) (va_cons (vo_val (ve_call G_l_all_rows (hr.mono (by omega)) rfl m_l_all_rows U_l_all_rows.kp b_l_all_rows (va_cons (vo_var (pv 3)) (va_cons (vo_var (pv 4)) (va_cons (vo_var (pv 5)) va_nil))))) va_nil))))) (vg_name (i := 7) nd rfl (by first | exact Or.inl rfl | exact Or.inr rfl) (by decide)) (vss_cons (vs_set (i := 8) nd rfl (by first | exact Or.inl rfl | exact Or.inr rfl) (ve_call G_shows_too_little (hr.mono (by omega)) rfl m_shows_too_little U_shows_too_little.kp b_shows_too_little (va_cons (vo_var (pv 3)) (va_cons (vo_var (pv 4)) (va_cons (vo_var (pv 5)) (va_cons (vo_var (pv 7)) va_nil))))) (by decide)) (vss_cons (vs_if (vt_not (vt_tru (vo_val (ve_isi rfl T.b_isinstance bt_isinstance rfl T.b_bool bt_bool (vo_var (pv 8)))))) (vss_one (vs_ret ve_bl)) vss_nil) (vss_one (vs_if (vt_cmp (ov_ne (hu20 hr)) (vo_var (pv 8)) (vo_val (ve_and (ve_kb (ve_cmp ov_isnot (vo_var (pv 6)) (vo_val ve_non) (nomark _))) (ve_kb (ve_one (ve_call G_l_same (hr.mono (by omega)) rfl m_l_same U_l_same.kp b_l_same (va_cons (vo_var (pv 7)) (va_cons (vo_var (pv 6)) va_nil))))))) (nomark _)) (vss_one (vs_ret ve_bl)) vss_nil)))) (by decide) slot_v)))))) (by decide) slot_r1) (vss_one (vs_ret (ve_cmp ov_is (vo_val (ve_call G_shows_too_little (hr.mono (by omega)) rfl m_shows_too_little U_shows_too_little.kp b_shows_too_little (va_cons (vo_val ve_int) (va_cons (vo_val (ve_tup (va_cons (vo_val ve_int) (va_cons (vo_val ve_int) va_nil)))) (va_cons (vo_val ve_int) (va_cons (vo_val (ve_tup (va_cons (vo_val (ve_tup (va_cons (vo_val ve_int) (va_cons (vo_val ve_int) va_nil)))) va_nil))) va_nil)))))) (vo_val ve_bl) (nomark _)))))
end
end K48
set_option Elab.async false
set_option linter.all false
set_option maxRecDepth 100000
namespace G
open PySem L2
def roomN (t l : Int) : Option Int := if l > t then none else if l * 3 ≤ t then some (t - l * 2) else some ((t - l) / 2)
def optI : Option Int → Im
  | none => .non
  | some i => .int i
theorem F_room_eq (t l : Int) : F_room [.im (.int t), .im (.int l)] = some (.im (optI (roomN t l)), [.im (.int t), .im (.int l)]) := by
  have m3 : mulOk l 3 = true := mulOk_r (by decide) (by decide)
  have m2 : mulOk l 2 = true := mulOk_r (by decide) (by decide)
  by_cases h1 : l > t
  · simp -implicitDefEqProofs [F_room, g_room, roomN, h1, optI]
  · by_cases h2 : l * 3 ≤ t <;> simp -implicitDefEqProofs [F_room, g_room, roomN, h1, h2, optI, m3, m2]
def mix1 (s u : Int) : Int := s * (48271 + 2 * u * u + 65537 * u) % 2305843009213693921
def mixV (s u : Int) : Int := mix1 s u * (mix1 s u % 1000003 + u * 99991 + 11) % 2305843009213693907 / 97 + mix1 s u * (mix1 s u % 1000003 + u * 99991 + 11) % 2305843009213693907 / 1000033
abbrev hd (d s t : Int) : Vl := .lst [.int d, .int s, .int t]
theorem F_take_eq {d s t m : Int} (hd0 : 0 ≤ d) (hs0 : 0 ≤ s) (hs1 : s < 2 ^ 63) (ht0 : 0 ≤ t) (ht1 : t < 2 ^ 60) (hm0 : 0 < m) (hm1 : m < 1073741824) :
    ∃ v d' t', F_l_take [hd d s t, .im (.int m)] = some (.im (.int v), [hd d' s t', .im (.int m)]) ∧ 0 ≤ v ∧ v < m ∧ 0 ≤ d' ∧ t ≤ t' ∧ t' ≤ t + 1 := by
  by_cases h : 0 < d
  · refine ⟨d % m, d / m, t, ?_, Int.emod_nonneg _ (by omega), Int.emod_lt_of_pos _ hm0, Int.ediv_nonneg hd0 (by omega), by omega, by omega⟩
    simp -implicitDefEqProofs [F_l_take, g_l_take, atI, ixN, h, hm0, hm1]
  · have e1 : mulOk 2 (t + 1) = true := mulOk_l (by decide) (by decide)
    have e2 : mulOk (2 * (t + 1)) (t + 1) = true := mulOk_r (by omega) (by omega)
    have e3 : mulOk 65537 (t + 1) = true := mulOk_l (by decide) (by decide)
    have e4 : ∀ x, mulOk s x = true := fun x => mulOk_l (by omega) (by omega)
    have e5 : mulOk (t + 1) 99991 = true := mulOk_r (by decide) (by decide)
    have e6 : ∀ x y, mulOk (x % 2305843009213693921) y = true := fun x y => mulOk_l (by have := Int.emod_nonneg x (show (2305843009213693921 : Int) ≠ 0 by decide); omega) (by have := Int.emod_lt_of_pos x (show (0 : Int) < 2305843009213693921 by decide); omega)
    refine ⟨mixV s (t + 1) % m, d, t + 1, ?_, Int.emod_nonneg _ (by omega), Int.emod_lt_of_pos _ hm0, hd0, by omega, by omega⟩
    simp -implicitDefEqProofs [F_l_take, g_l_take, atI, ixN, h, hm0, hm1, e1, e2, e3, e4, e5, e6, mixV, mix1]
def HandOk (n : Nat) (h : Vl) : Prop := ∃ d s t, h = hd d s t ∧ 0 ≤ d ∧ 0 ≤ s ∧ s < 2 ^ 63 ∧ 0 ≤ t ∧ t + n < 2 ^ 60
theorem HandOk.mono {n m : Nat} {h : Vl} (x : HandOk n h) (e : m ≤ n) : HandOk m h := by
  obtain ⟨d, s, t, rfl, h1, h2, h3, h4, h5⟩ := x
  exact ⟨d, s, t, rfl, h1, h2, h3, h4, by omega⟩
theorem take_ok {n : Nat} {h : Vl} {m : Int} (x : HandOk (n + 1) h) (hm0 : 0 < m) (hm1 : m < 1073741824) : ∃ v h', F_l_take [h, .im (.int m)] = some (.im (.int v), [h', .im (.int m)]) ∧ 0 ≤ v ∧ v < m ∧ HandOk n h' := by
  obtain ⟨d, s, t, rfl, h1, h2, h3, h4, h5⟩ := x
  obtain ⟨v, d', t', e, e1, e2, e3, e4, e5⟩ := F_take_eq (m := m) h1 h2 h3 h4 (by omega) hm0 hm1
  exact ⟨v, hd d' s t', e, e1, e2, d', s, t', rfl, e3, h2, h3, by omega, by omega⟩
theorem hand_is_lst {n : Nat} {h : Vl} (x : HandOk n h) : ∃ ds, h = .lst ds := by
  obtain ⟨d, s, t, rfl, _⟩ := x
  exact ⟨_, rfl⟩
theorem hand_ok {ns : List Int} {k : Int} (hk : 0 ≤ k) (hk2 : k < 1000) : ∃ h, F_l_hand [.fz (ns.map .int), .im (.int k)] = some (h, [.fz (ns.map .int), .im (.int k)]) ∧ HandOk 1000000 h := by
  have key : ∀ c : Int, HandOk 1000000 (hd (c % (10 ^ 60 * 10 ^ 60 * 10 ^ 60) * (if 10 ^ 18 ≤ c then 1 else 0)) (c % 2305843009213693951 + 7919 * k + 3) 0) := fun c => by
    have h1 := Int.emod_nonneg c (show (10 ^ 60 * 10 ^ 60 * 10 ^ 60 : Int) ≠ 0 by decide)
    have h2 := Int.emod_nonneg c (show (2305843009213693951 : Int) ≠ 0 by decide)
    have h3 := Int.emod_lt_of_pos c (show (0 : Int) < 2305843009213693951 by decide)
    refine ⟨_, _, _, rfl, ?_, by omega, by omega, Int.le_refl 0, by decide⟩
    split
    · rw [Int.mul_one]; exact h1
    · rw [Int.mul_zero]; exact Int.le_refl 0
  have p1 : mulOk (10 ^ 60) (10 ^ 60) = true := by decide +kernel
  have p2 : mulOk (10 ^ 60 * 10 ^ 60) (10 ^ 60) = true := by decide +kernel
  have p3 : ∀ x c : Int, mulOk x (if 10 ^ 18 ≤ c then 1 else 0) = true := fun x c => mulOk_r (by split <;> decide) (by split <;> decide)
  have p4 : mulOk 7919 k = true := mulOk_l (by decide) (by decide)
  have q0 : (10 : Nat) < 2 ^ 64 := by decide
  have q1 : (0 : Int) < 10 ^ 60 * 10 ^ 60 * 10 ^ 60 := by decide
  by_cases hl : k < (ns.length : Int)
  · obtain ⟨c, hc⟩ : ∃ c, ns[k.toNat]? = some c := ⟨ns[k.toNat]'(by omega), by simp⟩
    have hat : atI (ns.map Im.int) k = some (.int c) := atI_pos hk (by rw [List.getElem?_map, hc]; rfl)
    refine ⟨_, ?_, key c⟩
    simp -implicitDefEqProofs [F_l_hand, g_l_hand, hl, hat, p1, p2, p3, p4, q0, q1, -Int.reducePow, -Nat.reducePow]
  · refine ⟨_, ?_, key 0⟩
    simp -implicitDefEqProofs [F_l_hand, g_l_hand, hl, p1, p2, p3, p4, q0, q1, -Int.reducePow, -Nat.reducePow]
theorem of_ok {n : Nat} {h : Vl} {xs : List Im} (x : HandOk (n + 1) h) (h0 : xs ≠ []) (h1 : xs.length < 1073741824) : ∃ d h', F_l_of [h, .lst xs] = some (.im d, [h', .lst xs]) ∧ d ∈ xs ∧ HandOk n h' := by
  have hl : 0 < xs.length := List.length_pos_iff.mpr h0
  obtain ⟨v, h', e, e1, e2, e3⟩ := take_ok (m := xs.length) x (by omega) (by omega)
  obtain ⟨d, hd⟩ : ∃ d, xs[v.toNat]? = some d := ⟨xs[v.toNat]'(by omega), by simp⟩
  have hat : atI xs v = some d := atI_pos e1 hd
  obtain ⟨q, rfl⟩ := hand_is_lst x
  obtain ⟨q', rfl⟩ := hand_is_lst e3
  refine ⟨d, .lst q', ?_, List.mem_of_getElem? hd, e3⟩
  simp -implicitDefEqProofs [F_l_of, g_l_of, e, hat]
theorem steps_eq (l r : Int) : F_l_steps [.im (.int l), .im (.int r)] = some (.im (.int (l + r + (if r < l then r else l))), [.im (.int l), .im (.int r)]) := by
  simp -implicitDefEqProofs [F_l_steps, g_l_steps]
end G
set_option Elab.async false
set_option linter.all false
set_option maxRecDepth 100000
namespace G
open PySem L2
structure RingOk (many : Int) (spots : List Int) : Prop where
  m0 : 1 ≤ many
  m1 : many ≤ 200
  ne : spots ≠ []
  up : spots.Pairwise (· < ·)
  inn : ∀ s ∈ spots, 0 ≤ s ∧ s < many
  few : spots.length ≤ 8
def RInv (many few : Int) (i : Nat) (D : SD) : Prop := ∃ (h : Vl) (L S : List Int) (o5 o6 : Option Vl), D = [some h, some (.im (.int many)), some (.im (.int few)), some (.lst (L.map .int)), some (.lst (S.map .int)), o5, o6] ∧ HandOk (900000 - 2 * i) h ∧ (L ++ S).Nodup ∧ (∀ x ∈ L ++ S, 0 ≤ x ∧ x < many) ∧ (L.length : Int) + S.length = many ∧ S.length = i
theorem erase_mem {L : List Int} {k : Nat} {x : Int} (h : L[k]? = some x) : L.Perm (x :: L.eraseIdx k) := by
  induction L generalizing k with
  | nil => simp at h
  | cons y r ih =>
    cases k with
    | zero => simp at h; subst h; exact List.Perm.refl _
    | succ k =>
      have := ih (k := k) (by simpa using h)
      exact (this.cons y).trans (List.Perm.swap x y _)
theorem map_erase (L : List Int) : ∀ k, (L.map Im.int).eraseIdx k = (L.eraseIdx k).map Im.int := by
  induction L with
  | nil => intro k; rfl
  | cons y r ih => intro k; cases k with
    | zero => rfl
    | succ k => simp [ih k]
theorem pop_fin {n : Nat} {many few v : Int} {i : Nat} {h : Vl} {L S : List Int} {o5 : Option Vl} (hh : HandOk n h) (hn : 900000 - 2 * (i + 1) ≤ n) (nd : (L ++ S).Nodup) (inn : ∀ x ∈ L ++ S, 0 ≤ x ∧ x < many) (ln : (L.length : Int) + S.length = many) (sl : S.length = i) (hm : many ≤ 200) (v0 : 0 ≤ v) (v1 : v < L.length) :
    ∃ D2, sExpr (eMut listy 4 mAppend (aCons (oV (eMut listy 3 mPopAt (aCons (oSl 6) aNil))) aNil)) [some h, some (.im (.int many)), some (.im (.int few)), some (.lst (L.map .int)), some (.lst (S.map .int)), o5, some (.im (.int v))] = some (.nx, D2) ∧ RInv many few (i + 1) D2 := by
  obtain ⟨x, hx⟩ : ∃ x, L[v.toNat]? = some x := ⟨L[v.toNat]'(by omega), by simp⟩
  have pm := erase_mem hx
  have hS : S.length < 100000 := by omega
  refine ⟨[some h, some (.im (.int many)), some (.im (.int few)), some (.lst ((L.eraseIdx v.toNat).map .int)), some (.lst ((S ++ [x]).map .int)), o5, some (.im (.int v))], ?_, h, L.eraseIdx v.toNat, S ++ [x], o5, _, rfl, hh.mono hn, ?_, ?_, ?_, ?_⟩
  · obtain ⟨hlt, hx'⟩ := List.getElem?_eq_some_iff.mp hx
    simp -implicitDefEqProofs [v0, v1, hx, hx', hS, map_erase]
  · refine (List.Perm.nodup_iff ?_).mp nd
    refine (List.Perm.append_right S pm).trans ?_
    rw [← List.append_assoc]
    exact List.perm_append_comm (l₁ := [x])
  · intro y hy
    refine inn y ?_
    refine (List.Perm.mem_iff ((List.Perm.append_right S pm).trans ?_)).mpr hy
    rw [← List.append_assoc]
    exact List.perm_append_comm (l₁ := [x])
  · have := pm.length_eq
    rw [List.length_cons] at this
    rw [List.length_append, List.length_singleton]
    omega
  · rw [List.length_append, List.length_singleton, sl]
theorem ring_step {many few : Int} {i : Nat} {D : SD} (hm : many ≤ 200) (hi : (i : Int) < many) (hI : RInv many few i D) : ∃ D1 D2, gN 5 (.im (.int (0 + (i : Int)))) D = some D1 ∧ b_l_ring_of_1 D1 = some (.nx, D2) ∧ RInv many few (i + 1) D2 := by
  obtain ⟨h, L, S, o5, o6, rfl, hh, nd, inn, ln, sl⟩ := hI
  have hL : 0 < L.length := by omega
  obtain ⟨v, h', e, e1, e2, e3⟩ := take_ok (n := 900000 - 2 * i - 1) (m := L.length) (hh.mono (by omega)) (by omega) (by omega)
  obtain ⟨q, rfl⟩ := hand_is_lst hh
  obtain ⟨q', rfl⟩ := hand_is_lst e3
  refine ⟨[some (.lst q), some (.im (.int many)), some (.im (.int few)), some (.lst (L.map .int)), some (.lst (S.map .int)), some (.im (.int (0 + (i : Int)))), o6], ?_⟩
  have st1 : sSet 6 (eCall 2 G.F_l_take (aCons (oSl 0) (aCons (oV (eCallB vLen (aCons (oSl 3) aNil))) aNil))) [some (.lst q), some (.im (.int many)), some (.im (.int few)), some (.lst (L.map .int)), some (.lst (S.map .int)), some (.im (.int (0 + (i : Int)))), o6] = some (.nx, [some (.lst q'), some (.im (.int many)), some (.im (.int few)), some (.lst (L.map .int)), some (.lst (S.map .int)), some (.im (.int (0 + (i : Int)))), some (.im (.int v))]) := by
    simp -implicitDefEqProofs [e]
  by_cases hi0 : i = 0
  · subst hi0
    obtain ⟨D2, g1, g2⟩ := pop_fin (few := few) (i := 0) (o5 := some (.im (.int (0 + ((0 : Nat) : Int))))) e3 (by omega) nd inn ln sl hm e1 e2
    refine ⟨D2, by first | rfl | simp -implicitDefEqProofs, ?_, g2⟩
    rw [b_l_ring_of_1, sSeq_nx st1, sSeq_nx (D1 := [some (.lst q'), some (.im (.int many)), some (.im (.int few)), some (.lst (L.map .int)), some (.lst (S.map .int)), some (.im (.int (0 + ((0 : Nat) : Int)))), some (.im (.int v))])]
    · exact g1
    · first | rfl | simp -implicitDefEqProofs
  · obtain ⟨v2, h'', e', e1', e2', e3'⟩ := take_ok (n := 900000 - 2 * i - 2) (m := 4) (e3.mono (by omega)) (by omega) (by omega)
    obtain ⟨q'', rfl⟩ := hand_is_lst e3'
    have hpos : 0 < i := by omega
    by_cases hv : v2 = 0
    · subst hv
      obtain ⟨D2, g1, g2⟩ := pop_fin (few := few) (i := i) (v := min (min v (L.length - 1)) 1) (o5 := some (.im (.int (0 + (i : Int))))) e3' (by omega) nd inn ln sl hm (by omega) (by omega)
      refine ⟨D2, by first | rfl | simp -implicitDefEqProofs, ?_, g2⟩
      rw [b_l_ring_of_1, sSeq_nx st1, sSeq_nx (D1 := [some (.lst q''), some (.im (.int many)), some (.im (.int few)), some (.lst (L.map .int)), some (.lst (S.map .int)), some (.im (.int (0 + (i : Int)))), some (.im (.int (min (min v (L.length - 1)) 1)))])]
      · exact g1
      · simp -implicitDefEqProofs [e', hpos, Im.pl, pyEq]
    · obtain ⟨D2, g1, g2⟩ := pop_fin (few := few) (i := i) (v := v) (o5 := some (.im (.int (0 + (i : Int))))) e3' (by omega) nd inn ln sl hm e1 e2
      refine ⟨D2, by first | rfl | simp -implicitDefEqProofs, ?_, g2⟩
      rw [b_l_ring_of_1, sSeq_nx st1, sSeq_nx (D1 := [some (.lst q''), some (.im (.int many)), some (.im (.int few)), some (.lst (L.map .int)), some (.lst (S.map .int)), some (.im (.int (0 + (i : Int)))), some (.im (.int v))])]
      · exact g1
      · simp -implicitDefEqProofs [e', hpos, Im.pl, pyEq, hv]
theorem rng_get {n i : Nat} {x : Im} (h : (rngI 0 n)[i]? = some x) : i < n ∧ x = .int (0 + (i : Int)) := by
  have hi : i < n := by
    have := (List.getElem?_eq_some_iff.mp h).1
    rwa [rngI, List.length_map, List.length_range] at this
  rw [rngI, List.getElem?_map, List.getElem?_range hi] at h
  exact ⟨hi, (Option.some.inj h).symm⟩
theorem rng_len (lo : Int) (n : Nat) : (rngI lo n).length = n := by rw [rngI, List.length_map, List.length_range]
theorem rng_ints (n : Nat) : rngI 0 n = ((List.range n).map fun (k : Nat) => (k : Int)).map Im.int := by
  rw [rngI, List.map_map]
  refine List.map_congr_left fun k _ => ?_
  show Im.int (0 + (k : Int)) = Im.int (k : Int)
  rw [Int.zero_add]
theorem ring_ok {h : Vl} (hh : HandOk 1000000 h) : ∃ many spots h', F_l_ring_of [h] = some (.im (.tup [.int many, .tup (spots.map .int)]), [h']) ∧ RingOk many spots ∧ HandOk 800000 h' := by
  obtain ⟨d1, h1, a1, a2, a3⟩ := of_ok (n := 999999) (xs := [.int 4, .int 10, .int 20, .int 20, .int 40, .int 40, .int 40, .int 200]) hh (by simp) (by decide)
  obtain ⟨m1, rfl, b1, b2⟩ : ∃ m : Int, d1 = .int m ∧ 4 ≤ m ∧ m ≤ 200 := by
    simp at a2
    rcases a2 with rfl | rfl | rfl | rfl | rfl | rfl | rfl | rfl <;> exact ⟨_, rfl, by decide, by decide⟩
  obtain ⟨v1, h2, c1, c2, c3, c4⟩ := take_ok (n := 999998) (m := m1) a3 (by omega) (by omega)
  obtain ⟨d2, h3, a1', a2', a3'⟩ := of_ok (n := 999997) (xs := [.int 2, .int 3, .int 4, .int 8]) c4 (by simp) (by decide)
  obtain ⟨m2, rfl, b1', b2'⟩ : ∃ m : Int, d2 = .int m ∧ 2 ≤ m ∧ m ≤ 8 := by
    simp at a2'
    rcases a2' with rfl | rfl | rfl | rfl <;> exact ⟨_, rfl, by decide, by decide⟩
  obtain ⟨v2, h4, e1, e2, e3, e4⟩ := take_ok (n := 999996) (m := if m2 < 1 + v1 then m2 else 1 + v1) a3' (by split <;> omega) (by split <;> omega)
  obtain ⟨q, rfl⟩ := hand_is_lst hh
  obtain ⟨q1, rfl⟩ := hand_is_lst a3
  obtain ⟨q2, rfl⟩ := hand_is_lst c4
  obtain ⟨q3, rfl⟩ := hand_is_lst a3'
  obtain ⟨q4, rfl⟩ := hand_is_lst e4
  have few1 : 1 + v2 ≤ 8 := by
    have : v2 < m2 := by revert e3; split <;> omega
    omega
  have few2 : 1 + v2 ≤ 1 + v1 := by revert e3; split <;> omega
  have sm : small (1 + v1) := ⟨by omega, by omega⟩
  have sm2 : small (1 + v2) := ⟨by omega, by omega⟩
  obtain ⟨D', l1, h', L, S, o5, o6, rfl, l2, l3, l4, l5, l6⟩ := forL_go (tg := gN 5) (b := b_l_ring_of_1) (xs := rngI 0 (1 + v2).toNat) (RInv (1 + v1) (1 + v2)) (D := [some (.lst q4), some (.im (.int (1 + v1))), some (.im (.int (1 + v2))), some (.lst (rngI 0 (1 + v1).toNat)), some (.lst []), none, none])
    ⟨.lst q4, (List.range (1 + v1).toNat).map (fun (k : Nat) => (k : Int)), [], none, none, by rw [rng_ints]; rfl, e4.mono (by omega), by
      rw [List.append_nil]
      refine List.Pairwise.map _ (fun a b h => ?_) List.nodup_range
      intro e
      have e' : (a : Int) = (b : Int) := e
      exact h (by omega), by
      intro x hx
      rw [List.append_nil] at hx
      obtain ⟨k, hk, rfl⟩ := List.mem_map.mp hx
      have := List.mem_range.mp hk
      omega, by rw [List.length_map, List.length_range, List.length_nil]; omega, rfl⟩
    (fun i x D hx hI => by
      obtain ⟨hi, rfl⟩ := rng_get hx
      obtain ⟨D1, D2, g1, g2, g3⟩ := ring_step (by omega) (by omega) hI
      exact ⟨D1, _, D2, g1, g2, .inl rfl, g3⟩)
  rw [rng_len] at l2 l6
  have ndS : S.Nodup := (List.nodup_append.mp l3).2.1
  have lenS : S.length ≤ 8 := by omega
  have lenS' : S.length < 64 := by omega
  obtain ⟨q5, rfl⟩ := hand_is_lst l2
  refine ⟨1 + v1, srtZ S, .lst q5, ?_, ⟨by omega, by omega, fun z => ?_, srt_lt ndS, fun s hs => l4 s (List.mem_append_right _ ((srt_perm S).mem_iff.mp hs)), by rw [(srt_perm S).length_eq]; exact lenS⟩, l2.mono (by omega)⟩
  · unfold F_l_ring_of g_l_ring_of
    refine runF_is [some (.lst q5), some (.im (.int (1 + v1))), some (.im (.int (1 + v2))), some (.lst (L.map .int)), some (.lst (S.map .int)), o5, o6] rfl ?_ ?_
    · rw [sSeq_nx (D1 := [some (.lst q2), some (.im (.int (1 + v1))), none, none, none, none, none]), sSeq_nx (D1 := [some (.lst q4), some (.im (.int (1 + v1))), some (.im (.int (1 + v2))), none, none, none, none]), sSeq_nx (D1 := [some (.lst q4), some (.im (.int (1 + v1))), some (.im (.int (1 + v2))), some (.lst (rngI 0 (1 + v1).toNat)), none, none, none]), sSeq_nx (D1 := [some (.lst q4), some (.im (.int (1 + v1))), some (.im (.int (1 + v2))), some (.lst (rngI 0 (1 + v1).toNat)), some (.lst []), none, none]), sSeq_nx (sFor_eq (o := none) (xs := rngI 0 (1 + v2).toNat) ?_ l1)]
      · simp -implicitDefEqProofs [ints_map, ndS, lenS', srt_eq]
      · simp -implicitDefEqProofs [sm2]
      · first | rfl | simp -implicitDefEqProofs
      · simp -implicitDefEqProofs [sm]
      · simp -implicitDefEqProofs [a1', e1]
      · simp -implicitDefEqProofs [a1, c1]
    · first | rfl | simp -implicitDefEqProofs
  · have := (srt_perm S).length_eq
    rw [z, List.length_nil] at this
    omega
end G
set_option Elab.async false
set_option linter.all false
set_option maxRecDepth 100000
namespace G
open PySem L2
def btw (many : Int) (s : List Int) : List Int := (s.zip (s.drop 1 ++ s.take 1)).map fun p => (p.2 - p.1 - 1) % many
abbrev tI (s : List Int) : Vl := .im (.tup (s.map .int))
abbrev lI (s : List Int) : Vl := .lst (s.map .int)
theorem between_eq {many : Int} {s : List Int} (hm : 0 < many) (hl : s.length ≤ 1000) : F_between [.im (.int many), tI s] = some (lI (btw many s), [.im (.int many), tI s]) := by
  have hl1 : (s.drop 1).length + (s.take 1).length ≤ 100000 := by rw [List.length_drop, List.length_take]; omega
  have hl2 : (s.length - 1) + min 1 s.length ≤ 100000 := by omega
  unfold F_between g_between
  refine runF_is [some (.im (.int many)), some (tI s)] rfl ?_ (by first | rfl | simp -implicitDefEqProofs)
  refine sRet_eq ((eComp_eq (xs := (s.zip (s.drop 1 ++ s.take 1)).map fun p => .tup [.int p.1, .int p.2]) (o := none) (D1 := [some (.im (.int many)), some (tI s)]) ?_ (compL_mapT _ (fun p => .int ((p.2 - p.1 - 1) % many)) _ (fun p hp => ?_) ?_)).trans ?_)
  · have e1 : cutL (s.map Im.int) (some 1) none = (s.drop 1).map .int := by rw [cut_map]; congr 1; exact cut_from s 1
    have e2 : cutL (s.map Im.int) none (some 1) = (s.take 1).map .int := by rw [cut_map]; congr 1; exact cut_to s 1
    have e3 : zipI (s.map Im.int) ((s.drop 1).map Im.int ++ (s.take 1).map Im.int) = (s.zip (s.drop 1 ++ s.take 1)).map fun p => .tup [.int p.1, .int p.2] := by rw [← List.map_append, zipI_map]
    simp -implicitDefEqProofs only [iZ, aCons, oSl, oV, eBin, eSl, pSome, pNone_ap, eC_ap, rsls_cons, rsls_nil, rsl_sl, rsl_vl, vSl, vAdd, e1, e2, e3, List.length_map, List.length_drop, List.length_take, hl2, if_true, aNil_ap, Option.bind_some, Option.map_some, List.map_cons, List.map_nil, List.cons_append, List.nil_append, List.getElem?_cons_succ, List.getElem?_cons_zero, Option.getD_some, List.replicate, Nat.sub_self, List.append_nil]
  · exact ⟨[some (.im (.int p.1)), some (.im (.int p.2)), some (.im (.int many))], _, [some (.im (.int p.1)), some (.im (.int p.2)), some (.im (.int many))], by first | rfl | simp -implicitDefEqProofs, by first | rfl | (simp -implicitDefEqProofs; rfl), by simp -implicitDefEqProofs [e_between_1, hm], by simp⟩
  · rw [List.length_zip, List.length_append, List.length_drop, List.length_take]; omega
  · simp -implicitDefEqProofs [btw]
def rowG (t : Int) : Int → List Int → List Int
  | l, [] => [l]
  | l, g :: gs => match roomN t l with
    | none => [l]
    | some r => l :: rowG t (max 0 (g - r)) gs
theorem max_if (a b : Int) : (if b > a then b else a) = max a b := by
  by_cases h : b > a
  · rw [if_pos h]; omega
  · rw [if_neg h]; omega
theorem min_if (a b : Int) : (if b < a then b else a) = min a b := by
  by_cases h : b < a
  · rw [if_pos h]; omega
  · rw [if_neg h]; omega
theorem atI_snoc {α : Type} (xs : List α) (x : α) : atI (xs ++ [x]) (-1) = some x := atI_end (by simp)
theorem row_loop {t : Int} {S T Lf : Vl} : ∀ (gs : List Int) (acc : List Int) (l : Int) (o4 o5 : Option Vl), T = .im (.int t) → acc.length + gs.length < 1000 →
    (∃ o4' o5', forL (gN 4) b_row_from_1 (gs.map .int) [some S, some T, some Lf, some (lI (acc ++ [l])), o4, o5] = some (.nx, [some S, some T, some Lf, some (lI (acc ++ rowG t l gs)), o4', o5'])) ∨
    ∃ o4' o5' r, forL (gN 4) b_row_from_1 (gs.map .int) [some S, some T, some Lf, some (lI (acc ++ [l])), o4, o5] = some (.rt (tI (acc ++ rowG t l gs)), [some S, some T, some Lf, some r, o4', o5'])
  | [], acc, l, o4, o5, _, _ => .inl ⟨o4, o5, rfl⟩
  | g :: gs, acc, l, o4, o5, hT, hl => by
    subst hT
    rw [List.length_cons] at hl
    have hat : atI ((acc ++ [l]).map Im.int) (-1) = some (.int l) := by rw [List.map_append]; exact atI_snoc _ _
    rw [List.map_cons, forL]
    dsimp only
    rw [show gN 4 (.im (.int g)) [some S, some (.im (.int t)), some Lf, some (lI (acc ++ [l])), o4, o5] = some [some S, some (.im (.int t)), some Lf, some (lI (acc ++ [l])), some (.im (.int g)), o5] by first | rfl | simp -implicitDefEqProofs]
    have st1 : sSet 5 (eCall 2 G.F_room (aCons (oSl 1) (aCons (oV (eBin vIx (oSl 3) (oV (eNeg (eC (.int 1)))))) aNil))) [some S, some (.im (.int t)), some Lf, some (lI (acc ++ [l])), some (.im (.int g)), o5] = some (.nx, [some S, some (.im (.int t)), some Lf, some (lI (acc ++ [l])), some (.im (.int g)), some (.im (optI (roomN t l)))]) := by
      simp -implicitDefEqProofs [hat, F_room_eq, -List.map_append]
    show (∃ o4' o5', (b_row_from_1 _).bind _ = _) ∨ _
    rw [Option.bind_some]
    unfold b_row_from_1
    rw [sSeq_nx st1]
    cases hr : roomN t l with
    | none =>
      refine .inr ⟨some (.im (.int g)), some (.im .non), lI (acc ++ [l]), ?_⟩
      rw [sSeq_rt (d := tI (acc ++ [l])) (D1 := [some S, some (.im (.int t)), some Lf, some (lI (acc ++ [l])), some (.im (.int g)), some (.im .non)]) (by simp -implicitDefEqProofs [optI]), rowG, hr]
      rfl
    | some r =>
      have hl2 : (acc ++ [l]).length < 100000 := by rw [List.length_append, List.length_singleton]; omega
      have hl3 : acc.length + 1 < 100000 := by omega
      rw [sSeq_nx (D1 := [some S, some (.im (.int t)), some Lf, some (lI (acc ++ [l])), some (.im (.int g)), some (.im (.int r))]) (by simp -implicitDefEqProofs [optI])]
      rw [show sExpr (eMut listy 3 mAppend (aCons (oV (eCallB vMax2 (aCons (oV (eC (.int 0))) (aCons (oV (eBin vSub (oSl 4) (oSl 5))) aNil)))) aNil)) [some S, some (.im (.int t)), some Lf, some (lI (acc ++ [l])), some (.im (.int g)), some (.im (.int r))] = some (.nx, [some S, some (.im (.int t)), some Lf, some (lI ((acc ++ [l]) ++ [max 0 (g - r)])), some (.im (.int g)), some (.im (.int r))]) by
        simp -implicitDefEqProofs [hl3, ← max_if]]
      have ih := row_loop (t := t) (S := S) (T := .im (.int t)) (Lf := Lf) gs (acc ++ [l]) (max 0 (g - r)) (some (.im (.int g))) (some (.im (.int r))) rfl (by rw [List.length_append, List.length_singleton]; omega)
      rw [rowG, hr]
      dsimp only
      rw [show acc ++ l :: rowG t (max 0 (g - r)) gs = (acc ++ [l]) ++ rowG t (max 0 (g - r)) gs by simp]
      rcases ih with ⟨a, b, h⟩ | ⟨a, b, c, h⟩
      · exact .inl ⟨a, b, h⟩
      · exact .inr ⟨a, b, c, h⟩
theorem row_from_eq {t l : Int} {sp : List Int} (hl : sp.length < 900) : F_row_from [lI sp, .im (.int t), .im (.int l)] = some (tI (rowG t l sp.dropLast), [lI sp, .im (.int t), .im (.int l)]) := by
  have e1 : cutL (sp.map Im.int) none (some (-1)) = sp.dropLast.map .int := by rw [cut_map, cut_butlast]
  have hl' : ([] : List Int).length + sp.dropLast.length < 1000 := by rw [List.length_dropLast, List.length_nil]; omega
  unfold F_row_from g_row_from
  rcases row_loop (t := t) (S := lI sp) (T := .im (.int t)) (Lf := .im (.int l)) sp.dropLast [] l none none rfl hl' with ⟨a, b, h⟩ | ⟨a, b, c, h⟩
  · refine runF_is [some (lI sp), some (.im (.int t)), some (.im (.int l)), some (lI ([] ++ rowG t l sp.dropLast)), a, b] rfl ?_ (by first | rfl | simp -implicitDefEqProofs)
    rw [sSeq_nx (D1 := [some (lI sp), some (.im (.int t)), some (.im (.int l)), some (lI ([] ++ [l])), none, none]) (by first | rfl | simp -implicitDefEqProofs), sSeq_nx (sFor_eq (o := none) (xs := sp.dropLast.map .int) (by simp -implicitDefEqProofs [e1]) h)]
    first | rfl | simp -implicitDefEqProofs
  · refine runF_is [some (lI sp), some (.im (.int t)), some (.im (.int l)), some c, a, b] rfl ?_ (by first | rfl | simp -implicitDefEqProofs)
    rw [sSeq_nx (D1 := [some (lI sp), some (.im (.int t)), some (.im (.int l)), some (lI ([] ++ [l])), none, none]) (by first | rfl | simp -implicitDefEqProofs), sSeq_rt (sFor_eq (o := none) (xs := sp.dropLast.map .int) (by simp -implicitDefEqProofs [e1]) h)]
    first | rfl | simp -implicitDefEqProofs
end G
set_option Elab.async false
set_option linter.all false
set_option maxRecDepth 100000
namespace G
open PySem L2
abbrev iI (i : Int) : Vl := .im (.int i)
abbrev ttI (r : List (List Int)) : Vl := .im (.tup (r.map fun s => .tup (s.map .int)))
abbrev ltI' (r : List (List Int)) : Vl := .lst (r.map fun s => .tup (s.map .int))
def lastI (s : List Int) : Int := s.getLast?.getD 0
theorem lastI_at {s : List Int} (h : s ≠ []) : atI (s.map Im.int) (-1) = some (.int (lastI s)) := by
  refine atI_end ?_
  rw [List.getLast?_map, lastI]
  cases hs : s.getLast? with
  | none => exact absurd (List.getLast?_eq_none_iff.mp hs) h
  | some x => rfl
theorem first_at {s : List Int} (h : s ≠ []) : atI (s.map Im.int) 0 = some (.int (s.head?.getD 0)) := by
  cases s with
  | nil => exact absurd rfl h
  | cons a r => exact atI_pos (by omega) rfl
theorem left_eq {sp : List Int} {t : Int} (h : sp ≠ []) : F_greatest_left [lI sp, iI t] = some (iI (min t (lastI sp)), [lI sp, iI t]) := by
  have := lastI_at h
  simp -implicitDefEqProofs [F_greatest_left, g_greatest_left, this, ← min_if]
def goesB (t last : Int) (row : List Int) : Bool := match roomN t (lastI row) with
  | none => false
  | some r => decide (r + row.head?.getD 0 ≥ last)
theorem goes_eq {sp row : List Int} {t : Int} (h : sp ≠ []) (hr : row ≠ []) : F_goes_through [lI sp, iI t, tI row] = some (.im (.bl (goesB t (lastI sp) row)), [lI sp, iI t, tI row]) := by
  have e1 := lastI_at h
  have e2 := lastI_at hr
  have e3 := first_at hr
  cases hm : roomN t (lastI row) with
  | none => simp -implicitDefEqProofs [F_goes_through, g_goes_through, e1, e2, e3, F_room_eq, hm, optI, goesB]
  | some r =>
    simp -implicitDefEqProofs [F_goes_through, g_goes_through, e1, e2, e3, F_room_eq, hm, optI, goesB]
def rowsN (t : Int) (sp : List Int) : List (List Int) := (List.range (min t (lastI sp) + 1).toNat).map fun (k : Nat) => rowG t (k : Int) sp.dropLast
theorem rowG_ne (t l : Int) (gs : List Int) : rowG t l gs ≠ [] := by
  cases gs with
  | nil => simp [rowG]
  | cons g gs =>
    rw [rowG]
    cases roomN t l <;> simp
theorem rows_len (t : Int) (sp : List Int) : (rowsN t sp).length = (min t (lastI sp) + 1).toNat := by rw [rowsN, List.length_map, List.length_range]
theorem rowsN_ne {t : Int} {sp row : List Int} (h : row ∈ rowsN t sp) : row ≠ [] := by
  obtain ⟨k, _, rfl⟩ := List.mem_map.mp h
  exact rowG_ne _ _ _
theorem rows_of_eq {sp : List Int} {t : Int} (h : sp ≠ []) (hl : sp.length < 900) (h0 : 0 ≤ lastI sp) (h1 : lastI sp < 1000) (ht : 0 ≤ t) : F_rows_of [lI sp, iI t] = some (ltI' (rowsN t sp), [lI sp, iI t]) := by
  have sm : small (min t (lastI sp) + 1) := ⟨by omega, by omega⟩
  unfold F_rows_of g_rows_of
  refine runF_is [some (lI sp), some (iI t)] rfl ?_ (by first | rfl | simp -implicitDefEqProofs)
  refine sRet_eq ((eComp_eq (xs := (List.range (min t (lastI sp) + 1).toNat).map fun (k : Nat) => .int (k : Int)) (o := none) (D1 := [some (lI sp), some (iI t)]) ?_ (compL_mapT (fun (k : Nat) => .int (k : Int)) (fun (k : Nat) => .tup ((rowG t (k : Int) sp.dropLast).map .int)) _ (fun k hk => ?_) ?_)).trans ?_)
  · have e : rngI 0 (min t (lastI sp) + 1).toNat = (List.range (min t (lastI sp) + 1).toNat).map fun (k : Nat) => .int (k : Int) := by rw [rng_ints, List.map_map]; rfl
    simp -implicitDefEqProofs [left_eq h, sm, e]
  · exact ⟨[some (iI (k : Int)), some (lI sp), some (iI t)], _, [some (iI (k : Int)), some (lI sp), some (iI t)], by first | rfl | simp -implicitDefEqProofs, by first | rfl | (simp -implicitDefEqProofs; rfl), by simp -implicitDefEqProofs [e_rows_of_1, row_from_eq hl], by simp⟩
  · rw [List.length_range]; omega
  · simp -implicitDefEqProofs [rowsN]
theorem rows_through_eq {sp : List Int} {t : Int} (h : sp ≠ []) (hl : sp.length < 900) (h0 : 0 ≤ lastI sp) (h1 : lastI sp < 1000) (ht : 0 ≤ t) : F_rows_through [lI sp, iI t] = some (ltI' ((rowsN t sp).filter (goesB t (lastI sp))), [lI sp, iI t]) := by
  unfold F_rows_through g_rows_through
  refine runF_is [some (lI sp), some (iI t)] rfl ?_ (by first | rfl | simp -implicitDefEqProofs)
  refine sRet_eq ((eComp_eq (xs := (rowsN t sp).map fun s => .tup (s.map .int)) (o := none) (D1 := [some (lI sp), some (iI t)]) ?_ (compL_fmT _ (goesB t (lastI sp)) (fun s => .tup (s.map .int)) _ _ (fun r hr => ?_) ?_)).trans ?_)
  · simp -implicitDefEqProofs [rows_of_eq h hl h0 h1 ht]
  · have e := goes_eq (t := t) h (rowsN_ne hr)
    refine ⟨[some (tI r), some (lI sp), some (iI t)], [some (tI r), some (lI sp), some (iI t)], by first | rfl | simp -implicitDefEqProofs, by simp -implicitDefEqProofs [c_rows_through_2, e], fun _ => by simp, fun _ => ⟨[some (tI r), some (lI sp), some (iI t)], by simp -implicitDefEqProofs [e_rows_through_1], by simp⟩⟩
  · rw [rows_len, List.length_nil]; omega
  · first | rfl | simp -implicitDefEqProofs
theorem bls_map {α : Type} (f : α → Bool) : ∀ xs : List α, bls (xs.map fun r => .bl (f r)) = some (xs.map f)
  | [] => rfl
  | x :: r => by rw [List.map_cons, bls, bls_map f r]; rfl
theorem any_id {α : Type} (f : α → Bool) (xs : List α) : (xs.map f).any id = xs.any f := by rw [List.any_map]; rfl
theorem too_little_eq {many t : Int} {s : List Int} (hm : 0 < many) (hm1 : many < 1000) (hs : s ≠ []) (hl : s.length < 900) (hb : btw many s ≠ []) (hbl : (btw many s).length < 900) (h0 : 0 ≤ lastI (btw many s)) (h1 : lastI (btw many s) < 1000) (ht : 0 ≤ t) :
    F_too_little [iI many, tI s, iI t] = some ((if (rowsN t (btw many s)).any (goesB t (lastI (btw many s))) then .im .non else ttI (rowsN t (btw many s))), [iI many, tI s, iI t]) := by
  have c1 : eComp 1 [3, 2] (iOpd (oSl 4)) (gN 0) kYes G.e_too_little_1 [some (iI many), some (tI s), some (iI t), some (lI (btw many s)), some (ltI' (rowsN t (btw many s)))] = some (.lst ((rowsN t (btw many s)).map fun r => .bl (goesB t (lastI (btw many s)) r)), [some (iI many), some (tI s), some (iI t), some (lI (btw many s)), some (ltI' (rowsN t (btw many s)))]) := by
    refine (eComp_eq (xs := (rowsN t (btw many s)).map fun s => .tup (s.map .int)) (o := some (4, ltI' (rowsN t (btw many s)))) (D1 := [some (iI many), some (tI s), some (iI t), some (lI (btw many s)), some .jk]) ?_ (compL_mapT _ (fun r => .bl (goesB t (lastI (btw many s)) r)) _ (fun r hr => ?_) ?_)).trans ?_
    · first | rfl | simp -implicitDefEqProofs
    · have e := goes_eq (t := t) hb (rowsN_ne hr)
      exact ⟨[some (tI r), some (lI (btw many s)), some (iI t)], _, [some (tI r), some (lI (btw many s)), some (iI t)], by first | rfl | simp -implicitDefEqProofs, by first | rfl | (simp -implicitDefEqProofs; rfl), by simp -implicitDefEqProofs [e_too_little_1, e], by simp⟩
    · rw [rows_len]; omega
    · first | rfl | simp -implicitDefEqProofs
  have hn : (rowsN t (btw many s)).length ≤ 100000 := by rw [rows_len]; omega
  have st1 : sSet 3 (eCall 2 G.F_between (aCons (oSl 0) (aCons (oSl 1) aNil))) [some (iI many), some (tI s), some (iI t), none, none] = some (.nx, [some (iI many), some (tI s), some (iI t), some (lI (btw many s)), none]) := by
    simp -implicitDefEqProofs [between_eq hm (Nat.le_of_lt (Nat.lt_trans hl (by decide)))]
  have st2 : sSet 4 (eCall 2 G.F_rows_of (aCons (oSl 3) (aCons (oSl 2) aNil))) [some (iI many), some (tI s), some (iI t), some (lI (btw many s)), none] = some (.nx, [some (iI many), some (tI s), some (iI t), some (lI (btw many s)), some (ltI' (rowsN t (btw many s)))]) := by
    simp -implicitDefEqProofs [rows_of_eq hb hbl h0 h1 ht]
  have st3 : kTru (oV (eCallB vAny (aCons (oV (eComp 1 [3, 2] (iOpd (oSl 4)) (gN 0) kYes G.e_too_little_1)) aNil))) [some (iI many), some (tI s), some (iI t), some (lI (btw many s)), some (ltI' (rowsN t (btw many s)))] = some ((rowsN t (btw many s)).any (goesB t (lastI (btw many s))), [some (iI many), some (tI s), some (iI t), some (lI (btw many s)), some (ltI' (rowsN t (btw many s)))]) := by
    simp -implicitDefEqProofs only [kTru, oV, eCallB, aCons, c1, aNil_ap, Option.bind_some, Option.map_some, rsls_cons, rsl_vl, rsls_nil, vAny, bls_map, any_id, truB]
  unfold F_too_little g_too_little
  refine runF_is [some (iI many), some (tI s), some (iI t), some (lI (btw many s)), some (ltI' (rowsN t (btw many s)))] rfl ?_ (by first | rfl | simp -implicitDefEqProofs)
  refine (sSeq_nx st1).trans ((sSeq_nx st2).trans ?_)
  cases hv : (rowsN t (btw many s)).any (goesB t (lastI (btw many s))) with
  | true =>
    rw [hv] at st3
    rw [if_pos rfl]
    exact sSeq_rt ((sIf_t st3).trans (by first | rfl | simp -implicitDefEqProofs))
  | false =>
    rw [hv] at st3
    rw [if_neg Bool.false_ne_true]
    exact (sSeq_nx ((sIf_f st3).trans (by simp -implicitDefEqProofs; rfl))).trans (by first | rfl | simp -implicitDefEqProofs)
end G
set_option Elab.async false
set_option linter.all false
set_option maxRecDepth 100000
namespace G
open PySem L2
theorem btw_len (many : Int) (s : List Int) : (btw many s).length = s.length := by
  rw [btw, List.length_map, List.length_zip, List.length_append, List.length_drop, List.length_take]
  omega
theorem btw_in {many g : Int} {s : List Int} (hm : 0 < many) (h : g ∈ btw many s) : 0 ≤ g ∧ g < many := by
  obtain ⟨p, _, rfl⟩ := List.mem_map.mp h
  exact ⟨Int.emod_nonneg _ (by omega), Int.emod_lt_of_pos _ hm⟩
theorem lastI_mem {s : List Int} (h : s ≠ []) : lastI s ∈ s := by
  rw [lastI]
  cases hs : s.getLast? with
  | none => exact absurd (List.getLast?_eq_none_iff.mp hs) h
  | some x => exact List.mem_of_getLast? hs
theorem btw_get {many : Int} {s : List Int} {i : Nat} {x y : Int} (hx : s[i]? = some x) (hy : s[(i + 1) % s.length]? = some y) : (btw many s)[i]? = some ((y - x - 1) % many) := by
  have hi : i < s.length := (List.getElem?_eq_some_iff.mp hx).1
  have h2 : (s.drop 1 ++ s.take 1)[i]? = some y := by
    by_cases h : i + 1 < s.length
    · rw [Nat.mod_eq_of_lt h] at hy
      rw [List.getElem?_append_left (by rw [List.length_drop]; omega), List.getElem?_drop, Nat.add_comm]
      exact hy
    · have e : i + 1 = s.length := by omega
      rw [e, Nat.mod_self] at hy
      rw [List.getElem?_append_right (by rw [List.length_drop]; omega), List.length_drop, show i - (s.length - 1) = 0 by omega, List.getElem?_take, if_pos (by omega)]
      exact hy
  rw [btw, List.getElem?_map, show (s.zip (s.drop 1 ++ s.take 1))[i]? = some (x, y) by rw [List.getElem?_zip_eq_some]; exact ⟨hx, h2⟩]
  rfl
theorem enum_get : ∀ (xs : List Im) (n i : Nat) (d : Im), (enumI n xs)[i]? = some d → ∃ x, xs[i]? = some x ∧ d = .tup [.int ((n + i : Nat) : Int), x]
  | [], n, i, d, h => by simp [enumI] at h
  | x :: xs, n, 0, d, h => by simp [enumI] at h; exact ⟨x, rfl, h.symm⟩
  | x :: xs, n, i + 1, d, h => by
    obtain ⟨y, h1, h2⟩ := enum_get xs (n + 1) i d (by simpa [enumI] using h)
    exact ⟨y, by simpa using h1, by rw [h2]; congr 4; omega⟩
theorem enum_len : ∀ (xs : List Im) (n : Nat), (enumI n xs).length = xs.length
  | [], n => rfl
  | x :: xs, n => by rw [enumI, List.length_cons, List.length_cons, enum_len xs]
theorem take_snoc {α : Type} {xs : List α} {i : Nat} {x : α} (h : xs[i]? = some x) : xs.take i ++ [x] = xs.take (i + 1) := by
  rw [List.take_succ, h]; rfl
theorem l_between_eq {many : Int} {s : List Int} (hm : 0 < many) (hl : s.length < 900) : F_l_between [iI many, tI s] = some (lI (btw many s), [iI many, tI s]) := by
  obtain ⟨D', e1, o3, o4, o5, rfl⟩ := forL_go (tg := gT 2 (gCons' (gN 3) (gCons' (gN 4) gNil'))) (b := b_l_between_1) (xs := enumI 0 (s.map .int)) (fun i D => ∃ o3 o4 o5, D = [some (iI many), some (tI s), some (lI ((btw many s).take i)), o3, o4, o5]) (D := [some (iI many), some (tI s), some (lI []), none, none, none]) ⟨none, none, none, rfl⟩
    (fun i d D hd hI => by
      obtain ⟨o3, o4, o5, rfl⟩ := hI
      obtain ⟨x', hx', rfl⟩ := enum_get _ _ _ _ hd
      rw [List.getElem?_map] at hx'
      obtain ⟨x, hx, rfl⟩ := Option.map_eq_some_iff.mp hx'
      have hi : i < s.length := (List.getElem?_eq_some_iff.mp hx).1
      obtain ⟨y, hy⟩ : ∃ y, s[(i + 1) % s.length]? = some y := ⟨s[(i + 1) % s.length]'(Nat.mod_lt _ (by omega)), by simp⟩
      have hat : atI (s.map Im.int) (((i : Int) + 1) % (s.length : Int)) = some (.int y) := by
        refine atI_pos (Int.emod_nonneg _ (by omega)) ?_
        have e : ((i : Int) + 1) % (s.length : Int) = (((i + 1) % s.length : Nat) : Int) := by norm_cast
        rw [List.getElem?_map, e, Int.toNat_natCast, hy]
        rfl
      have hp : (0 : Int) < s.length := by omega
      have hp' : 0 < s.length := by omega
      have hb := btw_get (many := many) hx hy
      have hlt : ((btw many s).take i).length < 100000 := by rw [List.length_take, btw_len]; omega
      have hlt' : min i (btw many s).length < 100000 := by rw [btw_len]; omega
      have hsz : (s.length : Int) < 1073741824 := by omega
      have hsz' : s.length < 1073741824 := by omega
      refine ⟨[some (iI many), some (tI s), some (lI ((btw many s).take i)), some (iI (i : Int)), some (iI x), o5], .nx, [some (iI many), some (tI s), some (lI ((btw many s).take (i + 1))), some (iI (i : Int)), some (iI x), some (iI y)], ?_, ?_, .inl rfl, _, _, _, rfl⟩
      · first | rfl | simp -implicitDefEqProofs
      · rw [← take_snoc hb]
        simp -implicitDefEqProofs [b_l_between_1, hat, hm, hp, hp', hlt, hlt', -List.map_take])
  rw [enum_len, List.length_map, ← btw_len many s, List.take_length] at e1
  unfold F_l_between g_l_between
  refine runF_is [some (iI many), some (tI s), some .jk, o3, o4, o5] rfl ?_ (by first | rfl | simp -implicitDefEqProofs)
  refine (sSeq_nx (D1 := [some (iI many), some (tI s), some (lI []), none, none, none]) (by first | rfl | simp -implicitDefEqProofs)).trans ((sSeq_nx (sFor_eq (o := none) (xs := enumI 0 (s.map .int)) (by first | rfl | simp -implicitDefEqProofs) e1)).trans (by first | rfl | simp -implicitDefEqProofs))
def rmI (t l : Int) : Int := if l * 3 ≤ t then t - l * 2 else (t - l) / 2
theorem roomN_eq (t l : Int) : roomN t l = if l > t then none else some (rmI t l) := by
  unfold roomN rmI
  split
  · rfl
  · split <;> rfl
def stp (l r : Int) : Int := l + r + (if r < l then r else l)
theorem stp_rm {t l : Int} (h0 : 0 ≤ l) (h1 : l ≤ t) : stp l (rmI t l) ≤ t ∧ 0 ≤ rmI t l ∧ rmI t l ≤ t := by
  unfold stp rmI
  split
  · split <;> omega
  · split <;> omega
theorem stp_le {t l r : Int} (h0 : 0 ≤ l) (h1 : l ≤ t) (hr : 0 ≤ r) (h : stp l r ≤ t) : r ≤ rmI t l := by
  revert h
  unfold stp rmI
  split
  · split <;> omega
  · split <;> omega
theorem rm_down {t l : Int} (h0 : 0 ≤ l) (h1 : l + 1 ≤ t) : rmI t (l + 1) ≤ rmI t l := by
  unfold rmI
  split <;> split <;> omega
theorem rm_zero {t : Int} (h : 0 ≤ t) : rmI t 0 = t := by unfold rmI; rw [if_pos (by omega)]; omega
def roomsN (t : Int) : List Int := (List.range (t + 1).toNat).map fun (k : Nat) => rmI t (k : Int)
theorem rooms_len (t : Int) : (roomsN t).length = (t + 1).toNat := by rw [roomsN, List.length_map, List.length_range]
theorem rooms_get {t : Int} {k : Nat} (h : (k : Int) ≤ t) : (roomsN t)[k]? = some (rmI t k) := by
  rw [roomsN, List.getElem?_map, List.getElem?_range (by omega)]
  rfl
theorem l_rooms_while {t l : Int} {S1 : Option Vl} (h0 : 0 ≤ l) (h1 : l ≤ t) (ht : t < 1000) {r : Int} (hr : rmI t l ≤ r) (hr1 : r ≤ t) :
    whileN k_l_rooms_1 b_l_rooms_2 1000000 [some (iI t), S1, some (iI r), some (iI l)] = some (.nx, [some (iI t), S1, some (iI (rmI t l)), some (iI l)]) := by
  obtain ⟨e1, e2, e3⟩ := stp_rm h0 h1
  obtain ⟨D', h, rfl⟩ := whileN_inv (c := k_l_rooms_1) (b := b_l_rooms_2) (fun m D => ∃ r : Int, D = [some (iI t), S1, some (iI r), some (iI l)] ∧ rmI t l ≤ r ∧ r ≤ t ∧ m = r.toNat) (fun D => D = [some (iI t), S1, some (iI (rmI t l)), some (iI l)])
    (fun m D ⟨r, hD, a1, a2, a3⟩ => by
      subst hD
      have ek : k_l_rooms_1 [some (iI t), S1, some (iI r), some (iI l)] = some (decide (stp l r > t), [some (iI t), S1, some (iI r), some (iI l)]) := by
        simp -implicitDefEqProofs [k_l_rooms_1, steps_eq, stp]
      refine ⟨decide (stp l r > t), _, ek, fun hh => ?_, fun hh => ?_⟩
      · have hh := of_decide_eq_true hh
        have hne : r ≠ rmI t l := by intro e; rw [e] at hh; omega
        exact ⟨.nx, [some (iI t), S1, some (iI (r - 1)), some (iI l)], by simp -implicitDefEqProofs [b_l_rooms_2], .inl rfl, (r - 1).toNat, by omega, r - 1, rfl, by omega, by omega, rfl⟩
      · have hh := of_decide_eq_false hh
        have := stp_le h0 h1 (by omega) (Int.not_lt.mp hh)
        rw [show r = rmI t l by omega])
    1000000 r.toNat _ ⟨r, rfl, hr, hr1, rfl⟩ (by omega)
  exact h
theorem l_rooms_eq {t : Int} (h0 : 0 ≤ t) (h1 : t < 1000) : F_l_rooms [iI t] = some (lI (roomsN t), [iI t]) := by
  obtain ⟨D', e1, o2, o3, rfl, _⟩ := forL_go (tg := gN 3) (b := b_l_rooms_3) (xs := rngI 0 (t + 1).toNat) (fun i D => ∃ (r : Int) (o3 : Option Vl), D = [some (iI t), some (lI ((roomsN t).take i)), some (iI r), o3] ∧ ((i : Int) ≤ t → rmI t i ≤ r) ∧ r ≤ t) (D := [some (iI t), some (lI []), some (iI t), none]) ⟨t, none, rfl, fun _ => by rw [show ((0 : Nat) : Int) = 0 from rfl, rm_zero h0]; exact Int.le_refl _, Int.le_refl _⟩
    (fun i x D hx hI => by
      obtain ⟨r, o3, rfl, a1, a2⟩ := hI
      obtain ⟨hi, rfl⟩ := rng_get hx
      have hit : (i : Int) ≤ t := by omega
      have w := l_rooms_while (S1 := some (lI ((roomsN t).take i))) (l := (i : Int)) (by omega) hit h1 (a1 hit) a2
      have hlt : min i (roomsN t).length < 100000 := by rw [rooms_len]; omega
      refine ⟨[some (iI t), some (lI ((roomsN t).take i)), some (iI r), some (iI (i : Int))], .nx, [some (iI t), some (lI ((roomsN t).take (i + 1))), some (iI (rmI t i)), some (iI (i : Int))], by first | rfl | simp -implicitDefEqProofs, ?_, .inl rfl, _, _, rfl, fun h => ?_, (stp_rm (by omega) hit).2.2⟩
      · rw [← take_snoc (rooms_get hit)]
        exact (sSeq_nx w).trans (by simp -implicitDefEqProofs [hlt, -List.map_take])
      · exact rm_down (by omega) (by omega))
  rw [rng_len, ← rooms_len t, List.take_length] at e1
  have sm : small (t + 1) := ⟨by omega, by omega⟩
  unfold F_l_rooms g_l_rooms
  refine runF_is [some (iI t), some .jk, some (iI o2), o3] rfl ?_ (by first | rfl | simp -implicitDefEqProofs)
  refine (sSeq_nx (D1 := [some (iI t), some (lI []), none, none]) (by first | rfl | simp -implicitDefEqProofs)).trans ((sSeq_nx (D1 := [some (iI t), some (lI []), some (iI t), none]) (by first | rfl | simp -implicitDefEqProofs)).trans ((sSeq_nx (sFor_eq (o := none) (xs := rngI 0 (t + 1).toNat) (by simp -implicitDefEqProofs [sm]) (rooms_len t ▸ e1))).trans (by first | rfl | simp -implicitDefEqProofs)))
end G
set_option Elab.async false
set_option linter.all false
set_option maxRecDepth 100000
namespace G
open PySem L2
@[simp] theorem ims_lst (x : List Im) (ds : List Vl) : ims (.lst x :: ds) = none := rfl
theorem atI_rooms {t l : Int} (h0 : 0 ≤ l) (h1 : l ≤ t) : atI ((roomsN t).map Im.int) l = some (.int (rmI t l)) := by
  refine atI_pos h0 ?_
  have := rooms_get (t := t) (k := l.toNat) (by omega)
  rw [List.getElem?_map, this, Int.toNat_of_nonneg h0]
  rfl
theorem l_row_loop {t : Int} {Lf : Vl} {S : Vl} (ht : 0 ≤ t) : ∀ (gs : List Int) (acc : List Int) (l : Int) (o4 : Option Vl), 0 ≤ l → acc.length + gs.length < 1000 →
    (∃ o4', forL (gN 4) b_l_row_1 (gs.map .int) [some S, some (lI (roomsN t)), some Lf, some (lI (acc ++ [l])), o4] = some (.nx, [some S, some (lI (roomsN t)), some Lf, some (lI (acc ++ rowG t l gs)), o4'])) ∨
    ∃ o4' r, forL (gN 4) b_l_row_1 (gs.map .int) [some S, some (lI (roomsN t)), some Lf, some (lI (acc ++ [l])), o4] = some (.rt (tI (acc ++ rowG t l gs)), [some S, some (lI (roomsN t)), some Lf, some r, o4'])
  | [], acc, l, o4, _, _ => .inl ⟨o4, rfl⟩
  | g :: gs, acc, l, o4, h0, hl => by
    rw [List.length_cons] at hl
    have hat : atI ((acc ++ [l]).map Im.int) (-1) = some (.int l) := by rw [List.map_append]; exact atI_snoc _ _
    have hrl : ((roomsN t).length : Int) = t + 1 := by rw [rooms_len]; omega
    rw [List.map_cons, forL]
    dsimp only
    rw [show gN 4 (.im (.int g)) [some S, some (lI (roomsN t)), some Lf, some (lI (acc ++ [l])), o4] = some [some S, some (lI (roomsN t)), some Lf, some (lI (acc ++ [l])), some (.im (.int g))] by first | rfl | simp -implicitDefEqProofs]
    show (∃ o4', (b_l_row_1 _).bind _ = _) ∨ _
    rw [Option.bind_some]
    unfold b_l_row_1
    rw [rowG, roomN_eq]
    by_cases h1 : l > t
    · refine .inr ⟨some (.im (.int g)), lI (acc ++ [l]), ?_⟩
      have h2 : t + 1 ≤ l := by omega
      rw [sSeq_rt (d := tI (acc ++ [l])) (D1 := [some S, some (lI (roomsN t)), some Lf, some (lI (acc ++ [l])), some (.im (.int g))]) (by simp -implicitDefEqProofs [hat, hrl, h2, -List.map_append]), if_pos h1]
      rfl
    · have hl3 : acc.length + 1 < 100000 := by omega
      have h2 : ¬ (t + 1 ≤ l) := by omega
      have ar := atI_rooms h0 (Int.not_lt.mp h1)
      rw [if_neg h1, sSeq_nx (D1 := [some S, some (lI (roomsN t)), some Lf, some (lI (acc ++ [l])), some (.im (.int g))]) (by simp -implicitDefEqProofs [hat, hrl, h2, -List.map_append])]
      rw [show sExpr (eMut listy 3 mAppend (aCons (oV (eCallB vMax2 (aCons (oV (eC (.int 0))) (aCons (oV (eBin vSub (oSl 4) (oV (eBin vIx (oSl 1) (oV (eBin vIx (oSl 3) (oV (eNeg (eC (.int 1)))))))))) aNil)))) aNil)) [some S, some (lI (roomsN t)), some Lf, some (lI (acc ++ [l])), some (.im (.int g))] = some (.nx, [some S, some (lI (roomsN t)), some Lf, some (lI ((acc ++ [l]) ++ [max 0 (g - rmI t l)])), some (.im (.int g))]) by
        have hat' : atI (acc.map Im.int ++ [Im.int l]) (-1) = some (.int l) := atI_snoc _ _
        simp -implicitDefEqProofs [hl3, ← max_if, hat', ar]]
      have ih := l_row_loop (t := t) (S := S) (Lf := Lf) ht gs (acc ++ [l]) (max 0 (g - rmI t l)) (some (.im (.int g))) (by omega) (by rw [List.length_append, List.length_singleton]; omega)
      dsimp only
      rw [show acc ++ l :: rowG t (max 0 (g - rmI t l)) gs = (acc ++ [l]) ++ rowG t (max 0 (g - rmI t l)) gs by simp]
      rcases ih with ⟨a, h⟩ | ⟨a, c, h⟩
      · exact .inl ⟨a, h⟩
      · exact .inr ⟨a, c, h⟩
theorem l_row_eq {t l : Int} {sp : List Int} (ht : 0 ≤ t) (h0 : 0 ≤ l) (hl : sp.length < 900) : F_l_row [lI sp, lI (roomsN t), iI l] = some (tI (rowG t l sp.dropLast), [lI sp, lI (roomsN t), iI l]) := by
  have e1 : cutL (sp.map Im.int) none (some (-1)) = sp.dropLast.map .int := by rw [cut_map, cut_butlast]
  have hl' : ([] : List Int).length + sp.dropLast.length < 1000 := by rw [List.length_dropLast, List.length_nil]; omega
  unfold F_l_row g_l_row
  rcases l_row_loop (t := t) (S := lI sp) (Lf := iI l) ht sp.dropLast [] l none h0 hl' with ⟨a, h⟩ | ⟨a, c, h⟩
  · refine runF_is [some (lI sp), some (lI (roomsN t)), some (iI l), some (lI ([] ++ rowG t l sp.dropLast)), a] rfl ?_ (by first | rfl | simp -implicitDefEqProofs)
    rw [sSeq_nx (D1 := [some (lI sp), some (lI (roomsN t)), some (iI l), some (lI ([] ++ [l])), none]) (by first | rfl | simp -implicitDefEqProofs), sSeq_nx (sFor_eq (o := none) (xs := sp.dropLast.map .int) (by simp -implicitDefEqProofs [e1]) h)]
    first | rfl | simp -implicitDefEqProofs
  · refine runF_is [some (lI sp), some (lI (roomsN t)), some (iI l), some c, a] rfl ?_ (by first | rfl | simp -implicitDefEqProofs)
    rw [sSeq_nx (D1 := [some (lI sp), some (lI (roomsN t)), some (iI l), some (lI ([] ++ [l])), none]) (by first | rfl | simp -implicitDefEqProofs), sSeq_rt (sFor_eq (o := none) (xs := sp.dropLast.map .int) (by simp -implicitDefEqProofs [e1]) h)]
    first | rfl | simp -implicitDefEqProofs
theorem rowG_pos {t : Int} : ∀ {gs : List Int} {l : Int}, 0 ≤ l → 0 ≤ lastI (rowG t l gs)
  | [], l, h => by simpa [rowG, lastI] using h
  | g :: gs, l, h => by
    rw [rowG]
    cases roomN t l with
    | none => simpa [lastI] using h
    | some r =>
      have := rowG_pos (t := t) (gs := gs) (l := max 0 (g - r)) (by omega)
      dsimp only
      rw [lastI, List.getLast?_cons_of_ne_nil (rowG_ne _ _ _)]
      exact this
theorem rowG_full {t : Int} : ∀ {gs : List Int} {l : Int}, lastI (rowG t l gs) ≤ t → (rowG t l gs).length = gs.length + 1
  | [], l, h => by simp [rowG]
  | g :: gs, l, h => by
    rw [rowG, roomN_eq] at h ⊢
    by_cases h1 : l > t
    · rw [if_pos h1] at h
      simp [lastI] at h
      omega
    · rw [if_neg h1] at h ⊢
      dsimp only at h ⊢
      rw [lastI, List.getLast?_cons_of_ne_nil (rowG_ne _ _ _)] at h
      rw [List.length_cons, rowG_full h, List.length_cons]
theorem l_all_eq {many t : Int} {s : List Int} (hm : 0 < many) (hm1 : many < 1000) (hs : s ≠ []) (hl : s.length < 900) (hb : btw many s ≠ []) (h0 : 0 ≤ lastI (btw many s)) (h1 : lastI (btw many s) < 1000) (ht : 0 ≤ t) (ht1 : t < 1000) :
    F_l_all_rows [iI many, tI s, iI t] = some (ttI (rowsN t (btw many s)), [iI many, tI s, iI t]) := by
  have hbl : (btw many s).length < 900 := by rw [btw_len]; exact hl
  have e1 := lastI_at hb
  have sm : small (min t (lastI (btw many s)) + 1) := ⟨by omega, by omega⟩
  have c1 : eComp 1 [3, 4] (iR1 (aCons (oV (eBin vAdd (oSl 5) (oV (eC (.int 1))))) aNil)) (gN 0) kYes G.e_l_all_rows_1 [some (iI many), some (tI s), some (iI t), some (lI (btw many s)), some (lI (roomsN t)), some (iI (min t (lastI (btw many s))))] = some (ltI' (rowsN t (btw many s)), [some (iI many), some (tI s), some (iI t), some (lI (btw many s)), some (lI (roomsN t)), some (iI (min t (lastI (btw many s))))]) := by
    refine (eComp_eq (xs := (List.range (min t (lastI (btw many s)) + 1).toNat).map fun (k : Nat) => .int (k : Int)) (o := none) (D1 := [some (iI many), some (tI s), some (iI t), some (lI (btw many s)), some (lI (roomsN t)), some (iI (min t (lastI (btw many s))))]) ?_ (compL_mapT (fun (k : Nat) => .int (k : Int)) (fun (k : Nat) => .tup ((rowG t (k : Int) (btw many s).dropLast).map .int)) _ (fun k hk => ?_) ?_)).trans ?_
    · have e : rngI 0 (min t (lastI (btw many s)) + 1).toNat = (List.range (min t (lastI (btw many s)) + 1).toNat).map fun (k : Nat) => .int (k : Int) := by rw [rng_ints, List.map_map]; rfl
      simp -implicitDefEqProofs [sm, e]
    · exact ⟨[some (iI (k : Int)), some (lI (btw many s)), some (lI (roomsN t))], _, [some (iI (k : Int)), some (lI (btw many s)), some (lI (roomsN t))], by first | rfl | simp -implicitDefEqProofs, by first | rfl | (simp -implicitDefEqProofs; rfl), by simp -implicitDefEqProofs [e_l_all_rows_1, l_row_eq (l := (k : Int)) ht (by omega) hbl], by simp⟩
    · rw [List.length_range]; omega
    · simp -implicitDefEqProofs [rowsN]
  unfold F_l_all_rows g_l_all_rows
  refine runF_is [some (iI many), some (tI s), some (iI t), some (lI (btw many s)), some (lI (roomsN t)), some (iI (min t (lastI (btw many s))))] rfl ?_ (by first | rfl | simp -implicitDefEqProofs)
  refine (sSeq_nx (D1 := [some (iI many), some (tI s), some (iI t), some (lI (btw many s)), some (lI (roomsN t)), none]) ?_).trans ((sSeq_nx (D1 := [some (iI many), some (tI s), some (iI t), some (lI (btw many s)), some (lI (roomsN t)), some (iI (min t (lastI (btw many s))))]) ?_).trans (sRet_eq ?_))
  · simp -implicitDefEqProofs [l_between_eq hm hl, l_rooms_eq ht ht1]
  · simp -implicitDefEqProofs [e1, ← min_if]
  · simp -implicitDefEqProofs only [eCallB, aCons, oV, c1, aNil_ap, Option.bind_some, Option.map_some, rsls_cons, rsl_vl, rsls_nil, vTuple]
    rfl
theorem l_rows_eq {many t : Int} {s : List Int} (hm : 0 < many) (hm1 : many < 1000) (hs : s ≠ []) (hl : s.length < 900) (hb : btw many s ≠ []) (h0 : 0 ≤ lastI (btw many s)) (h1 : lastI (btw many s) < 1000) (ht : 0 ≤ t) (ht1 : t < 1000) :
    F_l_rows [iI many, tI s, iI t] = some ((if (rowsN t (btw many s)).any (goesB t (lastI (btw many s))) then .im .non else ttI (rowsN t (btw many s))), [iI many, tI s, iI t]) := by
  have e1 := lastI_at hb
  have hrl : ((roomsN t).length : Int) = t + 1 := by rw [rooms_len]; omega
  have st1 : sPar 3 4 (aCons (oV (eCall 2 G.F_l_between (aCons (oSl 0) (aCons (oSl 1) aNil)))) (aCons (oV (eCall 1 G.F_l_rooms (aCons (oSl 2) aNil))) aNil)) [some (iI many), some (tI s), some (iI t), none, none, none, none] = some (.nx, [some (iI many), some (tI s), some (iI t), some (lI (btw many s)), some (lI (roomsN t)), none, none]) := by
    simp -implicitDefEqProofs [l_between_eq hm hl, l_rooms_eq ht ht1]
  have st2 : sSet 5 (eCall 3 G.F_l_all_rows (aCons (oSl 0) (aCons (oSl 1) (aCons (oSl 2) aNil)))) [some (iI many), some (tI s), some (iI t), some (lI (btw many s)), some (lI (roomsN t)), none, none] = some (.nx, [some (iI many), some (tI s), some (iI t), some (lI (btw many s)), some (lI (roomsN t)), some (ttI (rowsN t (btw many s))), none]) := by
    simp -implicitDefEqProofs [l_all_eq hm hm1 hs hl hb h0 h1 ht ht1]
  have lp := forL_inv (tg := gN 6) (b := b_l_rows_1) (xs := (rowsN t (btw many s)).map fun s => .tup (s.map .int)) (D := [some (iI many), some (tI s), some (iI t), some (lI (btw many s)), some (lI (roomsN t)), some (ttI (rowsN t (btw many s))), none])
    (fun i D => (∃ o6, D = [some (iI many), some (tI s), some (iI t), some (lI (btw many s)), some (lI (roomsN t)), some (ttI (rowsN t (btw many s))), o6]) ∧ ∀ j r, j < i → (rowsN t (btw many s))[j]? = some r → goesB t (lastI (btw many s)) r = false)
    (fun d D => d = .im .non ∧ (∃ o6, D = [some (iI many), some (tI s), some (iI t), some (lI (btw many s)), some (lI (roomsN t)), some (ttI (rowsN t (btw many s))), o6]) ∧ ∃ r ∈ rowsN t (btw many s), goesB t (lastI (btw many s)) r = true)
    ⟨⟨none, rfl⟩, fun j r h => absurd h (Nat.not_lt_zero _)⟩
    (fun i x D hx hI => by
      obtain ⟨⟨o6, rfl⟩, hno⟩ := hI
      rw [List.getElem?_map] at hx
      obtain ⟨r, hr, rfl⟩ := Option.map_eq_some_iff.mp hx
      have hmem := List.mem_of_getElem? hr
      have hrne := rowsN_ne hmem
      have e2 := lastI_at hrne
      have e3 := first_at hrne
      obtain ⟨k, _, hk⟩ := List.mem_map.mp hmem
      have hp : 0 ≤ lastI r := by rw [← hk]; exact rowG_pos (by omega)
      have hfull : lastI r ≤ t → r.length = s.length := fun h => by
        rw [← hk] at h ⊢
        rw [rowG_full h, List.length_dropLast, btw_len]
        have := List.length_pos_iff.mpr hs
        omega
      refine ⟨[some (iI many), some (tI s), some (iI t), some (lI (btw many s)), some (lI (roomsN t)), some (ttI (rowsN t (btw many s))), some (tI r)], ?_⟩
      by_cases hle : lastI r ≤ t
      · have hlen := hfull hle
        have ar := atI_rooms hp hle
        have hlt : lastI r < t + 1 := by omega
        have hg : goesB t (lastI (btw many s)) r = decide (rmI t (lastI r) + r.head?.getD 0 ≥ lastI (btw many s)) := by
          rw [goesB, roomN_eq, if_neg (by omega)]
        by_cases hgo : lastI (btw many s) ≤ rmI t (lastI r) + r.head?.getD 0
        · refine ⟨.rt (.im .non), _, by first | rfl | simp -implicitDefEqProofs, ?_, .inr ⟨_, rfl, rfl, ⟨some (tI r), rfl⟩, r, hmem, by rw [hg]; exact decide_eq_true hgo⟩⟩
          simp -implicitDefEqProofs [b_l_rows_1, hlen, e1, e2, e3, hrl, hlt, ar, hgo, Im.pl, pyEq]
        · refine ⟨.nx, _, by first | rfl | simp -implicitDefEqProofs, ?_, .inl ⟨.inl rfl, ⟨some (tI r), rfl⟩, fun j r' hj hr' => ?_⟩⟩
          · simp -implicitDefEqProofs [b_l_rows_1, hlen, e1, e2, e3, hrl, hlt, ar, hgo, Im.pl, pyEq]
          · rcases Nat.lt_succ_iff_lt_or_eq.mp hj with h | rfl
            · exact hno j r' h hr'
            · rw [hr] at hr'; cases hr'; rw [hg]; exact decide_eq_false hgo
      · have hnlt : ¬ lastI r < t + 1 := by omega
        refine ⟨.nx, _, by first | rfl | simp -implicitDefEqProofs, ?_, .inl ⟨.inl rfl, ⟨some (tI r), rfl⟩, fun j r' hj hr' => ?_⟩⟩
        · by_cases hlen : r.length = s.length
          · simp -implicitDefEqProofs [b_l_rows_1, hlen, e1, e2, e3, hrl, hnlt, Im.pl, pyEq]
          · have hlen' : ¬ ((r.length : Int) = (s.length : Int)) := by omega
            simp -implicitDefEqProofs [b_l_rows_1, hlen, hlen', e1, e2, e3, hrl, hnlt, Im.pl, pyEq]
        · rcases Nat.lt_succ_iff_lt_or_eq.mp hj with h | rfl
          · exact hno j r' h hr'
          · rw [hr] at hr'; cases hr'; rw [goesB, roomN_eq, if_pos (by omega)])
  unfold F_l_rows g_l_rows
  rcases lp with ⟨D', l1, ⟨o6, rfl⟩, l2⟩ | ⟨d, D', l1, rfl, ⟨o6, rfl⟩, r, hr, hg⟩
  · have hv : (rowsN t (btw many s)).any (goesB t (lastI (btw many s))) = false := by
      rw [List.any_eq_false]
      intro r hr hg
      obtain ⟨j, hj⟩ := List.getElem?_of_mem hr
      rw [List.length_map] at l2
      rw [l2 j r (List.getElem?_eq_some_iff.mp hj).1 hj] at hg
      cases hg
    rw [hv, if_neg Bool.false_ne_true]
    refine runF_is [some (iI many), some (tI s), some (iI t), some (lI (btw many s)), some (lI (roomsN t)), some (ttI (rowsN t (btw many s))), o6] rfl ?_ (by first | rfl | simp -implicitDefEqProofs)
    exact (sSeq_nx st1).trans ((sSeq_nx st2).trans ((sSeq_nx (sFor_eq (o := none) (by first | rfl | simp -implicitDefEqProofs) l1)).trans (by first | rfl | simp -implicitDefEqProofs)))
  · have hv : (rowsN t (btw many s)).any (goesB t (lastI (btw many s))) = true := List.any_eq_true.mpr ⟨r, hr, hg⟩
    rw [hv, if_pos rfl]
    refine runF_is [some (iI many), some (tI s), some (iI t), some (lI (btw many s)), some (lI (roomsN t)), some (ttI (rowsN t (btw many s))), o6] rfl ?_ (by first | rfl | simp -implicitDefEqProofs)
    exact (sSeq_nx st1).trans ((sSeq_nx st2).trans (sSeq_rt (sFor_eq (o := none) (by first | rfl | simp -implicitDefEqProofs) l1)))
end G
set_option Elab.async false
set_option linter.all false
set_option maxRecDepth 100000
namespace G
open PySem L2
theorem rowG_len (t : Int) : ∀ (gs : List Int) (l : Int), (rowG t l gs).length ≤ gs.length + 1
  | [], l => by simp [rowG]
  | g :: gs, l => by
    rw [rowG]
    cases roomN t l with
    | none => simp
    | some r => have := rowG_len t gs (max 0 (g - r)); simp; omega
theorem btw_ne {many : Int} {s : List Int} (h : s ≠ []) : btw many s ≠ [] := by
  have h1 := btw_len many s
  have h2 := List.length_pos_iff.mpr h
  exact List.length_pos_iff.mp (by omega)
theorem least_ok {many : Int} {s : List Int} (R : RingOk many s) : ∃ l : Int, F_least_time [iI many, tI s] = some (iI l, [iI many, tI s]) ∧ 0 ≤ l ∧ l < many := by
  have hm := R.m0
  have hm1 := R.m1
  have hf := R.few
  have hb := btw_ne (many := many) R.ne
  have hbl : (btw many s).length < 900 := by rw [btw_len]; omega
  obtain ⟨b0, b1⟩ := btw_in (by omega) (lastI_mem hb)
  obtain ⟨D', h, l, o4, o5, rfl, h0, h1⟩ := whileN_inv (c := k_least_time_1) (b := b_least_time_2) (fun m D => ∃ (l e : Int) (o5 : Option Vl), D = [some (iI many), some (tI s), some (lI (btw many s)), some (iI l), some (iI e), o5] ∧ 0 ≤ l ∧ l ≤ e ∧ e < many ∧ m = (e - l).toNat) (fun D => ∃ (l : Int) (o4 o5 : Option Vl), D = [some (iI many), some (tI s), some (lI (btw many s)), some (iI l), o4, o5] ∧ 0 ≤ l ∧ l < many)
    (fun m D ⟨l, e, o5, hD, a1, a2, a3, a4⟩ => by
      subst hD
      refine ⟨decide (l < e), [some (iI many), some (tI s), some (lI (btw many s)), some (iI l), some (iI e), o5], by simp -implicitDefEqProofs [k_least_time_1], fun hh => ?_, fun hh => ⟨l, some (iI e), o5, rfl, a1, by omega⟩⟩
      have hh := of_decide_eq_true hh
      have m0 : 0 ≤ (l + e) / 2 := by omega
      have m1 : (l + e) / 2 < e := by omega
      have m2 : l ≤ (l + e) / 2 := by omega
      have er := rows_through_eq (t := (l + e) / 2) hb hbl b0 (by omega) m0
      have s1 : sSet 5 (eBin vDiv (oV (eBin vAdd (oSl 3) (oSl 4))) (oV (eC (.int 2)))) [some (iI many), some (tI s), some (lI (btw many s)), some (iI l), some (iI e), o5] = some (.nx, [some (iI many), some (tI s), some (lI (btw many s)), some (iI l), some (iI e), some (iI ((l + e) / 2))]) := by
        first | rfl | simp -implicitDefEqProofs
      have s2 : kTru (oV (eCall 2 G.F_rows_through (aCons (oSl 2) (aCons (oSl 5) aNil)))) [some (iI many), some (tI s), some (lI (btw many s)), some (iI l), some (iI e), some (iI ((l + e) / 2))] = some (!((rowsN ((l + e) / 2) (btw many s)).filter (goesB ((l + e) / 2) (lastI (btw many s)))).isEmpty, [some (iI many), some (tI s), some (lI (btw many s)), some (iI l), some (iI e), some (iI ((l + e) / 2))]) := by
        simp -implicitDefEqProofs [er]
      cases hv : !((rowsN ((l + e) / 2) (btw many s)).filter (goesB ((l + e) / 2) (lastI (btw many s)))).isEmpty with
      | true =>
        rw [hv] at s2
        exact ⟨.nx, [some (iI many), some (tI s), some (lI (btw many s)), some (iI l), some (iI ((l + e) / 2)), some (iI ((l + e) / 2))], (sSeq_nx s1).trans ((sIf_t s2).trans (by first | rfl | simp -implicitDefEqProofs)), .inl rfl, ((l + e) / 2 - l).toNat, by omega, l, (l + e) / 2, _, rfl, a1, m2, by omega, rfl⟩
      | false =>
        rw [hv] at s2
        exact ⟨.nx, [some (iI many), some (tI s), some (lI (btw many s)), some (iI ((l + e) / 2 + 1)), some (iI e), some (iI ((l + e) / 2))], (sSeq_nx s1).trans ((sIf_f s2).trans (by first | rfl | simp -implicitDefEqProofs)), .inl rfl, (e - ((l + e) / 2 + 1)).toNat, by omega, (l + e) / 2 + 1, e, _, rfl, by omega, by omega, a3, rfl⟩)
    1000000 (many - 1 - 0).toNat [some (iI many), some (tI s), some (lI (btw many s)), some (iI 0), some (iI (many - 1)), none] ⟨0, many - 1, none, rfl, by omega, by omega, by omega, rfl⟩ (by omega)
  refine ⟨l, ?_, h0, h1⟩
  unfold F_least_time g_least_time
  refine runF_is [some (iI many), some (tI s), some (lI (btw many s)), some (iI l), o4, o5] rfl ?_ (by first | rfl | simp -implicitDefEqProofs)
  exact (sSeq_nx (D1 := [some (iI many), some (tI s), some (lI (btw many s)), none, none, none]) (by simp -implicitDefEqProofs [between_eq (many := many) (s := s) (by omega) (by omega)])).trans ((sSeq_nx (D1 := [some (iI many), some (tI s), some (lI (btw many s)), some (iI 0), none, none]) (by first | rfl | simp -implicitDefEqProofs)).trans ((sSeq_nx (D1 := [some (iI many), some (tI s), some (lI (btw many s)), some (iI 0), some (iI (many - 1)), none]) (by first | rfl | simp -implicitDefEqProofs)).trans ((sSeq_nx h).trans (by first | rfl | simp -implicitDefEqProofs))))
end G
set_option Elab.async false
set_option linter.all false
set_option maxRecDepth 100000
namespace G
open PySem L2
theorem last1 : F_too_little [iI 4, tI [0, 2], iI 0] = some (ttI [[0, 1]], [iI 4, tI [0, 2], iI 0]) :=
  (too_little_eq (many := 4) (s := [0, 2]) (t := 0) (by decide) (by decide) (by decide) (by decide) (by decide) (by decide) (by decide) (by decide) (by decide)).trans (by rw [show rowsN 0 (btw 4 [0, 2]) = [[0, 1]] by decide, show ([[0, 1]] : List (List Int)).any (goesB 0 (lastI (btw 4 [0, 2]))) = false by decide]; rfl)
end G
set_option Elab.async false
set_option linter.all false
set_option maxRecDepth 100000
namespace G
open PySem L2
def Ok0 (d : Im) : Prop := ∀ a, d ≠ .fn a
def Ok1 (d : Im) : Prop := Ok0 d ∧ ∀ ds, d = .tup ds → ds.length ≤ 2000 ∧ ∀ x ∈ ds, Ok0 x
def Ok2 (d : Im) : Prop := Ok0 d ∧ ∀ ds, d = .tup ds → ds.length ≤ 2000 ∧ ∀ x ∈ ds, Ok1 x
def isW : Im → Bool
  | .int _ => true
  | _ => false
def isR : Im → Bool
  | .tup ds => ds.all isW
  | _ => false
def isRs : Im → Bool
  | .tup ds => ds.all isR
  | _ => false
theorem whole_eq {d : Im} (h : Ok0 d) : F_is_whole [.im d] = some (.im (.bl (isW d)), [.im d]) := by
  cases d with
  | fn a => exact absurd rfl (h a)
  | _ => rfl
theorem all_id {α : Type} (f : α → Bool) (xs : List α) : (xs.map f).all id = xs.all f := by rw [List.all_map]; rfl
theorem isR_eq {d : Im} (h : Ok1 d) : F_is_row_like [.im d] = some (.im (.bl (isR d)), [.im d]) := by
  cases d with
  | fn a => exact absurd rfl (h.1 a)
  | tup ds =>
    obtain ⟨hl, hd⟩ := h.2 ds rfl
    have c1 : eComp 1 [] (iOpd (oSl 0)) (gN 0) kYes G.e_is_row_like_1 [some (.im (.tup ds))] = some (.lst (ds.map fun d => .bl (isW d)), [some (.im (.tup ds))]) := by
      refine (eComp_eq (xs := ds.map id) (o := none) (D1 := [some (.im (.tup ds))]) (by simp -implicitDefEqProofs) (compL_mapT id (fun d => .bl (isW d)) _ (fun d h => ?_) (by omega))).trans rfl
      exact ⟨[some (.im d)], _, [some (.im d)], rfl, rfl, by simp -implicitDefEqProofs [e_is_row_like_1, whole_eq (hd d h)], rfl⟩
    have c2 : eCallB vAll (aCons (oV (eComp 1 [] (iOpd (oSl 0)) (gN 0) kYes G.e_is_row_like_1)) aNil) [some (.im (.tup ds))] = some (.im (.bl (ds.all isW)), [some (.im (.tup ds))]) := by
      simp -implicitDefEqProofs only [oV, eCallB, aCons, c1, aNil_ap, Option.bind_some, Option.map_some, rsls_cons, rsl_vl, rsls_nil, vAll, bls_map isW, all_id]
    unfold F_is_row_like g_is_row_like
    refine runF_is [some (.im (.tup ds))] rfl (sRet_eq ?_) (by simp -implicitDefEqProofs)
    simp -implicitDefEqProofs [c2, isR, -eCallB, -eComp]
  | _ => rfl
theorem isRs_eq {d : Im} (h : Ok2 d) : F_are_rows_like [.im d] = some (.im (.bl (isRs d)), [.im d]) := by
  cases d with
  | fn a => exact absurd rfl (h.1 a)
  | tup ds =>
    obtain ⟨hl, hd⟩ := h.2 ds rfl
    have c1 : eComp 1 [] (iOpd (oSl 0)) (gN 0) kYes G.e_are_rows_like_1 [some (.im (.tup ds))] = some (.lst (ds.map fun d => .bl (isR d)), [some (.im (.tup ds))]) := by
      refine (eComp_eq (xs := ds.map id) (o := none) (D1 := [some (.im (.tup ds))]) (by simp -implicitDefEqProofs) (compL_mapT id (fun d => .bl (isR d)) _ (fun d h => ?_) (by omega))).trans rfl
      exact ⟨[some (.im d)], _, [some (.im d)], rfl, rfl, by simp -implicitDefEqProofs [e_are_rows_like_1, isR_eq (hd d h)], rfl⟩
    have c2 : eCallB vAll (aCons (oV (eComp 1 [] (iOpd (oSl 0)) (gN 0) kYes G.e_are_rows_like_1)) aNil) [some (.im (.tup ds))] = some (.im (.bl (ds.all isR)), [some (.im (.tup ds))]) := by
      simp -implicitDefEqProofs only [oV, eCallB, aCons, c1, aNil_ap, Option.bind_some, Option.map_some, rsls_cons, rsl_vl, rsls_nil, vAll, bls_map isR, all_id]
    unfold F_are_rows_like g_are_rows_like
    refine runF_is [some (.im (.tup ds))] rfl (sRet_eq ?_) (by simp -implicitDefEqProofs)
    simp -implicitDefEqProofs [c2, isRs, -eCallB, -eComp]
  | _ => rfl
def smI : Im → Int → Bool
  | .int i, j => i == j
  | _, _ => false
def smR : Im → List Int → Bool
  | .tup ds, r => decide (ds.length = r.length) && (ds.zip r).all fun p => smI p.1 p.2
  | _, _ => false
def smRs : Im → List (List Int) → Bool
  | .tup ds, rs => decide (ds.length = rs.length) && (ds.zip rs).all fun p => smR p.1 p.2
  | _, _ => false
theorem smI_eq (k : Nat) {d : Im} (h : Ok0 d) (j : Int) : F_l_same (k + 1) [.im d, .im (.int j)] = some (.im (.bl (smI d j)), [.im d, .im (.int j)]) := by
  cases d with
  | fn a => exact absurd rfl (h a)
  | int i => simp -implicitDefEqProofs [F_l_same, g_l_same, smI, Im.pl, pyEq]
  | _ => rfl
theorem zipI_zip : ∀ (ds es : List Im), zipI ds es = (ds.zip es).map fun p => .tup [p.1, p.2]
  | [], es => by simp [zipI]
  | d :: ds, [] => by simp [zipI]
  | d :: ds, e :: es => by simp [zipI, zipI_zip ds es]
theorem same_tup (k : Nat) (g : Im → Im → Bool) {ds es : List Im} (hl : ds.length ≤ 2000) (h : ∀ p ∈ ds.zip es, F_l_same (k + 1) [.im p.1, .im p.2] = some (.im (.bl (g p.1 p.2)), [.im p.1, .im p.2])) :
    F_l_same (k + 2) [.im (.tup ds), .im (.tup es)] = some (.im (.bl (decide (ds.length = es.length) && (ds.zip es).all fun p => g p.1 p.2)), [.im (.tup ds), .im (.tup es)]) := by
  rw [F_l_same]
  by_cases he : ds.length = es.length
  · have c1 : eComp 2 [] (iZ (aCons (oSl 0) (aCons (oSl 1) aNil))) (gT 2 (gCons' (gN 0) (gCons' (gN 1) gNil'))) kYes (G.e_l_same_1 (F_l_same (k + 1))) [some (.im (.tup ds)), some (.im (.tup es))] = some (.lst ((ds.zip es).map fun p => .bl (g p.1 p.2)), [some (.im (.tup ds)), some (.im (.tup es))]) := by
      refine (eComp_eq (xs := (ds.zip es).map fun p => .tup [p.1, p.2]) (o := none) (D1 := [some (.im (.tup ds)), some (.im (.tup es))]) ?_ (compL_mapT _ (fun p => .bl (g p.1 p.2)) _ (fun p hp => ?_) ?_)).trans rfl
      · rw [← zipI_zip]; rfl
      · exact ⟨[some (.im p.1), some (.im p.2)], _, [some (.im p.1), some (.im p.2)], rfl, rfl, by simp -implicitDefEqProofs [e_l_same_1, h p hp], rfl⟩
      · rw [List.length_zip]; omega
    have c2 : eCallB vAll (aCons (oV (eComp 2 [] (iZ (aCons (oSl 0) (aCons (oSl 1) aNil))) (gT 2 (gCons' (gN 0) (gCons' (gN 1) gNil'))) kYes (G.e_l_same_1 (F_l_same (k + 1))))) aNil) [some (.im (.tup ds)), some (.im (.tup es))] = some (.im (.bl (decide (ds.length = es.length) && (ds.zip es).all fun p => g p.1 p.2)), [some (.im (.tup ds)), some (.im (.tup es))]) := by
      simp -implicitDefEqProofs only [oV, eCallB, aCons, c1, aNil_ap, Option.bind_some, Option.map_some, rsls_cons, rsl_vl, rsls_nil, vAll, bls_map (fun p : Im × Im => g p.1 p.2), all_id, he, decide_true, Bool.true_and]
    have hk : kOr (kNot (kTru (oV (eIsi "tuple" (oSl 0))))) (kB (eBin vNe (oV (eCallB vLen (aCons (oSl 0) aNil))) (oV (eCallB vLen (aCons (oSl 1) aNil))))) [some (.im (.tup ds)), some (.im (.tup es))] = some (false, [some (.im (.tup ds)), some (.im (.tup es))]) := by
      simp -implicitDefEqProofs [Im.pl, pyEq, he]
    refine runF_is [some (.im (.tup ds)), some (.im (.tup es))] rfl ?_ rfl
    exact sSeq_rt ((sIf_t (D1 := [some (.im (.tup ds)), some (.im (.tup es))]) rfl).trans ((sSeq_nx ((sIf_f hk).trans rfl)).trans (sRet_eq c2)))
  · have hk : kOr (kNot (kTru (oV (eIsi "tuple" (oSl 0))))) (kB (eBin vNe (oV (eCallB vLen (aCons (oSl 0) aNil))) (oV (eCallB vLen (aCons (oSl 1) aNil))))) [some (.im (.tup ds)), some (.im (.tup es))] = some (true, [some (.im (.tup ds)), some (.im (.tup es))]) := by
      have : ¬ ((ds.length : Int) = (es.length : Int)) := by omega
      simp -implicitDefEqProofs [Im.pl, pyEq, this]
    rw [decide_eq_false he, Bool.false_and]
    refine runF_is [some (.im (.tup ds)), some (.im (.tup es))] rfl ?_ rfl
    exact sSeq_rt ((sIf_t (D1 := [some (.im (.tup ds)), some (.im (.tup es))]) rfl).trans (sSeq_rt ((sIf_t hk).trans rfl)))
theorem same_no (k : Nat) {d : Im} {es : List Im} (h : Ok0 d) (n : ∀ ds, d ≠ .tup ds) : F_l_same (k + 2) [.im d, .im (.tup es)] = some (.im (.bl false), [.im d, .im (.tup es)]) := by
  have hk : kOr (kNot (kTru (oV (eIsi "tuple" (oSl 0))))) (kB (eBin vNe (oV (eCallB vLen (aCons (oSl 0) aNil))) (oV (eCallB vLen (aCons (oSl 1) aNil))))) [some (.im d), some (.im (.tup es))] = some (true, [some (.im d), some (.im (.tup es))]) := by
    cases d with
    | fn a => exact absurd rfl (h a)
    | tup ds => exact absurd rfl (n ds)
    | _ => rfl
  rw [F_l_same]
  refine runF_is [some (.im d), some (.im (.tup es))] rfl ?_ rfl
  exact sSeq_rt ((sIf_t (D1 := [some (.im d), some (.im (.tup es))]) rfl).trans (sSeq_rt ((sIf_t hk).trans rfl)))
def isZ : Im → Int
  | .int i => i
  | _ => 0
def isL : Im → List Int
  | .tup ds => ds.map isZ
  | _ => []
theorem isL_row (r : List Int) : isL (.tup (r.map .int)) = r := by
  show (r.map Im.int).map isZ = r
  rw [List.map_map]
  exact List.map_id _
theorem zip_map_all {α β γ : Type} (f : β → γ) (g : α → γ → Bool) : ∀ (ds : List α) (r : List β), ((ds.zip (r.map f)).all fun p => g p.1 p.2) = (ds.zip r).all fun p => g p.1 (f p.2)
  | [], r => by simp
  | d :: ds, [] => by simp
  | d :: ds, b :: r => by
    have := zip_map_all f g ds r
    simp only [List.map_cons, List.zip_cons_cons, List.all_cons, this]
theorem smR_eq (k : Nat) {d : Im} (h : Ok1 d) (r : List Int) : F_l_same (k + 2) [.im d, tI r] = some (.im (.bl (smR d r)), [.im d, tI r]) := by
  cases d with
  | tup ds =>
    obtain ⟨hl, hd⟩ := h.2 ds rfl
    have e := same_tup k (fun d e => smI d (isZ e)) (es := r.map .int) hl fun p hp => by
      obtain ⟨i, _, e⟩ := List.mem_map.mp (List.of_mem_zip hp).2
      rw [← e]
      exact smI_eq k (hd _ (List.of_mem_zip hp).1) i
    rw [zip_map_all Im.int (fun d e => smI d (isZ e)), List.length_map] at e
    exact e
  | fn a => exact absurd rfl (h.1 a)
  | _ => exact same_no k h.1 fun ds z => by cases z
theorem smRs_eq (k : Nat) {d : Im} (h : Ok2 d) (r : List (List Int)) : F_l_same (k + 3) [.im d, ttI r] = some (.im (.bl (smRs d r)), [.im d, ttI r]) := by
  cases d with
  | tup ds =>
    obtain ⟨hl, hd⟩ := h.2 ds rfl
    have e := same_tup (k + 1) (fun d e => smR d (isL e)) (es := r.map fun s => .tup (s.map .int)) hl fun p hp => by
      obtain ⟨i, _, e⟩ := List.mem_map.mp (List.of_mem_zip hp).2
      rw [← e, isL_row]
      exact smR_eq k (hd _ (List.of_mem_zip hp).1) i
    rw [zip_map_all (fun s : List Int => Im.tup (s.map .int)) (fun d e => smR d (isL e)), List.length_map] at e
    have e2 : ((ds.zip r).all fun p => smR p.1 (isL (.tup (p.2.map .int)))) = (ds.zip r).all fun p => smR p.1 p.2 := by
      congr 1
      funext p
      rw [isL_row]
    rw [e2] at e
    exact e
  | fn a => exact absurd rfl (h.1 a)
  | _ => exact same_no (k + 1) h.1 fun ds z => by cases z
theorem row_like : ∀ (ds : List Im) (r : List Int), (ds.all isW && pyEqs ds (r.map .int)) = (decide (ds.length = r.length) && (ds.zip r).all fun p => smI p.1 p.2)
  | [], [] => by simp [pyEqs]
  | [], b :: r => by simp [pyEqs]
  | a :: ds, [] => by simp [pyEqs]
  | a :: ds, b :: r => by
    have ih := row_like ds r
    rw [List.all_cons, List.map_cons, pyEqs, List.zip_cons_cons, List.all_cons]
    have e : decide ((a :: ds).length = (b :: r).length) = decide (ds.length = r.length) := by simp
    rw [e]
    cases a with
    | int i =>
      show (true && ds.all isW && ((i == b) && pyEqs ds (r.map .int))) = (decide (ds.length = r.length) && ((i == b) && (ds.zip r).all fun p => smI p.1 p.2))
      cases h : i == b with
      | false => simp
      | true => simpa using ih
    | _ => simp [isW, smI]
theorem isR_like (d : Im) (r : List Int) : (isR d && pyEq d (.tup (r.map .int))) = smR d r := by
  cases d with
  | tup ds => exact row_like ds r
  | _ => simp [isR, smR]
theorem rows_like : ∀ (ds : List Im) (r : List (List Int)), (ds.all isR && pyEqs ds (r.map fun s => .tup (s.map .int))) = (decide (ds.length = r.length) && (ds.zip r).all fun p => smR p.1 p.2)
  | [], [] => by simp [pyEqs]
  | [], b :: r => by simp [pyEqs]
  | a :: ds, [] => by simp [pyEqs]
  | a :: ds, b :: r => by
    have ih := rows_like ds r
    rw [List.all_cons, List.map_cons, pyEqs, List.zip_cons_cons, List.all_cons]
    have e : decide ((a :: ds).length = (b :: r).length) = decide (ds.length = r.length) := by simp
    rw [e, ← isR_like a b]
    cases h1 : isR a <;> cases h2 : pyEq a (.tup (b.map .int)) <;> simp [ih]
theorem isRs_like (d : Im) (r : List (List Int)) : (isRs d && pyEq d (.tup (r.map fun s => .tup (s.map .int)))) = smRs d r := by
  cases d with
  | tup ds => exact rows_like ds r
  | _ => simp [isRs, smRs]
theorem isW_pl (n : Nat) : ∀ (ds : List Im), ds.all isW = true → Im.pls n ds = true
  | [], _ => by cases n <;> rfl
  | d :: ds, h => by
    rw [List.all_cons, Bool.and_eq_true] at h
    cases d with
    | int i => rw [Im.pls, isW_pl n ds h.2]; cases n <;> rfl
    | _ => simp [isW] at h
theorem isR_pl (n : Nat) : ∀ (ds : List Im), ds.all isR = true → Im.pls (n + 1) ds = true
  | [], _ => rfl
  | d :: ds, h => by
    rw [List.all_cons, Bool.and_eq_true] at h
    cases d with
    | tup es =>
      rw [Im.pls, isR_pl n ds h.2, Bool.and_true]
      exact isW_pl n es h.1
    | _ => simp [isR] at h
theorem isRs_pl {d : Im} (h : isRs d = true) : Im.pl 8 d = true := by
  cases d with
  | tup ds => exact isR_pl 6 ds h
  | _ => simp [isRs] at h
end G
set_option Elab.async false
set_option linter.all false
set_option maxRecDepth 100000
namespace G
open PySem L2
theorem pl_int (n : Nat) (i : Int) : Im.pl n (.int i) = true := by cases n <;> rfl
theorem pyEq_int (i j : Int) : pyEq (.int i) (.int j) = (i == j) := by rw [pyEq]
theorem up_all : ∀ {s : List Int}, s.Pairwise (· < ·) → ((s.zip (s.drop 1)).all fun p => decide (p.1 < p.2)) = true
  | [], _ => rfl
  | [a], _ => rfl
  | a :: b :: r, h => by
    have h2 := List.pairwise_cons.mp h
    have ih := up_all h2.2
    show (decide (a < b) && ((b :: r).zip r).all fun p => decide (p.1 < p.2)) = true
    rw [decide_eq_true (h2.1 b (.head _)), Bool.true_and]
    exact ih
theorem rising_eq {f : Addr} {s : List Int} (hl : s.length ≤ 2000) (h : s.Pairwise (· < ·)) : F_is_rising f [tI s, .im (.fn f)] = some (.im (.bl true), [tI s, .im (.fn f)]) := by
  have c1 : eComp 1 [1] (iOpd (oSl 0)) (gN 0) kYes (G.e_is_rising_1 f) [some (tI s), some (.im (.fn f))] = some (.lst (s.map fun _ => .bl true), [some (tI s), some (.im (.fn f))]) := by
    refine (eComp_eq (xs := s.map .int) (o := none) (D1 := [some (tI s), some (.im (.fn f))]) (by simp -implicitDefEqProofs) (compL_mapT _ (fun _ => .bl true) _ (fun i hi => ?_) (by omega))).trans rfl
    have e := whole_eq (d := .int i) (fun a z => by cases z)
    exact ⟨[some (iI i), some (.im (.fn f))], _, [some (iI i), some (.im (.fn f))], rfl, rfl, by simp -implicitDefEqProofs [e_is_rising_1, e, isW], rfl⟩
  have c2 : kTru (oV (eCallB vAll (aCons (oV (eComp 1 [1] (iOpd (oSl 0)) (gN 0) kYes (G.e_is_rising_1 f))) aNil))) [some (tI s), some (.im (.fn f))] = some (true, [some (tI s), some (.im (.fn f))]) := by
    simp -implicitDefEqProofs only [kTru, oV, eCallB, aCons, c1, aNil_ap, Option.bind_some, Option.map_some, rsls_cons, rsl_vl, rsls_nil, vAll, bls_map (fun _ => true), truB]
    rw [show (s.map fun _ => true).all id = true by rw [List.all_map]; exact List.all_eq_true.mpr fun _ _ => rfl]
  have c3 : eComp 2 [] (iZ (aCons (oSl 0) (aCons (oV (eSl (oSl 0) (pSome (eC (.int 1))) pNone)) aNil))) (gT 2 (gCons' (gN 0) (gCons' (gN 1) gNil'))) kYes (G.e_is_rising_2 f) [some (tI s), some (.im (.fn f))] = some (.lst ((s.zip (s.drop 1)).map fun p => .bl (decide (p.1 < p.2))), [some (tI s), some (.im (.fn f))]) := by
    refine (eComp_eq (xs := (s.zip (s.drop 1)).map fun p => .tup [.int p.1, .int p.2]) (o := none) (D1 := [some (tI s), some (.im (.fn f))]) ?_ (compL_mapT _ (fun p => .bl (decide (p.1 < p.2))) _ (fun p hp => ?_) ?_)).trans ?_
    · have e1 : cutL (s.map Im.int) (some 1) none = (s.drop 1).map Im.int := by rw [show (1 : Int) = ((1 : Nat) : Int) from rfl, cut_from, List.map_drop]
      have := zipI_map Im.int Im.int s (s.drop 1)
      simp -implicitDefEqProofs [e1, this, -List.map_drop, -List.drop_one]
    · exact ⟨[some (iI p.1), some (iI p.2)], _, [some (iI p.1), some (iI p.2)], rfl, rfl, by simp -implicitDefEqProofs [e_is_rising_2], by simp⟩
    · rw [List.length_zip]; omega
    · rfl
  have c4 : eCallB vAll (aCons (oV (eComp 2 [] (iZ (aCons (oSl 0) (aCons (oV (eSl (oSl 0) (pSome (eC (.int 1))) pNone)) aNil))) (gT 2 (gCons' (gN 0) (gCons' (gN 1) gNil'))) kYes (G.e_is_rising_2 f))) aNil) [some (tI s), some (.im (.fn f))] = some (.im (.bl true), [some (tI s), some (.im (.fn f))]) := by
    simp -implicitDefEqProofs only [oV, eCallB, aCons, c3, aNil_ap, Option.bind_some, Option.map_some, rsls_cons, rsl_vl, rsls_nil, vAll, bls_map (fun p : Int × Int => decide (p.1 < p.2)), all_id, up_all h]
  have hk : kOr (kNot (kTru (oV (eIsi "tuple" (oSl 0))))) (kNot (kTru (oV (eCallB vAll (aCons (oV (eComp 1 [1] (iOpd (oSl 0)) (gN 0) kYes (G.e_is_rising_1 f))) aNil))))) [some (tI s), some (.im (.fn f))] = some (false, [some (tI s), some (.im (.fn f))]) := by
    have t1 : kTru (oV (eIsi "tuple" (oSl 0))) [some (tI s), some (.im (.fn f))] = some (true, [some (tI s), some (.im (.fn f))]) := by simp -implicitDefEqProofs
    simp -implicitDefEqProofs only [kOr, kNot, t1, c2, Option.map_some, Option.bind_some]
    rfl
  unfold F_is_rising g_is_rising
  refine runF_is [some (tI s), some (.im (.fn f))] rfl ?_ (by simp -implicitDefEqProofs)
  exact (sSeq_nx ((sIf_f hk).trans rfl)).trans (sRet_eq c4)
theorem spots_eq {f : Addr} {many : Int} {s : List Int} (R : RingOk many s) : F_are_spots f [iI many, tI s] = some (.im (.bl true), [iI many, tI s]) := by
  have hf := R.few
  have e1 := whole_eq (d := .int many) (fun a z => by cases z)
  have e2 := rising_eq (f := f) (s := s) (by omega) R.up
  have e3 := first_at R.ne
  have e4 := lastI_at R.ne
  have h0 : 0 ≤ s.head?.getD 0 := by
    cases s with
    | nil => exact absurd rfl R.ne
    | cons a r => exact (R.inn a (.head _)).1
  have h1 : lastI s < many := (R.inn _ (lastI_mem R.ne)).2
  have h2 : ¬ ((s.length : Int) = 0) := by have := List.length_pos_iff.mpr R.ne; omega
  unfold F_are_spots g_are_spots
  simp -implicitDefEqProofs [e1, e2, e3, e4, h0, h1, h2, isW, pl_int, pyEq_int, R.ne]
def lenB : Im → Int → Bool
  | .tup ds, n => decide ((ds.length : Int) = n)
  | _, _ => false
theorem shows_eq {f : Addr} {many t : Int} {s : List Int} {d th : Im} (R : RingOk many s) (ht : 0 ≤ t) (h : Ok2 th) (hd : F_too_little [iI many, tI s, iI t] = some (.im d, [iI many, tI s, iI t])) (hp : Im.pl 8 d = true) :
    F_shows_too_little f [iI many, tI s, iI t, .im th] = some (.im (.bl (isRs th && lenB th (min t (lastI (btw many s)) + 1) && pyEq th d)), [iI many, tI s, iI t, .im th]) := by
  have hf := R.few
  have hm := R.m0
  have e1 := spots_eq (f := f) R
  have e2 := whole_eq (d := .int t) (fun a z => by cases z)
  have e3 := isRs_eq h
  have e4 := between_eq (many := many) (s := s) (by omega) (by omega)
  have e5 := left_eq (sp := btw many s) (t := t) (btw_ne R.ne)
  have ht' : ¬ (t < 0) := by omega
  unfold F_shows_too_little g_shows_too_little
  cases hr : isRs th with
  | false =>
    rw [hr] at e3
    simp -implicitDefEqProofs [e1, e2, e3, ht', isW]
  | true =>
    rw [hr] at e3
    have hq := isRs_pl hr
    cases th with
    | tup ds =>
      by_cases hl : (ds.length : Int) = min t (lastI (btw many s)) + 1
      · simp -implicitDefEqProofs [e1, e2, e3, e4, e5, ht', isW, hl, hd, hp, hq, pl_int, pyEq_int, lenB]
      · simp -implicitDefEqProofs [e1, e2, e3, e4, e5, ht', isW, hl, pl_int, pyEq_int, lenB]
    | _ => simp [isRs] at hr
end G
set_option Elab.async false
set_option linter.all false
set_option maxRecDepth 100000
namespace G
open PySem L2
theorem cutL_len {α : Type} (xs : List α) (lo hi : Option Int) : (cutL xs lo hi).length ≤ xs.length := by
  unfold cutL
  rw [List.length_take, List.length_drop]
  omega
theorem cutL_mem {α : Type} {xs : List α} {lo hi : Option Int} {x : α} (h : x ∈ cutL xs lo hi) : x ∈ xs := by
  unfold cutL at h
  exact List.mem_of_mem_drop (List.mem_of_mem_take h)
theorem vAdd_tup {x y : List Im} (h : x.length + y.length ≤ 100000) : vAdd (.im (.tup x)) (.im (.tup y)) = some (.im (.tup (x ++ y))) := by simp [h]
theorem vAdd_lst {x y : List Im} (h : x.length + y.length ≤ 100000) : vAdd (.lst x) (.lst y) = some (.lst (x ++ y)) := by simp [h]
theorem vAdd_int (i j : Int) : vAdd (.im (.int i)) (.im (.int j)) = some (.im (.int (i + j))) := rfl
theorem pap_loop {s0 s3 s4 s5 s6 s7 : Option Vl} {W A1 A2 : List Im} {v : Int} (e1 : cutL W none (some v) = A1) (e2 : cutL W (some (v + 1)) none = A2) (l1 : A1.length ≤ 2000) (l2 : A2.length ≤ 2000) :
    ∀ (os acc : List Im) (o9 : Option Vl), acc.length + os.length ≤ 1000 → ∃ o9', forL (gN 9) b_l_papers_2 os [s0, some (.im (.tup W)), some (iI v), s3, s4, s5, s6, s7, some (.lst acc), o9] = some (.nx, [s0, some (.im (.tup W)), some (iI v), s3, s4, s5, s6, s7, some (.lst (acc ++ os.map fun o => .tup (A1 ++ [o] ++ A2))), o9'])
  | [], acc, o9, _ => ⟨o9, by simp [forL]⟩
  | o :: os, acc, o9, hl => by
    rw [List.length_cons] at hl
    obtain ⟨o9', ih⟩ := pap_loop (s0 := s0) (s3 := s3) (s4 := s4) (s5 := s5) (s6 := s6) (s7 := s7) e1 e2 l1 l2 os (acc ++ [.tup (A1 ++ [o] ++ A2)]) (some (.im o)) (by rw [List.length_append, List.length_singleton]; omega)
    refine ⟨o9', ?_⟩
    have a1 : vAdd (.im (.tup A1)) (.im (.tup [o])) = some (.im (.tup (A1 ++ [o]))) := vAdd_tup (by simp; omega)
    have a2 : vAdd (.im (.tup (A1 ++ [o]))) (.im (.tup A2)) = some (.im (.tup (A1 ++ [o] ++ A2))) := vAdd_tup (by simp; omega)
    have hac : acc.length < 100000 := by omega
    have b : b_l_papers_2 [s0, some (.im (.tup W)), some (iI v), s3, s4, s5, s6, s7, some (.lst acc), some (.im o)] = some (.nx, [s0, some (.im (.tup W)), some (iI v), s3, s4, s5, s6, s7, some (.lst (acc ++ [.tup (A1 ++ [o] ++ A2)])), some (.im o)]) := by
      simp -implicitDefEqProofs [b_l_papers_2, -vAdd, vAdd_int, a1, a2, e1, e2, listy, hac, -List.append_assoc]
    rw [forL]
    dsimp only
    rw [show gN 9 (.im o) [s0, some (.im (.tup W)), some (iI v), s3, s4, s5, s6, s7, some (.lst acc), o9] = some [s0, some (.im (.tup W)), some (iI v), s3, s4, s5, s6, s7, some (.lst acc), some (.im o)] by first | rfl | simp -implicitDefEqProofs]
    show (b_l_papers_2 _).bind _ = _
    rw [b]
    show forL _ _ _ _ = _
    rw [ih, List.map_cons]
    simp
theorem ok1_row {ds : List Im} (hl : ds.length ≤ 2000) (h : ∀ x ∈ ds, Ok0 x) : Ok1 (.tup ds) := ⟨(fun a z => by cases z), (fun es e => by cases e; exact ⟨hl, h⟩)⟩
theorem ok2_rows {ds : List Im} (hl : ds.length ≤ 2000) (h : ∀ x ∈ ds, Ok1 x) : Ok2 (.tup ds) := ⟨(fun a z => by cases z), (fun es e => by cases e; exact ⟨hl, h⟩)⟩
theorem ok0_int (i : Int) : Ok0 (.int i) := fun a z => by cases z
theorem ok1_of {d : Im} (h : Ok0 d) (n : ∀ ds, d ≠ .tup ds) : Ok1 d := ⟨h, fun ds e => absurd e (n ds)⟩
theorem ok2_of {d : Im} (h : Ok0 d) (n : ∀ ds, d ≠ .tup ds) : Ok2 d := ⟨h, fun ds e => absurd e (n ds)⟩
theorem ok0_tup (ds : List Im) : Ok0 (.tup ds) := fun a z => by cases z
end G
set_option Elab.async false
set_option linter.all false
set_option maxRecDepth 100000
namespace G
open PySem L2
theorem papers_ok {h : Vl} {rows : List (List Int)} (hh : HandOk 700000 h) (hne : rows ≠ []) (hl : rows.length ≤ 300) (hr : ∀ r ∈ rows, r ≠ [] ∧ r.length ≤ 20) :
    ∃ ths q, F_l_papers [h, ttI rows] = some (.lst ths, [.lst q, ttI rows]) ∧ ths.length ≤ 1000 ∧ ∀ th ∈ ths, Ok2 th := by
  have hpos := List.length_pos_iff.mpr hne
  obtain ⟨v, h1, e1, v0, v1, H1⟩ := take_ok (n := 699999) (m := rows.length) hh (by omega) (by omega)
  obtain ⟨row, hrow⟩ : ∃ row, rows[v.toNat]? = some row := ⟨rows[v.toNat]'(by omega), by simp⟩
  obtain ⟨rne, rlen⟩ := hr row (List.mem_of_getElem? hrow)
  have rpos := List.length_pos_iff.mpr rne
  obtain ⟨p, h2, e2, p0, p1, H2⟩ := take_ok (n := 699998) (m := row.length) H1 (by omega) (by omega)
  obtain ⟨x, hx⟩ : ∃ x, row[p.toNat]? = some x := ⟨row[p.toNat]'(by omega), by simp⟩
  obtain ⟨nb, h3, e3, hnb, H3⟩ := of_ok (n := 699997) (xs := [.int (x + 1), .int (x - 1), .int 0, .non, .str "1", .tup [.int 1]]) H2 (by simp) (by simp)
  have hat : atI (rows.map fun s => Im.tup (s.map .int)) v = some (.tup (row.map .int)) := atI_pos v0 (by rw [List.getElem?_map, hrow]; rfl)
  have hap : atI (row.map Im.int) p = some (.int x) := atI_pos p0 (by rw [List.getElem?_map, hx]; rfl)
  obtain ⟨q0, rfl⟩ := hand_is_lst hh
  obtain ⟨q1, rfl⟩ := hand_is_lst H1
  obtain ⟨q2, rfl⟩ := hand_is_lst H2
  obtain ⟨q3, rfl⟩ := hand_is_lst H3
  obtain ⟨W, hW⟩ : ∃ W, W = rows.map fun s => Im.tup (s.map .int) := ⟨_, rfl⟩
  obtain ⟨r, hR⟩ : ∃ r, r = row.map Im.int := ⟨_, rfl⟩
  have Wl : W.length = rows.length := by rw [hW, List.length_map]
  have rl : r.length = row.length := by rw [hR, List.length_map]
  have W1 : ∀ d ∈ W, Ok1 d := fun d hd => by
    rw [hW] at hd
    obtain ⟨s, hs, rfl⟩ := List.mem_map.mp hd
    refine ok1_row (by rw [List.length_map]; have := (hr s hs).2; omega) fun d hd => ?_
    obtain ⟨i, _, rfl⟩ := List.mem_map.mp hd
    exact ok0_int i
  have r0 : ∀ d ∈ r, Ok0 d := fun d hd => by
    rw [hR] at hd
    obtain ⟨i, _, rfl⟩ := List.mem_map.mp hd
    exact ok0_int i
  have n0 : Ok0 nb := by
    simp only [List.mem_cons, List.not_mem_nil, or_false] at hnb
    rcases hnb with rfl | rfl | rfl | rfl | rfl | rfl <;> (intro a z; cases z)
  have c1 : ∀ s0 s1 s2 s4 s5 s6 s7 s8 s9, eComp 1 [] (iOpd (oSl 3)) (gN 0) kYes G.e_l_papers_1 [s0, s1, s2, some (tI row), s4, s5, s6, s7, s8, s9] = some (.lst (row.map fun i => .bl (i == 1)), [s0, s1, s2, some (tI row), s4, s5, s6, s7, s8, s9]) := by
    intro s0 s1 s2 s4 s5 s6 s7 s8 s9
    refine (eComp_eq (xs := row.map .int) (o := none) (D1 := [s0, s1, s2, some (tI row), s4, s5, s6, s7, s8, s9]) (by simp -implicitDefEqProofs) (compL_mapT _ (fun i => .bl (i == 1)) _ (fun i hi => ?_) (by omega))).trans rfl
    exact ⟨[some (iI i)], _, [some (iI i)], rfl, rfl, by simp -implicitDefEqProofs [e_l_papers_1, pl_int, pyEq_int], rfl⟩
  obtain ⟨tr, htr⟩ : ∃ tr, tr = row.map fun i => Im.bl (i == 1) := ⟨_, rfl⟩
  have trl : tr.length = row.length := by rw [htr, List.length_map]
  have tr0 : ∀ d ∈ tr, Ok0 d := fun d hd => by
    rw [htr] at hd
    obtain ⟨i, _, rfl⟩ := List.mem_map.mp hd
    intro a z; cases z
  have c1' := c1
  rw [← htr] at c1'
  have t1 : (tI row : Vl) = .im (.tup r) := by rw [hR]
  have t2 : (ttI rows : Vl) = .im (.tup W) := by rw [hW]
  rw [t1] at c1'
  rw [← hW, ← hR] at hat
  rw [← hR] at hap
  rw [t2]
  have A1l := cutL_len W none (some v)
  have A2l := cutL_len W (some (v + 1)) none
  have A3l := cutL_len W (some v) none
  have B1l := cutL_len r none (some p)
  have B2l := cutL_len r (some (p + 1)) none
  have A1m : ∀ d ∈ cutL W none (some v), Ok1 d := fun d hd => W1 d (cutL_mem hd)
  have A2m : ∀ d ∈ cutL W (some (v + 1)) none, Ok1 d := fun d hd => W1 d (cutL_mem hd)
  have A3m : ∀ d ∈ cutL W (some v) none, Ok1 d := fun d hd => W1 d (cutL_mem hd)
  have B1m : ∀ d ∈ cutL r none (some p), Ok0 d := fun d hd => r0 d (cutL_mem hd)
  have B2m : ∀ d ∈ cutL r (some (p + 1)) none, Ok0 d := fun d hd => r0 d (cutL_mem hd)
  obtain ⟨A1, a1⟩ : ∃ A1, cutL W none (some v) = A1 := ⟨_, rfl⟩
  obtain ⟨A2, a2⟩ : ∃ A2, cutL W (some (v + 1)) none = A2 := ⟨_, rfl⟩
  obtain ⟨A3, a3⟩ : ∃ A3, cutL W (some v) none = A3 := ⟨_, rfl⟩
  obtain ⟨B1, b1⟩ : ∃ B1, cutL r none (some p) = B1 := ⟨_, rfl⟩
  obtain ⟨B2, b2⟩ : ∃ B2, cutL r (some (p + 1)) none = B2 := ⟨_, rfl⟩
  rw [a1] at A1l A1m
  rw [a2] at A2l A2m
  rw [a3] at A3l A3m
  rw [b1] at B1l B1m
  rw [b2] at B2l B2m
  have u1 : vAdd (.im (.tup B1)) (.im (.tup [nb])) = some (.im (.tup (B1 ++ [nb]))) := vAdd_tup (by simp; omega)
  have u2 : vAdd (.im (.tup (B1 ++ [nb]))) (.im (.tup B2)) = some (.im (.tup (B1 ++ [nb] ++ B2))) := vAdd_tup (by simp; omega)
  have u3 : vAdd (.im (.tup A1)) (.im (.tup A2)) = some (.im (.tup (A1 ++ A2))) := vAdd_tup (by omega)
  have u4 : vAdd (.im (.tup W)) (.im (.tup [.tup r])) = some (.im (.tup (W ++ [.tup r]))) := vAdd_tup (by simp; omega)
  have u5 : vAdd (.im (.tup W)) (.im (.tup [.tup []])) = some (.im (.tup (W ++ [.tup []]))) := vAdd_tup (by simp; omega)
  have u6 : vAdd (.im (.tup r)) (.im (.tup [.int 0])) = some (.im (.tup (r ++ [.int 0]))) := vAdd_tup (by simp; omega)
  have u7 : vAdd (.im (.tup A1)) (.im (.tup [.tup r])) = some (.im (.tup (A1 ++ [.tup r]))) := vAdd_tup (by simp; omega)
  have u8 : vAdd (.im (.tup (A1 ++ [.tup r]))) (.im (.tup A3)) = some (.im (.tup (A1 ++ [.tup r] ++ A3))) := vAdd_tup (by simp; omega)
  obtain ⟨od, hod⟩ : ∃ od, B1 ++ [nb] ++ B2 = od := ⟨_, rfl⟩
  rw [hod] at u2
  obtain ⟨S1, hS1⟩ : ∃ S1, S1 = [Im.tup W, .tup (A1 ++ A2), .tup W.reverse, .fl W] := ⟨_, rfl⟩
  obtain ⟨S2, hS2⟩ : ∃ S2, S2 = [Im.tup (W ++ [.tup r]), .tup [.tup W], .tup (W ++ [.tup []])] := ⟨_, rfl⟩
  obtain ⟨os, hos⟩ : ∃ os, os = [Im.tup od, .fl r, .tup tr, .tup (r ++ [.int 0]), .tup B1, .tup [.tup r], .non] := ⟨_, rfl⟩
  obtain ⟨S4, hS4⟩ : ∃ S4, S4 = [Im.tup (A1 ++ [.tup r] ++ A3), .non, .tup [], .bl true, .str "rows"] := ⟨_, rfl⟩
  have s1l : S1.length = 4 := by rw [hS1]; rfl
  have s2l : S2.length = 3 := by rw [hS2]; rfl
  have s4l : S4.length = 5 := by rw [hS4]; rfl
  have osl : os.length = 7 := by rw [hos]; rfl
  obtain ⟨o9, lp⟩ := pap_loop (s0 := some (.lst q3)) (s3 := some (.im (.tup r))) (s4 := some (iI p)) (s5 := some (.im nb)) (s6 := some (.im (.tup od))) (s7 := some (.im (.tup tr))) a1 a2 (by omega) (by omega) os (S1 ++ S2) none (by rw [List.length_append]; omega)
  have u9 : vAdd (.lst S1) (.lst S2) = some (.lst (S1 ++ S2)) := vAdd_lst (by omega)
  have u10 : vAdd (.lst (S1 ++ S2 ++ os.map fun o => .tup (A1 ++ [o] ++ A2))) (.lst S4) = some (.lst (S1 ++ S2 ++ (os.map fun o => .tup (A1 ++ [o] ++ A2)) ++ S4)) := vAdd_lst (by simp; omega)
  refine ⟨S1 ++ S2 ++ (os.map fun o => .tup (A1 ++ [o] ++ A2)) ++ S4, q3, ?_, by simp; omega, ?_⟩
  · unfold F_l_papers g_l_papers
    refine runF_is [some (.lst q3), some (.im (.tup W)), some (iI v), some (.im (.tup r)), some (iI p), some (.im nb), some (.im (.tup od)), some (.im (.tup tr)), some (.lst (S1 ++ S2 ++ os.map fun o => .tup (A1 ++ [o] ++ A2))), o9] rfl ?_ rfl
    refine (sSeq_nx (D1 := [some (.lst q1), some (.im (.tup W)), some (iI v), none, none, none, none, none, none, none]) (by simp -implicitDefEqProofs [Wl, e1])).trans
      ((sSeq_nx (D1 := [some (.lst q1), some (.im (.tup W)), some (iI v), some (.im (.tup r)), none, none, none, none, none, none]) (by show sSet 3 (eBin vIx (oSl 1) (oSl 2)) _ = _; simp -implicitDefEqProofs only [sSet, eBin, oSl, vIx, rsl_sl, List.getElem?_cons_zero, List.getElem?_cons_succ, Option.getD_some, Option.bind_some, Option.map_some, hat]; rfl)).trans
      ((sSeq_nx (D1 := [some (.lst q2), some (.im (.tup W)), some (iI v), some (.im (.tup r)), some (iI p), none, none, none, none, none]) (by simp -implicitDefEqProofs [rl, e2])).trans
      ((sSeq_nx (D1 := [some (.lst q3), some (.im (.tup W)), some (iI v), some (.im (.tup r)), some (iI p), some (.im nb), none, none, none, none]) (by simp -implicitDefEqProofs [hap, e3])).trans
      ((sSeq_nx (D1 := [some (.lst q3), some (.im (.tup W)), some (iI v), some (.im (.tup r)), some (iI p), some (.im nb), some (.im (.tup od)), none, none, none]) (by simp -implicitDefEqProofs [-vAdd, vAdd_int, u1, u2, b1, b2])).trans
      ((sSeq_nx (D1 := [some (.lst q3), some (.im (.tup W)), some (iI v), some (.im (.tup r)), some (iI p), some (.im nb), some (.im (.tup od)), some (.im (.tup tr)), none, none]) (by simp -implicitDefEqProofs [-eComp, c1'])).trans
      ((sSeq_nx (D1 := [some (.lst q3), some (.im (.tup W)), some (iI v), some (.im (.tup r)), some (iI p), some (.im nb), some (.im (.tup od)), some (.im (.tup tr)), some (.lst S1), none]) (by simp -implicitDefEqProofs [-vAdd, vAdd_int, u3, a1, a2, hS1])).trans
      ((sSeq_nx (D1 := [some (.lst q3), some (.im (.tup W)), some (iI v), some (.im (.tup r)), some (iI p), some (.im nb), some (.im (.tup od)), some (.im (.tup tr)), some (.lst (S1 ++ S2)), none]) (by simp -implicitDefEqProofs [-vAdd, u4, u5, ← hS2, u9])).trans
      ((sSeq_nx (sFor_eq (o := none) (xs := os) (D1 := [some (.lst q3), some (.im (.tup W)), some (iI v), some (.im (.tup r)), some (iI p), some (.im nb), some (.im (.tup od)), some (.im (.tup tr)), some (.lst (S1 ++ S2)), none]) (by simp -implicitDefEqProofs [-vAdd, u6, b1, hos]) lp)).trans ?_))))))))
    simp -implicitDefEqProofs only [eBin, oSl, oV, eLst, aCons, eSl, pSome, eVar, eTup, aNil_ap, eC_ap, pNone_ap, sRet, Option.bind_some, Option.map_some]
    simp -implicitDefEqProofs [-vAdd, -List.append_assoc, -List.map_cons, u7, u8, a1, a3, ← hS4, u10]
  · intro th hth
    have rO1 : Ok1 (.tup r) := ok1_row (by omega) r0
    have tO : ∀ o ∈ os, Ok1 o := by
      rw [hos]
      intro o ho
      simp only [List.mem_cons, List.not_mem_nil, or_false] at ho
      rcases ho with rfl | rfl | rfl | rfl | rfl | rfl | rfl
      · rw [← hod]
        refine ok1_row (by simp; omega) fun d hd => ?_
        simp only [List.mem_append, List.mem_singleton] at hd
        rcases hd with (hd | rfl) | hd
        · exact B1m d hd
        · exact n0
        · exact B2m d hd
      · exact ok1_of (fun a z => by cases z) fun ds z => by cases z
      · exact ok1_row (by omega) tr0
      · refine ok1_row (by simp; omega) fun d hd => ?_
        simp only [List.mem_append, List.mem_singleton] at hd
        rcases hd with hd | rfl
        · exact r0 d hd
        · exact ok0_int 0
      · exact ok1_row (by omega) B1m
      · exact ok1_row (by simp) fun d hd => by rw [List.mem_singleton.mp hd]; exact ok0_tup _
      · exact ok1_of (fun a z => by cases z) fun ds z => by cases z
    simp only [List.mem_append, List.mem_map] at hth
    rcases hth with ((hth | hth) | ⟨o, ho, rfl⟩) | hth
    · rw [hS1] at hth
      simp only [List.mem_cons, List.not_mem_nil, or_false] at hth
      rcases hth with rfl | rfl | rfl | rfl
      · exact ok2_rows (by omega) W1
      · refine ok2_rows (by simp; omega) fun d hd => ?_
        rcases List.mem_append.mp hd with hd | hd
        · exact A1m d hd
        · exact A2m d hd
      · exact ok2_rows (by simp; omega) fun d hd => W1 d (List.mem_reverse.mp hd)
      · exact ok2_of (fun a z => by cases z) fun ds z => by cases z
    · rw [hS2] at hth
      simp only [List.mem_cons, List.not_mem_nil, or_false] at hth
      rcases hth with rfl | rfl | rfl
      · refine ok2_rows (by simp; omega) fun d hd => ?_
        rcases List.mem_append.mp hd with hd | hd
        · exact W1 d hd
        · rw [List.mem_singleton.mp hd]; exact rO1
      · exact ok2_rows (by simp) fun d hd => by rw [List.mem_singleton.mp hd]; exact ok1_row (by omega) fun x hx => (W1 x hx).1
      · refine ok2_rows (by simp; omega) fun d hd => ?_
        rcases List.mem_append.mp hd with hd | hd
        · exact W1 d hd
        · rw [List.mem_singleton.mp hd]; exact ok1_row (by simp) fun x hx => nomatch hx
    · refine ok2_rows (by simp; omega) fun d hd => ?_
      simp only [List.mem_append, List.mem_singleton] at hd
      rcases hd with (hd | rfl) | hd
      · exact A1m d hd
      · exact tO _ ho
      · exact A2m d hd
    · rw [hS4] at hth
      simp only [List.mem_cons, List.not_mem_nil, or_false] at hth
      rcases hth with rfl | rfl | rfl | rfl | rfl
      · refine ok2_rows (by simp; omega) fun d hd => ?_
        simp only [List.mem_append, List.mem_singleton] at hd
        rcases hd with (hd | rfl) | hd
        · exact A1m d hd
        · exact rO1
        · exact A3m d hd
      · exact ok2_of (fun a z => by cases z) fun ds z => by cases z
      · exact ok2_rows (by simp) fun x hx => nomatch hx
      · exact ok2_of (fun a z => by cases z) fun ds z => by cases z
      · exact ok2_of (fun a z => by cases z) fun ds z => by cases z
end G
set_option Elab.async false
set_option linter.all false
set_option maxRecDepth 100000
namespace G
open PySem L2
theorem pyEq_tnon (ds : List Im) : pyEq (.tup ds) .non = false := by simp [pyEq]
theorem pyEq_bl (a b : Bool) : pyEq (.bl a) (.bl b) = (a == b) := by rw [pyEq]
theorem pl_bl (n : Nat) (b : Bool) : Im.pl n (.bl b) = true := by cases n <;> rfl
theorem thing_step {f : Addr} {fz o1 hh o8 : Option Vl} {many t : Int} {s : List Int} {th : Im} (R : RingOk many s) (ht : 0 ≤ t) (ht1 : t < 1000) (h : Ok2 th) {d : Im} (hT : F_too_little [iI many, tI s, iI t] = some (.im d, [iI many, tI s, iI t]))
    (hd : (d = .non) ∨ d = .tup ((rowsN t (btw many s)).map fun s => .tup (s.map .int))) :
    ∃ o8', b_law_1_k48 f [fz, o1, hh, some (iI many), some (tI s), some (iI t), some (.im d), some (.im th), o8] = some (.nx, [fz, o1, hh, some (iI many), some (tI s), some (iI t), some (.im d), some (.im th), o8']) := by
  have hf := R.few
  have hm := R.m0
  have hm1 := R.m1
  have hb := btw_ne (many := many) R.ne
  obtain ⟨b0, b1⟩ := btw_in (by omega) (lastI_mem hb)
  rcases hd with rfl | rfl
  · have e1 := shows_eq (f := f) R ht h hT rfl
    have e2 : (isRs th && lenB th (min t (lastI (btw many s)) + 1) && pyEq th .non) = false := by
      cases th with
      | tup ds => simp [pyEq_tnon]
      | _ => simp [isRs]
    rw [e2] at e1
    refine ⟨some (.im (.bl false)), ?_⟩
    simp -implicitDefEqProofs [b_law_1_k48, e1, pyEq_bl, pl_bl]
  · obtain ⟨rows, hrows⟩ : ∃ rows, rows = rowsN t (btw many s) := ⟨_, rfl⟩
    have rl : (rows.length : Int) = min t (lastI (btw many s)) + 1 := by rw [hrows, rows_len]; omega
    have rr : ∀ r ∈ rows, r.length ≤ 2000 := fun r hr => by
      rw [hrows] at hr
      obtain ⟨k, _, rfl⟩ := List.mem_map.mp hr
      have := rowG_len t (btw many s).dropLast (k : Int)
      rw [List.length_dropLast, btw_len] at this
      omega
    rw [← hrows] at hT ⊢
    have hp : Im.pl 8 (.tup (rows.map fun s => .tup (s.map .int))) = true := by
      refine isRs_pl ?_
      show (rows.map fun s => Im.tup (s.map .int)).all isR = true
      rw [List.all_map, List.all_eq_true]
      intro r _
      show (r.map Im.int).all isW = true
      rw [List.all_map, List.all_eq_true]
      intro i _
      rfl
    have e1 := shows_eq (f := f) R ht h hT hp
    have e2 : (isRs th && lenB th (min t (lastI (btw many s)) + 1) && pyEq th (.tup (rows.map fun s => .tup (s.map .int)))) = smRs th rows := by
      have e := isRs_like th rows
      cases th with
      | tup ds =>
        by_cases hl : (ds.length : Int) = min t (lastI (btw many s)) + 1
        · rw [← e]; simp [hl, lenB]
        · have : smRs (.tup ds) rows = false := by
            have : ¬ (ds.length = rows.length) := by omega
            simp [smRs, this]
          rw [this]; simp [hl, lenB]
      | _ => simp [isRs, smRs]
    rw [e2] at e1
    have e3 := smRs_eq 3 h rows
    refine ⟨some (.im (.bl (smRs th rows))), ?_⟩
    cases hv : smRs th rows <;> rw [hv] at e1 e3 <;> simp -implicitDefEqProofs [b_law_1_k48, e1, e3, pyEq_bl, pl_bl]
theorem things_loop {f : Addr} {fz o1 hh : Option Vl} {many t : Int} {s : List Int} (R : RingOk many s) (ht : 0 ≤ t) (ht1 : t < 1000) {d : Im} (hT : F_too_little [iI many, tI s, iI t] = some (.im d, [iI many, tI s, iI t]))
    (hd : (d = .non) ∨ d = .tup ((rowsN t (btw many s)).map fun s => .tup (s.map .int))) : ∀ (ths : List Im) (o7 o8 : Option Vl), (∀ th ∈ ths, Ok2 th) →
    ∃ o7' o8', forL (gN 7) (b_law_1_k48 f) ths [fz, o1, hh, some (iI many), some (tI s), some (iI t), some (.im d), o7, o8] = some (.nx, [fz, o1, hh, some (iI many), some (tI s), some (iI t), some (.im d), o7', o8'])
  | [], o7, o8, _ => ⟨o7, o8, rfl⟩
  | th :: ths, o7, o8, h => by
    obtain ⟨p8, e⟩ := thing_step (f := f) (fz := fz) (o1 := o1) (hh := hh) (o8 := o8) R ht ht1 (h th (.head _)) hT hd
    obtain ⟨o7', o8', ih⟩ := things_loop (f := f) (fz := fz) (o1 := o1) (hh := hh) R ht ht1 hT hd ths (some (.im th)) p8 fun x hx => h x (.tail _ hx)
    refine ⟨o7', o8', ?_⟩
    rw [forL]
    dsimp only
    rw [show gN 7 (.im th) [fz, o1, hh, some (iI many), some (tI s), some (iI t), some (.im d), o7, o8] = some [fz, o1, hh, some (iI many), some (tI s), some (iI t), some (.im d), some (.im th), o8] by first | rfl | simp -implicitDefEqProofs]
    show (b_law_1_k48 f _).bind _ = _
    rw [e]
    exact ih
theorem law48_step {f : Addr} {ns : List Int} {k : Int} {o2 o3 o4 o5 o6 o7 o8 : Option Vl} (hk : 0 ≤ k) (hk2 : k < 1000) : ∃ p2 p3 p4 p5 p6 p7 p8, b_law_2_k48 f [some (.fz (ns.map .int)), some (iI k), o2, o3, o4, o5, o6, o7, o8] = some (.nx, [some (.fz (ns.map .int)), some (iI k), p2, p3, p4, p5, p6, p7, p8]) := by
  obtain ⟨h1, e1, H1⟩ := hand_ok (ns := ns) hk hk2
  obtain ⟨many, s, h2, e2, R, H2⟩ := ring_ok H1
  obtain ⟨l, e3, l0, l1⟩ := least_ok R
  have hm1 := R.m1
  have hm := R.m0
  have hf := R.few
  obtain ⟨v, h3, e4, a1, a2, H3⟩ := take_ok (n := 799999) (m := 5) H2 (by omega) (by omega)
  obtain ⟨t, ht⟩ : ∃ t : Int, t = if 0 < l - v then l - v else 0 := ⟨_, rfl⟩
  have t0 : 0 ≤ t := by rw [ht]; split <;> omega
  have t1 : t < 1000 := by rw [ht]; split <;> omega
  have hb := btw_ne (many := many) R.ne
  have hbl : (btw many s).length < 900 := by rw [btw_len]; omega
  obtain ⟨b0, b1⟩ := btw_in (by omega) (lastI_mem hb)
  have f1 := too_little_eq (many := many) (t := t) (by omega) (by omega) R.ne (by omega) hb hbl b0 (by omega) t0
  have f2 := l_rows_eq (many := many) (t := t) (by omega) (by omega) R.ne (by omega) hb b0 (by omega) t0 t1
  have f3 := l_all_eq (many := many) (t := t) (by omega) (by omega) R.ne (by omega) hb b0 (by omega) t0 t1
  have rl := rows_len t (btw many s)
  obtain ⟨ths, q4, e5, _, hths⟩ := papers_ok (rows := rowsN t (btw many s)) (H3.mono (by decide : 700000 ≤ 799999)) (by
      intro z
      rw [z] at rl
      simp at rl
      omega) (by omega) fun r hr => ⟨rowsN_ne hr, by
      obtain ⟨k, _, rfl⟩ := List.mem_map.mp hr
      have := rowG_len t (btw many s).dropLast (k : Int)
      rw [List.length_dropLast, btw_len] at this
      omega⟩
  obtain ⟨d, hd, g1, g2⟩ : ∃ d, ((d = .non) ∨ d = .tup ((rowsN t (btw many s)).map fun s => .tup (s.map .int))) ∧ F_too_little [iI many, tI s, iI t] = some (.im d, [iI many, tI s, iI t]) ∧ F_l_rows [iI many, tI s, iI t] = some (.im d, [iI many, tI s, iI t]) := by
    cases hv : (rowsN t (btw many s)).any (goesB t (lastI (btw many s))) with
    | true => rw [hv] at f1 f2; exact ⟨.non, .inl rfl, f1, f2⟩
    | false => rw [hv] at f1 f2; exact ⟨_, .inr rfl, f1, f2⟩
  obtain ⟨q1, rfl⟩ := hand_is_lst H1
  obtain ⟨q2, rfl⟩ := hand_is_lst H2
  obtain ⟨q3, rfl⟩ := hand_is_lst H3
  obtain ⟨o7', o8', lp⟩ := things_loop (f := f) (fz := some (.fz (ns.map .int))) (o1 := some (iI k)) (hh := some (.lst q4)) R t0 t1 g1 hd ths o7 o8 hths
  refine ⟨some (.lst q4), some (iI many), some (tI s), some (iI t), some (.im d), o7', o8', ?_⟩
  unfold b_law_2_k48
  refine (sSeq_nx (D1 := [some (.fz (ns.map .int)), some (iI k), some (.lst q1), o3, o4, o5, o6, o7, o8]) (by simp -implicitDefEqProofs [e1])).trans
    ((sSeq_nx (D1 := [some (.fz (ns.map .int)), some (iI k), some (.lst q2), some (iI many), some (tI s), o5, o6, o7, o8]) (by simp -implicitDefEqProofs [e2])).trans
    ((sSeq_nx (D1 := [some (.fz (ns.map .int)), some (iI k), some (.lst q3), some (iI many), some (tI s), some (iI t), o6, o7, o8]) (by simp -implicitDefEqProofs [e3, e4, ht])).trans
    ((sSeq_nx (D1 := [some (.fz (ns.map .int)), some (iI k), some (.lst q3), some (iI many), some (tI s), some (iI t), some (.im d), o7, o8]) (by simp -implicitDefEqProofs [g2])).trans
    ((sFor_eq (o := none) (xs := ths) (D1 := [some (.fz (ns.map .int)), some (iI k), some (.lst q4), some (iI many), some (tI s), some (iI t), some (.im d), o7, o8]) (by simp -implicitDefEqProofs [f3, e5]) lp).trans rfl))))
theorem last48 (f : Addr) : F_shows_too_little f [iI 4, tI [0, 2], iI 0, ttI [[0, 1]]] = some (.im (.bl true), [iI 4, tI [0, 2], iI 0, ttI [[0, 1]]]) := by
  have R : RingOk 4 [0, 2] := ⟨by decide, by decide, by simp, by decide, by decide, by decide⟩
  refine (shows_eq (f := f) R (by decide) (th := .tup [.tup [.int 0, .int 1]]) ?_ last1 (by rfl)).trans ?_
  · refine ok2_rows (by decide) fun d hd => ?_
    rw [List.mem_singleton.mp hd]
    refine ok1_row (by decide) fun x hx => ?_
    simp only [List.mem_cons, List.not_mem_nil, or_false] at hx
    rcases hx with rfl | rfl
    · exact ok0_int 0
    · exact ok0_int 1
  · have : (isRs (.tup [.tup [.int 0, .int 1]]) && lenB (.tup [.tup [.int 0, .int 1]]) (min 0 (lastI (btw 4 [0, 2])) + 1) && pyEq (.tup [.tup [.int 0, .int 1]]) (.tup ([[0, 1]].map fun s : List Int => Im.tup (s.map .int)))) = true := by decide
    rw [this]
    rfl
theorem law48_true (f : Addr) (ns : List Int) (hl : ns.length < 100000) : ∃ outs, F_law_k48 f [.fz (ns.map .int)] = some (.im (.bl true), outs) := by
  obtain ⟨n, hn⟩ : ∃ n : Int, n = max 1 (min 8 (ns.length : Int)) := ⟨_, rfl⟩
  have sm : small n := ⟨by omega, by omega⟩
  obtain ⟨D', lp, o1, o2, o3, o4, o5, o6, o7, o8, rfl⟩ := forL_go (tg := gN 1) (b := b_law_2_k48 f) (xs := rngI 0 n.toNat) (fun i D => ∃ o1 o2 o3 o4 o5 o6 o7 o8, D = [some (.fz (ns.map .int)), o1, o2, o3, o4, o5, o6, o7, o8]) (D := [some (.fz (ns.map .int)), none, none, none, none, none, none, none, none]) ⟨_, _, _, _, _, _, _, _, rfl⟩
    (fun i x D hx hI => by
      obtain ⟨o1, o2, o3, o4, o5, o6, o7, o8, rfl⟩ := hI
      obtain ⟨hi, rfl⟩ := rng_get hx
      obtain ⟨p2, p3, p4, p5, p6, p7, p8, e⟩ := law48_step (f := f) (ns := ns) (k := 0 + (i : Int)) (o2 := o2) (o3 := o3) (o4 := o4) (o5 := o5) (o6 := o6) (o7 := o7) (o8 := o8) (by omega) (by omega)
      exact ⟨[some (.fz (ns.map .int)), some (iI (0 + (i : Int))), o2, o3, o4, o5, o6, o7, o8], .nx, _, rfl, e, .inl rfl, _, _, _, _, _, _, _, _, rfl⟩)
  refine ⟨[.fz (ns.map .int)], ?_⟩
  unfold F_law_k48 g_law_k48
  refine runF_is [some (.fz (ns.map .int)), o1, o2, o3, o4, o5, o6, o7, o8] rfl ?_ rfl
  refine (sSeq_nx (sFor_eq (o := none) (xs := rngI 0 n.toNat) ?_ lp)).trans ?_
  · have hn' : (if 1 < (if (ns.length : Int) < 8 then (ns.length : Int) else 8) then (if (ns.length : Int) < 8 then (ns.length : Int) else 8) else 1) = n := by rw [hn]; split <;> split <;> omega
    simp -implicitDefEqProofs [sm, hn']
  · have l1 : F_shows_too_little f [.im (.int 4), .im (.tup [.int 0, .int 2]), .im (.int 0), .im (.tup [.tup [.int 0, .int 1]])] = some (.im (.bl true), [.im (.int 4), .im (.tup [.int 0, .int 2]), .im (.int 0), .im (.tup [.tup [.int 0, .int 1]])]) := last48 f
    simp -implicitDefEqProofs [l1]
end G
set_option Elab.async false
set_option linter.all false
set_option maxRecDepth 100000
namespace L2
open PySem PySem.Spec PyProof.Rows
def noSq : List (Addr × Obj) → Bool
  | [] => true
  | (_, o) :: r => (match o.data with
    | .seq _ _ => (match o.cls with | .type n => n != "list" | _ => true)
    | _ => true) && noSq r
theorem noSq_ok {K : List (Addr × Obj)} {a : Addr} {o : Obj} {its : Array Value} {n : Nat} (h : noSq K = true) (e : K.lookup a = some o) (hc : o.cls = .type "list") (hd : o.data = .seq its n) : False := by
  induction K with
  | nil => cases e
  | cons p r ih =>
    obtain ⟨b, x⟩ := p
    rw [noSq, Bool.and_eq_true] at h
    simp only [List.lookup] at e
    split at e
    · cases e
      have h1 := h.1
      rw [hd] at h1
      dsimp only at h1
      rw [hc] at h1
      exact absurd h1 (by decide)
    · exact ih h.2 e
theorem ints_IsIs {H : Hp} : ∀ ns : List Int, IsIs H (ns.map .int) (ns.map V.int)
  | [] => rfl
  | n :: r => ⟨.int n, _, rfl, rfl, ints_IsIs r⟩
theorem spV_law {G : Fn} {K : PySem.W.Frag} (hK : noSq K = true) (H : Hp) (a : Addr) (ns : List Int) (hO : Only H) (hS : SqL K H a (ns.map V.int)) (ht : ∃ outs, G [.fz (ns.map .int)] = some (.im (.bl true), outs)) {E : XK} : spV 1 G [.ref a] H (fun v _ => v = .bl true) E := by
  obtain ⟨outs, ht⟩ := ht
  have hf : ∃ o, H a = some (.frz o (.lst (ns.map V.int))) := by
    rcases hS with (h | h) | ⟨o, its, n, h1, h2, h3, h4, _⟩
    · rcases hO a with e | ⟨o, xs, e⟩
      · rw [e] at h; cases h
      · rw [e] at h; cases h
    · exact h
    · exact (noSq_ok hK h1 h2 h4).elim
  obtain ⟨o, ho⟩ := hf
  refine ⟨rfl, [.fz (ns.map .int)], [], .im (.bl true), outs, ⟨_, _, [], [], rfl, ⟨a, _, o, rfl, ho, ints_IsIs ns, rfl⟩, ⟨rfl, rfl⟩, rfl⟩, List.nodup_nil, ht, fun v H' R R' h _ _ => ?_⟩
  exact h.1
end L2
set_option Elab.async false
set_option linter.all false
set_option maxRecDepth 100000
namespace K48
open PySem L2 PyProof.Rows
set_option maxHeartbeats 4000000 in
theorem all_mk {l : PySem.W.OpenLaw} {w : World} {K : PySem.W.Frag} {h : Heap} {mg : Str → Option Value} {fa f_is_whole f_is_rising f_between f_room f_greatest_left f_row_from f_goes_through f_rows_of f_rows_through f_least_time f_too_little f_are_spots f_is_row_like f_are_rows_like f_shows_too_little f_l_hand f_l_take f_l_of f_l_ring_of f_l_steps f_l_between f_l_rooms f_l_row f_l_all_rows f_l_rows f_l_same f_l_papers f_law : Addr} (X : K.In h) (Gg : h.Ns mainGlobals mg) (hfa : mg "law" = some (.ref fa))
    {odis_whole anis_whole odis_rising anis_rising odbetween anbetween odroom anroom odgreatest_left angreatest_left odrow_from anrow_from odgoes_through angoes_through odrows_of anrows_of odrows_through anrows_through odleast_time anleast_time odtoo_little antoo_little odare_spots anare_spots odis_row_like anis_row_like odare_rows_like anare_rows_like odshows_too_little anshows_too_little odl_hand anl_hand odl_take anl_take odl_of anl_of odl_ring_of anl_ring_of odl_steps anl_steps odl_between anl_between odl_rooms anl_rooms odl_row anl_row odl_all_rows anl_all_rows odl_rows anl_rows odl_same anl_same odl_papers anl_papers odlaw anlaw : Option Addr} {slis_whole slis_rising slbetween slroom slgreatest_left slrow_from slgoes_through slrows_of slrows_through slleast_time sltoo_little slare_spots slis_row_like slare_rows_like slshows_too_little sll_hand sll_take sll_of sll_ring_of sll_steps sll_between sll_rooms sll_row sll_all_rows sll_rows sll_same sll_papers sllaw : Array (Option Value)} {ocis_whole kVis_whole dcis_whole pmis_whole cdis_whole ctis_whole ocis_rising kVis_rising dcis_rising pmis_rising cdis_rising ctis_rising ocbetween kVbetween dcbetween pmbetween cdbetween ctbetween ocroom kVroom dcroom pmroom cdroom ctroom ocgreatest_left kVgreatest_left dcgreatest_left pmgreatest_left cdgreatest_left ctgreatest_left ocrow_from kVrow_from dcrow_from pmrow_from cdrow_from ctrow_from ocgoes_through kVgoes_through dcgoes_through pmgoes_through cdgoes_through ctgoes_through ocrows_of kVrows_of dcrows_of pmrows_of cdrows_of ctrows_of ocrows_through kVrows_through dcrows_through pmrows_through cdrows_through ctrows_through ocleast_time kVleast_time dcleast_time pmleast_time cdleast_time ctleast_time octoo_little kVtoo_little dctoo_little pmtoo_little cdtoo_little cttoo_little ocare_spots kVare_spots dcare_spots pmare_spots cdare_spots ctare_spots ocis_row_like kVis_row_like dcis_row_like pmis_row_like cdis_row_like ctis_row_like ocare_rows_like kVare_rows_like dcare_rows_like pmare_rows_like cdare_rows_like ctare_rows_like ocshows_too_little kVshows_too_little dcshows_too_little pmshows_too_little cdshows_too_little ctshows_too_little ocl_hand kVl_hand dcl_hand pml_hand cdl_hand ctl_hand ocl_take kVl_take dcl_take pml_take cdl_take ctl_take ocl_of kVl_of dcl_of pml_of cdl_of ctl_of ocl_ring_of kVl_ring_of dcl_ring_of pml_ring_of cdl_ring_of ctl_ring_of ocl_steps kVl_steps dcl_steps pml_steps cdl_steps ctl_steps ocl_between kVl_between dcl_between pml_between cdl_between ctl_between ocl_rooms kVl_rooms dcl_rooms pml_rooms cdl_rooms ctl_rooms ocl_row kVl_row dcl_row pml_row cdl_row ctl_row ocl_all_rows kVl_all_rows dcl_all_rows pml_all_rows cdl_all_rows ctl_all_rows ocl_rows kVl_rows dcl_rows pml_rows cdl_rows ctl_rows ocl_same kVl_same dcl_same pml_same cdl_same ctl_same ocl_papers kVl_papers dcl_papers pml_papers cdl_papers ctl_papers oclaw kVlaw dclaw pmlaw cdlaw ctlaw : Value}
    (ais_whole : PySem.W.nsIn K mainGlobals "is_whole" = some (some (.ref f_is_whole))) (lis_whole : K.lookup f_is_whole = some ⟨ocis_whole, odis_whole, .func (PySem.W.fnOf "is_whole" "is_whole" (defArgs s_is_whole) (defBody s_is_whole) (defScope s_is_whole) .none kVis_whole dcis_whole pmis_whole anis_whole cdis_whole ctis_whole), slis_whole⟩) (cis_whole : PySem.W.codeIn K cdis_whole "is_whole" = true) (kis_whole : PySem.W.keepIn K (.ref f_is_whole) = true)
    (ais_rising : PySem.W.nsIn K mainGlobals "is_rising" = some (some (.ref f_is_rising))) (lis_rising : K.lookup f_is_rising = some ⟨ocis_rising, odis_rising, .func (PySem.W.fnOf "is_rising" "is_rising" (defArgs s_is_rising) (defBody s_is_rising) (defScope s_is_rising) .none kVis_rising dcis_rising pmis_rising anis_rising cdis_rising ctis_rising), slis_rising⟩) (cis_rising : PySem.W.codeIn K cdis_rising "is_rising" = true) (kis_rising : PySem.W.keepIn K (.ref f_is_rising) = true)
    (abetween : PySem.W.nsIn K mainGlobals "between" = some (some (.ref f_between))) (lbetween : K.lookup f_between = some ⟨ocbetween, odbetween, .func (PySem.W.fnOf "between" "between" (defArgs s_between) (defBody s_between) (defScope s_between) .none kVbetween dcbetween pmbetween anbetween cdbetween ctbetween), slbetween⟩) (cbetween : PySem.W.codeIn K cdbetween "between" = true) (kbetween : PySem.W.keepIn K (.ref f_between) = true)
    (aroom : PySem.W.nsIn K mainGlobals "room" = some (some (.ref f_room))) (lroom : K.lookup f_room = some ⟨ocroom, odroom, .func (PySem.W.fnOf "room" "room" (defArgs s_room) (defBody s_room) (defScope s_room) .none kVroom dcroom pmroom anroom cdroom ctroom), slroom⟩) (croom : PySem.W.codeIn K cdroom "room" = true) (kroom : PySem.W.keepIn K (.ref f_room) = true)
    (agreatest_left : PySem.W.nsIn K mainGlobals "greatest_left" = some (some (.ref f_greatest_left))) (lgreatest_left : K.lookup f_greatest_left = some ⟨ocgreatest_left, odgreatest_left, .func (PySem.W.fnOf "greatest_left" "greatest_left" (defArgs s_greatest_left) (defBody s_greatest_left) (defScope s_greatest_left) .none kVgreatest_left dcgreatest_left pmgreatest_left angreatest_left cdgreatest_left ctgreatest_left), slgreatest_left⟩) (cgreatest_left : PySem.W.codeIn K cdgreatest_left "greatest_left" = true) (kgreatest_left : PySem.W.keepIn K (.ref f_greatest_left) = true)
    (arow_from : PySem.W.nsIn K mainGlobals "row_from" = some (some (.ref f_row_from))) (lrow_from : K.lookup f_row_from = some ⟨ocrow_from, odrow_from, .func (PySem.W.fnOf "row_from" "row_from" (defArgs s_row_from) (defBody s_row_from) (defScope s_row_from) .none kVrow_from dcrow_from pmrow_from anrow_from cdrow_from ctrow_from), slrow_from⟩) (crow_from : PySem.W.codeIn K cdrow_from "row_from" = true) (krow_from : PySem.W.keepIn K (.ref f_row_from) = true)
    (agoes_through : PySem.W.nsIn K mainGlobals "goes_through" = some (some (.ref f_goes_through))) (lgoes_through : K.lookup f_goes_through = some ⟨ocgoes_through, odgoes_through, .func (PySem.W.fnOf "goes_through" "goes_through" (defArgs s_goes_through) (defBody s_goes_through) (defScope s_goes_through) .none kVgoes_through dcgoes_through pmgoes_through angoes_through cdgoes_through ctgoes_through), slgoes_through⟩) (cgoes_through : PySem.W.codeIn K cdgoes_through "goes_through" = true) (kgoes_through : PySem.W.keepIn K (.ref f_goes_through) = true)
    (arows_of : PySem.W.nsIn K mainGlobals "rows_of" = some (some (.ref f_rows_of))) (lrows_of : K.lookup f_rows_of = some ⟨ocrows_of, odrows_of, .func (PySem.W.fnOf "rows_of" "rows_of" (defArgs s_rows_of) (defBody s_rows_of) (defScope s_rows_of) .none kVrows_of dcrows_of pmrows_of anrows_of cdrows_of ctrows_of), slrows_of⟩) (crows_of : PySem.W.codeIn K cdrows_of "rows_of" = true) (krows_of : PySem.W.keepIn K (.ref f_rows_of) = true)
    (arows_through : PySem.W.nsIn K mainGlobals "rows_through" = some (some (.ref f_rows_through))) (lrows_through : K.lookup f_rows_through = some ⟨ocrows_through, odrows_through, .func (PySem.W.fnOf "rows_through" "rows_through" (defArgs s_rows_through) (defBody s_rows_through) (defScope s_rows_through) .none kVrows_through dcrows_through pmrows_through anrows_through cdrows_through ctrows_through), slrows_through⟩) (crows_through : PySem.W.codeIn K cdrows_through "rows_through" = true) (krows_through : PySem.W.keepIn K (.ref f_rows_through) = true)
    (aleast_time : PySem.W.nsIn K mainGlobals "least_time" = some (some (.ref f_least_time))) (lleast_time : K.lookup f_least_time = some ⟨ocleast_time, odleast_time, .func (PySem.W.fnOf "least_time" "least_time" (defArgs s_least_time) (defBody s_least_time) (defScope s_least_time) .none kVleast_time dcleast_time pmleast_time anleast_time cdleast_time ctleast_time), slleast_time⟩) (cleast_time : PySem.W.codeIn K cdleast_time "least_time" = true) (kleast_time : PySem.W.keepIn K (.ref f_least_time) = true)
    (atoo_little : PySem.W.nsIn K mainGlobals "too_little" = some (some (.ref f_too_little))) (ltoo_little : K.lookup f_too_little = some ⟨octoo_little, odtoo_little, .func (PySem.W.fnOf "too_little" "too_little" (defArgs s_too_little) (defBody s_too_little) (defScope s_too_little) .none kVtoo_little dctoo_little pmtoo_little antoo_little cdtoo_little cttoo_little), sltoo_little⟩) (ctoo_little : PySem.W.codeIn K cdtoo_little "too_little" = true) (ktoo_little : PySem.W.keepIn K (.ref f_too_little) = true)
    (aare_spots : PySem.W.nsIn K mainGlobals "are_spots" = some (some (.ref f_are_spots))) (lare_spots : K.lookup f_are_spots = some ⟨ocare_spots, odare_spots, .func (PySem.W.fnOf "are_spots" "are_spots" (defArgs s_are_spots) (defBody s_are_spots) (defScope s_are_spots) .none kVare_spots dcare_spots pmare_spots anare_spots cdare_spots ctare_spots), slare_spots⟩) (care_spots : PySem.W.codeIn K cdare_spots "are_spots" = true) (kare_spots : PySem.W.keepIn K (.ref f_are_spots) = true)
    (ais_row_like : PySem.W.nsIn K mainGlobals "is_row_like" = some (some (.ref f_is_row_like))) (lis_row_like : K.lookup f_is_row_like = some ⟨ocis_row_like, odis_row_like, .func (PySem.W.fnOf "is_row_like" "is_row_like" (defArgs s_is_row_like) (defBody s_is_row_like) (defScope s_is_row_like) .none kVis_row_like dcis_row_like pmis_row_like anis_row_like cdis_row_like ctis_row_like), slis_row_like⟩) (cis_row_like : PySem.W.codeIn K cdis_row_like "is_row_like" = true) (kis_row_like : PySem.W.keepIn K (.ref f_is_row_like) = true)
    (aare_rows_like : PySem.W.nsIn K mainGlobals "are_rows_like" = some (some (.ref f_are_rows_like))) (lare_rows_like : K.lookup f_are_rows_like = some ⟨ocare_rows_like, odare_rows_like, .func (PySem.W.fnOf "are_rows_like" "are_rows_like" (defArgs s_are_rows_like) (defBody s_are_rows_like) (defScope s_are_rows_like) .none kVare_rows_like dcare_rows_like pmare_rows_like anare_rows_like cdare_rows_like ctare_rows_like), slare_rows_like⟩) (care_rows_like : PySem.W.codeIn K cdare_rows_like "are_rows_like" = true) (kare_rows_like : PySem.W.keepIn K (.ref f_are_rows_like) = true)
    (ashows_too_little : PySem.W.nsIn K mainGlobals "shows_too_little" = some (some (.ref f_shows_too_little))) (lshows_too_little : K.lookup f_shows_too_little = some ⟨ocshows_too_little, odshows_too_little, .func (PySem.W.fnOf "shows_too_little" "shows_too_little" (defArgs s_shows_too_little) (defBody s_shows_too_little) (defScope s_shows_too_little) .none kVshows_too_little dcshows_too_little pmshows_too_little anshows_too_little cdshows_too_little ctshows_too_little), slshows_too_little⟩) (cshows_too_little : PySem.W.codeIn K cdshows_too_little "shows_too_little" = true) (kshows_too_little : PySem.W.keepIn K (.ref f_shows_too_little) = true)
    (al_hand : PySem.W.nsIn K mainGlobals "_law_hand" = some (some (.ref f_l_hand))) (ll_hand : K.lookup f_l_hand = some ⟨ocl_hand, odl_hand, .func (PySem.W.fnOf "_law_hand" "_law_hand" (defArgs s_l_hand) (defBody s_l_hand) (defScope s_l_hand) .none kVl_hand dcl_hand pml_hand anl_hand cdl_hand ctl_hand), sll_hand⟩) (cl_hand : PySem.W.codeIn K cdl_hand "_law_hand" = true) (kl_hand : PySem.W.keepIn K (.ref f_l_hand) = true)
    (al_take : PySem.W.nsIn K mainGlobals "_law_take" = some (some (.ref f_l_take))) (ll_take : K.lookup f_l_take = some ⟨ocl_take, odl_take, .func (PySem.W.fnOf "_law_take" "_law_take" (defArgs s_l_take) (defBody s_l_take) (defScope s_l_take) .none kVl_take dcl_take pml_take anl_take cdl_take ctl_take), sll_take⟩) (cl_take : PySem.W.codeIn K cdl_take "_law_take" = true) (kl_take : PySem.W.keepIn K (.ref f_l_take) = true)
    (al_of : PySem.W.nsIn K mainGlobals "_law_of" = some (some (.ref f_l_of))) (ll_of : K.lookup f_l_of = some ⟨ocl_of, odl_of, .func (PySem.W.fnOf "_law_of" "_law_of" (defArgs s_l_of) (defBody s_l_of) (defScope s_l_of) .none kVl_of dcl_of pml_of anl_of cdl_of ctl_of), sll_of⟩) (cl_of : PySem.W.codeIn K cdl_of "_law_of" = true) (kl_of : PySem.W.keepIn K (.ref f_l_of) = true)
    (al_ring_of : PySem.W.nsIn K mainGlobals "_law_ring_of" = some (some (.ref f_l_ring_of))) (ll_ring_of : K.lookup f_l_ring_of = some ⟨ocl_ring_of, odl_ring_of, .func (PySem.W.fnOf "_law_ring_of" "_law_ring_of" (defArgs s_l_ring_of) (defBody s_l_ring_of) (defScope s_l_ring_of) .none kVl_ring_of dcl_ring_of pml_ring_of anl_ring_of cdl_ring_of ctl_ring_of), sll_ring_of⟩) (cl_ring_of : PySem.W.codeIn K cdl_ring_of "_law_ring_of" = true) (kl_ring_of : PySem.W.keepIn K (.ref f_l_ring_of) = true)
    (al_steps : PySem.W.nsIn K mainGlobals "_law_steps" = some (some (.ref f_l_steps))) (ll_steps : K.lookup f_l_steps = some ⟨ocl_steps, odl_steps, .func (PySem.W.fnOf "_law_steps" "_law_steps" (defArgs s_l_steps) (defBody s_l_steps) (defScope s_l_steps) .none kVl_steps dcl_steps pml_steps anl_steps cdl_steps ctl_steps), sll_steps⟩) (cl_steps : PySem.W.codeIn K cdl_steps "_law_steps" = true) (kl_steps : PySem.W.keepIn K (.ref f_l_steps) = true)
    (al_between : PySem.W.nsIn K mainGlobals "_law_between" = some (some (.ref f_l_between))) (ll_between : K.lookup f_l_between = some ⟨ocl_between, odl_between, .func (PySem.W.fnOf "_law_between" "_law_between" (defArgs s_l_between) (defBody s_l_between) (defScope s_l_between) .none kVl_between dcl_between pml_between anl_between cdl_between ctl_between), sll_between⟩) (cl_between : PySem.W.codeIn K cdl_between "_law_between" = true) (kl_between : PySem.W.keepIn K (.ref f_l_between) = true)
    (al_rooms : PySem.W.nsIn K mainGlobals "_law_rooms" = some (some (.ref f_l_rooms))) (ll_rooms : K.lookup f_l_rooms = some ⟨ocl_rooms, odl_rooms, .func (PySem.W.fnOf "_law_rooms" "_law_rooms" (defArgs s_l_rooms) (defBody s_l_rooms) (defScope s_l_rooms) .none kVl_rooms dcl_rooms pml_rooms anl_rooms cdl_rooms ctl_rooms), sll_rooms⟩) (cl_rooms : PySem.W.codeIn K cdl_rooms "_law_rooms" = true) (kl_rooms : PySem.W.keepIn K (.ref f_l_rooms) = true)
    (al_row : PySem.W.nsIn K mainGlobals "_law_row" = some (some (.ref f_l_row))) (ll_row : K.lookup f_l_row = some ⟨ocl_row, odl_row, .func (PySem.W.fnOf "_law_row" "_law_row" (defArgs s_l_row) (defBody s_l_row) (defScope s_l_row) .none kVl_row dcl_row pml_row anl_row cdl_row ctl_row), sll_row⟩) (cl_row : PySem.W.codeIn K cdl_row "_law_row" = true) (kl_row : PySem.W.keepIn K (.ref f_l_row) = true)
    (al_all_rows : PySem.W.nsIn K mainGlobals "_law_all_rows" = some (some (.ref f_l_all_rows))) (ll_all_rows : K.lookup f_l_all_rows = some ⟨ocl_all_rows, odl_all_rows, .func (PySem.W.fnOf "_law_all_rows" "_law_all_rows" (defArgs s_l_all_rows) (defBody s_l_all_rows) (defScope s_l_all_rows) .none kVl_all_rows dcl_all_rows pml_all_rows anl_all_rows cdl_all_rows ctl_all_rows), sll_all_rows⟩) (cl_all_rows : PySem.W.codeIn K cdl_all_rows "_law_all_rows" = true) (kl_all_rows : PySem.W.keepIn K (.ref f_l_all_rows) = true)
    (al_rows : PySem.W.nsIn K mainGlobals "_law_rows" = some (some (.ref f_l_rows))) (ll_rows : K.lookup f_l_rows = some ⟨ocl_rows, odl_rows, .func (PySem.W.fnOf "_law_rows" "_law_rows" (defArgs s_l_rows) (defBody s_l_rows) (defScope s_l_rows) .none kVl_rows dcl_rows pml_rows anl_rows cdl_rows ctl_rows), sll_rows⟩) (cl_rows : PySem.W.codeIn K cdl_rows "_law_rows" = true) (kl_rows : PySem.W.keepIn K (.ref f_l_rows) = true)
    (al_same : PySem.W.nsIn K mainGlobals "_law_same" = some (some (.ref f_l_same))) (ll_same : K.lookup f_l_same = some ⟨ocl_same, odl_same, .func (PySem.W.fnOf "_law_same" "_law_same" (defArgs s_l_same) (defBody s_l_same) (defScope s_l_same) .none kVl_same dcl_same pml_same anl_same cdl_same ctl_same), sll_same⟩) (cl_same : PySem.W.codeIn K cdl_same "_law_same" = true) (kl_same : PySem.W.keepIn K (.ref f_l_same) = true)
    (al_papers : PySem.W.nsIn K mainGlobals "_law_papers" = some (some (.ref f_l_papers))) (ll_papers : K.lookup f_l_papers = some ⟨ocl_papers, odl_papers, .func (PySem.W.fnOf "_law_papers" "_law_papers" (defArgs s_l_papers) (defBody s_l_papers) (defScope s_l_papers) .none kVl_papers dcl_papers pml_papers anl_papers cdl_papers ctl_papers), sll_papers⟩) (cl_papers : PySem.W.codeIn K cdl_papers "_law_papers" = true) (kl_papers : PySem.W.keepIn K (.ref f_l_papers) = true)
    (alaw : PySem.W.nsIn K mainGlobals "law" = some (some (.ref f_law))) (llaw : K.lookup f_law = some ⟨oclaw, odlaw, .func (PySem.W.fnOf "law" "law" (defArgs s_law) (defBody s_law) (defScope s_law) .none kVlaw dclaw pmlaw anlaw cdlaw ctlaw), sllaw⟩) (claw : PySem.W.codeIn K cdlaw "law" = true) (klaw : PySem.W.keepIn K (.ref f_law) = true)
    (z_all : PySem.W.nsIn K mainGlobals "all" = some none) (z_any : PySem.W.nsIn K mainGlobals "any" = some none) (z_bool : PySem.W.nsIn K mainGlobals "bool" = some none) (z_enumerate : PySem.W.nsIn K mainGlobals "enumerate" = some none) (z_int : PySem.W.nsIn K mainGlobals "int" = some none) (z_isinstance : PySem.W.nsIn K mainGlobals "isinstance" = some none) (z_len : PySem.W.nsIn K mainGlobals "len" = some none) (z_list : PySem.W.nsIn K mainGlobals "list" = some none) (z_max : PySem.W.nsIn K mainGlobals "max" = some none) (z_min : PySem.W.nsIn K mainGlobals "min" = some none) (z_range : PySem.W.nsIn K mainGlobals "range" = some none) (z_sorted : PySem.W.nsIn K mainGlobals "sorted" = some none) (z_str : PySem.W.nsIn K mainGlobals "str" = some none) (z_tuple : PySem.W.nsIn K mainGlobals "tuple" = some none) (z_zip : PySem.W.nsIn K mainGlobals "zip" = some none) :
    ∃ fd : FuncData, (∀ (s : Shared) (v : Value), BindsTo s fd ⟨[v], []⟩ [("_law_script", v)]) ∧ ∀ base : Heap, K.In base → base.Ns mainGlobals mg → FnOk l.prog w K mg base CX0 8 fa fd ["_law_script"] (spV 1 (G.F_law_k48 f_is_whole)) := by
  have e := hfa.symm.trans (PySem.W.mg_of X Gg alaw)
  cases e
  have T : Txt mg := ⟨PySem.W.mg_none_of X Gg z_all, PySem.W.mg_none_of X Gg z_any, PySem.W.mg_none_of X Gg z_bool, PySem.W.mg_none_of X Gg z_enumerate, PySem.W.mg_none_of X Gg z_int, PySem.W.mg_none_of X Gg z_isinstance, PySem.W.mg_none_of X Gg z_len, PySem.W.mg_none_of X Gg z_list, PySem.W.mg_none_of X Gg z_max, PySem.W.mg_none_of X Gg z_min, PySem.W.mg_none_of X Gg z_range, PySem.W.mg_none_of X Gg z_sorted, PySem.W.mg_none_of X Gg z_str, PySem.W.mg_none_of X Gg z_tuple, PySem.W.mg_none_of X Gg z_zip⟩
  have U_is_whole := fun_mk (st := s_is_whole) lis_whole cis_whole kis_whole
  have U_is_rising := fun_mk (st := s_is_rising) lis_rising cis_rising kis_rising
  have U_between := fun_mk (st := s_between) lbetween cbetween kbetween
  have U_room := fun_mk (st := s_room) lroom croom kroom
  have U_greatest_left := fun_mk (st := s_greatest_left) lgreatest_left cgreatest_left kgreatest_left
  have U_row_from := fun_mk (st := s_row_from) lrow_from crow_from krow_from
  have U_goes_through := fun_mk (st := s_goes_through) lgoes_through cgoes_through kgoes_through
  have U_rows_of := fun_mk (st := s_rows_of) lrows_of crows_of krows_of
  have U_rows_through := fun_mk (st := s_rows_through) lrows_through crows_through krows_through
  have U_least_time := fun_mk (st := s_least_time) lleast_time cleast_time kleast_time
  have U_too_little := fun_mk (st := s_too_little) ltoo_little ctoo_little ktoo_little
  have U_are_spots := fun_mk (st := s_are_spots) lare_spots care_spots kare_spots
  have U_is_row_like := fun_mk (st := s_is_row_like) lis_row_like cis_row_like kis_row_like
  have U_are_rows_like := fun_mk (st := s_are_rows_like) lare_rows_like care_rows_like kare_rows_like
  have U_shows_too_little := fun_mk (st := s_shows_too_little) lshows_too_little cshows_too_little kshows_too_little
  have U_l_hand := fun_mk (st := s_l_hand) ll_hand cl_hand kl_hand
  have U_l_take := fun_mk (st := s_l_take) ll_take cl_take kl_take
  have U_l_of := fun_mk (st := s_l_of) ll_of cl_of kl_of
  have U_l_ring_of := fun_mk (st := s_l_ring_of) ll_ring_of cl_ring_of kl_ring_of
  have U_l_steps := fun_mk (st := s_l_steps) ll_steps cl_steps kl_steps
  have U_l_between := fun_mk (st := s_l_between) ll_between cl_between kl_between
  have U_l_rooms := fun_mk (st := s_l_rooms) ll_rooms cl_rooms kl_rooms
  have U_l_row := fun_mk (st := s_l_row) ll_row cl_row kl_row
  have U_l_all_rows := fun_mk (st := s_l_all_rows) ll_all_rows cl_all_rows kl_all_rows
  have U_l_rows := fun_mk (st := s_l_rows) ll_rows cl_rows kl_rows
  have U_l_same := fun_mk (st := s_l_same) ll_same cl_same kl_same
  have U_l_papers := fun_mk (st := s_l_papers) ll_papers cl_papers kl_papers
  have U_law := fun_mk (st := s_law) llaw claw klaw
  have b_is_whole := U_is_whole.binds (ps := ["thing"]) fun _ _ _ _ _ _ us hl => match us, hl with | [_], _ => rfl
  have m_is_whole := PySem.W.mg_of X Gg ais_whole
  have b_is_rising := U_is_rising.binds (ps := ["thing", "is_kind"]) fun _ _ _ _ _ _ us hl => match us, hl with | [_, _], _ => rfl
  have m_is_rising := PySem.W.mg_of X Gg ais_rising
  have b_between := U_between.binds (ps := ["many", "spots"]) fun _ _ _ _ _ _ us hl => match us, hl with | [_, _], _ => rfl
  have m_between := PySem.W.mg_of X Gg abetween
  have b_room := U_room.binds (ps := ["time", "left"]) fun _ _ _ _ _ _ us hl => match us, hl with | [_, _], _ => rfl
  have m_room := PySem.W.mg_of X Gg aroom
  have b_greatest_left := U_greatest_left.binds (ps := ["spaces", "time"]) fun _ _ _ _ _ _ us hl => match us, hl with | [_, _], _ => rfl
  have m_greatest_left := PySem.W.mg_of X Gg agreatest_left
  have b_row_from := U_row_from.binds (ps := ["spaces", "time", "left"]) fun _ _ _ _ _ _ us hl => match us, hl with | [_, _, _], _ => rfl
  have m_row_from := PySem.W.mg_of X Gg arow_from
  have b_goes_through := U_goes_through.binds (ps := ["spaces", "time", "row"]) fun _ _ _ _ _ _ us hl => match us, hl with | [_, _, _], _ => rfl
  have m_goes_through := PySem.W.mg_of X Gg agoes_through
  have b_rows_of := U_rows_of.binds (ps := ["spaces", "time"]) fun _ _ _ _ _ _ us hl => match us, hl with | [_, _], _ => rfl
  have m_rows_of := PySem.W.mg_of X Gg arows_of
  have b_rows_through := U_rows_through.binds (ps := ["spaces", "time"]) fun _ _ _ _ _ _ us hl => match us, hl with | [_, _], _ => rfl
  have m_rows_through := PySem.W.mg_of X Gg arows_through
  have b_least_time := U_least_time.binds (ps := ["many", "spots"]) fun _ _ _ _ _ _ us hl => match us, hl with | [_, _], _ => rfl
  have m_least_time := PySem.W.mg_of X Gg aleast_time
  have b_too_little := U_too_little.binds (ps := ["many", "spots", "time"]) fun _ _ _ _ _ _ us hl => match us, hl with | [_, _, _], _ => rfl
  have m_too_little := PySem.W.mg_of X Gg atoo_little
  have b_are_spots := U_are_spots.binds (ps := ["many", "spots"]) fun _ _ _ _ _ _ us hl => match us, hl with | [_, _], _ => rfl
  have m_are_spots := PySem.W.mg_of X Gg aare_spots
  have b_is_row_like := U_is_row_like.binds (ps := ["thing"]) fun _ _ _ _ _ _ us hl => match us, hl with | [_], _ => rfl
  have m_is_row_like := PySem.W.mg_of X Gg ais_row_like
  have b_are_rows_like := U_are_rows_like.binds (ps := ["thing"]) fun _ _ _ _ _ _ us hl => match us, hl with | [_], _ => rfl
  have m_are_rows_like := PySem.W.mg_of X Gg aare_rows_like
  have b_shows_too_little := U_shows_too_little.binds (ps := ["many", "spots", "time", "thing"]) fun _ _ _ _ _ _ us hl => match us, hl with | [_, _, _, _], _ => rfl
  have m_shows_too_little := PySem.W.mg_of X Gg ashows_too_little
  have b_l_hand := U_l_hand.binds (ps := ["_law_script", "_law_k"]) fun _ _ _ _ _ _ us hl => match us, hl with | [_, _], _ => rfl
  have m_l_hand := PySem.W.mg_of X Gg al_hand
  have b_l_take := U_l_take.binds (ps := ["_law_hand_here", "_law_many"]) fun _ _ _ _ _ _ us hl => match us, hl with | [_, _], _ => rfl
  have m_l_take := PySem.W.mg_of X Gg al_take
  have b_l_of := U_l_of.binds (ps := ["_law_hand_here", "_law_some"]) fun _ _ _ _ _ _ us hl => match us, hl with | [_, _], _ => rfl
  have m_l_of := PySem.W.mg_of X Gg al_of
  have b_l_ring_of := U_l_ring_of.binds (ps := ["_law_hand_here"]) fun _ _ _ _ _ _ us hl => match us, hl with | [_], _ => rfl
  have m_l_ring_of := PySem.W.mg_of X Gg al_ring_of
  have b_l_steps := U_l_steps.binds (ps := ["_law_left", "_law_right"]) fun _ _ _ _ _ _ us hl => match us, hl with | [_, _], _ => rfl
  have m_l_steps := PySem.W.mg_of X Gg al_steps
  have b_l_between := U_l_between.binds (ps := ["_law_many", "_law_spots"]) fun _ _ _ _ _ _ us hl => match us, hl with | [_, _], _ => rfl
  have m_l_between := PySem.W.mg_of X Gg al_between
  have b_l_rooms := U_l_rooms.binds (ps := ["_law_time"]) fun _ _ _ _ _ _ us hl => match us, hl with | [_], _ => rfl
  have m_l_rooms := PySem.W.mg_of X Gg al_rooms
  have b_l_row := U_l_row.binds (ps := ["_law_between_here", "_law_rooms_here", "_law_first"]) fun _ _ _ _ _ _ us hl => match us, hl with | [_, _, _], _ => rfl
  have m_l_row := PySem.W.mg_of X Gg al_row
  have b_l_all_rows := U_l_all_rows.binds (ps := ["_law_many", "_law_spots", "_law_time"]) fun _ _ _ _ _ _ us hl => match us, hl with | [_, _, _], _ => rfl
  have m_l_all_rows := PySem.W.mg_of X Gg al_all_rows
  have b_l_rows := U_l_rows.binds (ps := ["_law_many", "_law_spots", "_law_time"]) fun _ _ _ _ _ _ us hl => match us, hl with | [_, _, _], _ => rfl
  have m_l_rows := PySem.W.mg_of X Gg al_rows
  have b_l_same := U_l_same.binds (ps := ["_law_told", "_law_due"]) fun _ _ _ _ _ _ us hl => match us, hl with | [_, _], _ => rfl
  have m_l_same := PySem.W.mg_of X Gg al_same
  have b_l_papers := U_l_papers.binds (ps := ["_law_hand_here", "_law_rows_here"]) fun _ _ _ _ _ _ us hl => match us, hl with | [_, _], _ => rfl
  have m_l_papers := PySem.W.mg_of X Gg al_papers
  refine ⟨PySem.W.fnOf "law" "law" (defArgs s_law) (defBody s_law) (defScope s_law) .none kVlaw dclaw pmlaw anlaw cdlaw ctlaw, fun s v => .of_eq rfl, fun base _ _ => ?_⟩
  have G_is_whole := ok_is_whole (P := l.prog) (w := w) (base := base) U_is_whole T 
  have G_is_rising := ok_is_rising (P := l.prog) (w := w) (base := base) U_is_rising T U_is_whole G_is_whole b_is_whole m_is_whole
  have G_between := ok_between (P := l.prog) (w := w) (base := base) U_between T 
  have G_room := ok_room (P := l.prog) (w := w) (base := base) U_room T 
  have G_greatest_left := ok_greatest_left (P := l.prog) (w := w) (base := base) U_greatest_left T 
  have G_row_from := ok_row_from (P := l.prog) (w := w) (base := base) U_row_from T U_room G_room b_room m_room
  have G_goes_through := ok_goes_through (P := l.prog) (w := w) (base := base) U_goes_through T U_room G_room b_room m_room
  have G_rows_of := ok_rows_of (P := l.prog) (w := w) (base := base) U_rows_of T U_greatest_left G_greatest_left b_greatest_left m_greatest_left U_row_from G_row_from b_row_from m_row_from
  have G_rows_through := ok_rows_through (P := l.prog) (w := w) (base := base) U_rows_through T U_rows_of G_rows_of b_rows_of m_rows_of U_goes_through G_goes_through b_goes_through m_goes_through
  have G_least_time := ok_least_time (P := l.prog) (w := w) (base := base) U_least_time T U_between G_between b_between m_between U_rows_through G_rows_through b_rows_through m_rows_through
  have G_too_little := ok_too_little (P := l.prog) (w := w) (base := base) U_too_little T U_between G_between b_between m_between U_rows_of G_rows_of b_rows_of m_rows_of U_goes_through G_goes_through b_goes_through m_goes_through
  have G_are_spots := ok_are_spots (P := l.prog) (w := w) (base := base) U_are_spots T U_is_whole G_is_whole b_is_whole m_is_whole U_is_rising G_is_rising b_is_rising m_is_rising
  have G_is_row_like := ok_is_row_like (P := l.prog) (w := w) (base := base) U_is_row_like T U_is_whole G_is_whole b_is_whole m_is_whole
  have G_are_rows_like := ok_are_rows_like (P := l.prog) (w := w) (base := base) U_are_rows_like T U_is_row_like G_is_row_like b_is_row_like m_is_row_like
  have G_shows_too_little := ok_shows_too_little (P := l.prog) (w := w) (base := base) U_shows_too_little T U_is_whole G_is_whole b_is_whole m_is_whole U_are_spots G_are_spots b_are_spots m_are_spots U_are_rows_like G_are_rows_like b_are_rows_like m_are_rows_like U_greatest_left G_greatest_left b_greatest_left m_greatest_left U_between G_between b_between m_between U_too_little G_too_little b_too_little m_too_little
  have G_l_hand := ok_l_hand (P := l.prog) (w := w) (base := base) U_l_hand T 
  have G_l_take := ok_l_take (P := l.prog) (w := w) (base := base) U_l_take T 
  have G_l_of := ok_l_of (P := l.prog) (w := w) (base := base) U_l_of T U_l_take G_l_take b_l_take m_l_take
  have G_l_ring_of := ok_l_ring_of (P := l.prog) (w := w) (base := base) U_l_ring_of T U_l_take G_l_take b_l_take m_l_take U_l_of G_l_of b_l_of m_l_of
  have G_l_steps := ok_l_steps (P := l.prog) (w := w) (base := base) U_l_steps T 
  have G_l_between := ok_l_between (P := l.prog) (w := w) (base := base) U_l_between T 
  have G_l_rooms := ok_l_rooms (P := l.prog) (w := w) (base := base) U_l_rooms T U_l_steps G_l_steps b_l_steps m_l_steps
  have G_l_row := ok_l_row (P := l.prog) (w := w) (base := base) U_l_row T 
  have G_l_all_rows := ok_l_all_rows (P := l.prog) (w := w) (base := base) U_l_all_rows T U_l_rooms G_l_rooms b_l_rooms m_l_rooms U_l_between G_l_between b_l_between m_l_between U_l_row G_l_row b_l_row m_l_row
  have G_l_rows := ok_l_rows (P := l.prog) (w := w) (base := base) U_l_rows T U_l_rooms G_l_rooms b_l_rooms m_l_rooms U_l_between G_l_between b_l_between m_l_between U_l_all_rows G_l_all_rows b_l_all_rows m_l_all_rows
  have G_l_same := ok_l_same (P := l.prog) (w := w) (base := base) U_l_same T b_l_same m_l_same 6
  have G_l_papers := ok_l_papers (P := l.prog) (w := w) (base := base) U_l_papers T U_l_take G_l_take b_l_take m_l_take U_l_of G_l_of b_l_of m_l_of
  exact ok_law U_law T U_is_whole G_is_whole b_is_whole m_is_whole U_l_hand G_l_hand b_l_hand m_l_hand U_l_ring_of G_l_ring_of b_l_ring_of m_l_ring_of U_least_time G_least_time b_least_time m_least_time U_l_take G_l_take b_l_take m_l_take U_l_rows G_l_rows b_l_rows m_l_rows U_l_papers G_l_papers b_l_papers m_l_papers U_l_all_rows G_l_all_rows b_l_all_rows m_l_all_rows U_shows_too_little G_shows_too_little b_shows_too_little m_shows_too_little U_l_same G_l_same b_l_same m_l_same
theorem walk {f_is_whole : Addr} {l : PySem.W.OpenLaw} {q : Program} {loose : List Str} {XP : (Str → Option Value) → Heap → Prop} {YP : World → Heap → Prop} {d : DefRec} {K : Params → PySem.W.Frag} (hn : l.most = some 63) (hdf : d.params.defaults = [])
    (hY : ∀ (w : World) (h : Heap), YP w h → (K w.params).In h) (hK : ∀ p, noSq (K p) = true)
    (F : ∀ (w : World) (mg : Str → Option Value) (fa : Addr) (h : Heap), (K w.params).In h → h.Ns mainGlobals mg → mg d.name = some (.ref fa) →
      ∃ fd : FuncData, (∀ (s : Shared) (u : Value), BindsTo s fd ⟨[u], []⟩ [("_law_script", u)]) ∧ ∀ base : Heap, (K w.params).In base → base.Ns mainGlobals mg → FnOk l.prog w (K w.params) mg base CX0 8 fa fd ["_law_script"] (spV 1 (G.F_law_k48 f_is_whole))) :
    PySem.W.WalkO q loose XP YP l.row.toRowW d [] (fun f vs => PySem.call f vs) :=
  L2.walk_of (n := 63) (k := 8) (x := "_law_script") (CX := fun _ => CX0) (sp := fun w => spV 1 (G.F_law_k48 f_is_whole)) hn (by decide) hdf ⟨rfl, by decide, by decide, rfl⟩ hY F (fun w H a ns hl hO hS => spV_law (hK w.params) H a ns hO hS (G.law48_true f_is_whole ns (Nat.lt_of_le_of_lt hl (by decide)))) fun _ _ _ _ _ z => z
end K48
open PySem PySem.W PyProof.Rows
set_option maxRecDepth 100000 in
set_option maxHeartbeats 0 in
theorem PySem.Challenge.cw_mowfloor_k48_papers_of_time_holds : PySem.Challenge.rw_mowfloor_k48_papers_of_time.Holds := by
  w_on; o_law; k_head; (case hw => w_witness2)
  k_fill
  refine' K48.walk (l := PySem.Challenge.rw_mowfloor_k48_papers_of_time) rfl rfl (fun w h Y => PySem.W.kIn_of Y) ?hK ?F
  case hK => intro p; rfl
  case F =>
    intro w mg fa h KX G hmg
    refine' K48.all_mk KX G hmg ?ais_whole ?lis_whole ?cis_whole ?kis_whole ?ais_rising ?lis_rising ?cis_rising ?kis_rising ?abetween ?lbetween ?cbetween ?kbetween ?aroom ?lroom ?croom ?kroom ?agreatest_left ?lgreatest_left ?cgreatest_left ?kgreatest_left ?arow_from ?lrow_from ?crow_from ?krow_from ?agoes_through ?lgoes_through ?cgoes_through ?kgoes_through ?arows_of ?lrows_of ?crows_of ?krows_of ?arows_through ?lrows_through ?crows_through ?krows_through ?aleast_time ?lleast_time ?cleast_time ?kleast_time ?atoo_little ?ltoo_little ?ctoo_little ?ktoo_little ?aare_spots ?lare_spots ?care_spots ?kare_spots ?ais_row_like ?lis_row_like ?cis_row_like ?kis_row_like ?aare_rows_like ?lare_rows_like ?care_rows_like ?kare_rows_like ?ashows_too_little ?lshows_too_little ?cshows_too_little ?kshows_too_little ?al_hand ?ll_hand ?cl_hand ?kl_hand ?al_take ?ll_take ?cl_take ?kl_take ?al_of ?ll_of ?cl_of ?kl_of ?al_ring_of ?ll_ring_of ?cl_ring_of ?kl_ring_of ?al_steps ?ll_steps ?cl_steps ?kl_steps ?al_between ?ll_between ?cl_between ?kl_between ?al_rooms ?ll_rooms ?cl_rooms ?kl_rooms ?al_row ?ll_row ?cl_row ?kl_row ?al_all_rows ?ll_all_rows ?cl_all_rows ?kl_all_rows ?al_rows ?ll_rows ?cl_rows ?kl_rows ?al_same ?ll_same ?cl_same ?kl_same ?al_papers ?ll_papers ?cl_papers ?kl_papers ?alaw ?llaw ?claw ?klaw ?z_all ?z_any ?z_bool ?z_enumerate ?z_int ?z_isinstance ?z_len ?z_list ?z_max ?z_min ?z_range ?z_sorted ?z_str ?z_tuple ?z_zip
    (case ais_whole => k_is)
    (case lis_whole => k_is)
    (case cis_whole => k_is)
    (case kis_whole => k_is)
    (case ais_rising => k_is)
    (case lis_rising => k_is)
    (case cis_rising => k_is)
    (case kis_rising => k_is)
    (case abetween => k_is)
    (case lbetween => k_is)
    (case cbetween => k_is)
    (case kbetween => k_is)
    (case aroom => k_is)
    (case lroom => k_is)
    (case croom => k_is)
    (case kroom => k_is)
    (case agreatest_left => k_is)
    (case lgreatest_left => k_is)
    (case cgreatest_left => k_is)
    (case kgreatest_left => k_is)
    (case arow_from => k_is)
    (case lrow_from => k_is)
    (case crow_from => k_is)
    (case krow_from => k_is)
    (case agoes_through => k_is)
    (case lgoes_through => k_is)
    (case cgoes_through => k_is)
    (case kgoes_through => k_is)
    (case arows_of => k_is)
    (case lrows_of => k_is)
    (case crows_of => k_is)
    (case krows_of => k_is)
    (case arows_through => k_is)
    (case lrows_through => k_is)
    (case crows_through => k_is)
    (case krows_through => k_is)
    (case aleast_time => k_is)
    (case lleast_time => k_is)
    (case cleast_time => k_is)
    (case kleast_time => k_is)
    (case atoo_little => k_is)
    (case ltoo_little => k_is)
    (case ctoo_little => k_is)
    (case ktoo_little => k_is)
    (case aare_spots => k_is)
    (case lare_spots => k_is)
    (case care_spots => k_is)
    (case kare_spots => k_is)
    (case ais_row_like => k_is)
    (case lis_row_like => k_is)
    (case cis_row_like => k_is)
    (case kis_row_like => k_is)
    (case aare_rows_like => k_is)
    (case lare_rows_like => k_is)
    (case care_rows_like => k_is)
    (case kare_rows_like => k_is)
    (case ashows_too_little => k_is)
    (case lshows_too_little => k_is)
    (case cshows_too_little => k_is)
    (case kshows_too_little => k_is)
    (case al_hand => k_is)
    (case ll_hand => k_is)
    (case cl_hand => k_is)
    (case kl_hand => k_is)
    (case al_take => k_is)
    (case ll_take => k_is)
    (case cl_take => k_is)
    (case kl_take => k_is)
    (case al_of => k_is)
    (case ll_of => k_is)
    (case cl_of => k_is)
    (case kl_of => k_is)
    (case al_ring_of => k_is)
    (case ll_ring_of => k_is)
    (case cl_ring_of => k_is)
    (case kl_ring_of => k_is)
    (case al_steps => k_is)
    (case ll_steps => k_is)
    (case cl_steps => k_is)
    (case kl_steps => k_is)
    (case al_between => k_is)
    (case ll_between => k_is)
    (case cl_between => k_is)
    (case kl_between => k_is)
    (case al_rooms => k_is)
    (case ll_rooms => k_is)
    (case cl_rooms => k_is)
    (case kl_rooms => k_is)
    (case al_row => k_is)
    (case ll_row => k_is)
    (case cl_row => k_is)
    (case kl_row => k_is)
    (case al_all_rows => k_is)
    (case ll_all_rows => k_is)
    (case cl_all_rows => k_is)
    (case kl_all_rows => k_is)
    (case al_rows => k_is)
    (case ll_rows => k_is)
    (case cl_rows => k_is)
    (case kl_rows => k_is)
    (case al_same => k_is)
    (case ll_same => k_is)
    (case cl_same => k_is)
    (case kl_same => k_is)
    (case al_papers => k_is)
    (case ll_papers => k_is)
    (case cl_papers => k_is)
    (case kl_papers => k_is)
    (case alaw => k_is)
    (case llaw => k_is)
    (case claw => k_is)
    (case klaw => k_is)
    (case z_all => k_is)
    (case z_any => k_is)
    (case z_bool => k_is)
    (case z_enumerate => k_is)
    (case z_int => k_is)
    (case z_isinstance => k_is)
    (case z_len => k_is)
    (case z_list => k_is)
    (case z_max => k_is)
    (case z_min => k_is)
    (case z_range => k_is)
    (case z_sorted => k_is)
    (case z_str => k_is)
    (case z_tuple => k_is)
    (case z_zip => k_is)
