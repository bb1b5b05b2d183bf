import PyProof.Rows.All
import Wide.All
import OpenK.AllK
import Wide.FinOn
import HandS.ForMost
import HandS.OwnEq
import HandS.IsInst
import OpenK.KOps
import HandS.Call
import PyProof.Draws
import PyProof.ZipIter
import PyProof.JoinWalk
import PyProof.ListRange
import PyProof.WalksMore
import PyProof.TupleIter
import HandS.Conv
import HandS.TupSets
import HandS.SortOrd
import HandS.Dict
import HandS.SetKeys
import KE.KDictCopyH
import HandS.SetBool
import KE.KExcSuper
import HandS.ForExc
import HandS.ExcInit
import HandS.ExcSuper
import HandS.ExcField
import HandS.ExcIs
import HandS.HotCalls
import HandS.Gcd
import HandS.Wide
import HandS.Style
import HandS.DictComp
import HandS.TupAny
import HandS.Small
import HandS.SortInts
import HandS.Walk
import KE.GoesEnum
import KE.GoesMore
import HandS.Zip
import PySem.Challenge.RW_nextguess_k37_best_drawn_guesses
set_option Elab.async false
set_option linter.all false
set_option maxRecDepth 100000
set_option maxHeartbeats 2000000
/-! len(o) by an own __len__ -/
namespace L2
open PySem PySem.Spec PyProof.Rows
section
variable {X : Cx} {CX : CXT} {k : Nat} {f C : Addr} {fd : FuncData} {ps : List Str} {sp : Sp} {E : XK}
def rLenO (C : Addr) (sp : Sp) (E : XK) : List V → Hp → VK → Prop := fun vs H Q => ∃ a dx fs, vs = [.ref a] ∧ H a = some (.ins C dx fs) ∧ sp [.ref a] H (fun v H' => ∃ n : Nat, v = .int n ∧ n < 2 ^ 62 ∧ Q (.int n) H') E
theorem call_lenO (F : FnOk X.prog X.w X.K X.mg X.base CX k f fd ps sp) (hr : Room (k + 1) X.A) (hs : PySem.W.findIn X.K (.ref C) "__len__" = some (some (.ref f))) (hf : PySem.W.isFn X.K (.ref f) = true) (hb : Binds X.K fd ps []) (hx : Passes CX X E) :
    CallR X (.builtin "len") (rLenO C sp E) := by
  rintro pins s σ H vs us Q I r ⟨a, dx, fs, rfl, ha, hsp⟩
  rw [Vals.ref1 r]
  obtain ⟨mA, J, _⟩ := ins_get I.hok ha
  obtain ⟨od, J, _⟩ := J.look
  obtain ⟨m, hF⟩ := I.fr
  refine PySem.W.len_K hF I.ok.mod.kin J hs hf ?_
  have sub : Sub X k X.A.in1 := Sub.in1 ⟨hr, rfl⟩
  have e0 : Env0 X.prog X.w X.K X.mg X.base X.A.in1 X.stack s H := by
    have e := I.env0
    exact ⟨by rw [sub.fr]; exact e.frames, e.mod, e.bs, e.bsz, e.funs, e.frf, e.hok, e.bare⟩
  have hl := F.len _ _ _ _ hsp
  refine wpAny_call (codeAny_mono (F.run X.A.in1 X.stack s H ⟨[.ref a], []⟩ [.ref a] [.ref a] _ E sub.room e0 (by
    have z := hb s [.ref a] I.kIn (by simpa using hl)
    simpa using z) (.cons rfl .nil) hsp) fun r s' hq => ?_)
  cases r with
  | error e => exact hx pins σ H s e s' I hq
  | ok fl =>
    cases fl with
    | ret w =>
      obtain ⟨z, H', I', rz, n, ez, hn, q⟩ := I.after hq
      subst ez
      obtain ⟨t, rfl⟩ := rz
      refine ⟨⟨Int.natCast_nonneg n, by omega⟩, .int n, H', I'.tok _, ⟨_, rfl⟩, q⟩
    | next => exact False.elim hq
    | brk => exact False.elim hq
    | cont => exact False.elim hq
end
end L2

set_option Elab.async false
set_option linter.all false
set_option maxRecDepth 100000
/-! a list's item ahead of xs[k] += 1 -/
namespace L2
open PySem PySem.Spec PyProof.Rows
def rGetL (K : PySem.W.Frag) : V → V → Hp → VK → Prop := fun o i H Q => ∃ (p : Addr) (xs : List V) (k : Nat) (v : V), o = .ref p ∧ i = .int (k : Int) ∧ SqL K H p xs ∧ xs[k]? = some v ∧ Q v H
theorem get_ix {X : Cx} : PGet X (rGetL X.K) := by
  rintro pins s σ H o i ov iv Q I ro ri ⟨p, xs, k, v, rfl, rfl, hq, hv, q⟩
  cases ro
  obtain ⟨t, rfl⟩ := ri
  obtain ⟨its, r, pl, hz⟩ := I.list hq
  obtain ⟨w, ew, rv⟩ := r.get hv
  have l := (List.getElem?_eq_some_iff.mp hv).1
  have hn := line63
  exact wpAny_getItem_list pl.isList (Int.natCast_nonneg k) (by omega) (by simpa using ew) ⟨v, H, I, rv, q⟩
end L2

set_option Elab.async false
set_option linter.all false
set_option maxRecDepth 100000
set_option maxHeartbeats 1000000
/-! weights of ties shared out between their rules: the mathematics -/
namespace Fl
def sumN (m : Nat) (f : Nat → Int) : Int := ((List.range m).map f).sum
theorem sumN_succ (m : Nat) (f : Nat → Int) : sumN (m + 1) f = sumN m f + f m := by
  unfold sumN
  rw [List.range_succ, List.map_append, List.sum_append]
  simp
theorem sumN_congr {m : Nat} {f g : Nat → Int} (h : ∀ k, k < m → f k = g k) : sumN m f = sumN m g := by
  unfold sumN
  rw [List.map_congr_left fun k hk => h k (List.mem_range.mp hk)]
theorem sumN_le {f g : Nat → Int} : ∀ {m : Nat}, (∀ k, k < m → f k ≤ g k) → sumN m f ≤ sumN m g
  | 0, _ => Int.le_refl _
  | m + 1, h => by
    rw [sumN_succ, sumN_succ]
    have := sumN_le (m := m) fun k hk => h k (by omega)
    have := h m (by omega)
    omega
theorem sumN_add {f g : Nat → Int} : ∀ m : Nat, sumN m (fun k => f k + g k) = sumN m f + sumN m g
  | 0 => rfl
  | m + 1 => by
    rw [sumN_succ, sumN_succ, sumN_succ, sumN_add m]
    omega
theorem sumN_one {f g : Nat → Int} {k0 : Nat} : ∀ {m : Nat}, k0 < m → (∀ k, k < m → k ≠ k0 → g k = f k) → sumN m g = sumN m f + (g k0 - f k0)
  | 0, h, _ => absurd h (Nat.not_lt_zero _)
  | m + 1, h, e => by
    rw [sumN_succ, sumN_succ]
    by_cases z : k0 = m
    · subst z
      rw [sumN_congr (g := f) fun k hk => e k (by omega) (by omega)]
      omega
    · rw [sumN_one (m := m) (by omega) fun k hk n => e k (by omega) n, e m (by omega) (fun q => z q.symm)]
      omega
theorem sumN_zero (m : Nat) : sumN m (fun _ => 0) = 0 := by
  induction m with
  | zero => rfl
  | succ m ih => rw [sumN_succ, ih]; rfl
section
variable (m : Nat) (i j : Nat → Nat)
/-- what a rule carries -/
def carry (R : Nat → Int) (r : Nat) : Int := sumN m fun k => (if i k = r then R (2 * k) else 0) + (if j k = r then R (2 * k + 1) else 0)
def carryP (R : Nat → Int) (P : List Nat) : Int := sumN m fun k => (if i k ∈ P then R (2 * k) else 0) + (if j k ∈ P then R (2 * k + 1) else 0)
/-- what ties within a part weigh -/
def inside (W : Nat → Int) (P : List Nat) : Int := sumN m fun k => if i k ∈ P ∧ j k ∈ P then W k else 0
def src (x : Nat) : Nat := if x % 2 = 0 then i (x / 2) else j (x / 2)
def dst (x : Nat) : Nat := if x % 2 = 0 then j (x / 2) else i (x / 2)
end
def opp (x : Nat) : Nat := if x % 2 = 0 then x + 1 else x - 1
section
variable {m : Nat} {i j : Nat → Nat}
theorem src_even (k : Nat) : src i j (2 * k) = i k := by
  unfold src
  rw [if_pos (by omega), show 2 * k / 2 = k by omega]
theorem src_odd (k : Nat) : src i j (2 * k + 1) = j k := by
  unfold src
  rw [if_neg (by omega), show (2 * k + 1) / 2 = k by omega]
theorem dst_even (k : Nat) : dst i j (2 * k) = j k := by
  unfold dst
  rw [if_pos (by omega), show 2 * k / 2 = k by omega]
theorem dst_odd (k : Nat) : dst i j (2 * k + 1) = i k := by
  unfold dst
  rw [if_neg (by omega), show (2 * k + 1) / 2 = k by omega]
theorem arc_cases (x : Nat) : (∃ k, x = 2 * k) ∨ ∃ k, x = 2 * k + 1 := by
  rcases Nat.mod_two_eq_zero_or_one x with h | h
  · exact .inl ⟨x / 2, by omega⟩
  · exact .inr ⟨x / 2, by omega⟩
theorem dst_opp (x : Nat) : dst i j (opp x) = src i j x := by
  rcases arc_cases x with ⟨k, rfl⟩ | ⟨k, rfl⟩
  · rw [show opp (2 * k) = 2 * k + 1 by unfold opp; rw [if_pos (by omega)], dst_odd, src_even]
  · rw [show opp (2 * k + 1) = 2 * k by unfold opp; rw [if_neg (by omega)]; omega, dst_even, src_odd]
theorem carry_nil (R : Nat → Int) : carryP m i j R [] = 0 := by
  unfold carryP
  rw [sumN_congr (g := fun _ => 0) fun k _ => by simp, sumN_zero]
theorem carry_cons (R : Nat → Int) {r : Nat} {P : List Nat} (h : r ∉ P) : carryP m i j R (r :: P) = carry m i j R r + carryP m i j R P := by
  unfold carryP carry
  rw [← sumN_add]
  refine sumN_congr fun k _ => ?_
  have e : ∀ (a : Nat) (v : Int), (if a ∈ r :: P then v else 0) = (if a = r then v else 0) + (if a ∈ P then v else 0) := fun a v => by
    by_cases z : a = r
    · subst z
      rw [if_pos List.mem_cons_self, if_pos rfl, if_neg h]
      omega
    · by_cases y : a ∈ P
      · rw [if_pos (List.mem_cons_of_mem _ y), if_neg z, if_pos y]
        omega
      · rw [if_neg (fun q => (List.mem_cons.mp q).elim z y), if_neg z, if_neg y]
        rfl
  rw [e, e]
  omega
theorem carry_sum (R : Nat → Int) : ∀ {P : List Nat}, P.Nodup → (P.map (carry m i j R)).sum = carryP m i j R P
  | [], _ => by rw [carry_nil]; rfl
  | r :: P, h => by
    obtain ⟨h1, h2⟩ := List.nodup_cons.mp h
    rw [List.map_cons, List.sum_cons, carry_sum R h2, carry_cons R h1]
/-- amounts are not negative, and make up the weights -/
structure Am (m : Nat) (W : Nat → Int) (R : Nat → Int) : Prop where
  pos : ∀ a, a < 2 * m → 0 ≤ R a
  sum : ∀ k, k < m → R (2 * k) + R (2 * k + 1) = W k
theorem inside_le {W R : Nat → Int} (A : Am m W R) (P : List Nat) : inside m i j W P ≤ carryP m i j R P := by
  refine sumN_le fun k hk => ?_
  have a := A.pos (2 * k) (by omega)
  have b := A.pos (2 * k + 1) (by omega)
  have c := A.sum k hk
  by_cases h1 : i k ∈ P <;> by_cases h2 : j k ∈ P <;> simp [h1, h2] <;> omega
theorem inside_eq {W R : Nat → Int} (A : Am m W R) {P : List Nat} (cl : ∀ x, x < 2 * m → src i j x ∈ P → 0 < R x → dst i j x ∈ P) : inside m i j W P = carryP m i j R P := by
  refine sumN_congr fun k hk => ?_
  have a := A.pos (2 * k) (by omega)
  have b := A.pos (2 * k + 1) (by omega)
  have c := A.sum k hk
  have d := cl (2 * k) (by omega)
  have e := cl (2 * k + 1) (by omega)
  rw [src_even, dst_even] at d
  rw [src_odd, dst_odd] at e
  by_cases h1 : i k ∈ P <;> by_cases h2 : j k ∈ P <;> simp [h1, h2] at d e ⊢ <;> omega
/-- no part weighs more than its rules carry at most -/
theorem part_le {W R : Nat → Int} (A : Am m W R) {P : List Nat} (nd : P.Nodup) {c : Int} (h : ∀ r ∈ P, carry m i j R r ≤ c) : inside m i j W P ≤ c * P.length := by
  refine Int.le_trans (inside_le A P) ?_
  rw [← carry_sum R nd]
  clear nd
  induction P with
  | nil => simp
  | cons r P ih =>
    have := ih fun q hq => h q (List.mem_cons_of_mem _ hq)
    have := h r List.mem_cons_self
    rw [List.map_cons, List.sum_cons, List.length_cons, Int.natCast_add, Int.mul_add]
    omega
/-- a closed set of rules weighs what it carries -/
theorem closed_gt {W R : Nat → Int} (A : Am m W R) {P : List Nat} (nd : P.Nodup) (cl : ∀ x, x < 2 * m → src i j x ∈ P → 0 < R x → dst i j x ∈ P) {c : Int} (h : ∀ r ∈ P, c ≤ carry m i j R r) {r0 : Nat} (h0 : r0 ∈ P) (h1 : c < carry m i j R r0) : c * P.length < inside m i j W P := by
  rw [inside_eq A cl, ← carry_sum R nd]
  clear nd cl
  have le : ∀ Q : List Nat, (∀ r ∈ Q, c ≤ carry m i j R r) → c * Q.length ≤ (Q.map (carry m i j R)).sum := fun Q => by
    induction Q with
    | nil => simp
    | cons r Q ih =>
      intro h
      have := ih fun q hq => h q (List.mem_cons_of_mem _ hq)
      have := h r List.mem_cons_self
      rw [List.map_cons, List.sum_cons, List.length_cons, Int.natCast_add, Int.mul_add]
      omega
  induction P with
  | nil => cases h0
  | cons r P ih =>
    rw [List.map_cons, List.sum_cons, List.length_cons, Int.natCast_add, Int.mul_add]
    rcases List.mem_cons.mp h0 with z | z
    · subst z
      have := le P fun q hq => h q (List.mem_cons_of_mem _ hq)
      omega
    · have := ih (fun q hq => h q (List.mem_cons_of_mem _ hq)) z
      have := h r List.mem_cons_self
      omega
/-- an amount taken from an arc to the arc back -/
def mv (R : Nat → Int) (x : Nat) (d : Int) : Nat → Int := fun a => if a = x then R a - d else if a = opp x then R a + d else R a
theorem mv_am {W R : Nat → Int} (A : Am m W R) {x : Nat} {d : Int} (hx : x < 2 * m) (d0 : 0 ≤ d) (dx : d ≤ R x) : Am m W (mv R x d) := by
  refine ⟨fun a ha => ?_, fun k hk => ?_⟩
  · have := A.pos a ha
    unfold mv
    split
    · rename_i h
      rw [h]
      omega
    · split <;> omega
  · have := A.sum k hk
    unfold mv opp
    rcases arc_cases x with ⟨y, rfl⟩ | ⟨y, rfl⟩
    · by_cases e : k = y
      · subst e
        simp
        omega
      · rw [if_neg (by omega), if_neg (by split <;> omega), if_neg (by omega), if_neg (by split <;> omega)]
        exact this
    · by_cases e : k = y
      · subst e
        simp
        omega
      · rw [if_neg (by omega), if_neg (by split <;> omega), if_neg (by omega), if_neg (by split <;> omega)]
        exact this
theorem mv_carry {R : Nat → Int} {x : Nat} {d : Int} (hx : x < 2 * m) (r : Nat) : carry m i j (mv R x d) r = carry m i j R r - (if src i j x = r then d else 0) + (if dst i j x = r then d else 0) := by
  unfold carry
  rcases arc_cases x with ⟨y, rfl⟩ | ⟨y, rfl⟩
  · rw [src_even, dst_even, sumN_one (k0 := y) (f := fun k => (if i k = r then R (2 * k) else 0) + (if j k = r then R (2 * k + 1) else 0)) (by omega) fun k hk ne => by
      show (if i k = r then mv R (2 * y) d (2 * k) else 0) + (if j k = r then mv R (2 * y) d (2 * k + 1) else 0) = _
      unfold mv opp
      rw [if_neg (show ¬ 2 * k = 2 * y by omega), if_pos (show 2 * y % 2 = 0 by omega), if_neg (show ¬ 2 * k = 2 * y + 1 by omega), if_neg (show ¬ 2 * k + 1 = 2 * y by omega), if_neg (show ¬ 2 * k + 1 = 2 * y + 1 by omega)]]
    have e1 : mv R (2 * y) d (2 * y) = R (2 * y) - d := if_pos rfl
    have e2 : mv R (2 * y) d (2 * y + 1) = R (2 * y + 1) + d := by
      unfold mv opp
      rw [if_neg (by omega), if_pos (by rw [if_pos (by omega)])]
    simp only [e1, e2]
    by_cases a : i y = r <;> by_cases b : j y = r <;> simp [a, b] <;> omega
  · rw [src_odd, dst_odd, sumN_one (k0 := y) (f := fun k => (if i k = r then R (2 * k) else 0) + (if j k = r then R (2 * k + 1) else 0)) (by omega) fun k hk ne => by
      show (if i k = r then mv R (2 * y + 1) d (2 * k) else 0) + (if j k = r then mv R (2 * y + 1) d (2 * k + 1) else 0) = _
      unfold mv opp
      rw [if_neg (show ¬ 2 * k = 2 * y + 1 by omega), if_neg (show ¬ (2 * y + 1) % 2 = 0 by omega), if_neg (show ¬ 2 * k = 2 * y + 1 - 1 by omega), if_neg (show ¬ 2 * k + 1 = 2 * y + 1 by omega), if_neg (show ¬ 2 * k + 1 = 2 * y + 1 - 1 by omega)]]
    have e1 : mv R (2 * y + 1) d (2 * y + 1) = R (2 * y + 1) - d := if_pos rfl
    have e2 : mv R (2 * y + 1) d (2 * y) = R (2 * y) + d := by
      unfold mv opp
      rw [if_neg (by omega), if_pos (by rw [if_neg (by omega)]; omega)]
    simp only [e1, e2]
    by_cases a : i y = r <;> by_cases b : j y = r <;> simp [a, b] <;> omega
/-- a way: arcs from a rule back to where it starts -/
inductive Way (i j : Nat → Nat) : Nat → List Nat → Nat → Prop
  | nil (r : Nat) : Way i j r [] r
  | cons {r s x : Nat} {xs : List Nat} : dst i j x = r → Way i j (src i j x) xs s → Way i j r (x :: xs) s
theorem Way.snoc {r s x : Nat} {xs : List Nat} (h : Way i j r xs s) (e : dst i j x = s) : Way i j r (xs ++ [x]) (src i j x) := by
  induction h with
  | nil r => exact .cons e (.nil _)
  | cons e' _ ih => exact .cons e' (ih e)
/-- an amount shifted along a way -/
def mvs (R : Nat → Int) (xs : List Nat) (d : Int) : Nat → Int := xs.foldl (fun R x => mv R x d) R
theorem mvs_carry {d : Int} : ∀ {xs : List Nat} {R : Nat → Int} {q s : Nat}, Way i j q xs s → (∀ x ∈ xs, x < 2 * m) → ∀ r, carry m i j (mvs R xs d) r = carry m i j R r - (if s = r then d else 0) + (if q = r then d else 0)
  | [], R, q, s, h, _, r => by
    cases h
    show carry m i j R r = _
    omega
  | x :: xs, R, q, s, h, lt, r => by
    cases h with
    | cons e h =>
      show carry m i j (mvs (mv R x d) xs d) r = _
      rw [mvs_carry h (fun y hy => lt y (List.mem_cons_of_mem _ hy)) r, mv_carry (lt x List.mem_cons_self), e]
      omega
theorem mv_other {R : Nat → Int} {x y : Nat} {d : Int} (d0 : 0 ≤ d) (ne : y ≠ x) : R y ≤ mv R x d y := by
  unfold mv
  rw [if_neg ne]
  split <;> omega
theorem mvs_am {W : Nat → Int} {d : Int} (d0 : 0 ≤ d) : ∀ {xs : List Nat} {R : Nat → Int}, Am m W R → xs.Nodup → (∀ x ∈ xs, x < 2 * m ∧ d ≤ R x) → Am m W (mvs R xs d)
  | [], R, A, _, _ => A
  | x :: xs, R, A, nd, h => by
    obtain ⟨n1, n2⟩ := List.nodup_cons.mp nd
    obtain ⟨lx, dx⟩ := h x List.mem_cons_self
    show Am m W (mvs (mv R x d) xs d)
    refine mvs_am d0 (mv_am A lx d0 dx) n2 fun y hy => ?_
    obtain ⟨ly, dy⟩ := h y (List.mem_cons_of_mem _ hy)
    exact ⟨ly, Int.le_trans dy (mv_other d0 fun z => n1 (z ▸ hy))⟩
end
end Fl

set_option Elab.async false
set_option linter.all false
set_option maxRecDepth 100000
set_option maxHeartbeats 1000000
/-! list(combinations(range(n), r)), one rule -/
namespace Cm
open PySem PySem.Spec PyProof.Rows

theorem owner_cm : Manifest.owners.lookup (String.ofList (['s', 'n', 'o', 'i', 't', 'a', 'n', 'i', 'b', 'm', 'o', 'c', '.', 's', 'l', 'o', 'o', 't', 'r', 'e', 't', 'i'] : List Char).reverse) = some Manifest.sig_itertools_combinations := by kernel_rfl
theorem slot_next : Slot "itertools.combinations" "__next__" "itertools.combinations.__next__" :=
  .of (owner := "itertools.combinations") (n := "__next__") (by rw [typeLookup_type, builtinLookup_eq_fast]; kernel_rfl) (by decide +kernel) (by decide +kernel) (by decide +kernel)
    (by first | exact .inl (by decide +kernel) | exact .inr (by decide +kernel)) (by rw [isSubtype_type]; kernel_rfl)
theorem entry_next : entryFor table "itertools.combinations.__next__" = some Builtin.«itertools.combinations.__next__» := entryFor_of_tree (by kernel_rfl)
theorem args_next (a : Value) : argsOk "itertools.combinations.__next__" ⟨[a], []⟩ := by
  unfold argsOk; rw [signature?_of (id := "itertools.combinations.__next__") (n := ['_', '_', 't', 'x', 'e', 'n', '_', '_']) (o := ['s', 'n', 'o', 'i', 't', 'a', 'n', 'i', 'b', 'm', 'o', 'c', '.', 's', 'l', 'o', 'o', 't', 'r', 'e', 't', 'i']) (by kernel_rfl) owner_cm]; kernel_rfl
theorem slot_iter : Slot "itertools.combinations" "__iter__" "itertools.combinations.__iter__" :=
  .of (owner := "itertools.combinations") (n := "__iter__") (by rw [typeLookup_type, builtinLookup_eq_fast]; kernel_rfl) (by decide +kernel) (by decide +kernel) (by decide +kernel)
    (by first | exact .inl (by decide +kernel) | exact .inr (by decide +kernel)) (by rw [isSubtype_type]; kernel_rfl)
theorem args_iter (a : Value) : argsOk "itertools.combinations.__iter__" ⟨[a], []⟩ := by
  unfold argsOk; rw [signature?_of (id := "itertools.combinations.__iter__") (n := ['_', '_', 'r', 'e', 't', 'i', '_', '_']) (o := ['s', 'n', 'o', 'i', 't', 'a', 'n', 'i', 'b', 'm', 'o', 'c', '.', 's', 'l', 'o', 'o', 't', 'r', 'e', 't', 'i']) (by kernel_rfl) owner_cm]; kernel_rfl
theorem entry_iter : entryFor table "itertools.combinations.__iter__" = some Builtin.«dict_keyiterator.__iter__» :=
  entryFor_alias (id' := "dict_keyiterator.__iter__") (by kernel_rfl) (by first | rfl | decide +kernel | (unfold String.splitOn; simp +decide [String.splitOnAux])) (by decide +kernel) (by kernel_rfl)
theorem slot_init : Slot "itertools.combinations" "__init__" "object.__init__" :=
  .of (owner := "object") (n := "__init__") (by rw [typeLookup_type, builtinLookup_eq_fast]; kernel_rfl) (by decide +kernel) (by decide +kernel) (by decide +kernel)
    (by first | exact .inl (by decide +kernel) | exact .inr (by decide +kernel)) (by rw [isSubtype_type]; kernel_rfl)
theorem mro_cm : mroOf (.type "itertools.combinations") = pure [.type "itertools.combinations", .type "object"] := by rw [mroOf_type]; kernel_rfl
theorem lookup_new : typeLookup (.type "itertools.combinations") "__new__" = pure (some (.builtin "itertools.combinations.__new__")) := by rw [typeLookup_type, builtinLookup_eq_fast]; kernel_rfl
theorem sub_cm : isSubtype (.type "itertools.combinations") (.type "itertools.combinations") = pure true := by rw [isSubtype_type]; kernel_rfl
theorem called_cm : TypeCalled "itertools.combinations" "itertools.combinations.__new__" "object.__init__" :=
  ⟨by decide +kernel, by decide +kernel, ⟨_, _, mro_cm⟩, madeBy_type mro_cm lookup_new (by decide +kernel), by decide +kernel, sub_cm, slot_init⟩
theorem typeCall_cm (a b : Value) : checkTypeCall "itertools.combinations" ⟨[a, b], []⟩ = pure () := by kernel_rfl
theorem newCall_cm (a b : Value) : checkBuiltinCall "itertools.combinations.__new__" ⟨[.type "itertools.combinations", a, b], []⟩ = pure () := by kernel_rfl
theorem entry_new : entryFor table "itertools.combinations.__new__" = some Builtin.«itertools.combinations.__new__» := entryFor_of_tree (by kernel_rfl)
theorem nolen : typeLookup (.type "itertools.combinations") "__len__" = pure none := by rw [typeLookup_type, builtinLookup_eq_fast]; kernel_rfl
theorem nohint : typeLookup (.type "itertools.combinations") "__length_hint__" = pure none := by rw [typeLookup_type, builtinLookup_eq_fast]; kernel_rfl
theorem classRest (a b : Value) : Builtin.Itertools.itClassAndRest "combinations" ⟨[.type "itertools.combinations", a, b], []⟩ = pure (.type "itertools.combinations", [a, b]) := by
  unfold Builtin.Itertools.itClassAndRest
  have e : ("itertools." ++ "combinations" : String) = "itertools.combinations" := by decide +kernel
  simp only [isType, e, sub_cm, pure_bind, Bool.not_true, Bool.false_eq_true, if_false]
theorem bindNamed (a b : Value) : Builtin.Itertools.itBindNamed "combinations" ["iterable", "r"] 2 2 [a, b] [] = pure [some a, some b] := by kernel_rfl
theorem noDict : typeHasDict (.type "itertools.combinations") = false := by kernel_rfl
end Cm

set_option Elab.async false
set_option linter.all false
set_option maxRecDepth 100000
set_option maxHeartbeats 1000000
namespace Cm
open PySem PySem.Spec PyProof.Rows
/-- the record: its pool at P, its state, the tuple handed out last, its places -/
abbrev IsCm (h : Heap) (c P : Addr) (st : Int) (last : Value) (ix : List Nat) : Prop :=
  h.get? c = some { cls := .type "itertools.combinations", dict := none, data := .fields ([Value.ref P, rawInt st, last] ++ ix.map fun (i : Nat) => rawInt i).toArray, slots := #[] }
abbrev cmP (h : Heap) (acc : Array Value) : Heap := h.push { cls := .type "tuple", data := .seq acc }
abbrev cmR (h : Heap) (acc : Array Value) (st : Int) (k : Nat) : Heap := (cmP h acc).push { cls := .type "itertools.combinations", dict := none, data := .fields ([Value.ref h.objs.size, rawInt st, .none] ++ (List.range k).map fun (i : Nat) => rawInt i).toArray, slots := #[] }
theorem ssize {k : Nat} {tk : Tok} (hk : k ≤ 2 ^ 20) : Builtin.Itertools.itSsizeArg (Value.int (k : Int) tk) = pure (k : Int) := by
  unfold Builtin.Itertools.itSsizeArg asIndex asInt?
  simp only [pure_bind]
  have e : (decide ((k : Int) < -(2 ^ 63 : Int)) || decide ((k : Int) ≥ 2 ^ 63)) = false := by
    rw [decide_eq_false (by omega), decide_eq_false (by omega)] <;> rfl
  rw [e]
  rfl
section
variable {prog : Program} {w : World} {A : Around} {E : Value → Shared → Prop} {s : Shared}
theorem new_cm {r : Addr} {a b : Int} {t u v tk : Tok} {n k : Nat} : MeetsIn prog w (Builtin.«itertools.combinations.__new__» ⟨[.type "itertools.combinations", .ref r, .int k tk], []⟩)
    (fun A R s => A.handled = none ∧ IsRange s.heap r a b 1 t u v ∧ Builtin.Range.small a b 1 = true ∧ Builtin.Range.rangeSize a b 1 = n ∧ n ≤ 2 ^ 20 ∧ k ≤ 2 ^ 20 ∧
      ∀ (h' : Heap) (tk : Nat) (acc : Array Value), (∀ b o, s.heap.get? b = some o → h'.get? b = some o) → ItemsOf (fun i v => ∃ t, v = .int (a + i * 1) t) acc n →
        R (.ok (.ret (.ref (h'.objs.size + 1)))) { s with heap := cmR h' acc (if k > n then 2 else 0) k, toks := tk }) := by
  rintro A R s ⟨hh, hr, hs, hn, hl, hk, hR⟩
  unfold Builtin.«itertools.combinations.__new__»
  refine wpAny_bind ?_
  refine wpAny_bind (wpAny_of_eq (classRest _ _) ?_)
  try dsimp only
  refine wpAny_bind (wpAny_of_eq (bindNamed _ _) ?_)
  try dsimp only
  refine wpAny_bind (wpAny_of_eq (ssize hk) ?_)
  try dsimp only
  refine wpAny_bind (L2.collect_range hh hr hs hn (by omega) fun h' tk' acc hkp hacc => ?_)
  rw [if_neg (by omega), if_neg (by unfold Builtin.Itertools.itTooMany; rw [decide_eq_false (by omega)]; exact Bool.false_ne_true)]
  have ln : acc.toList.length = n := by rw [Array.length_toList]; exact hacc.1
  refine wpAny_bind (wpAny_newTuple ?_ (by rw [ln, sizeLine_eq]; omega))
  refine wpAny_pure ?_
  try dsimp only
  refine wpAny_bind ?_
  unfold Builtin.Itertools.itNewRecord
  rw [noDict]
  rw [if_pos (show (!false) = true from rfl), Int.toNat_natCast, ln, Array.toArray_toList]
  refine wpAny_newObj_type ?_ ?_
  · refine wpAny_pure ?_
    have z := hR h' tk' acc hkp hacc
    have e1 : (cmP h' acc).objs.size = h'.objs.size + 1 := Heap.size_push ..
    rw [← e1] at z
    exact z
  · show _ ≤ _
    rw [List.size_toArray, List.length_append, List.length_map, List.length_range, sizeLine_eq]
    show 3 + k ≤ _
    omega
/-- combinations(a range, k) -/
theorem call_cm {r : Addr} {a b : Int} {t u v tk : Tok} {n k : Nat} {Q : Value → Shared → Prop} (hh : A.handled = none) (hr : IsRange s.heap r a b 1 t u v) (hs : Builtin.Range.small a b 1 = true) (hn : Builtin.Range.rangeSize a b 1 = n) (hl : n ≤ 2 ^ 20) (hk : k ≤ 2 ^ 20)
    (hQ : ∀ (h' : Heap) (tk : Nat) (acc : Array Value), (∀ b o, s.heap.get? b = some o → h'.get? b = some o) → ItemsOf (fun i v => ∃ t, v = .int (a + i * 1) t) acc n →
        Q (.ref (h'.objs.size + 1)) { s with heap := cmR h' acc (if k > n then 2 else 0) k, toks := tk }) :
    wpAny (model prog w) A (call (.type "itertools.combinations") [.ref r, .int k tk]) Q E s := by
  refine callType_newIn called_cm (by decide) (typeCall_cm _ _) (newCall_cm _ _) (fun obj => F.args_object_init_3 obj _ _) entry_new (new_cm (r := r) (a := a) (b := b) (t := t) (u := u) (v := v) (n := n)) ?_
  refine ⟨hh, hr, hs, hn, hl, hk, fun h' tk' acc hkp hacc => ?_⟩
  have e1 : (cmP h' acc).objs.size = h'.objs.size + 1 := Heap.size_push ..
  refine ⟨?_, hQ h' tk' acc hkp hacc⟩
  have z : IsCm (cmR h' acc (if k > n then 2 else 0) k) (cmP h' acc).objs.size h'.objs.size (if k > n then 2 else 0) .none (List.range k) := Heap.get?_push_size _ rfl
  rw [e1] at z
  exact ⟨_, z, rfl⟩
end
end Cm

set_option Elab.async false
set_option linter.all false
set_option maxRecDepth 100000
set_option maxHeartbeats 1000000
namespace Cm
open PySem PySem.Spec PyProof.Rows
def nextC (n : Nat) (ix : List Nat) : Option (List Nat) :=
  match (List.range ix.length).reverse.find? fun i => ix.getD i 0 != i + n - ix.length with
  | none => none
  | some i => some (ix.take i ++ (List.range (ix.length - i)).map (ix.getD i 0 + 1 + ·))
section
variable {prog : Program} {w : World} {A : Around} {E : Value → Shared → Prop} {s : Shared}
theorem numbers {c P : Addr} {st : Int} {last : Value} {ix : List Nat} {Q : List Nat → Shared → Prop} (hc : IsCm s.heap c P st last ix) (h : Q ix s) : wpAny (model prog w) A (Builtin.Itertools.itNumbersFrom (.ref c) 3) Q E s := by
  unfold Builtin.Itertools.itNumbersFrom
  refine wpAny_bind (wpAny_load hc ?_)
  refine wpAny_pure ?_
  have e : List.map (fun x : Value => match x with | .int n _ => n.toNat | _ => 0) (List.drop 3 ([Value.ref P, rawInt st, last] ++ ix.map fun (i : Nat) => rawInt i)) = ix := by
    show List.map _ (ix.map fun (i : Nat) => rawInt i) = ix
    rw [List.map_map]
    refine (List.map_congr_left fun i _ => ?_).trans (List.map_id ix)
    show (i : Int).toNat = i
    omega
  exact e.symm ▸ h
theorem intField {c P : Addr} {st : Int} {last : Value} {ix : List Nat} {Q : Int → Shared → Prop} (hc : IsCm s.heap c P st last ix) (h : Q st s) : wpAny (model prog w) A (Builtin.Itertools.itIntField (.ref c) 1) Q E s := by
  unfold Builtin.Itertools.itIntField
  refine wpAny_bind (wpAny_field hc rfl (x := rawInt st) rfl ?_)
  exact wpAny_pure h
theorem pool {P : Addr} {po : Obj} {its : Array Value} {pn : Nat} {Q : Array Value → Shared → Prop} (hp : s.heap.get? P = some po) (hpd : po.data = .seq its pn) (h : Q its s) : wpAny (model prog w) A (Builtin.Itertools.itPoolItems (.ref P)) Q E s := by
  unfold Builtin.Itertools.itPoolItems
  refine wpAny_bind (wpAny_seqItems hp hpd ?_)
  exact wpAny_pure h
theorem hand {c P : Addr} {last : Value} {ix : List Nat} {its : Array Value} {po : Obj} {pn : Nat} {Q : Value → Shared → Prop} (hc : IsCm s.heap c P 1 last ix) (hp : s.heap.get? P = some po) (hpd : po.data = .seq its pn)
    (hQ : ∀ h', IsCm h' c P 1 (.ref s.heap.objs.size) ix → h'.get? s.heap.objs.size = some { cls := .type "tuple", data := .seq (ix.map fun i => its.getD i .none).toArray } → h'.objs.size = s.heap.objs.size + 1 →
      (∀ b o, b ≠ c → s.heap.get? b = some o → h'.get? b = some o) → Q (.ref s.heap.objs.size) { s with heap := h' }) (sz : ix.length ≤ 1000) :
    wpAny (model prog w) A ((Builtin.Itertools.itPoolItems (.ref P) >>= fun items => newTuple (ix.map fun i => items.getD i .none)) >>= fun result => field (.ref c) 2 >>= fun before => setField (.ref c) 2 result >>= fun _ => letGo [before] [result] >>= fun _ => ret result)
      (fun fin s' => ∃ v, fin = .done (.ret v) ∧ Q v s') E s := by
  refine wpAny_bind (wpAny_bind (pool hp hpd (wpAny_newTuple ?_ (by rw [List.length_map, sizeLine_eq]; omega))))
  have hlt : c < s.heap.objs.size := Heap.lt_size hc
  have hc1 : IsCm (s.heap.push { cls := .type "tuple", data := .seq (ix.map fun i => its.getD i .none).toArray }) c P 1 last ix := Heap.get?_push_of_some _ hc
  refine wpAny_bind (wpAny_field hc1 rfl (x := last) rfl ?_)
  refine wpAny_bind (wpAny_setField hc1 rfl (by show 2 < _; rw [List.size_toArray, List.length_append]; show 2 < 3 + _; omega) ?_)
  refine wpAny_bind (wpAny_letGo ?_)
  have hs := Heap.get?_update_self (Obj.mapFields (·.setIfInBounds 2 (Value.ref s.heap.objs.size))) hc1 rfl
  refine wpAny_pure ⟨_, rfl, hQ _ ?_ ?_ ?_ fun b o hb e => ?_⟩
  · refine hs.trans ?_
    show some (Obj.mk _ _ _ _) = _
    congr 2
  · exact (Heap.get?_update_other _ _ (Nat.ne_of_lt hlt)).trans (Heap.get?_push_size _ rfl)
  · exact (Heap.size_update ..).trans (Heap.size_push ..)
  · exact (Heap.get?_update_other _ _ (Ne.symm hb)).trans (Heap.get?_push_of_some _ e)
theorem state_1 {c P : Addr} {st st' : Int} {last : Value} {ix : List Nat} {po : Obj} {h : Heap} (hc : IsCm h c P st last ix) (hp : h.get? P = some po) (hne : P ≠ c) (_ : True) :
    IsCm (h.update c (Obj.mapFields (·.setIfInBounds 1 (rawInt st')))) c P st' last ix ∧ (h.update c (Obj.mapFields (·.setIfInBounds 1 (rawInt st')))).get? P = some po ∧ (h.update c (Obj.mapFields (·.setIfInBounds 1 (rawInt st')))).objs.size = h.objs.size ∧
    ∀ b o, b ≠ c → h.get? b = some o → (h.update c (Obj.mapFields (·.setIfInBounds 1 (rawInt st')))).get? b = some o := by
  have hs := Heap.get?_update_self (Obj.mapFields (·.setIfInBounds 1 (rawInt st'))) hc rfl
  refine ⟨?_, (Heap.get?_update_other _ _ hne.symm).trans hp, Heap.size_update .., fun b o hb e => (Heap.get?_update_other _ _ (Ne.symm hb)).trans e⟩
  refine hs.trans ?_
  show some (Obj.mk _ _ _ _) = _
  congr 2
theorem numbers_1 {c P : Addr} {st : Int} {last : Value} {ix ix' : List Nat} {po : Obj} {h : Heap} (hc : IsCm h c P st last ix) (hp : h.get? P = some po) (hne : P ≠ c) :
    IsCm (h.update c (Obj.mapFields (fun fs => fs.extract 0 3 ++ (ix'.map fun (n : Nat) => rawInt n).toArray))) c P st last ix' ∧ (h.update c (Obj.mapFields (fun fs => fs.extract 0 3 ++ (ix'.map fun (n : Nat) => rawInt n).toArray))).get? P = some po ∧
    (h.update c (Obj.mapFields (fun fs => fs.extract 0 3 ++ (ix'.map fun (n : Nat) => rawInt n).toArray))).objs.size = h.objs.size ∧
    ∀ b o, b ≠ c → h.get? b = some o → (h.update c (Obj.mapFields (fun fs => fs.extract 0 3 ++ (ix'.map fun (n : Nat) => rawInt n).toArray))).get? b = some o := by
  have hs := Heap.get?_update_self (Obj.mapFields (fun fs => fs.extract 0 3 ++ (ix'.map fun (n : Nat) => rawInt n).toArray)) hc rfl
  refine ⟨?_, (Heap.get?_update_other _ _ hne.symm).trans hp, Heap.size_update .., fun b o hb e => (Heap.get?_update_other _ _ (Ne.symm hb)).trans e⟩
  refine hs.trans ?_
  show some (Obj.mk _ _ _ _) = _
  congr 2
  show Data.fields (Array.extract _ _ _ ++ _) = _
  rw [List.extract_toArray, List.append_toArray]
  rfl
theorem next_0 {c P : Addr} {last : Value} {ix : List Nat} {its : Array Value} {po : Obj} {pn : Nat} {Q : Value → Shared → Prop} (hc : IsCm s.heap c P 0 last ix) (hp : s.heap.get? P = some po) (hpd : po.data = .seq its pn) (hne : P ≠ c)
    (hQ : ∀ h', IsCm h' c P 1 (.ref s.heap.objs.size) ix → h'.get? s.heap.objs.size = some { cls := .type "tuple", data := .seq (ix.map fun i => its.getD i .none).toArray } → h'.objs.size = s.heap.objs.size + 1 →
      (∀ b o, b ≠ c → s.heap.get? b = some o → h'.get? b = some o) → Q (.ref s.heap.objs.size) { s with heap := h' }) (sz : ix.length ≤ 1000) :
    wpAny (model prog w) A (Builtin.«itertools.combinations.__next__» ⟨[.ref c], []⟩) (fun fin s' => ∃ v, fin = .done (.ret v) ∧ Q v s') E s := by
  show wpAny _ _ (field (.ref c) 0 >>= _) _ _ _
  refine wpAny_bind (wpAny_field hc rfl (x := .ref P) rfl ?_)
  show wpAny _ _ (Builtin.Itertools.itNumbersFrom (.ref c) 3 >>= _) _ _ _
  refine wpAny_bind (numbers hc ?_)
  refine wpAny_bind (intField hc ?_)
  show wpAny _ _ (setField (.ref c) 1 (rawInt 1) >>= _) _ _ _
  refine wpAny_bind (wpAny_setField hc rfl (by show 1 < _; rw [List.size_toArray, List.length_append]; show 1 < 3 + _; omega) ?_)
  obtain ⟨hc1, hp1, sz1, kp1⟩ := state_1 (P := P) (st' := 1) hc hp hne trivial
  generalize s.heap.update c (Obj.mapFields (·.setIfInBounds 1 (rawInt 1))) = h1 at *
  refine hand (s := { s with heap := h1 }) hc1 hp1 hpd (fun h' a1 a2 a3 a4 => ?_) sz
  dsimp only at a1 a2 a3 a4 ⊢
  rw [sz1] at *
  exact hQ h' a1 a2 a3 fun b o hb e => a4 b o hb (kp1 b o hb e)
theorem next_1 {c P : Addr} {last : Value} {ix ix' : List Nat} {its : Array Value} {po : Obj} {pn : Nat} {Q : Value → Shared → Prop} (hc : IsCm s.heap c P 1 last ix) (hp : s.heap.get? P = some po) (hpd : po.data = .seq its pn) (hne : P ≠ c) (hx : nextC its.size ix = some ix')
    (hQ : ∀ h', IsCm h' c P 1 (.ref s.heap.objs.size) ix' → h'.get? s.heap.objs.size = some { cls := .type "tuple", data := .seq (ix'.map fun i => its.getD i .none).toArray } → h'.objs.size = s.heap.objs.size + 1 →
      (∀ b o, b ≠ c → s.heap.get? b = some o → h'.get? b = some o) → Q (.ref s.heap.objs.size) { s with heap := h' }) (sz : ix.length ≤ 1000) (sz' : ix'.length ≤ 1000) :
    wpAny (model prog w) A (Builtin.«itertools.combinations.__next__» ⟨[.ref c], []⟩) (fun fin s' => ∃ v, fin = .done (.ret v) ∧ Q v s') E s := by
  show wpAny _ _ (field (.ref c) 0 >>= _) _ _ _
  refine wpAny_bind (wpAny_field hc rfl (x := .ref P) rfl ?_)
  show wpAny _ _ (Builtin.Itertools.itNumbersFrom (.ref c) 3 >>= _) _ _ _
  refine wpAny_bind (numbers hc ?_)
  refine wpAny_bind (intField hc ?_)
  show wpAny _ _ (Builtin.Itertools.itPoolItems (.ref P) >>= _) _ _ _
  refine wpAny_bind (pool hp hpd ?_)
  show wpAny _ _ (match nextC its.size ix with | some next => _ | none => _) _ _ _
  rw [hx]
  show wpAny _ _ (Builtin.Itertools.itSetNumbersFrom (.ref c) 3 ix' >>= _) _ _ _
  obtain ⟨hs, hp1, sz1, kp1⟩ := numbers_1 (P := P) (ix' := ix') hc hp hne
  refine wpAny_bind ?_
  unfold Builtin.Itertools.itSetNumbersFrom
  refine wpAny_updateFields hc rfl ?_ ?_
  · generalize s.heap.update c (Obj.mapFields _) = h1 at *
    refine hand (s := { s with heap := h1 }) hs hp1 hpd (fun h' a1 a2 a3 a4 => ?_) sz'
    dsimp only at a1 a2 a3 a4 ⊢
    rw [sz1] at *
    exact hQ h' a1 a2 a3 fun b o hb e => a4 b o hb (kp1 b o hb e)
  · rw [List.extract_toArray, List.append_toArray, List.size_toArray, List.length_append, List.length_map, sizeLine_eq]
    have e : (List.extract ([Value.ref P, rawInt 1, last] ++ List.map (fun (i : Nat) => rawInt ↑i) ix) 0 3).length = 3 := rfl
    rw [e]
    omega
/-- nothing more: StopIteration -/
theorem stops {Q : Option Value → Shared → Prop} (hh : A.handled = none) (h : ∀ h', (∀ b o, s.heap.get? b = some o → h'.get? b = some o) → Q none { s with heap := h' }) (R : Fin → Shared → Prop) :
    wpAny (model prog w) A.in1 (Builtin.Itertools.itStop : Sem Fin) R (fun e s' => wpAny (model prog w) A (do if (← isInstance e (.type "StopIteration")) then pure none else throw e) Q E s') s := by
  unfold Builtin.Itertools.itStop
  refine wpAny_bind ?_
  simp only [newExc, newTuple]
  refine wpAny_bind (wpAny_newObj_type ?_ (by size_fits))
  refine wpAny_bind (m := firstArgMember _ _) (wpAny_of_eq (a := Value.none) (by first | rfl | (simp only [firstArgMember]; rfl)) ?_)
  refine wpAny_newObj_type ?_ (by size_fits)
  simp only [raiseNew]
  refine wpAny_bind (wpAny_handled ?_)
  rw [show A.in1.handled = none from hh]
  refine wpAny_bind (wpAny_pure (wpAny_throw ?_))
  refine wpAny_bind (wpAny_isInstance (T := "StopIteration") (b := true) ⟨_, Heap.get?_push_size _ rfl, rfl⟩ isSubtype_stop ?_)
  exact wpAny_pure (h _ fun b o e => Heap.get?_push_of_some _ (Heap.get?_push_of_some _ e))
end
end Cm

set_option Elab.async false
set_option linter.all false
set_option maxRecDepth 100000
set_option maxHeartbeats 1000000
namespace Cm
open PySem PySem.Spec PyProof.Rows
section
variable {prog : Program} {w : World} {A : Around} {E : Value → Shared → Prop} {s : Shared}
theorem IsCm.ty {c P : Addr} {st : Int} {last : Value} {ix : List Nat} (hc : IsCm s.heap c P st last ix) : s.TypeIs (.ref c) "itertools.combinations" := ⟨_, hc, rfl⟩
/-- the next lot is handed out in a new tuple -/
theorem py_item {c P : Addr} {st : Int} {last : Value} {ix ix' : List Nat} {its : Array Value} {po : Obj} {pn : Nat} {Q : Option Value → Shared → Prop} (hc : IsCm s.heap c P st last ix) (hp : s.heap.get? P = some po) (hpd : po.data = .seq its pn) (hne : P ≠ c)
    (hx : st = 0 ∧ ix' = ix ∨ st = 1 ∧ nextC its.size ix = some ix')
    (hQ : ∀ h', IsCm h' c P 1 (.ref s.heap.objs.size) ix' → h'.get? s.heap.objs.size = some { cls := .type "tuple", data := .seq (ix'.map fun i => its.getD i .none).toArray } → h'.objs.size = s.heap.objs.size + 1 →
      (∀ b o, b ≠ c → s.heap.get? b = some o → h'.get? b = some o) → Q (some (.ref s.heap.objs.size)) { s with heap := h' }) (sz : ix.length ≤ 1000) (sz' : ix'.length ≤ 1000) :
    wpAny (model prog w) A (pyNext (.ref c)) Q E s := by
  unfold pyNext
  refine wpAny_bind (wpAny_attempt (wpAny_callSpecial?_slot (name := Str.ofString "__next__") (IsCm.ty hc) slot_next
    (wpAny_call_entry slot_next (IsCm.ty hc) entry_next ?_ (args_next _))))
  rcases hx with ⟨rfl, rfl⟩ | ⟨rfl, hx⟩
  · exact next_0 hc hp hpd hne (fun h' a1 a2 a3 a4 => wpAny_pure (hQ h' a1 a2 a3 a4)) sz
  · exact next_1 hc hp hpd hne hx (fun h' a1 a2 a3 a4 => wpAny_pure (hQ h' a1 a2 a3 a4)) sz sz'
theorem py_end {c P : Addr} {st : Int} {last : Value} {ix : List Nat} {its : Array Value} {po : Obj} {pn : Nat} {Q : Option Value → Shared → Prop} (hh : A.handled = none) (hc : IsCm s.heap c P st last ix) (hp : s.heap.get? P = some po) (hpd : po.data = .seq its pn) (hne : P ≠ c)
    (hx : st = 2 ∨ st = 1 ∧ nextC its.size ix = none)
    (hQ : ∀ h', (∀ b o, b ≠ c → s.heap.get? b = some o → h'.get? b = some o) → (∃ o, h'.get? c = some o) → Q none { s with heap := h' }) :
    wpAny (model prog w) A (pyNext (.ref c)) Q E s := by
  unfold pyNext
  refine wpAny_bind (wpAny_attempt (wpAny_callSpecial?_slot (name := Str.ofString "__next__") (IsCm.ty hc) slot_next
    (wpAny_call_entry slot_next (IsCm.ty hc) entry_next ?_ (args_next _))))
  show wpAny _ _ (field (.ref c) 0 >>= _) _ _ _
  refine wpAny_bind (wpAny_field hc rfl (x := .ref P) rfl ?_)
  show wpAny _ _ (Builtin.Itertools.itNumbersFrom (.ref c) 3 >>= _) _ _ _
  refine wpAny_bind (numbers hc ?_)
  refine wpAny_bind (intField hc ?_)
  rcases hx with rfl | ⟨rfl, hx⟩
  · show wpAny _ _ (rule _ >>= _) _ _ _
    refine wpAny_bind (wpAny_rule ?_)
    exact stops hh (fun h' hk => hQ h' (fun b o _ e => hk b o e) ⟨_, hk _ _ hc⟩) _
  · show wpAny _ _ (Builtin.Itertools.itPoolItems (.ref P) >>= _) _ _ _
    refine wpAny_bind (pool hp hpd ?_)
    show wpAny _ _ (match nextC its.size ix with | some next => _ | none => _) _ _ _
    rw [hx]
    show wpAny _ _ (setField (.ref c) 1 (rawInt 2) >>= _) _ _ _
    refine wpAny_bind (wpAny_setField hc rfl (by show 1 < _; rw [List.size_toArray, List.length_append]; show 1 < 3 + _; omega) ?_)
    obtain ⟨hc1, hp1, sz1, kp1⟩ := state_1 (P := P) (st' := 2) hc hp hne trivial
    generalize s.heap.update c (Obj.mapFields (·.setIfInBounds 1 (rawInt 2))) = h1 at *
    exact stops (s := { s with heap := h1 }) hh (fun h' hk => hQ h' (fun b o hb e => hk b o (kp1 b o hb e)) ⟨_, hk _ _ hc1⟩) _
theorem py_iter {c P : Addr} {st : Int} {last : Value} {ix : List Nat} {Q : Value → Shared → Prop} (hc : IsCm s.heap c P st last ix) (h : Q (.ref c) s) : wpAny (model prog w) A (pyIter (.ref c)) Q E s := by
  have hT := IsCm.ty hc
  refine wpAny_pyIter_slot hT slot_iter (wpAny_call_entry slot_iter hT entry_iter ?_ (args_iter _))
  show wpAny _ _ (ret (.ref c)) _ _ s
  exact wpAny_pure ⟨_, rfl, _, _, hT, slot_next.lookup, h⟩
end
end Cm

set_option Elab.async false
set_option linter.all false
set_option maxRecDepth 100000
set_option maxHeartbeats 1000000
namespace Cm
open PySem PySem.Spec PyProof.Rows
/-- the lots that are handed out, one behind the other -/
structure Chain (n k : Nat) (ls : List (List Nat)) : Prop where
  first : n < k ∧ ls = [] ∨ k ≤ n ∧ ls[0]? = some (List.range k)
  next : ∀ i ix, ls[i]? = some ix → ls[i + 1]? = nextC n ix
  len : ∀ ix ∈ ls, ix.length ≤ 1000
  few : ls.length ≤ sizeLine
def CmSt (ls : List (List Nat)) (n k : Nat) (h : Heap) (c P : Addr) (i : Nat) : Prop :=
  (i = 0 ∧ IsCm h c P (if k > n then 2 else 0) .none (List.range k)) ∨ ∃ j ix last, i = j + 1 ∧ ls[j]? = some ix ∧ IsCm h c P 1 last ix
theorem CmSt.keep {ls : List (List Nat)} {n k : Nat} {h h' : Heap} {c P S : Addr} {i : Nat} (x : CmSt ls n k h c P i) (hk : ∀ b o, b ≠ S → h.get? b = some o → h'.get? b = some o) (hc : c ≠ S) : CmSt ls n k h' c P i := by
  rcases x with ⟨e, hx⟩ | ⟨j, ix, last, e, e2, hx⟩
  · exact .inl ⟨e, hk _ _ hc hx⟩
  · exact .inr ⟨j, ix, last, e, e2, hk _ _ hc hx⟩
theorem CmSt.there {ls : List (List Nat)} {n k : Nat} {h : Heap} {c P : Addr} {i : Nat} (x : CmSt ls n k h c P i) : ∃ o : Obj, h.get? c = some o ∧ o.cls = .type "itertools.combinations" := by
  rcases x with ⟨e, hx⟩ | ⟨j, ix, last, e, e2, hx⟩
  · exact ⟨_, hx, rfl⟩
  · exact ⟨_, hx, rfl⟩
structure CG (its : Array Value) (ls : List (List Nat)) (lo : Addr) (h : Heap) (as : List Addr) : Prop where
  rise : as.Pairwise (· < ·)
  above : ∀ a ∈ as, lo < a
  got : ∀ (j : Nat) (a : Addr), as[j]? = some a → ∃ ix, ls[j]? = some ix ∧ h.get? a = some { cls := .type "tuple", data := .seq (ix.map fun i => its.getD i .none).toArray }
theorem CG.there {its : Array Value} {ls : List (List Nat)} {lo : Addr} {h : Heap} {as : List Addr} (g : CG its ls lo h as) {a : Addr} (ha : a ∈ as) : a < h.objs.size := by
  obtain ⟨j, hj⟩ := List.mem_iff_getElem?.mp ha
  obtain ⟨_, _, e⟩ := g.got j a hj
  exact Heap.lt_size e
section
variable {prog : Program} {w : World} {A : Around} {E : Value → Shared → Prop} {s : Shared} {R : Result → Shared → Prop} {ls : List (List Nat)} {n k : Nat} {its : Array Value} {po : Obj} {pn : Nat}
theorem st_item {c P : Addr} {i : Nat} {ix' : List Nat} {Q : Option Value → Shared → Prop} (C : Chain n k ls) (hn : its.size = n) (st : CmSt ls n k s.heap c P i) (hp : s.heap.get? P = some po) (hpd : po.data = .seq its pn) (hne : P ≠ c) (hx : ls[i]? = some ix')
    (hQ : ∀ h', CmSt ls n k h' c P (i + 1) → h'.get? s.heap.objs.size = some { cls := .type "tuple", data := .seq (ix'.map fun i => its.getD i .none).toArray } → h'.objs.size = s.heap.objs.size + 1 →
      (∀ b o, b ≠ c → s.heap.get? b = some o → h'.get? b = some o) → Q (some (.ref s.heap.objs.size)) { s with heap := h' }) : wpAny (model prog w) A (pyNext (.ref c)) Q E s := by
  have hl' := C.len _ (List.mem_of_getElem? hx)
  rcases st with ⟨rfl, h0⟩ | ⟨j, ix, last, rfl, hj, h1⟩
  · rcases C.first with ⟨_, e⟩ | ⟨hk, e⟩
    · rw [e] at hx; cases hx
    · rw [e] at hx
      cases hx
      rw [if_neg (by omega)] at h0
      exact py_item h0 hp hpd hne (.inl ⟨rfl, rfl⟩) (fun h' a1 a2 a3 a4 => hQ h' (.inr ⟨0, _, _, rfl, e, a1⟩) a2 a3 a4) hl' hl'
  · have z := C.next j ix hj
    rw [hx] at z
    exact py_item h1 hp hpd hne (.inr ⟨rfl, by rw [hn]; exact z.symm⟩) (fun h' a1 a2 a3 a4 => hQ h' (.inr ⟨j + 1, _, _, rfl, hx, a1⟩) a2 a3 a4) (C.len _ (List.mem_of_getElem? hj)) hl'
theorem st_done {c P : Addr} {i : Nat} {Q : Option Value → Shared → Prop} (hh : A.handled = none) (C : Chain n k ls) (hn : its.size = n) (st : CmSt ls n k s.heap c P i) (hp : s.heap.get? P = some po) (hpd : po.data = .seq its pn) (hne : P ≠ c) (hx : ls[i]? = none)
    (hQ : ∀ h', (∀ b o, b ≠ c → s.heap.get? b = some o → h'.get? b = some o) → (∃ o, h'.get? c = some o) → Q none { s with heap := h' }) : wpAny (model prog w) A (pyNext (.ref c)) Q E s := by
  rcases st with ⟨rfl, h0⟩ | ⟨j, ix, last, rfl, hj, h1⟩
  · rcases C.first with ⟨hk, e⟩ | ⟨hk, e⟩
    · rw [if_pos (by omega)] at h0
      exact py_end hh h0 hp hpd hne (.inl rfl) hQ
    · rw [e] at hx; cases hx
  · have z := C.next j ix hj
    rw [hx] at z
    exact py_end hh h1 hp hpd hne (.inr ⟨rfl, by rw [hn]; exact z.symm⟩) hQ
theorem cm_loop {S c P : Addr} (hh : A.handled = none) (C : Chain n k ls) (hn : its.size = n) (hSc : c < S) (hSP : P < c) (hpd : po.data = .seq its pn) (res : Value) {h₁ : Heap}
    (hR : ∀ h' tk acc cc as, (∀ b o, b ≠ S → b ≠ c → h₁.get? b = some o → h'.get? b = some o) → (∃ o, h'.get? c = some o) → h'.get? S = some { cls := .type "list", dict := none, data := .seq acc cc, slots := #[] } → as.length = ls.length → CG its ls S h' as →
      acc.toList = as.map Value.ref → R (.ok (.ret res)) { s with heap := h', toks := tk }) :
    ∀ (m i : Nat) (h : Heap) (tk cc : Nat) (acc : Array Value) (as : List Addr), ls.length - i = m → i ≤ ls.length → CmSt ls n k h c P i → h.get? P = some po → (∀ b o, b ≠ S → b ≠ c → h₁.get? b = some o → h.get? b = some o) →
      h.get? S = some { cls := .type "list", dict := none, data := .seq acc cc, slots := #[] } → acc.toList = as.map Value.ref → as.length = i → CG its ls S h as →
      codeAny (model prog w) A (.builtin "list.extend.loop" ⟨[.ref S, .ref c, res], []⟩) R { s with heap := h, toks := tk } := by
  have hne : S ≠ c := Nat.ne_of_gt hSc
  have hPc : P ≠ c := Nat.ne_of_lt hSP
  have hPS : P ≠ S := Nat.ne_of_lt (Nat.lt_trans hSP hSc)
  have few := C.few
  intro m
  induction m with
  | zero =>
    intro i h tk cc acc as hk hi hst hP hkeep hS hacc hal hG
    have hin : i = ls.length := by omega
    refine codeAny_builtin PySem.F.entry_extend_loop ?_
    rw [Around.under_plainId PySem.F.plain_extend_loop _]
    show wpAny _ A.in1 (pyNext (.ref c) >>= _) _ _ _
    refine wpAny_bind (st_done (s := { s with heap := h, toks := tk }) (A := A.in1) hh C hn hst hP hpd hPc (List.getElem?_eq_none (by omega)) fun h' he hec => ?_)
    refine wpAny_pure (hR h' tk acc cc as (fun b o h1 h2 e => he b o h2 (hkeep b o h1 h2 e)) hec (he S _ hne hS) (by omega) ⟨hG.rise, hG.above, fun j a hj => ?_⟩ hacc)
    obtain ⟨ix, e1, e3⟩ := hG.got j a hj
    exact ⟨ix, e1, he a _ (Nat.ne_of_gt (Nat.lt_trans hSc (hG.above a (List.mem_of_getElem? hj)))) e3⟩
  | succ m ih =>
    intro i h tk cc acc as hk hi hst hP hkeep hS hacc hal hG
    have hlt : i < ls.length := by omega
    obtain ⟨ix, hx⟩ : ∃ p, ls[i]? = some p := ⟨ls[i], List.getElem?_eq_getElem hlt⟩
    have hsz : acc.size = i := by rw [← Array.length_toList, hacc, List.length_map, hal]
    refine codeAny_builtin PySem.F.entry_extend_loop ?_
    rw [Around.under_plainId PySem.F.plain_extend_loop _]
    show wpAny _ A.in1 (pyNext (.ref c) >>= _) _ _ _
    refine wpAny_bind (st_item (s := { s with heap := h, toks := tk }) (A := A.in1) C hn hst hP hpd hPc hx fun h' hst' ht hz hkp => ?_)
    dsimp only at ht hz hkp ⊢
    have hS' := hkp S _ hne hS
    have up : ∀ b o, b ≠ S → h'.get? b = some o → (h'.update S (Obj.mapSeq (·.push (Value.ref h.objs.size)))).get? b = some o := fun b o hb e => (Heap.get?_update_other _ _ (Ne.symm hb)).trans e
    have hSl : S < h.objs.size := Heap.lt_size hS
    show wpAny _ A.in1 (updateSeq S (·.push (Value.ref h.objs.size)) >>= _) _ _ _
    refine wpAny_bind ?_
    refine wpAny_updateSeq hS' rfl (wpAny_pure ⟨plainId_quiet PySem.F.plain_extend_loop _, ih (i + 1) _ tk _ (acc.push (Value.ref h.objs.size)) (as ++ [h.objs.size]) (by omega) hlt (hst'.keep up hne.symm) (up P _ hPS (hkp P _ hPc hP))
      (fun b o h1 h2 e => up b o h1 (hkp b o h2 (hkeep b o h1 h2 e))) (Heap.get?_update_self _ hS' rfl) (by rw [Array.toList_push, hacc, List.map_append]; rfl) (by rw [List.length_append, hal]; rfl) ⟨?_, ?_, ?_⟩⟩) (by rw [hsz]; omega) (by show (acc.push (Value.ref h.objs.size)).size ≤ sizeLine + 1; rw [Array.size_push, hsz]; omega)
    · refine List.pairwise_append.mpr ⟨hG.rise, List.pairwise_singleton _ _, fun a ha b hb => ?_⟩
      rw [List.mem_singleton.mp hb]
      exact hG.there ha
    · intro a ha
      rcases List.mem_append.mp ha with ha | ha
      · exact hG.above a ha
      · rw [List.mem_singleton.mp ha]; exact hSl
    · intro j b hj
      rcases Nat.lt_trichotomy j as.length with h1 | h1 | h1
      · rw [List.getElem?_append_left h1] at hj
        obtain ⟨ix', e1, e3⟩ := hG.got j b hj
        have hb := hG.above b (List.mem_of_getElem? hj)
        exact ⟨ix', e1, up b _ (Nat.ne_of_gt hb) (hkp b _ (Nat.ne_of_gt (Nat.lt_trans hSc hb)) e3)⟩
      · subst h1
        have hb : h.objs.size = b := by simpa using hj
        subst hb
        exact ⟨ix, by rw [hal]; exact hx, up _ _ (Nat.ne_of_gt hSl) ht⟩
      · have hnone : (as ++ [h.objs.size])[j]? = none := List.getElem?_eq_none (by rw [List.length_append, List.length_singleton]; omega)
        rw [hnone] at hj; cases hj
end
end Cm

set_option Elab.async false
set_option linter.all false
set_option maxRecDepth 100000
set_option maxHeartbeats 1000000
namespace Cm
open PySem PySem.Spec PyProof.Rows
section
variable {prog : Program} {w : World} {A : Around} {E : Value → Shared → Prop} {s : Shared} {ls : List (List Nat)} {n k : Nat} {its : Array Value} {po : Obj} {pn : Nat} {c P : Addr}
theorem cm_extend {R : Result → Shared → Prop} (hh : A.handled = none) (C : Chain n k ls) (hn : its.size = n) (st : CmSt ls n k s.heap c P 0) (hP : s.heap.get? P = some po) (hpd : po.data = .seq its pn) (hSP : P < c) (S : Addr) (hSc : c < S) (res : Value) (c₀ : Nat) (hS : s.heap.get? S = some { cls := .type "list", data := .seq #[] c₀ })
    (hR : ∀ h' tk acc cc as, (∀ b o, b ≠ S → b ≠ c → s.heap.get? b = some o → h'.get? b = some o) → (∃ o, h'.get? c = some o) → h'.get? S = some { cls := .type "list", dict := none, data := .seq acc cc, slots := #[] } → as.length = ls.length → CG its ls S h' as →
      acc.toList = as.map Value.ref → R (.ok (.ret res)) { s with heap := h', toks := tk }) :
    wpAny (model prog w) A.in1 (Builtin.List.listExtendWith (.ref S) (.ref c) res)
      (fun fin s' => match fin with | .done f => R (.ok f) s' | .again c' => c'.quiet = true ∧ codeAny (model prog w) A c' R s') (fun e s' => R (.error e) s') s := by
  have hPS : P ≠ S := Nat.ne_of_lt (Nat.lt_trans hSP hSc)
  have key : ∀ (h : Heap) (c₁ tk : Nat), (∀ b o, b ≠ S → s.heap.get? b = some o → h.get? b = some o) →
      h.get? S = some { cls := .type "list", data := .seq #[] c₁ } → codeAny (model prog w) A (.builtin "list.extend.loop" ⟨[.ref S, .ref c, res], []⟩) R { s with heap := h, toks := tk } := by
    intro h c₁ tk hk hS₁
    exact cm_loop (s := s) (h₁ := s.heap) hh C hn hSc hSP hpd res hR ls.length 0 h tk c₁ #[] [] (Nat.sub_zero _) (Nat.zero_le _) (st.keep hk (Nat.ne_of_lt hSc)) (hk P _ hPS hP) (fun b o hb _ e => hk b o hb e) hS₁ rfl rfl
      ⟨List.Pairwise.nil, (fun _ ha => nomatch ha), (fun j a hj => by simp at hj)⟩
  have hT : s.TypeIs (.ref c) "itertools.combinations" := by
    obtain ⟨o, e1, e2⟩ := st.there
    exact ⟨o, e1, e2⟩
  unfold Builtin.List.listExtendWith
  refine wpAny_bind (wpAny_typeOf (T := "itertools.combinations") hT ?_)
  have h1 : Builtin.List.listSameRef (.ref S) (.ref c) = false := by simp [Builtin.List.listSameRef, Nat.ne_of_gt hSc]
  have h2 : (Value.type "itertools.combinations" == Value.type "list") = false := by decide
  have h3 : (Value.type "itertools.combinations" == Value.type "tuple") = false := by decide
  simp only [h1, h2, h3, Bool.or_false, Bool.false_eq_true, if_false]
  have it : ∀ {Q : Value → Shared → Prop} {E : Value → Shared → Prop}, Q (.ref c) s → wpAny (model prog w) A.in1 (pyIter (.ref c)) Q E s := fun q => by
    rcases st with ⟨e, hx⟩ | ⟨j, ix, last, e, e2, hx⟩
    · exact py_iter hx q
    · exact py_iter hx q
  refine wpAny_bind (it ?_)
  refine wpAny_bind (wpAny_holding ?_)
  unfold Builtin.List.listLengthHint
  refine wpAny_bind (wpAny_specialOf hT nolen ?_)
  show wpAny _ A.in1 (specialOf (Value.ref c) (Str.ofString "__length_hint__") >>= _) _ _ _
  refine wpAny_bind (wpAny_specialOf hT nohint ?_)
  refine wpAny_pure ?_
  show wpAny _ A.in1 (rule "list.extend.makes-room" >>= fun _ => Builtin.List.listTouch (.ref S) >>= fun _ =>
    again (.builtin "list.extend.loop" ⟨[.ref S, .ref c, res], []⟩)) _ _ _
  refine wpAny_bind (wpAny_rule ?_)
  refine wpAny_bind ?_
  show wpAny _ _ (updateSeq S (·.push .none) >>= fun _ => updateSeq S (·.pop)) _ _ _
  refine wpAny_bind (wpAny_updateSeq hS rfl ?_)
  have hS₂ := Heap.get?_update_self (Obj.mapSeq (·.push Value.none)) hS rfl
  refine wpAny_updateSeq (hz := by seq_fits) hS₂ rfl ?_
  have hS₃ := Heap.get?_update_self (Obj.mapSeq (·.pop)) hS₂ rfl
  refine wpAny_pure ⟨plainId_quiet PySem.F.plain_extend_loop _, key _ _ _ (fun b o hb e => ?_) hS₃⟩
  exact (Heap.get?_update_other _ _ (Ne.symm hb)).trans ((Heap.get?_update_other _ _ (Ne.symm hb)).trans e)
theorem cm_init {R : Result → Shared → Prop} (hh : A.handled = none) (C : Chain n k ls) (hn : its.size = n) (st : CmSt ls n k s.heap c P 0) (hP : s.heap.get? P = some po) (hpd : po.data = .seq its pn) (hSP : P < c) (S : Addr) (hSc : c < S) (hS : s.heap.get? S = some { cls := .type "list", data := .seq #[] })
    (hR : ∀ h' tk acc cc as, (∀ b o, b ≠ S → b ≠ c → s.heap.get? b = some o → h'.get? b = some o) → (∃ o, h'.get? c = some o) → h'.get? S = some { cls := .type "list", dict := none, data := .seq acc cc, slots := #[] } → as.length = ls.length → CG its ls S h' as →
      acc.toList = as.map Value.ref → R (.ok (.ret .none)) { s with heap := h', toks := tk }) :
    wpAny (model prog w) A.in1 (Builtin.«list.__init__» ⟨[.ref S, .ref c], []⟩)
      (fun fin s' => match fin with | .done f => R (.ok f) s' | .again c' => c'.quiet = true ∧ codeAny (model prog w) A c' R s') (fun e s' => R (.error e) s') s := by
  show wpAny _ _ (do let old ← Builtin.List.listItems (.ref S); Builtin.List.listUpdate (.ref S) (fun _ => #[]); letGo old.toList.reverse; Builtin.List.listExtendWith (.ref S) (.ref c) .none) _ _ s
  refine wpAny_bind ?_
  unfold Builtin.List.listItems
  refine wpAny_bind (wpAny_seqItems hS rfl (wpAny_pure ?_))
  show wpAny _ _ (updateSeq S (fun _ => #[]) >>= fun _ => letGo (#[] : Array Value).toList.reverse >>= fun _ => Builtin.List.listExtendWith (.ref S) (.ref c) .none) _ _ s
  refine wpAny_bind (wpAny_updateSeq hS rfl ?_)
  have hS₂ := Heap.get?_update_self (Obj.mapSeq (fun _ => (#[] : Array Value))) hS rfl
  have oth : ∀ b o, b ≠ S → s.heap.get? b = some o → (s.heap.update S (Obj.mapSeq (fun _ => (#[] : Array Value)))).get? b = some o :=
    fun b o hb e => (Heap.get?_update_other _ _ (Ne.symm hb)).trans e
  refine wpAny_bind (wpAny_letGo ?_)
  refine cm_extend (s := { s with heap := s.heap.update S (Obj.mapSeq (fun _ => (#[] : Array Value))) }) hh C hn (st.keep oth (Nat.ne_of_lt hSc)) (oth P _ (Nat.ne_of_lt (Nat.lt_trans hSP hSc)) hP) hpd hSP S hSc .none _ hS₂ (fun h' tk acc cc as hk hec hS' hl hG hacc => ?_)
  exact hR h' tk acc cc as (fun b o hb hc e => hk b o hb hc (oth b o hb e)) hec hS' hl hG hacc
/-- list(a combinations object that has not begun) -/
theorem call_list_cm {Q : Value → Shared → Prop} (hh : A.handled = none) (C : Chain n k ls) (hn : its.size = n) (st : CmSt ls n k s.heap c P 0) (hP : s.heap.get? P = some po) (hpd : po.data = .seq its pn) (hSP : P < c)
    (hQ : ∀ h' tk acc cc as, (∀ b o, b ≠ c → s.heap.get? b = some o → h'.get? b = some o) → (∃ o, h'.get? c = some o) → h'.get? s.heap.objs.size = some { cls := .type "list", dict := none, data := .seq acc cc, slots := #[] } → as.length = ls.length → CG its ls s.heap.objs.size h' as →
      acc.toList = as.map Value.ref → Q (.ref s.heap.objs.size) { s with heap := h', toks := tk }) :
    wpAny (model prog w) A (call (.type "list") [.ref c]) Q E s := by
  refine callType_codes (Q₁ := fun obj s₁ => obj = .ref s.heap.objs.size ∧ s₁ = { s with heap := s.heap.push { cls := .type "list", data := .seq #[] } }) PySem.F.called_list (PySem.F.typeCall_list_1 _) PySem.F.entry_list_init
    (code_list_new _ ⟨rfl, rfl⟩) fun obj s₁ h₁ => ?_
  obtain ⟨rfl, rfl⟩ := h₁
  have hS : (s.heap.push { cls := .type "list", data := .seq #[] }).get? s.heap.objs.size = some { cls := .type "list", data := .seq #[] } := Heap.get?_push_size _ rfl
  have hc : c < s.heap.objs.size := let ⟨_, ho, _⟩ := st.there; Heap.lt_size ho
  refine ⟨⟨_, hS, rfl⟩, PySem.F.args_list_init_2 _ _, cm_init (s := { s with heap := s.heap.push { cls := .type "list", data := .seq #[] } }) (A := A.in1) hh C hn (st.keep (S := s.heap.objs.size) (fun b o _ e => Heap.get?_push_of_some _ e) (Nat.ne_of_lt hc)) (Heap.get?_push_of_some _ hP) hpd hSP _ hc hS (fun h' tk acc cc as hk hec hS' hl hG hacc => ?_)⟩
  exact ⟨rfl, hQ h' tk acc cc as (fun b o hb e => hk b o (Nat.ne_of_lt (Heap.lt_size e)) hb (Heap.get?_push_of_some _ e)) hec hS' hl hG hacc⟩
end
end Cm

set_option Elab.async false
set_option linter.all false
set_option maxRecDepth 100000
set_option maxHeartbeats 1000000
namespace Cm
open PySem PySem.Spec PyProof.Rows L2
section
variable {X : Cx} {pins : List (Addr × Obj)} {σ : L2.St} {H : Hp} {s : Shared}
/-- many new objects laid and tracked at once -/
theorem laidAll {H' : Hp} {h' : Heap} {t' : Nat} (I : Inv X pins σ H s) (k : ∀ b u, s.heap.get? b = some u → h'.get? b = some u) (old : ∀ b, b < s.heap.objs.size → H' b = H b)
    (new : ∀ a o, s.heap.objs.size ≤ a → H' a = some o → ObjOk X.prog X.w H' h' a o) : Inv X pins σ H' { s with heap := h', toks := t' } := by
  have up : ∀ b o, H b = some o → H' b = some o := fun b o e => (old b (I.hok.lt e)).trans e
  refine I.un ⟨fun b o e _ _ _ => k b o e, fun b o e _ _ _ => ⟨o.slots, k b o e⟩, fun b o e n _ => (old b (Heap.lt_size e)).trans n, fun b o e _ => ⟨o, k b o e⟩, fun b xs e => up b _ e, fun b o u e => up b _ e, fun b ps e => ⟨#[], by rw [up b _ e]; simp⟩⟩ fun a o e => ?_
  rcases Nat.lt_or_ge a s.heap.objs.size with l | g
  · rw [old a l] at e
    exact (I.hok a o e).stay (fun c v _ q => k c v q) (fun c q => up _ _ q) fun c xs q => up _ _ q
  · exact new a o g e
/-- the lots as they are tracked -/
def lotV (ix : List Nat) : List V := ix.map fun (i : Nat) => V.int (i : Int)
def layT (H : Hp) : List Addr → List (List Nat) → Hp
  | a :: as, ix :: ls => upd (layT H as ls) a (.tup (lotV ix))
  | _, _ => H
theorem layT_out {H : Hp} {b : Addr} : ∀ {as : List Addr} {ls : List (List Nat)}, b ∉ as → layT H as ls b = H b
  | [], _, _ => rfl
  | a :: as, [], _ => rfl
  | a :: as, ix :: ls, h => by
    unfold layT
    rw [upd_ne (fun e => h (by simp [e])), layT_out fun m => h (by simp [m])]
theorem layT_at {H : Hp} {a : Addr} {ix : List Nat} : ∀ {as : List Addr} {ls : List (List Nat)} {j : Nat}, as.Nodup → as[j]? = some a → ls[j]? = some ix → layT H as ls a = some (.tup (lotV ix))
  | [], _, j, _, e, _ => by simp at e
  | _ :: _, [], j, _, _, e => by simp at e
  | b :: as, y :: ls, 0, _, e, f => by
    cases e
    cases f
    unfold layT
    exact upd_same
  | b :: as, y :: ls, j + 1, nd, e, f => by
    unfold layT
    have m : a ∈ as := List.mem_of_getElem? (i := j) (by simpa using e)
    have ne : a ≠ b := fun z => (List.nodup_cons.mp nd).1 (z ▸ m)
    rw [upd_ne ne]
    exact layT_at (List.nodup_cons.mp nd).2 (by simpa using e) (by simpa using f)
end
section
variable {X : Cx} {a b : Expr} {ta tb : TE} {x : Str}
/-- list(combinations(range(a), b)) -/
def tCm (ta tb : TE) : TE := fun σ H Q => ta σ H fun x H1 => (∃ m, x = .int m) ∧ tb σ H1 fun y H2 => ∃ n k : Nat, x = .int n ∧ y = .int k ∧ n ≤ 1000 ∧ k ≤ 1000 ∧ ∃ ls, Chain n k ls ∧ (∀ ix ∈ ls, ∀ i ∈ ix, i < n) ∧
  ∀ (p : Addr) (as : List Addr) (H' : Hp), H2 p = none → L2.Same H2 H' → H' p = some (.lst (as.map V.ref)) → as.length = ls.length → (∀ (j : Nat) (a : Addr) (ix : List Nat), as[j]? = some a → ls[j]? = some ix → H' a = some (.tup (lotV ix))) → Q (.ref p) H'
theorem range_pin {p pos : Pos} (gr : Gl X "range") (mr : X.mg "range" = none) (ha : PE X a ta) (na : starEach [a] X.env = (false, eval a X.env) :: starEach [] X.env) {pins : List (Addr × Obj)} {s : Shared} {σ : L2.St} {H : Hp} {R : V → Hp → Prop}
    (I : Inv X pins σ H s) (h : ta σ H fun x H1 => (∃ n, x = .int n) ∧ R x H1) :
    wpAny (model X.prog X.w) X.A (eval (.Call (.Name "range" p) [a] [] pos) X.env) (fun z s' => ∃ r n t u v H', z = .ref r ∧ IsRange s'.heap r 0 n 1 t u v ∧ Inv X (pins ++ pinsAt [r] s'.heap) σ H' s' ∧ R (.int n) H') X.xe s := by
  refine Call_ (ld_blt I gr mr boot_range (PyProof.Rows.callWith_type1 (one_arg ha I h (fun v s2 x H2 I2 r q => ?_) na) na))
  obtain ⟨⟨n, rfl⟩, q⟩ := q
  obtain ⟨t, rfl⟩ := r
  refine call_range_1 ?_
  have I3 : Inv X pins σ H2 { s2 with heap := s2.heap.push { cls := .type "range", data := .fields #[.int 0 s2.toks, .int n t, .int 1 (s2.toks + 1)] }, toks := s2.toks + 1 + 1 } := I2.kept fun b u e => Heap.get?_push_of_some _ e
  refine ⟨_, n, _, _, _, H2, rfl, IsRange.new _ _ _ _ _ _ _, ?_, q⟩
  refine I3.pinned (fp := [s2.heap.objs.size]) (fun b hb => ?_) (fun b hb => ?_)
  · rw [List.mem_singleton.mp hb]
    exact I2.fpOk (Nat.le_refl _) (I2.hok.fresh (Nat.le_refl _))
  · rw [List.mem_singleton.mp hb]
    exact ⟨_, Heap.get?_push_size _ rfl, fun v q => nomatch q⟩
end
end Cm

set_option Elab.async false
set_option linter.all false
set_option maxRecDepth 100000
set_option maxHeartbeats 1000000
namespace Cm
open PySem PySem.Spec PyProof.Rows L2
section
variable {X : Cx} {a b : Expr} {ta tb : TE} {x : Str}
/-- combinations(range(a), b): what stands then -/
def Made (X : Cx) (pins : List (Addr × Obj)) (σ : L2.St) (R : Nat → Nat → Hp → Prop) (z : Value) (s' : Shared) : Prop :=
  ∃ (c P : Addr) (n k : Nat) (acc : Array Value) (H2 : Hp), z = .ref c ∧ IsCm s'.heap c P (if k > n then 2 else 0) .none (List.range k) ∧ s'.heap.get? P = some { cls := .type "tuple", data := .seq acc } ∧ P < c ∧ FpOk X pins H2 c ∧ Inv X pins σ H2 s' ∧
    ItemsOf (fun i v => ∃ t, v = .int (0 + i * 1) t) acc n ∧ R n k H2
theorem made {p1 p2 pos1 pos2 : Pos} (hc : X.calm = true) (gx : Gl X x) (mx : X.mg x = some (.type "itertools.combinations")) (gr : Gl X "range") (mr : X.mg "range" = none) (ha : PE X a ta) (hb : PE X b tb)
    (hdb : (x == ("__debug__" : Str)) = false)
    (na : starEach [a] X.env = (false, eval a X.env) :: starEach [] X.env) (nb : starEach [b] X.env = (false, eval b X.env) :: starEach [] X.env)
    (nab : starEach [Expr.Call (.Name "range" p2) [a] [] pos2, b] X.env = (false, eval (.Call (.Name "range" p2) [a] [] pos2) X.env) :: starEach [b] X.env) (hp : (backTo pos1 (starEach [b] X.env)).any (·.1) = false)
    {pins : List (Addr × Obj)} {s : Shared} {σ : L2.St} {H : Hp} {R : Nat → Nat → Hp → Prop} (I : Inv X pins σ H s)
    (h : ta σ H fun x H1 => (∃ m, x = .int m) ∧ tb σ H1 fun y H2 => ∃ n k : Nat, x = .int n ∧ y = .int k ∧ n ≤ 1000 ∧ k ≤ 1000 ∧ R n k H2) :
    wpAny (model X.prog X.w) X.A (eval (.Call (.Name x p1) [.Call (.Name "range" p2) [a] [] pos2, b] [] pos1) X.env) (Made X pins σ R) X.xe s := by
  refine Call_ (ld_glob I gx mx (PyProof.Rows.callWith_type1 (args_cons (thn (range_pin (R := fun v H1 => tb σ H1 fun y H2 => ∃ n k : Nat, v = .int n ∧ y = .int k ∧ n ≤ 1000 ∧ k ≤ 1000 ∧ R n k H2) gr mr ha na I h) fun v s1 ⟨r, m, t, u, w1, H1, er, hr, I1, q1⟩ => one_arg hb I1 q1 (fun u2 s2 y H2 I2 r2 q => ?_) nb) nab) nab hp) hdb)
  obtain ⟨n, k, en, rfl, ln, lk, q⟩ := q
  cases en
  obtain ⟨tk, rfl⟩ := r2
  have hr2 : IsRange s2.heap r 0 n 1 t u w1 := (I2.pin _ (List.mem_append_right _ (List.mem_append_right _ (mem_pinsAt (List.mem_singleton.mpr rfl) hr)))).1
  have I2' : Inv X pins σ H2 s2 := I2.unpinned
  subst er
  refine call_cm (I2.ok.hd hc) hr2 (small_one (by omega) (by omega) (by omega) (by omega)) (n := n) ?_ (by omega) (by omega) fun h' tk' acc hk hacc => ?_
  · rw [rangeSize_nat]
    omega
  have I3 : Inv X pins σ H2 { s2 with heap := h', toks := tk' } := I2'.kept hk
  have e1 : (cmP h' acc).objs.size = h'.objs.size + 1 := Heap.size_push ..
  have z : IsCm (cmR h' acc (if k > n then 2 else 0) k) (cmP h' acc).objs.size h'.objs.size (if k > n then 2 else 0) .none (List.range k) := Heap.get?_push_size _ rfl
  rw [e1] at z
  refine ⟨h'.objs.size + 1, h'.objs.size, n, k, acc, H2, rfl, z, Heap.get?_push_of_some _ (Heap.get?_push_size _ rfl), Nat.lt_succ_self _, I3.fpOk (Nat.le_succ _) (I3.hok.fresh (Nat.le_succ _)), ?_, hacc, q⟩
  exact I3.kept fun b o e => Heap.get?_push_of_some _ (Heap.get?_push_of_some _ e)
theorem refs : ∀ as : List Addr, Vals (as.map V.ref) (as.map Value.ref)
  | [] => .nil
  | a :: as => .cons rfl (refs as)
theorem intsV {acc : Array Value} {n : Nat} (h : ItemsOf (fun i v => ∃ t, v = .int (0 + i * 1) t) acc n) : ∀ {ix : List Nat}, (∀ i ∈ ix, i < n) → Vals (lotV ix) (ix.map fun i => acc.getD i .none)
  | [], _ => .nil
  | i :: ix, b => by
    refine .cons ?_ (intsV h fun j hj => b j (by simp [hj]))
    have hi : i < acc.size := by rw [h.1]; exact b i (by simp)
    obtain ⟨t, e⟩ := h.2 i acc[i] (Array.getElem?_eq_getElem hi)
    have e2 : acc.getD i .none = acc[i] := by
      rw [Array.getD_eq_getD_getElem?, Array.getElem?_eq_getElem hi]
      rfl
    show RelV (V.int (i : Int)) (acc.getD i .none)
    rw [e2, e]
    exact ⟨t, by rw [Int.mul_one, Int.zero_add]⟩
theorem pe_listCm {p p1 p2 pos pos1 pos2 : Pos} (hc : X.calm = true) (gl : Gl X "list") (ml : X.mg "list" = none) (gx : Gl X x) (mx : X.mg x = some (.type "itertools.combinations")) (gr : Gl X "range") (mr : X.mg "range" = none) (ha : PE X a ta) (hb : PE X b tb)
    (hdb : (x == ("__debug__" : Str)) = false := by decide)
    (na : starEach [a] X.env = (false, eval a X.env) :: starEach [] X.env := by rfl) (nb : starEach [b] X.env = (false, eval b X.env) :: starEach [] X.env := by rfl)
    (nab : starEach [Expr.Call (.Name "range" p2) [a] [] pos2, b] X.env = (false, eval (.Call (.Name "range" p2) [a] [] pos2) X.env) :: starEach [b] X.env := by rfl) (hp : (backTo pos1 (starEach [b] X.env)).any (·.1) = false := by rfl)
    (nl : starEach [Expr.Call (.Name x p1) [.Call (.Name "range" p2) [a] [] pos2, b] [] pos1] X.env = (false, eval (.Call (.Name x p1) [.Call (.Name "range" p2) [a] [] pos2, b] [] pos1) X.env) :: starEach [] X.env := by rfl) :
    PE X (.Call (.Name "list" p) [.Call (.Name x p1) [.Call (.Name "range" p2) [a] [] pos2, b] [] pos1] [] pos) (tCm ta tb) := by
  refine ⟨fun pins s σ H Q I h => ?_⟩
  refine Call_ (ld_blt I gl ml boot_list (PyProof.Rows.callWith_type1 (args_cons (thn (made (R := fun n k H2 => ∃ ls, Chain n k ls ∧ (∀ ix ∈ ls, ∀ i ∈ ix, i < n) ∧
    ∀ (p : Addr) (as : List Addr) (H' : Hp), H2 p = none → L2.Same H2 H' → H' p = some (.lst (as.map V.ref)) → as.length = ls.length → (∀ (j : Nat) (a : Addr) (ix : List Nat), as[j]? = some a → ls[j]? = some ix → H' a = some (.tup (lotV ix))) → Q (.ref p) H') hc gx mx gr mr ha hb hdb na nb nab hp I ?_)
    fun z s1 ⟨c, P, n, k, acc, H2, ez, hcm, hP, lt, fp, I1, hacc, q⟩ => args_nil ?_) nl) nl))
  · exact h
  · subst ez
    obtain ⟨ls, C, inr, q⟩ := q
    refine call_list_cm (I1.ok.hd hc) C hacc.1 (.inl ⟨rfl, hcm⟩) hP rfl lt fun h' tk acc' cc as hk hec hS hl hG hacc' => ?_
    obtain ⟨oc, hoc⟩ := hec
    have hfr : oc.isFreed = false := (Heap.get?_some_iff.mp hoc).2
    have gc : (s1.heap.update c (fun _ => oc)).get? c = some oc := Heap.get?_update_self (fun _ => oc) hcm hfr
    have go : ∀ b, b ≠ c → (s1.heap.update c (fun _ => oc)).get? b = s1.heap.get? b := fun b hb => Heap.get?_update_other _ _ (Ne.symm hb)
    have gz : (s1.heap.update c (fun _ => oc)).objs.size = s1.heap.objs.size := Heap.size_update ..
    generalize s1.heap.update c (fun _ => oc) = G at *
    have IG : Inv X pins σ H2 { s1 with heap := G, toks := s1.toks } := I1.turnedL (ch := [c]) (fun b o hb e => (go b (fun z => hb (by simp [z]))).trans e) (fun b hb => by rw [List.mem_singleton.mp hb]; exact fp)
    have nS : s1.heap.objs.size ∉ as := fun m => Nat.lt_irrefl _ (hG.above _ m)
    have nd : as.Nodup := hG.rise.imp fun h => Nat.ne_of_lt h
    have small : ∀ b, b < s1.heap.objs.size → b ∉ as := fun b hb m => Nat.lt_asymm hb (hG.above b m)
    obtain ⟨H', eH⟩ : ∃ H', H' = upd (layT H2 as ls) s1.heap.objs.size (.lst (as.map V.ref)) := ⟨_, rfl⟩
    have atS : H' s1.heap.objs.size = some (.lst (as.map V.ref)) := by rw [eH]; exact upd_same
    have out : ∀ b, b ≠ s1.heap.objs.size → b ∉ as → H' b = H2 b := fun b hb hn => by rw [eH, upd_ne hb, layT_out hn]
    have atT : ∀ (j : Nat) (a : Addr) (ix : List Nat), as[j]? = some a → ls[j]? = some ix → H' a = some (.tup (lotV ix)) := fun j a ix e f => by
      have m := List.mem_of_getElem? e
      have ne : a ≠ s1.heap.objs.size := fun z => nS (z ▸ m)
      rw [eH, upd_ne ne, layT_at nd e f]
    have I' : Inv X pins σ H' { s1 with heap := h', toks := tk } := by
      refine laidAll (s := { s1 with heap := G, toks := s1.toks }) IG (fun b u e => ?_) (fun b hb => ?_) fun a o ha e => ?_
      · by_cases hb : b = c
        · subst hb
          rw [gc] at e
          cases e
          exact hoc
        · rw [go b hb] at e
          exact hk b u hb e
      · have hb' : b < s1.heap.objs.size := by rw [← gz]; exact hb
        exact out b (Nat.ne_of_lt hb') (small b hb')
      · have ha' : s1.heap.objs.size ≤ a := by rw [← gz]; exact ha
        by_cases h1 : a = s1.heap.objs.size
        · subst h1
          rw [atS] at e
          cases e
          refine show ObjOk X.prog X.w _ _ _ (.lst (as.map V.ref)) from ⟨?_, acc'.toList, cc, ?_, ?_⟩
          · rw [List.length_map, hl]
            exact C.few
          · rw [hacc']
            exact refs as
          · rw [Array.toArray_toList]
            exact hS
        · by_cases h2 : a ∈ as
          · obtain ⟨j, hj⟩ := List.mem_iff_getElem?.mp h2
            obtain ⟨ix, e1, e3⟩ := hG.got j a hj
            rw [atT j a ix hj e1] at e
            cases e
            have m := List.mem_of_getElem? e1
            refine show ObjOk X.prog X.w _ _ _ (.tup (lotV ix)) from ⟨?_, ix.map fun i => acc.getD i .none, intsV hacc (inr ix m), ⟨_, e3, rfl, _, rfl⟩⟩
            have := C.len ix m
            unfold lotV
            rw [List.length_map, sizeLine_eq]
            omega
          · rw [out a h1 h2, I1.hok.fresh ha'] at e
            cases e
    have fresh := I1.hok.fresh (Nat.le_refl s1.heap.objs.size)
    refine ⟨.ref s1.heap.objs.size, H', I', rfl, q _ as H' fresh (fun b o e => ?_) atS hl atT⟩
    have lb := I1.hok.lt e
    exact (out b (Nat.ne_of_lt lb) (small b lb)).trans e
end
end Cm

set_option Elab.async false
set_option linter.all false
set_option maxRecDepth 100000
set_option maxHeartbeats 1000000
namespace Cm
open PySem PySem.Spec PyProof.Rows L2
/-! the lots of k of n points, n and k at most 8, in their order -/
def run (n : Nat) : Nat → List Nat → List (List Nat)
  | 0, _ => []
  | f + 1, ix => ix :: match nextC n ix with
    | none => []
    | some y => run n f y
def cmb (n k : Nat) : List (List Nat) := if n < k then [] else run n 80 (List.range k)
def chainB (n k : Nat) (ls : List (List Nat)) : Bool :=
  (if n < k then ls.isEmpty else ls[0]? == some (List.range k)) && (List.range ls.length).all (fun i => ls[i + 1]? == nextC n (ls.getD i [])) && ls.all (fun ix => decide (ix.length ≤ 8) && ix.all (fun i => decide (i < n)))
theorem chain_of {n k : Nat} {ls : List (List Nat)} (h : chainB n k ls = true) (z : ls.length ≤ 1000) : Chain n k ls ∧ ∀ ix ∈ ls, ∀ i ∈ ix, i < n := by
  unfold chainB at h
  rw [Bool.and_eq_true, Bool.and_eq_true] at h
  obtain ⟨⟨h1, h2⟩, h3⟩ := h
  rw [List.all_eq_true] at h2 h3
  refine ⟨⟨?_, fun i ix e => ?_, fun ix hx => ?_, by rw [sizeLine_eq]; omega⟩, fun ix hx i hi => ?_⟩
  · by_cases c : n < k
    · rw [if_pos c] at h1
      exact .inl ⟨c, List.isEmpty_iff.mp h1⟩
    · rw [if_neg c] at h1
      exact .inr ⟨by omega, eq_of_beq h1⟩
  · obtain ⟨hi, e2⟩ := List.getElem?_eq_some_iff.mp e
    have z2 := eq_of_beq (h2 i (List.mem_range.mpr hi))
    have e3 : ls.getD i [] = ix := by
      rw [List.getD_eq_getElem?_getD, e]
      rfl
    rw [e3] at z2
    exact z2
  · have z2 := h3 ix hx
    rw [Bool.and_eq_true, decide_eq_true_eq] at z2
    omega
  · have z2 := h3 ix hx
    rw [Bool.and_eq_true, List.all_eq_true] at z2
    exact of_decide_eq_true (z2.2 i hi)
theorem cmb_ok : ∀ n : Fin 9, ∀ k : Fin 9, chainB n.val k.val (cmb n.val k.val) = true ∧ (cmb n.val k.val).length ≤ 70 := by decide +kernel
theorem chain_cmb {n k : Nat} (hn : n ≤ 8) (hk : k ≤ 8) : Chain n k (cmb n k) ∧ (∀ ix ∈ cmb n k, ∀ i ∈ ix, i < n) ∧ (cmb n k).length ≤ 70 := by
  obtain ⟨a, b⟩ := cmb_ok ⟨n, by omega⟩ ⟨k, by omega⟩
  obtain ⟨c, d⟩ := chain_of a (by omega)
  exact ⟨c, d, b⟩
end Cm
/-! walks of a comprehension with two clauses -/
namespace Sx
open PySem L2
theorem pi_listK {X : Cx} {tg l : Expr} {tl : TE} (K : PySem.W.Frag) (ht : PE X l tl) (hk : X.K = K) : PI X tg l (iList K tl) := by
  subst hk
  exact pi_list ht
theorem it_range {lo : Int} {n : Nat} {body : (Hp → Prop) → V → Hp → Prop} {Qd : Hp → Prop} {H1 : Hp} (Pv : Nat → Hp → Prop) (h0 : Pv 0 H1) (hs : ∀ i H, i < n → Pv i H → body (Pv (i + 1)) (.int (lo + (i : Nat))) H) (hd : ∀ H, Pv n H → Qd H) :
    ∃ W : Nat → Nat → Hp → Prop, (∃ m, W 0 m H1) ∧ ∀ i m H, W i m H → ((Itr lo n).stop i H ∧ Qd H) ∨ ((Itr lo n).go i H ∧ ∃ Nx : Hp → Prop, (∀ H', Nx H' → ∃ m', m' < m ∧ W (i + 1) m' H') ∧ ∀ x H', (Itr lo n).yld i H x H' → body Nx x H') := by
  refine ⟨fun i m H => m = n - i ∧ i ≤ n ∧ Pv i H, ⟨n, by simp, Nat.zero_le _, h0⟩, ?_⟩
  rintro i m H ⟨rfl, hi, p⟩
  by_cases h : i < n
  · refine .inr ⟨h, Pv (i + 1), fun H' p' => ⟨n - (i + 1), by omega, rfl, h, p'⟩, ?_⟩
    rintro x H' ⟨rfl, rfl⟩
    exact hs i _ h p
  · have e : i = n := by omega
    subst e
    exact .inl ⟨Nat.le_refl _, hd H p⟩
theorem it_list {K : PySem.W.Frag} {a : Addr} {xs : List V} {body : (Hp → Prop) → V → Hp → Prop} {Qd : Hp → Prop} {H1 : Hp} (Pv : Nat → Hp → Prop) (h0 : Pv 0 H1) (hl : ∀ i H, i ≤ xs.length → Pv i H → SqL K H a xs) (hs : ∀ i x H, xs[i]? = some x → Pv i H → body (Pv (i + 1)) x H) (hd : ∀ H, Pv xs.length H → Qd H) :
    ∃ W : Nat → Nat → Hp → Prop, (∃ m, W 0 m H1) ∧ ∀ i m H, W i m H → ((Itl K a).stop i H ∧ Qd H) ∨ ((Itl K a).go i H ∧ ∃ Nx : Hp → Prop, (∀ H', Nx H' → ∃ m', m' < m ∧ W (i + 1) m' H') ∧ ∀ x H', (Itl K a).yld i H x H' → body Nx x H') := by
  refine ⟨fun i m H => m = xs.length - i ∧ i ≤ xs.length ∧ Pv i H, ⟨xs.length, by simp, Nat.zero_le _, h0⟩, ?_⟩
  rintro i m H ⟨rfl, hi, p⟩
  have q := hl i H hi p
  by_cases hlt : i < xs.length
  · refine .inr ⟨⟨xs, xs[i], q, by simp [hlt]⟩, Pv (i + 1), fun H' p' => ⟨xs.length - (i + 1), by omega, rfl, hlt, p'⟩, fun x H' y => ?_⟩
    obtain ⟨e, y⟩ := y
    subst e
    exact hs i x _ (y xs q) p
  · have e : i = xs.length := by omega
    subst e
    exact .inl ⟨⟨xs, q, Nat.le_refl _⟩, hd H p⟩
end Sx

set_option Elab.async false
set_option linter.all false
set_option maxRecDepth 100000
/-! a walk over a tuple, any body -/
namespace Sx
open PySem L2
theorem it_tup {K : PySem.W.Frag} {a : Addr} {xs : List V} {body : (Hp → Prop) → V → Hp → Prop} {Qd : Hp → Prop} {H1 : Hp} (Pv : Nat → Hp → Prop) (h0 : Pv 0 H1) (hl : ∀ i H, i ≤ xs.length → Pv i H → SqT K H a xs) (hs : ∀ i x H, xs[i]? = some x → Pv i H → body (Pv (i + 1)) x H) (hd : ∀ H, Pv xs.length H → Qd H) :
    ∃ W : Nat → Nat → Hp → Prop, (∃ m, W 0 m H1) ∧ ∀ i m H, W i m H → ((Itt K a).stop i H ∧ Qd H) ∨ ((Itt K a).go i H ∧ ∃ Nx : Hp → Prop, (∀ H', Nx H' → ∃ m', m' < m ∧ W (i + 1) m' H') ∧ ∀ x H', (Itt K a).yld i H x H' → body Nx x H') := by
  refine ⟨fun i m H => m = xs.length - i ∧ i ≤ xs.length ∧ Pv i H, ⟨xs.length, by simp, Nat.zero_le _, h0⟩, ?_⟩
  rintro i m H ⟨rfl, hi, p⟩
  have q := hl i H hi p
  by_cases hlt : i < xs.length
  · refine .inr ⟨⟨xs, xs[i], q, by simp [hlt]⟩, Pv (i + 1), fun H' p' => ⟨xs.length - (i + 1), by omega, rfl, hlt, p'⟩, fun x H' y => ?_⟩
    obtain ⟨e, y⟩ := y
    subst e
    exact hs i x _ (y xs q) p
  · have e : i = xs.length := by omega
    subst e
    exact .inl ⟨⟨xs, q, Nat.le_refl _⟩, hd H p⟩
end Sx

set_option Elab.async false
set_option linter.all false
set_option maxRecDepth 100000
set_option maxHeartbeats 2000000
/-! sorted(xs), xs a list of tuples of d ints, of any length -/
namespace SN
open PySem PyProof.Rows TS SrtO
section
variable {prog : Program} {w : World} {A : Around} {E : Value → Shared → Prop} {s : Shared}
theorem swo_code (f : Value → Int) : Swo fun v u => decide (f v < f u) := by
  refine ⟨fun x y h => ?_, fun x y z h1 h2 => ?_⟩
  · have a := of_decide_eq_true h
    exact decide_eq_false (by omega)
  · have a := of_decide_eq_false h1
    have b := of_decide_eq_false h2
    exact decide_eq_false (by omega)
theorem tups_cmp {vs : List Value} {d : Nat} {B : Int} {f : Value → Int} (x : TupsOk s.heap d B vs) (hf : ∀ v, v ∈ vs → ∀ ns, TupInts s.heap v ns → f v = code B ns) : SrtO.Cmp prog w A s (tuples' true) (fun p => p.1 ∈ vs) (lt2 fun v u => decide (f v < f u)) := by
  intro p q hp hq
  obtain ⟨ns, tp, lp, bp⟩ := x _ hp
  obtain ⟨ms, tq, lq, bq⟩ := x _ hq
  have ep := hf _ hp _ tp
  have eq2 := hf _ hq _ tq
  show wpAny (model prog w) A (keyLt' (tuples' true) p.1 q.1) (fun r s' => s' = s ∧ r = decide (f p.1 < f q.1)) (fun _ _ => False) s
  rw [ep, eq2]
  obtain ⟨a, xs, e1, ⟨o, ho, hc, n, hdt⟩, i⟩ := tp
  obtain ⟨a', ys, e2, ⟨o', ho', hc', n', hdt'⟩, i'⟩ := tq
  rw [e1, e2]
  refine PySem.W.kat_lt ho hdt ho' hdt' ?_
  have sz : decide (xs.size < ys.size) = false := by
    have l1 := i.length
    have l2 := i'.length
    rw [Array.length_toList] at l1 l2
    exact decide_eq_false (by omega)
  rw [sz]
  exact lex_ints (Q := fun r s' => s' = s ∧ r = decide (code B ns < code B ms)) 0 i i' (by omega) bp bq ⟨rfl, rfl⟩
theorem tups_sortable {a : Addr} {vs : List Value} {d : Nat} {B : Int} {f : Value → Int} (hd : 1 ≤ d) (h0 : 0 < vs.length) (x : TupsOk s.heap d B vs) (ha : ∀ o, s.heap.get? a = some o → o.cls ≠ .type "tuple") (hf : ∀ v, v ∈ vs → ∀ ns, TupInts s.heap v ns → f v = code B ns) :
    SortableO prog w A s a vs fun v u => decide (f v < f u) := by
  intro h' keep
  have kt : ∀ b o, s.heap.get? b = some o → o.cls = .type "tuple" → h'.get? b = some o := fun b o e c => keep b o (fun z => by subst z; exact ha o e c) e
  have x' : TupsOk h' d B vs := x.keeps kt
  obtain ⟨fs, h1, h2, h3⟩ := TS.firsts_of hd vs x'
  refine ⟨tuples' true, fun Q E hq => ?_, tups_cmp (s := { s with heap := h' }) x' fun v hv ns t => ?_⟩
  · refine PySem.W.kat_kind (T := .type "int") h1 (by omega) (fun g hm => ?_) (by rfl) ?_
    · obtain ⟨y, t, rfl⟩ := h3 g hm
      exact PySem.W.Looks.now
    · have e : (Value.type "int" != Value.type "tuple") = true := by first | decide +kernel | rfl | decide
      rw [e]
      exact hq
  · obtain ⟨ns0, t0, _⟩ := x v hv
    have e : ns = ns0 := t.ints.symm.trans (t0.keeps kt).ints
    rw [e]
    exact hf v hv ns0 t0
end
end SN
namespace L2
open PySem PySem.Spec PyProof.Rows
def rSortN (K : PySem.W.Frag) : List V → Hp → VK → Prop := fun vs H Q => ∃ (a : Addr) (xs : List V) (d : Nat) (B : Int), vs = [V.ref a] ∧ SqL K H a xs ∧ (d = 0 → xs.length ≤ 1) ∧ (∀ x ∈ xs, ∃ ns, TupI K H x ns ∧ ns.length = d ∧ TS.Bd B ns) ∧
  ∀ (ys : List V) (p : Addr), ys.Perm xs → ys.Pairwise (fun x y => ∀ n m, TupI K H x n → TupI K H y m → TS.code B n ≤ TS.code B m) → H p = none → Q (.ref p) (upd H p (.lst ys))
theorem cr_sortN {X : Cx} : CallR X (.builtin "sorted") (rSortN X.K) := by
  intro pins s σ H vs us Q I r h
  obtain ⟨a, xs, d, B, rfl, hs, h0, hx, q⟩ := h
  obtain ⟨its, rv, hl, hz⟩ := I.list hs
  rw [Vals.ref1 r]
  obtain ⟨e1, e2⟩ := bkV_refs rv fun x m => by
    obtain ⟨ns, ⟨t, e, _⟩, _⟩ := hx x m
    exact ⟨t, e⟩
  have tk : TS.TupsOk s.heap d B its := fun v hv => by
    obtain ⟨t, rfl⟩ := e2 v hv
    have hm : V.ref t ∈ xs := by
      rw [e1]
      exact List.mem_map.mpr ⟨_, hv, rfl⟩
    obtain ⟨ns, ⟨t', e, ht⟩, hn, hb⟩ := hx _ hm
    cases e
    exact ⟨ns, tupI_raw I ht, hn, hb⟩
  refine SrtO.sorted_ord (SN.swo_code fun v => TS.code B (TS.intsOf s.heap v)) hl.isList (by rw [← rv.length]; exact hz) (fun h2 h₁ a' ha' kk => ?_) fun out h1 h2 => ?_
  · have d1 : 1 ≤ d := by
      rcases Nat.eq_zero_or_pos d with e | e
      · have := h0 e
        have := rv.length
        omega
      · exact e
    have kt : ∀ b o, s.heap.get? b = some o → o.cls = .type "tuple" → h₁.get? b = some o := fun b o e _ => (kk b o e).2
    refine SN.tups_sortable (s := { s with heap := h₁ }) d1 (by omega) (tk.keeps kt) (fun o e => ?_) fun v hv ns t => ?_
    · have e' : some o = some (seqObj "list" its.toArray 0) := e.symm.trans ha'
      cases e'
      intro c
      exact absurd (Value.type.inj c) (by decide)
    · obtain ⟨ns0, t0, _⟩ := tk v hv
      have e : ns = ns0 := t.ints.symm.trans (t0.keeps kt).ints
      rw [e, t0.ints]
  · obtain ⟨ep, he'⟩ := PyProof.Rows.sortedAll_at s.heap its out.toArray
    have hp0 : out.Perm its := h2.perm
    have h3 : ∀ u ∈ out, ∃ a, u = Value.ref a := fun u hu => e2 u (hp0.mem_iff.mp hu)
    have hp : (out.map bkV).Perm xs := by
      rw [e1]
      exact hp0.map bkV
    have hlen : (out.map bkV).length ≤ sizeLine := by
      rw [hp.length_eq]
      exact hz
    refine ⟨.ref _, upd H (s.heap.objs.size + 1) (.lst (out.map bkV)), I.laid (t' := s.toks) (fun _ _ => PyProof.Rows.sortedAll_old) (Nat.le_succ _) ⟨hlen, out, ep, bkV_vals h3, he'⟩, rfl, q _ _ hp ?_ (I.hok.fresh (Nat.le_succ _))⟩
    rw [List.pairwise_map]
    refine List.Pairwise.imp (fun {u v} huv n m hn hm => ?_) h1
    obtain ⟨t, et, ht⟩ := hn
    obtain ⟨t', et', ht'⟩ := hm
    have eu := bkV_ref et
    have ev := bkV_ref et'
    have i1 : TS.intsOf s.heap u = n := by
      rw [eu]
      exact (tupI_raw I ht).ints
    have i2 : TS.intsOf s.heap v = m := by
      rw [ev]
      exact (tupI_raw I ht').ints
    have z := of_decide_eq_false huv
    rw [← i1, ← i2]
    omega
end L2

set_option Elab.async false
set_option linter.all false
set_option maxRecDepth 100000
set_option maxHeartbeats 1000000
/-! len(d), d a dict with int or text keys -/
namespace L2
open PySem PySem.Spec PyProof.Rows
section
variable {X : Cx}
def rLenD : List V → Hp → VK → Prop := fun xs H Q => ∃ (a : Addr) (kvs : List (Key × V)), xs = [.ref a] ∧ H a = some (.dK kvs) ∧ Q (.int (kvs.length : Nat)) H
theorem cr_lenD : CallR X (.builtin "len") rLenD := by
  intro pins s σ H xs us Q I r h
  obtain ⟨a, kvs, rfl, ha, q⟩ := h
  rw [Vals.ref1 r]
  exact d_len I (Rd.of ha) fun t s' I' => ⟨.int kvs.length, H, I', ⟨_, rfl⟩, q⟩
end
end L2

set_option Elab.async false
set_option linter.all false
set_option maxRecDepth 100000
set_option maxHeartbeats 1000000
/-! list(d.keys()), d a dict with tuple keys -/
namespace Cm
open PySem PySem.Spec PyProof.Rows L2
section
theorem meets_keys_raw {prog : Program} {w : World} (d : Addr) (hd : (d == sysModules) = false) :
    MeetsIn prog w (Builtin.«dict.keys» ⟨[.ref d], []⟩) (fun _ R s => s.TypeIs (.ref d) "dict" ∧
      R (.ok (.ret (.ref s.heap.objs.size))) { s with heap := s.heap.push { cls := .type "dict_keys", data := .fields #[.ref d] } }) :=
  .of_wp fun A R s ⟨hm, h⟩ => by
    refine wpAny_bind ?_
    unfold Builtin.Dict.noArgs
    refine wpAny_bind (wpAny_notOrdered_dict hm ?_)
    show wpAny _ _ (pure d) _ _ s
    refine wpAny_pure ?_
    show wpAny _ _ (Builtin.Dict.showsAll d >>= _) _ _ s
    unfold Builtin.Dict.showsAll
    rw [if_neg (by rw [hd]; exact Bool.false_ne_true)]
    refine wpAny_bind (wpAny_pure ?_)
    exact wpAny_bind (wpAny_newObj_type (wpAny_pure ⟨_, rfl, h⟩))
variable {X : Cx} {e : Expr} {td : TE}
/-- its reading -/
def tLKT (K : PySem.W.Frag) (td : TE) : TE := fun σ H Q => td σ H fun x H1 => ∃ d kvs, x = .ref d ∧ Rd H1 d (.dT kvs) ∧ ∀ p bs, H1 p = none → IsKeys H1 kvs bs → Q (.ref p) (upd H1 p (.lst (bs.map V.ref)))
theorem pe_listKeysT {p pos apos cpos : Pos} (hc : X.calm = true) (gl : Gl X "list") (ml : X.mg "list" = none) (he : PE X e td)
    (hbase : attributeBase e "keys" X.env (eval e X.env) = eval e X.env := by rfl) (hline : (apos.endLine == cpos.line) = true := by rfl)
    (nl : starEach [Expr.Call (.Attribute e "keys" apos) [] [] cpos] X.env = (false, eval (.Call (.Attribute e "keys" apos) [] [] cpos) X.env) :: starEach [] X.env := by rfl) :
    PE X (.Call (.Name "list" p) [.Call (.Attribute e "keys" apos) [] [] cpos] [] pos) (tLKT X.K td) := by
  refine ⟨fun pins s σ H Q I h => ?_⟩
  refine Call_ (ld_blt I gl ml boot_list (PyProof.Rows.callWith_type1 (args_cons ?_ nl) nl))
  refine wpAny_Call_method (T := "dict") (id := "dict.keys") hbase rfl hline F.plainAttrs_dict F.slot_dict_keys F.type_dict_keys (thn (he.run pins s σ H _ I h) fun u s1 ⟨x, H1, I1, rx, d, kvs, ex, hd, q⟩ => ?_)
  subst ex
  obtain rfl : u = Value.ref d := rx
  obtain ⟨z, hs, ks, pr, o, es, ep, ho, hx, hdt, hes, hn⟩ := (show ObjOk X.prog X.w H1 s1.heap d (.dT kvs) from hd.ok I1.hok)
  have hT : s1.TypeIs (.ref d) "dict" := ⟨o, ho, hx.1⟩
  refine ⟨hT, ?_, ?_⟩
  · intro a ea
    cases ea
    exact ⟨o, ho, hx.2.1⟩
  have I2 : Inv X pins σ H1 { s1 with heap := s1.heap.push { cls := .type "dict_keys", data := .fields #[.ref d] } } := I1.kept (t' := s1.toks) fun b ob q => Heap.get?_push_of_some _ q
  show wpAny _ _ (callWith cpos (.builtin "dict.keys") [.ref d] [] []) _ X.xe s1
  refine method_meetsIn F.slot_dict_keys F.entry_dict_keys rfl (PySem.evalArgs_none ⟨rfl, hT, F.args_dict_keys_1 _, _, meets_keys_raw d hs, hT, ?_⟩)
  refine args_nil ?_
  have l1 : es.size = ks.length := size_of_entries hes
  have l2 : kvs.length = ks.length := Paired.length pr
  have hv : PySem.W.KdlKeysView (s1.heap.push { cls := .type "dict_keys", data := .fields #[.ref d] }) s1.heap.objs.size d := ⟨_, Heap.get?_push_size _ rfl, rfl, rfl⟩
  refine PySem.W.kdl_call (PySem.KdlSrc.rawKeys (r := s1.heap.objs.size) (d := d) (es := es) (ep := ep)) (I.ok.hd hc) ⟨hv, ⟨o, Heap.get?_push_of_some _ ho, hx, hdt⟩⟩ (by omega) fun h' tk acc' c' kp e it => ?_
  have ea : acc'.toList = ks.map fun x => Value.ref x.2.1 := by
    have hl : acc'.toList.length = ks.length := by rw [Array.length_toList, it.1]; exact l1
    apply List.ext_getElem?
    intro j
    rw [List.getElem?_map]
    cases hj : acc'.toList[j]? with
    | none =>
      have h1 := List.getElem?_eq_none_iff.mp hj
      rw [List.getElem?_eq_none (by omega)]
      all_goals rfl
    | some v =>
      obtain ⟨hi, hv⟩ := it.2 j v (by rw [← Array.getElem?_toList]; exact hj)
      have hen : es[j]? = some es[j] := Array.getElem?_eq_getElem hi
      have qe := entry_at hes j
      rw [hen] at qe
      cases hb : ks[j]? with
      | none =>
        rw [hb] at qe
        exact nomatch (show some es[j] = none from qe)
      | some b =>
        rw [hb] at qe
        have e2 : es[j] = entryOfKey (tupleKind (mixKind X.prog X.w)) b := Option.some.inj qe
        rw [hv, e2]
        all_goals rfl
  have eb : acc'.toList = (ks.map fun x => x.2.1).map Value.ref := by rw [ea, List.map_map]; all_goals rfl
  have rv : Vals ((ks.map fun x => x.2.1).map V.ref) acc'.toList := by rw [eb]; exact vals_refs _
  have hz : ((ks.map fun x => x.2.1).map V.ref).length ≤ sizeLine := by rw [List.length_map, List.length_map]; omega
  have fr : H1 (s1.heap.objs.size + 1) = none := I1.hok.fresh (Nat.le_succ _)
  have e1 : (s1.heap.push { cls := .type "dict_keys", data := .fields #[.ref d] }).objs.size = s1.heap.objs.size + 1 := Heap.size_push ..
  refine ⟨.ref (s1.heap.push { cls := .type "dict_keys", data := .fields #[.ref d] }).objs.size, _, I2.laid (t' := tk) (o := .lst ((ks.map fun x => x.2.1).map V.ref)) kp (Nat.le_refl _) ?_, rfl, q _ _ (by rw [e1]; exact fr) (isKeys_of pr)⟩
  exact ⟨hz, acc'.toList, c', rv, by rw [Array.toArray_toList]; exact e⟩
end
end Cm
namespace Sx
open PySem L2
section
variable {H : Hp} {Q : VK} {σ : L2.St} {td : TE} {K : PySem.W.Frag}
theorem s_lkt (h : td σ H fun x H1 => ∃ d kvs, x = .ref d ∧ Rd H1 d (.dT kvs) ∧ ∀ p bs, H1 p = none → IsKeys H1 kvs bs → Q (.ref p) (upd H1 p (.lst (bs.map V.ref)))) : Cm.tLKT K td σ H Q := h
end
end Sx

set_option Elab.async false
set_option linter.all false
set_option maxRecDepth 100000
set_option maxHeartbeats 1000000
/-! list(d.values()), d a dict with int or text keys -/
namespace Cm
open PySem PySem.Spec PyProof.Rows L2
section
variable {X : Cx} {e : Expr} {td : TE}
theorem vals_snd : ∀ {kvs : List (Key × V)} {vs : List (Key × Value)}, KV kvs vs → Vals (kvs.map (·.2)) (vs.map (·.2))
  | _, _, .nil => .nil
  | _, _, .cons h t => .cons h.2 (vals_snd t)
/-- its reading -/
def tLV (td : TE) : TE := fun σ H Q => td σ H fun x H1 => ∃ d kvs, x = .ref d ∧ H1 d = some (.dK kvs) ∧ ∀ p, H1 p = none → Q (.ref p) (upd H1 p (.lst (kvs.map (·.2))))
theorem pe_listVals {p pos apos cpos : Pos} (hc : X.calm = true) (gl : Gl X "list") (ml : X.mg "list" = none) (he : PE X e td)
    (hbase : attributeBase e "values" X.env (eval e X.env) = eval e X.env := by rfl) (hline : (apos.endLine == cpos.line) = true := by rfl)
    (nl : starEach [Expr.Call (.Attribute e "values" apos) [] [] cpos] X.env = (false, eval (.Call (.Attribute e "values" apos) [] [] cpos) X.env) :: starEach [] X.env := by rfl) :
    PE X (.Call (.Name "list" p) [.Call (.Attribute e "values" apos) [] [] cpos] [] pos) (tLV td) := by
  refine ⟨fun pins s σ H Q I h => ?_⟩
  refine Call_ (ld_blt I gl ml boot_list (PyProof.Rows.callWith_type1 (args_cons ?_ nl) nl))
  refine wpAny_Call_method (T := "dict") (id := "dict.values") hbase rfl hline F.plainAttrs_dict F.slot_dict_values F.type_dict_values (thn (he.run pins s σ H _ I h) fun u s1 ⟨x, H1, I1, rx, d, kvs, ex, hd, q⟩ => ?_)
  subst ex
  obtain rfl : u = Value.ref d := rx
  obtain ⟨z, hs, vs, rel, dof⟩ := dk_of I1.hok hd
  obtain ⟨es, ep, raw, esz, at'⟩ := dof.raw
  have hT : s1.TypeIs (.ref d) "dict" := dof.typeIs
  refine ⟨hT, dof.mapOf.noDict, ?_⟩
  have I2 : Inv X pins σ H1 { s1 with heap := s1.heap.push { cls := .type "dict_values", data := .fields #[.ref d] } } := I1.kept (t' := s1.toks) fun b ob q => Heap.get?_push_of_some _ q
  show wpAny _ _ (callWith cpos (.builtin "dict.values") [.ref d] [] []) _ X.xe s1
  refine method_meetsIn F.slot_dict_values F.entry_dict_values rfl (PySem.evalArgs_none ⟨rfl, hT, F.args_dict_values_1 _, _, meets_dict_values (mixKind X.prog X.w) d hs, ⟨vs, dof⟩, ?_⟩)
  refine args_nil ?_
  have l2 : kvs.length = vs.length := Paired.length rel
  have hv : (s1.heap.push { cls := .type "dict_values", data := .fields #[.ref d] }).IsValuesView s1.heap.objs.size d := ⟨_, Heap.get?_push_size _ rfl, rfl, rfl⟩
  refine PySem.W.kdl_call (KdlSrc.rawValues (r := s1.heap.objs.size) (d := d) (es := es) (ep := ep)) (I.ok.hd hc) ⟨hv, raw.push _⟩ (by omega) fun h' tk acc' c' kp e it => ?_
  have rv : Vals (kvs.map (·.2)) acc'.toList := by
    have ea : acc'.toList = vs.map (·.2) := by
      have hl : acc'.toList.length = vs.length := by rw [Array.length_toList, it.1]; exact esz
      apply List.ext_getElem?
      intro j
      rw [List.getElem?_map]
      cases hj : acc'.toList[j]? with
      | none =>
        have h1 := List.getElem?_eq_none_iff.mp hj
        rw [List.getElem?_eq_none (by omega)]
        rfl
      | some v =>
        obtain ⟨hi, hv⟩ := it.2 j v (by rw [← Array.getElem?_toList]; exact hj)
        have hk : vs[j]? = some vs[j] := List.getElem?_eq_getElem (by omega)
        have := (at' j hi vs[j].1 vs[j].2 hk).2
        rw [hk, hv, this]
        rfl
    rw [ea]
    exact vals_snd rel
  have hz : (kvs.map (·.2)).length ≤ sizeLine := by rw [List.length_map]; exact z
  have fr : H1 (s1.heap.objs.size + 1) = none := I1.hok.fresh (Nat.le_succ _)
  have e1 : (s1.heap.push { cls := .type "dict_values", data := .fields #[.ref d] }).objs.size = s1.heap.objs.size + 1 := Heap.size_push ..
  refine ⟨.ref (s1.heap.push { cls := .type "dict_values", data := .fields #[.ref d] }).objs.size, _, I2.laid (t' := tk) (o := .lst (kvs.map (·.2))) kp (Nat.le_refl _) ?_, rfl, q _ (by rw [e1]; exact fr)⟩
  exact ⟨hz, acc'.toList, c', rv, by rw [Array.toArray_toList]; exact e⟩
end
end Cm
namespace Sx
open PySem L2
section
variable {H : Hp} {Q : VK} {σ : L2.St} {td : TE}
theorem s_lv (h : td σ H fun x H1 => ∃ d kvs, x = .ref d ∧ H1 d = some (.dK kvs) ∧ ∀ p, H1 p = none → Q (.ref p) (upd H1 p (.lst (kvs.map (·.2))))) : Cm.tLV td σ H Q := h
end
end Sx

set_option Elab.async false
set_option linter.all false
set_option maxRecDepth 100000
set_option maxHeartbeats 2000000
/-! {e for x in xs if ..}, e an int or a text: the set by membership and number -/
namespace L2
open PySem PySem.Spec PyProof.Rows PpSet
section
variable {X : Cx}
theorem addK_ok {pins : List (Addr × Obj)} {σ : L2.St} {H : Hp} {s : Shared} {E : Value → Shared → Prop} {D : Addr} {S : Key → Bool} {n : Nat} {k : Key} {u : Value} {Q : Value → Shared → Prop} (I : Inv X pins σ H s) (hD : H D = some (SetK X.prog X.w D S n)) (ry : RelV (kV k) u) (room : n + 1 < scanBound)
    (h : ∀ s', Inv X pins σ (upd H D (SetK X.prog X.w D (fun j => S j || decide (j = k)) (if S k = true then n else n + 1))) s' → Q .none s') : wpAny (model X.prog X.w) X.A (call (.builtin "set.add") [.ref D, u]) Q E s := by
  refine call_set_add (kV_is ry) (key_scan ry) (setK_get I hD) room fun h' sb new => ?_
  have he : ∃ u, h'.get? D = some u := by
    have ⟨o, _, _, _, ho, _⟩ := new
    exact ⟨o, ho⟩
  exact h _ (I.write (e := D) (t' := s.toks + 1) (by rw [hD]; trivial) (.inl rfl) (fun b u hb hu => (sb.2 b hb).trans hu) he (setK_new new))
/-- {e for target in iter if ..}: D the new set -/
def tScP (P : Program) (w : World) (wi : TI) (g : TG) (tt : TT) (te : TE) (vs : List Nat) : TE := fun σ H Q => wi σ H fun J H1 => ∀ D, H1 D = none →
  ∃ W : Nat → Nat → Hp → Prop, (∃ m, W 0 m (upd H1 D (SetK P w D (fun _ => false) 0))) ∧ ∀ i m H2, W i m H2 → (J.stop i H2 ∧ Q (.ref D) H2) ∨
    (J.go i H2 ∧ ∃ Nx : Hp → Prop, (∀ H', Nx H' → ∃ m', m' < m ∧ W (i + 1) m' H') ∧ ∀ x H3, J.yld i H2 x H3 → g x (wipe σ vs) H3 fun σ2 H4 => wipe σ2 vs = wipe σ vs ∧ tt σ2 H4 fun b H5 =>
      if b = true then te σ2 H5 fun y H6 => ∃ (k : Key) (S : Key → Bool) (n : Nat), y = kV k ∧ H6 D = some (SetK P w D S n) ∧ n + 1 < scanBound ∧ Nx (upd H6 D (SetK P w D (fun j => S j || decide (j = k)) (if S k = true then n else n + 1))) else Nx H5)
/-- what a comprehension's parts answer, whatever block they stand in -/
structure ScParts (X : Cx) (scope : Scope) (tg ex : Expr) (ifs : List Expr) (g : TG) (tt : TT) (te : TE) : Prop where
  tgt : ∀ (s : Shared) (H : Hp) (C : Addr) (cl : List (Str × Addr)) (fp : List Addr), PG (X.blk s H scope (compEnvC scope cl C X.env) fp) tg g
  tst : ∀ (s : Shared) (H : Hp) (C : Addr) (cl : List (Str × Addr)) (fp : List Addr), PTs (X.blk s H scope (compEnvC scope cl C X.env) fp) ifs tt
  el : ∀ (s : Shared) (H : Hp) (C : Addr) (cl : List (Str × Addr)) (fp : List Addr), PE (X.blk s H scope (compEnvC scope cl C X.env) fp) ex te
/-- a set comprehension, its value used as use says -/
theorem scp_core {pins : List (Addr × Obj)} {s : Shared} {σ : St} {H : Hp} {Q : VK} {ex tg iter : Expr} {ifs : List Expr} {scope : Scope} {own : List (Str × Nat)} {pos pos' : Pos} {wi : TI} {g : TG} {tt : TT} {te : TE} {use : Option (Value → Sem Unit)} {Qf : Value → Shared → Prop} (hc : X.calm = true) (hN : X.N.Nodup)
    (I : Inv X pins σ H s) (hi : PI X tg iter wi) (ok : BlkOk X.N X.env.scope scope own) (parts : ScParts X scope tg ex ifs g tt te) (hs : ∀ x, foldedSetIterable iter X.env x = pure x) (want : tScP X.prog X.w wi g tt te (own.map (·.2)) σ H Q)
    (ends : ∀ D C s' m H', Inv X pins σ H' s' → Q (.ref D) H' → s'.heap.Ns C m → FpOk X pins H' C → compPost (model X.prog X.w) X.A X.xe use Qf (.ref D) C (.ok .next) s') :
    wpAny (model X.prog X.w) X.A (comprehension (.SetComp ex [⟨tg, iter, ifs, 0⟩] scope pos) scope X.env pos' (newSet (.type "set")) false (eval iter X.env) use) Qf X.xe s := by
  have cells : ∀ y ∈ scope.names, y.2 = .free → ∃ c, X.env.cells.lookup y.1 = some c := fun y hy e =>
    (ok.free y hy e).elim (fun k => I.ok.has _ (.inl k)) fun k => I.ok.has _ (.inr k)
  refine wpAny_comprehension_free (use := use) rfl hs (closure_ok cells) ok.kind (fun y hy e => (ok.uniq y hy).trans (by rw [e])) ?_
  refine thn (hi.run pins s σ H _ I want) fun xv s1 hx => thn hx fun itv s2 ⟨it, fp, tn, J, H2, e, I2, T, st2, f2, rest⟩ => ?_
  subst e
  refine newSet_ok (newEnv_comp ?_)
  obtain ⟨D, hD⟩ : ∃ D, D = s2.heap.objs.size := ⟨_, rfl⟩
  rw [← hD]
  obtain ⟨W, ⟨m0, start⟩, turns⟩ := rest D (I2.hok.fresh (Nat.le_of_eq hD.symm))
  -- behind the making of the dict
  obtain ⟨s3, hs3⟩ : ∃ s3 : Shared, s3 = { s2 with heap := s2.heap.push { cls := .type "set", dict := none, data := .set #[] 0 (.fresh 0 0 (!X.w.params.followText "set-order")) } } := ⟨_, rfl⟩
  have heap3 : s3.heap = s2.heap.push { cls := .type "set", dict := none, data := .set #[] 0 (.fresh 0 0 (!X.w.params.followText "set-order")) } := by rw [hs3]
  have grows : ∀ b o, s2.heap.get? b = some o → s3.heap.get? b = some o := fun b o e => by
    rw [heap3]
    exact Heap.get?_push_of_some _ e
  have I3 : Inv X pins σ (upd H2 D (SetK X.prog X.w D (fun _ => false) 0)) s3 := by
    rw [hs3]
    refine I2.laid (t' := s2.toks) (fun b o e => Heap.get?_push_of_some _ e) (Nat.le_of_eq hD.symm) ?_
    rw [hD]
    exact setK_new ⟨_, #[], 0, _, Heap.get?_push_size _ rfl, ⟨rfl, rfl, rfl⟩, rfl, (fun e he => by simp at he), (fun k => by simp), (by decide), (by rfl), rfl⟩
  have lows : ∀ b ∈ fp, b < s2.heap.objs.size := fun b hb => (T.obj _ _ st2 b hb).elim fun o h => Heap.lt_size h.1
  have frees : ∀ b ∈ fp, FpOk X pins (upd H2 D (SetK X.prog X.w D (fun _ => false) 0)) b ∧ b < s3.heap.objs.size := fun b hb => by
    have l := lows b hb
    have n : b ≠ D := fun e => Nat.lt_irrefl _ (by rw [e, hD] at l; exact l)
    refine ⟨⟨by rw [upd_ne n]; exact (f2 b hb).1, (f2 b hb).2⟩, ?_⟩
    rw [heap3, Heap.size_push]
    exact Nat.lt_succ_of_lt l
  have st3 : tn 0 s3.heap := T.keep _ _ _ st2 fun b _ o e => grows b o e
  obtain ⟨C, hC⟩ : ∃ C, C = s3.heap.objs.size := ⟨_, rfl⟩
  obtain ⟨cl, hcl⟩ : ∃ cl, cl = cellsFrom (C + 1) scope.names (cloFrom X.env.cells scope.names []) := ⟨_, rfl⟩
  obtain ⟨H3, hH3⟩ : ∃ H3, H3 = upd H2 D (SetK X.prog X.w D (fun _ => false) 0) := ⟨_, rfl⟩
  have I4 := block_start I3 ok hN frees
  rw [← hC, ← hcl, ← hH3] at I4
  rw [← hH3] at I3 frees start
  have pg := parts.tgt s3 H3 C cl fp
  have pt := parts.tst s3 H3 C cl fp
  have pe := parts.el s3 H3 C cl fp
  rw [← hs3, ← hC, ← hcl]
  obtain ⟨ce, hce⟩ : ∃ ce, ce = compEnvC scope cl C X.env := ⟨_, rfl⟩
  have locals : ce.locals = C := by rw [hce]; rfl
  rw [← hce] at I4 pg pt pe
  show codeAny _ _ (.compStart (.SetComp ex [⟨tg, iter, ifs, 0⟩] scope pos) 0 (.ref it) (.ref D) (compEnvC scope cl C X.env)) (compPost (model X.prog X.w) X.A X.xe use Qf (.ref D) C) { s3 with heap := pushCells (s3.heap.push { cls := .type "dict", data := .dict #[] }) scope.names }
  rw [← hce]
  obtain ⟨s4, hs4⟩ : ∃ s4 : Shared, s4 = { s3 with heap := pushCells (s3.heap.push { cls := .type "dict", data := .dict #[] }) scope.names } := ⟨_, rfl⟩
  rw [← hs4] at I4 ⊢
  have st4 : tn 0 s4.heap := T.keep _ _ _ st3 fun b _ o e => by
    rw [hs4]
    exact pushCells_keeps _ _ _ _ (Heap.get?_push_of_some _ e)
  -- what the walk reads stays what it was
  have still : ∀ {τ : St} {H' : Hp} {s' : Shared}, Inv (X.blk s3 H3 scope ce fp) [] τ H' s' → (∀ b ∈ fp, H' b = none) → ∀ b ∈ fp, FpOk (X.blk s3 H3 scope ce fp) [] H' b := by
    exact fun I' no b hb => ⟨no b hb, (I'.ok.exf b hb).1, I'.ok.exfs b hb, .inl hb, fun x c e => (I'.ok.exf b hb).2 x c e, fun p hp => absurd (show p ∈ ([] : List (Addr × Obj)) ++ [] from hp) (by simp)⟩
  -- behind the block
  have back : ∀ {τ : St} {H' : Hp} {s' : Shared}, Inv (X.blk s3 H3 scope ce fp) [] τ H' s' → Inv X pins σ H' s' ∧ (∃ m, s'.heap.Ns C m) ∧ FpOk X pins H' C := by
    intro τ H' s' I'
    have n : H' C = none := by rw [← locals]; exact I'.free
    obtain ⟨m, ns, _⟩ := I'.loc
    refine ⟨I3.call' (ch := fp) I'.os I'.base I'.hok I'.bare fun b hb => ⟨(frees b hb).1.2.2.2.1, (frees b hb).1.2.1, (frees b hb).1.2.2.2.2.1, (frees b hb).1.2.2.2.2.2⟩, ⟨m, ?_⟩, I3.fpOk (Nat.le_of_eq hC.symm) n⟩
    rw [← locals]
    exact ns
  have loop : codeAny (model X.prog X.w) X.A (.compLoop (.SetComp ex [⟨tg, iter, ifs, 0⟩] scope pos) 0 (.ref it) (.ref D) ce) (compPost (model X.prog X.w) X.A X.xe use Qf (.ref D) C) s4 := by
    refine compLoopS_any (fun n s' => ∃ i H', W i n H' ∧ tn i s'.heap ∧ (∀ b ∈ fp, H' b = none) ∧ Inv (X.blk s3 H3 scope ce fp) [] (wipe σ (own.map (·.2))) H' s') ?_ m0 ⟨0, H3, start, st4, fun b hb => (frees b hb).1.1, I4⟩
    rintro n s5 ⟨i, H5, w5, st5, n5, I5⟩
    rcases turns i n H5 w5 with ⟨halt, won⟩ | ⟨go, Nx, next, turn⟩
    · refine thnF (T.done (X.blk s3 H3 scope ce fp) rfl rfl rfl hc i [] s5 _ H5 (fun _ _ => False) I5 (still I5 n5) st5 halt) fun r s6 ⟨hr, I6⟩ => ?_
      subst hr
      obtain ⟨J6, ⟨m, ns⟩, f6⟩ := back I6
      exact ends D C s6 m H5 J6 won ns f6
    · refine thnF (T.item (X.blk s3 H3 scope ce fp) rfl rfl rfl hc i [] s5 _ H5 (fun _ _ => False) I5 (still I5 n5) st5 go) fun r s6 ⟨u, hr, h6⟩ => ?_
      subst hr
      refine thnF h6 fun _ s7 ⟨x, H7, I7, r7, y7, st7, n7⟩ => ?_
      obtain ⟨pl, hpl⟩ : ∃ pl, pl = pinsAt fp s7.heap := ⟨_, rfl⟩
      have P7 : Inv (X.blk s3 H3 scope ce fp) ([] ++ pl) (wipe σ (own.map (·.2))) H7 s7 := by
        rw [hpl]
        exact I7.pinned (still I7 n7) (T.obj _ _ st7)
      -- a turn that is over
      have over : ∀ {τ : St} {s' : Shared} {H' : Hp}, wipe τ (own.map (·.2)) = wipe σ (own.map (·.2)) → Inv (X.blk s3 H3 scope ce fp) ([] ++ pl) τ H' s' → Nx H' →
          ∃ m, m < n ∧ ∃ i H', W i m H' ∧ tn i s'.heap ∧ (∀ b ∈ fp, H' b = none) ∧ Inv (X.blk s3 H3 scope ce fp) [] (wipe σ (own.map (·.2))) H' s' := by
        intro τ s' H' same I' nx
        obtain ⟨m', lt, w'⟩ := next H' nx
        have there : ∀ b ∈ fp, ∀ o, s7.heap.get? b = some o → s'.heap.get? b = some o ∧ H' b = none := fun b hb o e => by
          have z := I'.pin (b, o) (List.mem_append_right _ (List.mem_append_right _ (by rw [hpl]; exact mem_pinsAt hb e)))
          exact ⟨z.1, z.2.1⟩
        refine ⟨m', lt, i + 1, H', w', T.keep _ _ _ st7 fun b hb o e => (there b hb o e).1, fun b hb => (T.obj _ _ st7 b hb).elim fun o h => (there b hb o h.1).2, ?_⟩
        refine (I'.unpinned (pins := [])).weak (by rw [← same, wipe_length]) fun j v e => ?_
        rw [← same] at e
        exact (wipe_some e).1
      refine thnF (pg.run _ s7 _ H7 x u _ P7 r7 (turn x H7 y7)) fun _ s8 ⟨τ, H8, I8, same, q8⟩ => ?_
      refine thnF (pt.run _ s8 τ H8 _ I8 q8) fun b s9 ⟨H9, I9, q9⟩ => ?_
      cases b with
      | true =>
        refine thnF (pe.run _ s9 τ H9 _ I9 q9) fun ku s10 ⟨y, H10, I10, r10, k, S, n', ey, hS, room, nx⟩ => ?_
        subst ey
        exact addK_ok (X := X.blk s3 H3 scope ce fp) I10 hS r10 room fun s12 I12 => over same I12 nx
      | false => exact over same I9 q9
  exact codeAny_compStart_set loop (T.self X.A 0 _ _ _ st4 loop)
/-- the value of a set comprehension over any walk -/
theorem pe_scP {ex tg iter : Expr} {ifs : List Expr} {scope : Scope} {own : List (Str × Nat)} {pos : Pos} {wi : TI} {g : TG} {tt : TT} {te : TE} (hc : X.calm = true) (hN : X.N.Nodup)
    (hi : PI X tg iter wi) (ok : BlkOk X.N X.env.scope scope own) (parts : ScParts X scope tg ex ifs g tt te) (hs : ∀ x, foldedSetIterable iter X.env x = pure x := by intro _; rfl) :
    PE X (.SetComp ex [⟨tg, iter, ifs, 0⟩] scope pos) (tScP X.prog X.w wi g tt te (own.map (·.2))) := by
  refine ⟨fun pins s σ H Q I want => ?_⟩
  rw [eval_SetComp]
  refine scp_core hc hN I hi ok parts hs want fun D C s' m H' I' q ns f => ⟨m, ns, fun h'' sb => ?_⟩
  obtain ⟨q0, q1, _, q3, q4, q5⟩ := f
  exact ⟨.ref D, H', I'.turned (t' := s'.toks) (fun b o hb e => (sb.2 b hb).trans e) q0 q1 q3 q4 q5, rfl, q⟩

/-- len(s) of such a set -/
def rLenK (P : Program) (w : World) : List V → Hp → VK → Prop := fun xs H Q => ∃ (a : Addr) (S : Key → Bool) (n : Nat), xs = [.ref a] ∧ H a = some (SetK P w a S n) ∧ Q (.int n) H
theorem cr_lenK : CallR X (.builtin "len") (rLenK X.prog X.w) := by
  intro pins s σ H xs us Q I r h
  obtain ⟨a, S, n, rfl, ha, q⟩ := h
  rw [Vals.ref1 r]
  obtain ⟨o, es, ep, t, ho, hex, hd, _, _, room, hf, hn⟩ := setK_get I ha
  refine call_len_set ho hex hd hf (by unfold scanBound at room; omega) ⟨.int n, H, I.tok _, ⟨_, by rw [hn]⟩, q⟩
/-- over a list that the block leaves as it is -/
theorem scp_list {P : Program} {w : World} {K : PySem.W.Frag} {a : Addr} {xs : List V} {g : TG} {tt : TT} {te : TE} {vs : List Nat} {σ : St} {H1 : Hp} {D : Addr} {Qd : Hp → Prop} (Pv : Nat → Hp → Prop) (first : Pv 0 (upd H1 D (SetK P w D (fun _ => false) 0))) (stays : ∀ i H, i ≤ xs.length → Pv i H → SqL K H a xs)
    (each : ∀ i x H, xs[i]? = some x → Pv i H → g x (wipe σ vs) H fun σ2 H4 => wipe σ2 vs = wipe σ vs ∧ tt σ2 H4 fun b H5 =>
      if b = true then te σ2 H5 fun y H6 => ∃ (k : Key) (S : Key → Bool) (n : Nat), y = kV k ∧ H6 D = some (SetK P w D S n) ∧ n + 1 < scanBound ∧ Pv (i + 1) (upd H6 D (SetK P w D (fun j => S j || decide (j = k)) (if S k = true then n else n + 1))) else Pv (i + 1) H5) (last : ∀ H, Pv xs.length H → Qd H) :
    ∃ W : Nat → Nat → Hp → Prop, (∃ m, W 0 m (upd H1 D (SetK P w D (fun _ => false) 0))) ∧ ∀ i m H2, W i m H2 → ((Itl K a).stop i H2 ∧ Qd H2) ∨
      ((Itl K a).go i H2 ∧ ∃ Nx : Hp → Prop, (∀ H', Nx H' → ∃ m', m' < m ∧ W (i + 1) m' H') ∧ ∀ x H3, (Itl K a).yld i H2 x H3 → g x (wipe σ vs) H3 fun σ2 H4 => wipe σ2 vs = wipe σ vs ∧ tt σ2 H4 fun b H5 =>
        if b = true then te σ2 H5 fun y H6 => ∃ (k : Key) (S : Key → Bool) (n : Nat), y = kV k ∧ H6 D = some (SetK P w D S n) ∧ n + 1 < scanBound ∧ Nx (upd H6 D (SetK P w D (fun j => S j || decide (j = k)) (if S k = true then n else n + 1))) else Nx H5) := by
  refine ⟨fun i m H => i + m = xs.length ∧ Pv i H, ⟨xs.length, Nat.zero_add _, first⟩, ?_⟩
  rintro i m H ⟨e, p⟩
  have sq := stays i H (by omega) p
  cases m with
  | zero =>
    obtain rfl : i = xs.length := by omega
    exact .inl ⟨⟨xs, sq, Nat.le_refl _⟩, last H p⟩
  | succ m =>
    have lt : i < xs.length := by omega
    refine .inr ⟨⟨xs, xs[i], sq, by simp [lt]⟩, Pv (i + 1), fun H' p' => ⟨m, Nat.lt_succ_self m, by omega, p'⟩, fun x H' ⟨e', y⟩ => ?_⟩
    subst e'
    exact each i x _ (y xs sq) p
end
end L2

set_option Elab.async false
set_option linter.all false
set_option maxRecDepth 100000
set_option maxHeartbeats 3200000
/-! set(v) of a list or a tuple, the loop's promise left open -/
namespace L2
open PySem PySem.Spec PyProof.Rows
section
variable {P : Program} {w : World} {A : Around} {E : Value → Shared → Prop} {s : Shared}
/-- the set that a call makes first -/
abbrev setNew (w : World) : Obj := { cls := .type "set", dict := none, data := .set #[] 0 (.fresh 0 0 (!w.params.followText "set-order")) }
/-- a built-in kind that set() walks -/
structure SeqTy (T : String) : Prop where
  noSet : isSubtype (.type T) (.type "set") = pure false
  noFrozen : isSubtype (.type T) (.type "frozenset") = pure false
  noDict : (Value.type T == Value.type "dict") = false
theorem seqTy_list : SeqTy "list" := ⟨F.sub_list_set, F.sub_list_frozenset, by decide⟩
theorem seqTy_tuple : SeqTy "tuple" := ⟨F.sub_tuple_set, F.sub_tuple_frozenset, by decide⟩
/-- what is asked of the walk that fills the set at S: R is what it leaves -/
def Fills (P : Program) (w : World) (A : Around) (E : Value → Shared → Prop) (S l : Addr) (R : Shared → Prop) (s : Shared) : Prop :=
  wpAny (model P w) A (pyIter (.ref l)) (fun it s2 => codeAny (model P w) A (.builtin "set.update.loop" ⟨[.ref S, it], []⟩) (wants (fun r s3 => r = .none ∧ R s3) E) s2) E s
theorem init_seq {T : String} {S l : Addr} {o : Obj} {R : Shared → Prop} (ty : SeqTy T) (hS : s.heap.get? S = some (setNew w)) (hl : s.heap.get? l = some o) (hT : o.cls = .type T) (fill : Fills P w A E S l R s) :
    wpAny (model P w) A (Builtin.«set.__init__» ⟨[.ref S, .ref l], []⟩) (fun r s2 => r = .done (.ret .none) ∧ R s2) E s := by
  obtain ⟨c, dd, da, sl⟩ := o
  obtain rfl : c = Value.type T := hT
  have q1 := ty.noSet
  have q2 := ty.noFrozen
  have q3 := ty.noDict
  unfold Builtin.«set.__init__» noKeywords Builtin.Frozenset.updateFrom
  unfold Fills at fill
  generalize pyIter = PI at *
  wp_walk
  refine wpAny_mono fill (fun it s2 h2 => ?_) fun _ _ z => z
  refine wpAny_bind (wpAny_runValue (codeAny_mono h2 fun r s3 h3 => ?_))
  cases r with
  | error e => exact h3
  | ok fl =>
    cases fl with
    | ret u => exact wpAny_pure (wpAny_pure ⟨rfl, h3.2⟩)
    | _ => exact h3.elim
/-- set(v): the walk is asked where it stands -/
theorem call_set_seq {T : String} {l : Addr} {o : Obj} {R : Shared → Prop} {Q : Value → Shared → Prop} (ty : SeqTy T) (hl : s.heap.get? l = some o) (hT : o.cls = .type T)
    (fill : Fills P w A.in1.in1 E s.heap.objs.size l R { s with heap := s.heap.push (setNew w) }) (won : ∀ s', R s' → Q (.ref s.heap.objs.size) s') : wpAny (model P w) A (call (.type "set") [.ref l]) Q E s := by
  obtain ⟨c, tl, hmro⟩ := F.called_set.mro
  have a1 := F.called_set.made
  have a2 := F.called_set.sub
  have a3 := F.called_set.notType
  have a4 := F.called_set.canCreate
  have a5 := F.typeCall_set_1 (.ref l)
  refine wpAny_call (codeAny_of_tree ?_)
  show wpAny _ _ (callAny (.type "set") ⟨[.ref l], []⟩) _ _ s
  refine wpAny_pure ⟨Code.quiet_builtin _ (by decide +kernel), codeAny_builtin F.entry_type_call ?_⟩
  rw [Around.under_plain (weight_type_call_type "set" [.ref l] []) rfl]
  repeat (any_goals (first | assumption | wp_step))
  -- the new set
  refine codeAny_mono (code_set_led1 (.ref l) (E := E) (Q₁ := fun v s1 => v = .ref s.heap.objs.size ∧ s1 = { s with heap := s.heap.push (setNew w) }) ⟨rfl, rfl⟩) fun r s1 hr => ?_
  cases r with
  | error e => exact hr
  | ok fl =>
    cases fl with
    | ret v =>
      obtain ⟨rfl, rfl⟩ := hr
      have at0 : (s.heap.push (setNew w)).get? s.heap.objs.size = some (setNew w) := Heap.get?_push_size _ rfl
      have atl : (s.heap.push (setNew w)).get? l = some o := Heap.get?_push_of_some _ hl
      have hty : Shared.TypeIs { s with heap := s.heap.push (setNew w) } (.ref s.heap.objs.size) "set" := ⟨_, at0, rfl⟩
      have b1 := F.called_set.init.lookup
      have b2 := F.called_set.init.bind (.ref s.heap.objs.size)
      repeat (any_goals (first | assumption | wp_step))
      refine codeAny_mono (codeAny_call_builtin (R := wants (fun r s2 => r = .none ∧ R s2) E) F.called_set.init.plain F.entry_set_init (check_set_init_1 hty ?_)) fun r2 s2 hr2 => ?_
      · refine wpAny_mono (init_seq ty at0 atl hT fill) (fun fin s3 h3 => ?_) fun _ _ z => z
        obtain ⟨rfl, h3⟩ := h3
        exact ⟨rfl, h3⟩
      · cases r2 with
        | error e => exact hr2
        | ok fl2 =>
          cases fl2 with
          | ret u =>
            obtain ⟨rfl, h3⟩ := hr2
            have q := won s2 h3
            repeat (any_goals (first | assumption | wp_step))
          | _ => exact hr2.elim
    | _ => exact hr.elim

/-- set(t), t a tuple of tuples of ints -/
theorem call_set_ofT {l : Addr} {items : Array Value} (ks : List (Addr × List Int)) {Q : Value → Shared → Prop} (hh : A.handled = none) (hl : s.heap.IsTuple l items) (same : items.toList = ks.map fun p => Value.ref p.1)
    (keys : ∀ p ∈ ks, IsT P w s.heap p.2 p.1) (few : ks.length < 64) (hu : A.units + 3 < cLine)
    (won : ∀ (h' : Heap) (tk : Nat) L es ep t, (∀ b o, s.heap.get? b = some o → h'.get? b = some o) → Got ks ks.length L → SetTR P w h' s.heap.objs.size L es ep t → Q (.ref s.heap.objs.size) { s with heap := h', toks := tk }) :
    wpAny (model P w) A (call (.type "set") [.ref l]) Q E s := by
  have len : items.size = ks.length := by rw [← Array.length_toList, same, List.length_map]
  obtain ⟨o, ho, oc, n, od⟩ := id hl
  have lt : l < s.heap.objs.size := Heap.lt_size ho
  have nobody : ∀ b, s.heap.objs.size ≤ b → s.heap.get? b = none := fun b hb => Classical.byContradiction fun h => by
    obtain ⟨u, hu⟩ := Option.ne_none_iff_exists'.mp h
    exact Nat.lt_irrefl _ (Nat.lt_of_le_of_lt hb (Heap.lt_size hu))
  refine call_set_seq (R := fun s' => ∃ (h' : Heap) (tk : Nat), s' = { s with heap := h', toks := tk } ∧ ∃ L es ep t, (∀ b o, s.heap.get? b = some o → h'.get? b = some o) ∧ Got ks ks.length L ∧ SetTR P w h' s.heap.objs.size L es ep t)
    seqTy_tuple ho oc ?_ fun s' ⟨h', tk, e, L, es, ep, t, q1, q2, q3⟩ => by rw [e]; exact won h' tk L es ep t q1 q2 q3
  have l1 : (s.heap.push (setNew w)).IsTuple l items := hl.at fun u e => Heap.get?_push_of_some _ e
  have sz : (s.heap.push (setNew w)).objs.size = s.heap.objs.size + 1 := Heap.size_push ..
  refine wpAny_pyIter_tuple l1 ?_
  have apart : l ≠ (s.heap.push (setNew w)).objs.size := by
    rw [sz]
    exact Nat.ne_of_lt (Nat.lt_succ_of_lt lt)
  have hA : A.in1.in1.in1.handled = none := by simp [hh]
  refine set_update_tups (A := A.in1.in1) (Walks.tuple hA _ l apart items).toS s.heap.objs.size ?_ ks len few (fun i v hv => ?_) s.heap keys (nobody _ (Nat.le_refl _)) (fun b hb => ?_) hu items.size 0 _ rfl (Nat.zero_le _)
    ⟨⟨_, Heap.get?_push_size _ rfl, rfl, rfl⟩, l1.at fun u e => Heap.get?_push_of_some _ e⟩ (fun b u e => Heap.get?_push_of_some _ (Heap.get?_push_of_some _ e)) ?_ ?_
  · rw [sz]
    simp only [List.mem_cons, List.not_mem_nil, or_false, not_or]
    exact ⟨Nat.ne_of_lt (Nat.lt_succ_self _), Nat.ne_of_gt lt⟩
  · have z : (ks.map fun p => Value.ref p.1)[i]? = some v := by rw [← same, Array.getElem?_toList]; exact hv
    rw [List.getElem?_map] at z
    obtain ⟨p, e1, e2⟩ := Option.map_eq_some_iff.mp z
    exact ⟨p, e1, e2.symm⟩
  · rw [List.mem_singleton.mp hb, sz]
    exact nobody _ (Nat.le_succ _)
  · exact ⟨[], #[], 0, _, setTR_fresh (Heap.get?_push_of_some _ (Heap.get?_push_size _ rfl)), Got.zero ks⟩
  · rintro ⟨h', g', d', tk', os'⟩ L es ep t mv full got keeps
    obtain rfl : g' = s.gens := mv.gens
    obtain rfl : d' = s.drawn := mv.drawn
    obtain rfl : os' = s.os := mv.os
    rw [len] at got
    exact ⟨rfl, h', tk', rfl, L, es, ep, t, keeps, got, full⟩
end
section
variable {X : Cx}
/-- set(t), the rule -/
def rSetOfTT (K : PySem.W.Frag) (P : Program) (w : World) : List V → Hp → VK → Prop := fun xs H Q => ∃ (l : Addr) (ks : List (Addr × List Int)), xs = [V.ref l] ∧ SqT K H l (ks.map fun p => V.ref p.1) ∧ (∀ p ∈ ks, SqT K H p.1 (p.2.map V.int)) ∧ ks.length < 64 ∧
  ∀ a L, H a = none → (∀ p ∈ L, p ∈ ks) → (∀ p ∈ ks, p.2 ∈ L.map (·.2)) → Q (.ref a) (upd H a (SetTO P w a L))
theorem cr_setOfTT (hc : X.calm = true) (hu : X.A.units + 64 < cLine) : CallR X (.type "set") (rSetOfTT X.K X.prog X.w) := by
  rintro pins s σ H xs us Q I r ⟨l, ks, rfl, tl, keys, few, won⟩
  rw [Vals.ref1 r]
  obtain ⟨its, rv, ⟨o, ho, oc, n, od⟩, _⟩ := I.tuple tl
  refine call_set_ofT (items := its.toArray) ks (I.ok.hd hc) ⟨o, ho, oc, n, od⟩ (by simpa using refs_of_vals rv) (fun p hp => I.isT (keys p hp)) few (by omega) fun h' tk L es ep t k g R => ?_
  refine ⟨.ref s.heap.objs.size, upd H s.heap.objs.size (SetTO X.prog X.w s.heap.objs.size L), I.laid (t' := tk) k (Nat.le_refl _) (setTO_new R.t0), rfl, won _ L (I.hok.fresh (Nat.le_refl _)) (fun p hp => List.mem_of_mem_take (g.sub p hp)) fun p hp => g.all p ?_⟩
  rw [List.take_length]
  exact hp
end
end L2

set_option Elab.async false
set_option linter.all false
set_option maxRecDepth 100000
set_option maxHeartbeats 3200000
/-! set(rows) of up to 64 tuples of ints, and its sorted list -/
namespace L2
open PySem PySem.Spec PyProof.Rows
/-- the set at a; what is read of it -/
structure SetB (P : Program) (w : World) (h : Heap) (a : Addr) (L : List (Addr × List Int)) : Prop where
  ex : ∃ (es : Array (Int × Value)) (ep : Nat) (t : SetTable), (∃ o, h.get? a = some o ∧ o.ExactSet ∧ o.data = .set es ep t) ∧ es.toList = rowsOf P w L ∧ t.fits es.size = true ∧ Ris t.place.toList ∧ (w.params.followText "set-order" = true ∨ t.led = true)
  nd : (L.map (·.2)).Nodup
  few : L.length ≤ 64
section
variable {P : Program} {w : World} {A : Around} {E : Value → Shared → Prop} {s : Shared} {a : Addr} {L : List (Addr × List Int)} {es : Array (Int × Value)} {ep : Nat} {t : SetTable}
theorem SetTR.b (R : SetTR P w s.heap a L es ep t) : SetB P w s.heap a L := ⟨⟨es, ep, t, R.ob, R.rows, R.fits, R.tab.ris, R.led⟩, R.nd, Nat.le_of_lt R.few⟩
theorem SetB.keep {h h' : Heap} (R : SetB P w h a L) (k : ∀ o, h.get? a = some o → h'.get? a = some o) : SetB P w h' a L := by
  obtain ⟨es, ep, t, ⟨o, ho, r⟩, q⟩ := R.ex
  exact ⟨⟨es, ep, t, ⟨o, k o ho, r⟩, q⟩, R.nd, R.few⟩
/-- the 64th -/
theorem add_last (R : SetTR P w s.heap a L es ep t) (l63 : L.length = 63) {x : Addr} {k : List Int} (hx : IsT P w s.heap k x) (hu : A.units < cLine) {Q : Bool → Shared → Prop}
    (hQ : ∀ b h' L', Heap.SameBut a s.heap h' → SetB P w h' a L' → (k ∈ L.map (·.2) → L' = L) → (k ∉ L.map (·.2) → L'.Perm ((x, k) :: L)) → Q b { s with heap := h' }) :
    wpAny (model P w) A (setAddHashed a (.ref x) (thash P w k)) Q E s := by
  obtain ⟨o, ho, hex, hd⟩ := R.ob
  have hsl := R.size
  have hroom := R.room
  have m127 : t.mask = 127 := by
    rcases R.tab.mok with e | e | e
    · omega
    · omega
    · exact e
  unfold setAddHashed
  refine wpAny_holding ?_
  rw [show (100000 : Nat) = 99999 + 1 from rfl, setAddHashedIn_succ]
  refine wpAny_bind (wpAny_setState_of ho hd R.fits ?_)
  dsimp only
  refine wp_if_neg (by simp [byScan, Value.scannable]) ?_
  refine wpAny_bind (search_at R hx hu (fun hm => ?_) fun K hm hK hb => ?_)
  · dsimp only
    exact wpAny_pure (hQ false s.heap L (Heap.SameBut.refl a s.heap) R.b (fun _ => rfl) fun z => absurd hm z)
  · dsimp only
    refine wpAny_bind (wpAny_setState_of ho hd R.fits ?_)
    dsimp only
    obtain ⟨q1, q2, q3, q4, q5, q6, q7, q8, q9⟩ := R.tab.put hK hb
    have hp1 : (t.put (way t.mask (thash P w k) K)).1.plain = true := by rw [q6]; exact R.plain
    generalize hpt : t.put (way t.mask (thash P w k) K) = pt at q1 q3 q4 q5 q6 q7 q8 q9 hp1 ⊢
    obtain ⟨t1, p⟩ := pt
    dsimp only at q1 q3 q4 q5 q6 q7 q8 q9 hp1 ⊢
    subst q1
    refine wp_if_pos hp1 (wpAny_bind (hashBy_tup hx ?_))
    simp only [if_true]
    have hin : (SetTable.insertAt es (SetTable.below t.place (way t.mask (thash P w k) K)) (thash P w k, Value.ref x)).toList = rowsOf P w (L.take (SetTable.below t.place (way t.mask (thash P w k) K)) ++ (x, k) :: L.drop (SetTable.below t.place (way t.mask (thash P w k) K))) := by
      rw [SetTable.toList_insertAt, rows_put, R.rows]
    generalize SetTable.below t.place (way t.mask (thash P w k) K) = p at q2 q3 hin hpt ⊢
    have pm := put_perm L p (x, k)
    have hlen : (L.take p ++ (x, k) :: L.drop p).length = L.length + 1 := pm.length_eq
    have nd1 : ((L.take p ++ (x, k) :: L.drop p).map (·.2)).Nodup := by
      refine (pm.map (·.2)).nodup_iff.mpr ?_
      rw [List.map_cons]
      exact List.nodup_cons.mpr ⟨hm, R.nd⟩
    have hes : (SetTable.insertAt es p (thash P w k, Value.ref x)).size = L.length + 1 := by
      have h := congrArg List.length hin
      unfold rowsOf at h
      rw [Array.length_toList, List.length_map, hlen] at h
      exact h
    have full : ¬ t1.tooFull = true := by
      unfold SetTable.tooFull
      rw [decide_eq_true_eq, q9, List.length_map, q4, m127, l63]
      decide
    have psz : t1.place.size = L.length + 1 := by
      have z := q3.sz
      rw [List.length_append, List.length_cons, List.length_take, List.length_drop, List.length_map] at z
      rw [List.length_map] at q2
      omega
    generalize SetTable.insertAt es p (thash P w k, Value.ref x) = es1 at hin hes ⊢
    generalize L.take p ++ (x, k) :: L.drop p = L1 at pm hlen nd1 hin
    refine wpAny_bind (wpAny_storeSet_of ho hd ?_ (by rw [hes, sizeLine_eq]; omega))
    have sb : Heap.SameBut a s.heap (s.heap.update a (Obj.putSet es1 t1)) := Heap.SameBut.update ..
    have ho1 := store_at (es' := es1) (t' := t1) ho hd
    refine wp_if_neg (by simp [full]) ?_
    refine wpAny_pure (hQ true _ L1 sb ⟨⟨es1, ep + 1, t1, ⟨_, ho1, ⟨hex.1, hex.2.1, hex.2.2⟩, rfl⟩, hin, ?_, q3.ris, by rw [q5]; exact R.led⟩, nd1, by omega⟩ (fun z => absurd z hm) fun _ => pm)
    unfold SetTable.fits SetTable.fill
    rw [q3.dm, Bool.and_eq_true, beq_iff_eq, decide_eq_true_eq, q4, m127]
    show t1.place.size = es1.size ∧ t1.place.size + 0 ≤ 127
    omega
end
section
variable {P : Program} {w : World} {A : Around} {E : Value → Shared → Prop}
theorem moved_keep {wr : List Addr} {G : Array GenState → Array GenState → Prop} {s s' : Shared} {h0 : Heap} (hw0 : ∀ b ∈ wr, h0.get? b = none) (hm : Moved wr G s s') (k : ∀ b o, h0.get? b = some o → s.heap.get? b = some o) : ∀ b o, h0.get? b = some o → s'.heap.get? b = some o := fun b o e =>
  hm.heap b o (fun hb => by rw [hw0 b hb] at e; cases e) (k b o e)
/-- the loop's end -/
theorem loop_done {I : Addr} {fp wr : List Addr} {G : Array GenState → Array GenState → Prop} {n : Nat} {Pv : Nat → Value → Prop} {St : Nat → Shared → Prop} {R : Result → Shared → Prop} (W : WalksS P w A.in1 I fp wr G n Pv St) (S : Addr) (hSf : S ∉ fp)
    {L : List (Addr × List Int)} {h0 : Heap} (hw0 : ∀ b ∈ wr, h0.get? b = none) {s : Shared} (hst : St n s) (hkp : ∀ b o, h0.get? b = some o → s.heap.get? b = some o) (hS : SetB P w s.heap S L)
    (hR : ∀ s', Moved (S :: wr) G s s' → SetB P w s'.heap S L → (∀ b o, h0.get? b = some o → s'.heap.get? b = some o) → R (.ok (.ret .none)) s') : codeAny (model P w) A (.builtin "set.update.loop" ⟨[.ref S, .ref I], []⟩) R s := by
  refine codeAny_builtin F.entry_set_update_loop ?_
  rw [Around.under_plainId F.plain_set_update_loop _]
  show wpAny _ A.in1 (pyNext (.ref I) >>= _) _ _ s
  refine wpAny_bind (W.done s _ _ hst fun s' hm => ?_)
  show wpAny _ A.in1 (ret Value.none) _ _ s'
  have hSw : S ∉ wr := fun h => hSf (W.sub _ h)
  exact wpAny_pure (hR s' (hm.mono fun b hb => List.mem_cons_of_mem _ hb) (hS.keep fun o e => hm.heap S o hSw e) (moved_keep hw0 hm hkp))
theorem loop_set {I : Addr} {fp wr : List Addr} {G : Array GenState → Array GenState → Prop} {n : Nat} {Pv : Nat → Value → Prop} {St : Nat → Shared → Prop} {R : Result → Shared → Prop} (W : WalksS P w A.in1 I fp wr G n Pv St) (S : Addr) (hSf : S ∉ fp)
    (ks : List (Addr × List Int)) (hn : n = ks.length) (few : ks.length ≤ 64) (hval : ∀ i v, Pv i v → ∃ p, ks[i]? = some p ∧ v = .ref p.1) (h0 : Heap) (hk : ∀ p ∈ ks, IsT P w h0 p.2 p.1) (hS0 : h0.get? S = none) (hw0 : ∀ b ∈ wr, h0.get? b = none) (hu : A.in1.units < cLine) :
    ∀ (k i : Nat) (s : Shared), n - i = k → i ≤ n → St i s → (∀ b o, h0.get? b = some o → s.heap.get? b = some o) → (∃ L es ep t, SetTR P w s.heap S L es ep t ∧ Got ks i L) →
      (∀ s' L, Moved (S :: wr) G s s' → SetB P w s'.heap S L → Got ks n L → (∀ b o, h0.get? b = some o → s'.heap.get? b = some o) → R (.ok (.ret .none)) s') →
      codeAny (model P w) A (.builtin "set.update.loop" ⟨[.ref S, .ref I], []⟩) R s := by
  intro k
  induction k with
  | zero =>
    intro i s hk' hi hst hkp ⟨L, es, ep, t, hS, g⟩ hR
    obtain rfl : i = n := by omega
    exact loop_done W S hSf hw0 hst hkp hS.b fun s' m b k => hR s' L m b g k
  | succ k ih =>
    intro i s hk' hi hst hkp ⟨L, es, ep, t, hS, g⟩ hR
    have hSw : S ∉ wr := fun h => hSf (W.sub _ h)
    have hsub : ∀ b ∈ wr, b ∈ S :: wr := fun b hb => List.mem_cons_of_mem _ hb
    have hlt : i < n := by omega
    refine codeAny_builtin F.entry_set_update_loop ?_
    rw [Around.under_plainId F.plain_set_update_loop _]
    show wpAny _ A.in1 (pyNext (.ref I) >>= _) _ _ s
    refine wpAny_bind (W.item i s _ _ hlt hst fun v s' hP hst' hm => ?_)
    obtain ⟨p, hp, rfl⟩ := hval i v hP
    have hkp' := moved_keep hw0 hm hkp
    have hS' : SetTR P w s'.heap S L es ep t := hS.keep (fun o e => hm.heap S o hSw e) fun q hq => isT_keep (hk q (List.mem_of_mem_take (g.sub q hq))) hkp'
    have hx : IsT P w s'.heap p.2 p.1 := isT_keep (hk p (List.mem_of_getElem? hp)) hkp'
    show wpAny _ A.in1 (holding [Value.ref p.1] (setAdd S (.ref p.1)) >>= _) _ _ s'
    refine wpAny_bind (wpAny_holding ?_)
    unfold setAdd
    refine wpAny_holding ?_
    refine wpAny_bind (wpAny_pyHash_tuple hu hx ?_)
    have gs : ∀ L', (p.2 ∈ L.map (·.2) → L' = L) → (p.2 ∉ L.map (·.2) → L'.Perm ((p.1, p.2) :: L)) → Got ks (i + 1) L' := fun L' c1 c2 => by
      rcases Classical.em (p.2 ∈ L.map (·.2)) with c | c
      · rw [c1 c]
        exact g.same hp c
      · exact g.more hp (c2 c)
    have fr : ∀ h', Heap.SameBut S s'.heap h' → (∀ b o, h0.get? b = some o → h'.get? b = some o) := fun h' sb b o e => (sb.2 b (fun z => by rw [z, hS0] at e; cases e)).trans (hkp' b o e)
    have mv : ∀ h', Heap.SameBut S s'.heap h' → St (i + 1) { s' with heap := h', toks := s'.toks + (p.2.length + 1) } := fun h' sb => W.frame _ s' _ _ hst' (Nat.le_add_right _ _) fun b hb o e => by
      rw [sb.2 b (fun h : b = S => hSf (by rw [← h]; exact hb))]
      exact e
    have mm : ∀ h' s'', Heap.SameBut S s'.heap h' → Moved (S :: wr) G { s' with heap := h', toks := s'.toks + (p.2.length + 1) } s'' → Moved (S :: wr) G s s'' := fun h' s'' sb m => Moved.trans W.gtrans ((hm.mono hsub).then_heap (Nat.le_add_right _ _) fun b o hb e => by
      rw [sb.2 b (fun h : b = S => hb (by rw [h]; exact List.mem_cons_self))]
      exact e) m
    by_cases c63 : L.length = 63
    · have last : i + 1 = n := by
        have := g.len
        omega
      refine add_last (s := { s' with toks := s'.toks + (p.2.length + 1) }) hS' c63 hx hu fun b h' L' sb hB c1 c2 => ?_
      refine wpAny_pure ⟨plainId_quiet F.plain_set_update_loop _, ?_⟩
      refine loop_done (s := { s' with heap := h', toks := s'.toks + (p.2.length + 1) }) W S hSf hw0 (by rw [← last]; exact mv h' sb) (fr h' sb) hB fun s'' m hB' k' => hR s'' L' (mm h' s'' sb m) hB' (by rw [← last]; exact gs L' c1 c2) k'
    · have l62 : L.length + 1 < 64 := by
        have := hS.few
        omega
      refine add_at (s := { s' with toks := s'.toks + (p.2.length + 1) }) hS' hx hu l62 fun b h' L' es' ep' t' sb hS2 c1 c2 => ?_
      refine wpAny_pure ⟨plainId_quiet F.plain_set_update_loop _, ih (i + 1) _ (by omega) hlt (mv h' sb) (fr h' sb) ⟨L', es', ep', t', hS2, gs L' c1 c2⟩ fun s'' L2 m hB' g'' k' => hR s'' L2 (mm h' s'' sb m) hB' g'' k'⟩
end
end L2

namespace L2
open PySem PySem.Spec PyProof.Rows
section
variable {P : Program} {w : World} {A : Around} {E : Value → Shared → Prop} {s : Shared}
/-- set(xs), xs a list of at most 64 tuples of ints -/
theorem call_set_B {l : Addr} {items : Array Value} (ks : List (Addr × List Int)) {Q : Value → Shared → Prop} (hh : A.handled = none) (hl : s.heap.IsList l items) (same : items.toList = ks.map fun p => Value.ref p.1)
    (keys : ∀ p ∈ ks, IsT P w s.heap p.2 p.1) (few : ks.length ≤ 64) (hu : A.units + 3 < cLine)
    (won : ∀ (h' : Heap) (tk : Nat) L, (∀ b o, s.heap.get? b = some o → h'.get? b = some o) → Got ks ks.length L → SetB P w h' s.heap.objs.size L → Q (.ref s.heap.objs.size) { s with heap := h', toks := tk }) :
    wpAny (model P w) A (call (.type "set") [.ref l]) Q E s := by
  have len : items.size = ks.length := by rw [← Array.length_toList, same, List.length_map]
  obtain ⟨o, ho, oc, n, od⟩ := id hl
  have lt : l < s.heap.objs.size := Heap.lt_size ho
  have nobody : ∀ b, s.heap.objs.size ≤ b → s.heap.get? b = none := fun b hb => Classical.byContradiction fun h => by
    obtain ⟨u, hu⟩ := Option.ne_none_iff_exists'.mp h
    exact Nat.lt_irrefl _ (Nat.lt_of_le_of_lt hb (Heap.lt_size hu))
  refine call_set_seq (R := fun s' => ∃ (h' : Heap) (tk : Nat), s' = { s with heap := h', toks := tk } ∧ ∃ L, (∀ b o, s.heap.get? b = some o → h'.get? b = some o) ∧ Got ks ks.length L ∧ SetB P w h' s.heap.objs.size L)
    seqTy_list ho oc ?_ fun s' ⟨h', tk, e, L, q1, q2, q3⟩ => by rw [e]; exact won h' tk L q1 q2 q3
  have l1 : (s.heap.push (setNew w)).IsList l items := hl.at fun u e => Heap.get?_push_of_some _ e
  have sz : (s.heap.push (setNew w)).objs.size = s.heap.objs.size + 1 := Heap.size_push ..
  refine wpAny_pyIter_list l1 ?_
  have apart : l ≠ (s.heap.push (setNew w)).objs.size := by
    rw [sz]
    exact Nat.ne_of_lt (Nat.lt_succ_of_lt lt)
  have hA : A.in1.in1.in1.handled = none := by simp [hh]
  refine loop_set (A := A.in1.in1) (Walks.list hA _ l apart items).toS s.heap.objs.size ?_ ks len few (fun i v hv => ?_) s.heap keys (nobody _ (Nat.le_refl _)) (fun b hb => ?_) hu items.size 0 _ rfl (Nat.zero_le _)
    ⟨⟨_, Heap.get?_push_size _ rfl, rfl, rfl⟩, l1.at fun u e => Heap.get?_push_of_some _ e⟩ (fun b u e => Heap.get?_push_of_some _ (Heap.get?_push_of_some _ e)) ?_ ?_
  · rw [sz]
    simp only [List.mem_cons, List.not_mem_nil, or_false, not_or]
    exact ⟨Nat.ne_of_lt (Nat.lt_succ_self _), Nat.ne_of_gt lt⟩
  · have z : (ks.map fun p => Value.ref p.1)[i]? = some v := by rw [← same, Array.getElem?_toList]; exact hv
    rw [List.getElem?_map] at z
    obtain ⟨p, e1, e2⟩ := Option.map_eq_some_iff.mp z
    exact ⟨p, e1, e2.symm⟩
  · rw [List.mem_singleton.mp hb, sz]
    exact nobody _ (Nat.le_succ _)
  · exact ⟨[], #[], 0, _, setTR_fresh (Heap.get?_push_of_some _ (Heap.get?_push_size _ rfl)), Got.zero ks⟩
  · rintro ⟨h', g', d', tk', os'⟩ L mv full got keeps
    obtain rfl : g' = s.gens := mv.gens
    obtain rfl : d' = s.drawn := mv.drawn
    obtain rfl : os' = s.os := mv.os
    rw [len] at got
    exact ⟨rfl, h', tk', rfl, L, keeps, got, full⟩
theorem all_cons' {α : Type} {Pr : α → Prop} {x : α} {xs : List α} (h : Pr x) (t : ∀ y ∈ xs, Pr y) : ∀ y ∈ x :: xs, Pr y := fun y hy => by
  rcases List.mem_cons.mp hy with rfl | hy
  · exact h
  · exact t y hy
theorem sorted_setB {a : Addr} {L : List (Addr × List Int)} {Q : Value → Shared → Prop} (R : SetB P w s.heap a L) (tup : ∀ p ∈ L, IsT P w s.heap p.2 p.1) (hh : A.handled = none)
    {d : Nat} {B : Int} (hd1 : d = 0 → L.length ≤ 1) (hB : ∀ p ∈ L, p.2.length = d ∧ TS.Bd B p.2)
    (hQ : ∀ s' p (out : Array Value) (c : Nat) (L' : List (Addr × List Int)), (∀ b o, s.heap.get? b = some o → s'.heap.get? b = some o) → s'.gens = s.gens → s'.os = s.os → s.heap.objs.size ≤ p →
      s'.heap.get? p = some (seqObj "list" out c) → out.toList = L'.map (fun q => Value.ref q.1) → L'.Perm L → L'.Pairwise (fun q r => TS.code B q.2 ≤ TS.code B r.2) → Q (.ref p) s') :
    wpAny (model P w) A (call (.builtin "sorted") [.ref a]) Q E s := by
  obtain ⟨es, ep, t, ⟨o, ho, hex, hd⟩, rows, fits, ris, led⟩ := R.ex
  have hsz : es.size = L.length := by
    have h := congrArg List.length rows
    unfold rowsOf at h
    rw [Array.length_toList, List.length_map] at h
    exact h
  have hfew := R.few
  refine Calls.call_function_entry kind_sorted plain_sorted entry_sorted (args_sorted1 _) ?_
  unfold Builtin.«sorted»
  refine wpAny_bind (m := checkCount "sorted" 1 1 _) (wpAny_pure ?_)
  refine wpAny_bind (collect_set (A := A.in1) hh ⟨o, ho, hex.1, hd⟩ fits (by unfold scanBound; omega) ris led fun s1 vs k1 hz g1 o1 pm => ?_)
  have hes : es.toList.map (·.2) = L.map fun q => Value.ref q.1 := by
    rw [rows]
    unfold rowsOf
    rw [List.map_map] <;> rfl
  rw [hes] at pm
  have hvl : vs.length ≤ 64 := by rw [pm.length_eq, List.length_map]; exact hfew
  refine wpAny_bind (wpAny_newList ?_ (by rw [sizeLine_eq]; omega))
  have hoL : (s1.heap.push (seqObj "list" vs.toArray 0)).get? s1.heap.objs.size = some (seqObj "list" vs.toArray 0) := Heap.get?_push_size _ rfl
  -- the values are the addresses of the rows, in some order
  have ord : ∀ vs : List Value, (∀ v ∈ vs, ∃ q ∈ L, v = Value.ref q.1) → ∃ L1 : List (Addr × List Int), vs = L1.map (fun q => Value.ref q.1) ∧ ∀ q ∈ L1, q ∈ L := by
    intro vs
    induction vs with
    | nil => intro _; exact ⟨[], rfl, fun q hq => (by cases hq)⟩
    | cons v vs ih =>
      intro hv
      obtain ⟨q, hq, e⟩ := hv v List.mem_cons_self
      obtain ⟨L1, e1, hs⟩ := ih fun u hu => hv u (List.mem_cons_of_mem _ hu)
      exact ⟨q :: L1, by rw [List.map_cons, e, e1], all_cons' hq hs⟩
  have inj : ∀ q ∈ L, ∀ r ∈ L, Value.ref q.1 = Value.ref r.1 → q = r := fun q hq r hr e => by
    have e1 : q.1 = r.1 := Value.ref.inj e
    have a1 := tup q hq
    rw [e1] at a1
    exact Prod.ext e1 (a1.inj (tup r hr))
  have perm_of : ∀ L1 : List (Addr × List Int), (∀ q ∈ L1, q ∈ L) → (L1.map (fun q => Value.ref q.1)).Perm (L.map fun q => Value.ref q.1) → L1.Perm L := fun L1 hs pm1 => by
    have nL : L.Nodup := nodup_of_map R.nd
    have nref : (L.map fun q => Value.ref q.1).Nodup := List.pairwise_map.mpr (List.Pairwise.imp_of_mem (fun {q r} hq hr hne e => hne (inj q hq r hr e)) nL)
    have n1 : L1.Nodup := nodup_of_map (pm1.nodup_iff.mpr nref)
    refine (List.perm_ext_iff_of_nodup n1 nL).mpr fun q => ⟨hs q, fun hq => ?_⟩
    obtain ⟨r, hr, e⟩ := List.mem_map.mp (pm1.mem_iff.mpr (List.mem_map.mpr ⟨q, hq, rfl⟩))
    rw [← inj r (hs r hr) q hq e]
    exact hr
  have kl : ∀ b o, s.heap.get? b = some o → (s1.heap.push (seqObj "list" vs.toArray 0)).get? b = some o := fun b o e => Heap.get?_push_of_some _ (k1 b o e)
  have tk : ∀ q ∈ L, TS.TupInts (s1.heap.push (seqObj "list" vs.toArray 0)) (.ref q.1) q.2 := fun q hq => tupInts_of (P := P) (w := w) (isT_keep (tup q hq) kl)
  have x : TS.TupsOk (s1.heap.push (seqObj "list" vs.toArray 0)) d B vs := fun v hv => by
    obtain ⟨q, hq, e⟩ := List.mem_map.mp (pm.mem_iff.mp hv)
    rw [← e]
    exact ⟨q.2, tk q hq, (hB q hq).1, (hB q hq).2⟩
  refine wpAny_bind (wpAny_holding (wpAny_call_entry slot_list_sort ⟨_, hoL, rfl⟩ entry_list_sort (SrtO.list_sort_ord (s := { s1 with heap := s1.heap.push (seqObj "list" vs.toArray 0) }) (SN.swo_code fun v => TS.code B (TS.intsOf (s1.heap.push (seqObj "list" vs.toArray 0)) v)) hoL (by rw [sizeLine_eq]; omega) (fun h2 => ?_) fun out a1 a2 => ⟨_, rfl, ?_⟩) (args_list_sort _)))
  · have d1 : 1 ≤ d := by
      rcases Nat.eq_zero_or_pos d with e | e
      · have := hd1 e
        have z := pm.length_eq
        rw [List.length_map] at z
        omega
      · exact e
    refine SN.tups_sortable (s := { s1 with heap := s1.heap.push (seqObj "list" vs.toArray 0) }) d1 (by omega) x (fun o e => ?_) fun v hv ns t => ?_
    · have e' : some o = some (seqObj "list" vs.toArray 0) := e.symm.trans hoL
      cases e'
      intro c
      exact absurd (Value.type.inj c) (by decide)
    · rw [t.ints]
  · obtain ⟨c, hc⟩ := sortedHeap_at (vs := vs) (out := out.toArray) hoL
    obtain ⟨L', e', hs'⟩ := ord out fun v hv => by
      obtain ⟨q, hq, e⟩ := List.mem_map.mp (pm.mem_iff.mp (a2.perm.mem_iff.mp hv))
      exact ⟨q, hq, e.symm⟩
    have pL : L'.Perm L := perm_of L' hs' (by rw [← e']; exact a2.perm.trans pm)
    have pw : L'.Pairwise (fun q r => TS.code B q.2 ≤ TS.code B r.2) := by
      rw [e'] at a1
      refine List.Pairwise.imp_of_mem (fun {q r} hq hr hle => ?_) (List.pairwise_map.mp a1)
      have z := of_decide_eq_false hle
      rw [(tk q (hs' q hq)).ints, (tk r (hs' r hr)).ints] at z
      omega
    refine wpAny_pure ⟨_, rfl, hQ _ s1.heap.objs.size out.toArray c L' (fun b u e => ?_) g1 o1 hz hc (by simpa using e') pL pw⟩
    have q := k1 b u e
    have hlt := Heap.lt_size q
    show (sortedHeap (s1.heap.push (seqObj "list" vs.toArray 0)) s1.heap.objs.size vs out.toArray).get? b = some u
    rw [sortedHeap_old (Nat.ne_of_lt hlt) (by rw [size_push']; exact Nat.lt_succ_of_lt hlt)]
    exact Heap.get?_push_of_some _ q
end
end L2

namespace L2
open PySem PySem.Spec PyProof.Rows
def SetBO (P : Program) (w : World) (a : Addr) (L : List (Addr × List Int)) : HO := .ext fun h => SetB P w h a L
theorem setBO_new {P : Program} {w : World} {H : Hp} {h : Heap} {a : Addr} {L : List (Addr × List Int)} (R : SetB P w h a L) : ObjOk P w H h a (SetBO P w a L) := by
  have ⟨es, ep, t, ⟨o, ho, r⟩, q⟩ := R.ex
  exact ⟨R, ⟨o, ho⟩, fun h1 h2 p k => SetB.keep p (k ·)⟩
section
variable {X : Cx}
/-- set(xs), xs a list of at most 64 tuples of ints -/
def rSetB (K : PySem.W.Frag) (P : Program) (w : World) : List V → Hp → VK → Prop := fun xs H Q => ∃ (l : Addr) (ks : List (Addr × List Int)), xs = [V.ref l] ∧ SqL K H l (ks.map fun p => V.ref p.1) ∧ (∀ p ∈ ks, SqT K H p.1 (p.2.map V.int)) ∧ ks.length ≤ 64 ∧
  ∀ a L, H a = none → (∀ p ∈ L, p ∈ ks) → (∀ p ∈ ks, p.2 ∈ L.map (·.2)) → Q (.ref a) (upd H a (SetBO P w a L))
theorem cr_setB (hc : X.calm = true) (hu : X.A.units + 64 < cLine) : CallR X (.type "set") (rSetB X.K X.prog X.w) := by
  intro pins s σ H xs us Q I r h
  obtain ⟨l, ks, rfl, hl, hk, hf, q⟩ := h
  rw [Vals.ref1 r]
  obtain ⟨its, rv, pl, hz⟩ := I.list hl
  have hn : H s.heap.objs.size = none := I.hok.fresh (Nat.le_refl _)
  refine call_set_B (P := X.prog) (w := X.w) ks (I.ok.hd hc) pl.isList (by simpa using refs_of_vals rv) (fun p hp => I.isT (hk p hp)) hf (by omega) fun h' tk L k g R => ?_
  refine ⟨.ref s.heap.objs.size, upd H s.heap.objs.size (SetBO X.prog X.w s.heap.objs.size L), I.laid (t' := tk) k (Nat.le_refl _) (setBO_new R), rfl, q _ L hn (fun p hp => List.mem_of_mem_take (g.sub p hp)) fun p hp => ?_⟩
  exact g.all p (by rw [List.take_length]; exact hp)
/-- sorted(s) of such a set, tuples of d ints in [0, B) -/
def rSortedB (K : PySem.W.Frag) (P : Program) (w : World) : List V → Hp → VK → Prop := fun vs H Q => ∃ (a : Addr) (L : List (Addr × List Int)) (d : Nat) (B : Int), vs = [V.ref a] ∧ H a = some (SetBO P w a L) ∧ (∀ p ∈ L, SqT K H p.1 (p.2.map V.int)) ∧ (∀ p ∈ L, p.2.length = d ∧ TS.Bd B p.2) ∧
  ∀ (L' : List (Addr × List Int)) (p : Addr), L'.Perm L → (L'.map (·.2)).Nodup → L'.length ≤ 64 → L'.Pairwise (fun q r => TS.code B q.2 ≤ TS.code B r.2) → H p = none → Q (.ref p) (upd H p (.lst (L'.map fun q => V.ref q.1)))
theorem nil_one : ∀ {L : List (List Int)}, L.Nodup → (∀ r ∈ L, r = []) → L.length ≤ 1
  | [], _, _ => Nat.zero_le _
  | [_], _, _ => Nat.le_refl _
  | x :: y :: L, nd, h => by
    have e1 := h x (by simp)
    have e2 := h y (by simp)
    rw [e1, e2] at nd
    simp at nd
theorem cr_sortedB (hc : X.calm = true) : CallR X (.builtin "sorted") (rSortedB X.K X.prog X.w) := by
  intro pins s σ H vs us Q I r h
  obtain ⟨a, L, d, B, rfl, ha, hk, hB, q⟩ := h
  have R : SetB X.prog X.w s.heap a L := (I.hok a _ ha).1
  have few := R.few
  rw [Vals.ref1 r]
  refine sorted_setB R (fun p hp => I.isT (hk p hp)) (I.ok.hd hc) (fun d0 => ?_) hB fun s' p out c L' k g o hp hg hout pm pw => ?_
  · have z := nil_one R.nd fun r hr => by
      obtain ⟨p, hp, rfl⟩ := List.mem_map.mp hr
      exact List.eq_nil_of_length_eq_zero ((hB p hp).1.trans d0)
    rwa [List.length_map] at z
  · have hfew : L'.length ≤ 64 := by rw [pm.length_eq]; exact few
    have hlen : (L'.map fun q => V.ref q.1).length ≤ sizeLine := by rw [List.length_map, sizeLine_eq]; omega
    have hn : H p = none := I.hok.fresh hp
    have hv : Vals (L'.map fun q => V.ref q.1) out.toList := by rw [hout]; exact vals_of_refs L'
    have J : Inv X pins σ (upd H p (.lst (L'.map fun q => V.ref q.1))) { s with heap := s'.heap, gens := s'.gens, drawn := s'.drawn, toks := s'.toks } :=
      I.call (ch := []) (Un.laid k hp hn) (I.hok.laid k hp ⟨hlen, out.toList, c, hv, hg⟩) (by rw [g]; exact I.bare) (fun _ z => nomatch z)
    have e : s' = { s with heap := s'.heap, gens := s'.gens, drawn := s'.drawn, toks := s'.toks } := by
      cases s'
      cases s
      cases o
      rfl
    rw [e]
    exact ⟨.ref p, _, J, rfl, q L' p pm ((pm.map (·.2)).nodup_iff.mpr R.nd) hfew pw hn⟩
end
end L2

set_option Elab.async false
set_option linter.all false
set_option maxRecDepth 100000
set_option maxHeartbeats 2000000
/-! An own exception class under a class under ValueError, whose __init__ is: super().__init__("text"); self.f = f. -/
namespace PySem
namespace SupX_value
open PySem.W PySem.Calls PyProof.Rows PySem.HandSPX
/-! ### the text of such an __init__ -/
def iA (p1 p2 : Pos) : Arguments := { posonlyargs := [], args := [{ arg := "self", annotation := none, pos := p1 }, { arg := "value", annotation := none, pos := p2 }], vararg := none, kwonlyargs := [], kw_defaults := [], kwarg := none, defaults := [] }
def iB (m : Str) (k : Nat) (p0 p1 p2 p3 p4 p5 q1 q2 q3 q4 : Pos) : List Stmt :=
  [.Expr (.Call (.Attribute (.Call (.Name "super" p0) [] [] p1) "__init__" p2) [.Constant (.str m) k p3] [] p4) p5,
   .Assign [.Attribute (.Name "self" q1) "value" q2] (.Name "value" q3) q4]
def iS : Scope := { kind := .function, names := [(PySem.Str.ofString "self", .local), (PySem.Str.ofString "value", .local), (PySem.Str.ofString "__class__", .free), (PySem.Str.ofString "super", .globalImplicit)], isGenerator := false, isCoroutine := false, more := [] }
/-- what the written part says of such a class at C, its __init__ at fI -/
structure XTxt (P : Program) (K : Frag) (mg : Str → Option Value) (x : Str) (C fI : Addr) : Prop where
  gC : mg x = some (.ref C)
  nm : (x == ("__debug__" : Str)) = false
  sup : mg "super" = none
  cls : ∃ nm q N bs bm sn sub ab col dd k0 k1 k2 k3 k5, K.lookup C = some (excClassObj nm q C N bs bm true sn sub ab col dd k0 k1 k2 k3 k5 "ValueError.__new__") ∧ refsVE bm = true
  sa : findIn K (.ref C) "__setattr__" = some (some (.builtin "object.__setattr__"))
  noN : findIn K (.ref C) "value" = some none
  iC : findIn K (.ref C) "__init__" = some (some (.ref fI))
  tC : typeIn K (.ref fI) = some (.type "function")
  kC : keepIn K (.ref C) = true
  exC : subIn K (.ref C) (.type "BaseException") = some true
  veC : subIn K (.ref C) (.type "ValueError") = some true
  tyC : typeIn K (.ref C) = some (.type "type")
  te : exmOne K (.ref C) (.ref C) = some true
  xf : L2.XfC K C
  sIn : ks_superIn K C C "__init__" = some (some (.builtin "ValueError.__init__"))
  opq : nsIn K cStatics "thirdparty.any" = some none
  mro : mroIn K C (.ref C) = some true
  htop : (P.main.scope.names.lookup ("super" : Str)).isSome = false
  fn : ∃ (oc : Value) (od : Option Addr) (doc pm : Value) (an : Option Addr) (cda cc : Addr) (ct : Value) (osl : Array (Option Value)) (qual m : Str) (k : Nat) (r1 r2 p0 p1 p2 p3 p4 p5 q1 q2 q3 q4 : Pos)
      (ccl cl : Value) (cdd cld : Option Addr) (ccs csl : Array (Option Value)) (vs : Array Value) (file : Str) (tf : Tok),
    K.lookup fI = some ⟨oc, od, .func (ksFn "__init__" qual (iA r1 r2) (iB m k p0 p1 p2 p3 p4 p5 q1 q2 q3 q4) iS .none .none doc pm an (.ref cda) ct cc), osl⟩ ∧ codeIn K (.ref cda) qual = true ∧ (p2.endLine == p4.line) = true ∧
    K.lookup cda = some ⟨ccl, cdd, .fields vs, ccs⟩ ∧ vs[2]? = some (.str file tf) ∧ ((P.main.file : Str) == file) = true ∧ K.lookup cc = some ⟨cl, cld, .cell (some (.ref C)), csl⟩
/-- what __init__ leaves of a fresh exception at x -/
structure InitEnd (h h' : Heap) (x C dx : Addr) (v : Value) : Prop where
  keep : ∀ b o, b ≠ x → h.get? b = some o → h'.get? b = some o
  obj : ∃ t1 : Addr, h'.get? x = some { cls := .ref C, dict := some dx, data := .fields #[.ref t1, .none, .none, .none, .bool false, .none] }
  dbig : h.objs.size ≤ dx
  dne : dx ≠ x
  ns : h'.Ns1 dx (fun y => if y = "value" then some v else none)
theorem kept_but {K : Frag} {h h' : Heap} {x : Addr} (X : K.In h) (hx : K.lookup x = none) (k : ∀ b o, b ≠ x → h.get? b = some o → h'.get? b = some o) : K.In h' := fun a o e =>
  k a o (fun z => by rw [z, hx] at e; cases e) (X a o e)
theorem two_size (v : Value) : [v].length ≤ sizeLine := by
  rw [sizeLine_eq]
  exact (by decide : 1 ≤ 16777216)
section
variable {prog : Program} {w : World} {A : Around} {E : Value → Shared → Prop} {h : Heap} {g : Array GenState} {d : Drawn} {t : Nat} {os : OsState}
variable {nm q : Str} {C N : Addr} {bs bm : List Value} {hdct : Bool} {sn : List Str} {sub : List Value} {ab : Bool} {col : Option Bool} {dd : Option Addr} {k0 k1 k2 k3 k5 : Option Value}
/-- the bound ValueError.__init__, called -/
theorem call_bw {u e t0 : Addr} {rest : List Value} {Q : Value → Shared → Prop}
    (hC : h.get? C = some (excClassObj nm q C N bs bm hdct sn sub ab col dd k0 k1 k2 k3 k5 "ValueError.__new__")) (he : h.get? e = some (excO C t0)) (hu : h.get? u = some (kxs_mw "ValueError.__init__" e)) (hrest : rest.length ≤ sizeLine)
    (hq : ∀ h' t1, (∀ b o, b ≠ e → h.get? b = some o → h'.get? b = some o) → h'.get? e = some (excO C t1) → Q .none ⟨h', g, d, t, os⟩) :
    wpAny (model prog w) A (call (.ref u) rest) Q E ⟨h, g, d, t, os⟩ := by
  refine wpAny_call (codeAny_of_tree ?_)
  show wpAny _ A.in1 (callAny (.ref u) ⟨rest, []⟩) _ _ _
  simp only [callAny]
  refine wpAny_bind (wpAny_load hu ?_)
  simp only [kxs_mw, show (Value.type "method-wrapper" == Value.type "method" || Value.type "method-wrapper" == Value.type "builtin_function_or_method" || Value.type "method-wrapper" == Value.type "method-wrapper") = true by decide, if_true]
  refine W.KFB.if_so (by decide) ?_
  refine wpAny_bind (ESX.check_bound F.excBase_ValueError hC he rfl ?_)
  refine wpAny_bind (wpAny_pure (wpAny_pure ?_))
  refine ⟨Code.quiet_builtin _ (by decide +kernel), codeAny_builtin F.excBase_ValueError.initEntry ?_⟩
  rw [Around.under_plainId F.excBase_ValueError.init.plain _]
  wp_walk
  refine hq _ h.objs.size (fun b o hb ho => ?_) ?_
  · rw [Heap.get?_update_other _ _ (Ne.symm hb)]
    exact Heap.get?_push_of_some _ ho
  · rw [Heap.get?_update_self _ (Heap.get?_push_of_some _ he) rfl]
    rfl
end
section
variable {prog : Program} {w : World} {A : Around} {R : Result → Shared → Prop} {s : Shared} {K : Frag} {mg : Str → Option Value} {x : Str} {C fI : Addr}
theorem sup_init (T : XTxt prog K mg x C fI) {e t0 : Addr} {v : Value} (X : K.In s.heap) (hlim : s.heap.NoLimit) (hg : s.heap.Ns mainGlobals mg) (hb : ∃ mb, s.heap.Ns builtinsNs mb ∧ ∀ y : Str, y ≠ "__name__" → mb y = bootBuiltins y)
    (hx : s.heap.get? e = some (excO C t0)) (hnx : K.lookup e = none) (hroom : A.depth < recursionLimit)
    (hq : ∀ h' tk dx, InitEnd s.heap h' e C dx v → R (.ok (.ret .none)) { s with heap := h', toks := tk }) :
    codeAny (model prog w) A (.call (.ref fI) ⟨[.ref e, v], []⟩) R s := by
  obtain ⟨oc, od, doc, pm, an, cda, cc, ct, osl, qual, m, k, r1, r2, p0, p1, p2, p3, p4, p5, q1, q2, q3, q4, ccl, cl, cdd, cld, ccs, csl, vs, file, tf, ho, hcd, hln, hcode, hvs, hfile, hcell⟩ := T.fn
  obtain ⟨nm, q, N, bs, bm, sn, sub, ab, col, dd, k0, k1, k2, k3, k5, hC, hbm⟩ := T.cls
  obtain ⟨mb, hb1, hb2⟩ := hb
  have hcl : clsIn K C = some { name := nm, bases := bs, mro := .ref C :: bm, ns := N, qualname := q, hasDict := true, slotNames := sn, subclasses := sub, abstract := ab, collection := col, hasDel := false } := by unfold clsIn; rw [hC] <;> rfl
  refine ks_codeAny_call_defAt (fd := ksFn "__init__" qual (iA r1 r2) (iB m k p0 p1 p2 p3 p4 p5 q1 q2 q3 q4) iS .none .none doc pm an (.ref cda) ct cc) (body := iB m k p0 p1 p2 p3 p4 p5 q1 q2 q3 q4) (binds := [("self", .ref e), ("value", v)])
    hroom (X _ _ ho) rfl hlim (codeRec_of X hcd) rfl (BindsTo.of_eq ?_) ?_ ?_ (fun h₁ hns hk₁ => ?_) rfl rfl rfl
  · first | rfl | with_unfolding_all rfl
  · intro y hy
    have hy2 : y ∈ [(PySem.Str.ofString "self", NameKind.local), (PySem.Str.ofString "value", .local), (PySem.Str.ofString "__class__", .free), (PySem.Str.ofString "super", .globalImplicit)] := hy
    simp only [List.mem_cons, List.not_mem_nil, or_false] at hy2
    rcases hy2 with rfl | rfl | rfl | rfl <;> intro z <;> cases z
  · intro y hy
    simp only [List.mem_cons, List.not_mem_nil, or_false] at hy
    rcases hy with rfl | rfl <;> rfl
  -- the frame: self, the field's value
  have X₁ : K.In h₁ := X.keeps hk₁
  have hx₁ := hk₁ _ _ hx
  have hC₁ := X₁ _ _ hC
  show _root_.PySem.wpAt _ _ _ (execs (iB m k p0 p1 p2 p3 p4 p5 q1 q2 q3 q4) _) _ _ _
  refine ks_wpAt_execs_cons (ks_wpAt_Expr_any (ks_wpAt_MethodCall (pl := (do return (← importBound (.Call (.Name "super" p0) [] [] p1) (callEnv
          (ksFn "__init__" qual (iA r1 r2) (iB m k p0 p1 p2 p3 p4 p5 q1 q2 q3 q4) iS .none .none doc pm an (.ref cda) ct cc) s.heap.objs.size fI)).getD true)) ?_ ?he) rfl rfl)
  case he =>
    rw [eval]
    unfold methodCall methodCallPos
    simp only [hln, Bool.or_true, if_true, pure_bind]
    rfl
  refine ks_wpAt_super_base (f := fI) (cc := cda) rfl rfl (by decide +kernel) rfl (X₁ _ _ ho) rfl rfl rfl (X₁ _ _ hcode) rfl hvs hfile T.htop ?_
  refine ks_loadName_global rfl rfl (loadGlobal_builtin (hg.keeps hk₁) T.sup (hb1.keeps hk₁) ((hb2 _ (by decide +kernel)).trans (show bootBuiltins "super" = some (.type "super") by first | rfl | decide +kernel | kernel_rfl)) ⟨rfl, ?_⟩)
  refine wpAny_loadName_free rfl rfl rfl ⟨_, X₁ _ _ hcell, rfl⟩ ?_
  refine wpAny_loadName_local (v := .ref e) rfl rfl hns (by rfl) ?_
  refine ks_wpAny_isType_cls hC₁ rfl ⟨rfl, ?_⟩
  refine ks_wpAny_call_super hC₁ rfl hx₁ rfl (fun c z => nomatch z) (looks_mroIn X₁ T.mro) (fun h₂ e₂ k₂ => ?_)
  have X₂ : K.In h₂ := X₁.keeps k₂
  have hx₂ := k₂ _ _ hx₁
  have hC₂ := X₂ _ _ hC
  have I₂ : InstAt h₂ e (excO C t0) C none := ⟨hx₂, rfl, rfl, trivial⟩
  have hI : Looks (model prog w) h₂ (isInstance (.ref e) (.type "ValueError")) true := I₂.type.andThen (looks_subIn X₂ T.veC)
  have hsi : alongIn K "__init__" (((Value.ref C :: bm).dropWhile (· != .ref C)).drop 1) = some (some (.builtin "ValueError.__init__")) := by
    have z := T.sIn
    unfold ks_superIn at z
    rw [hcl] at z
    exact z
  have hmro : Looks (model prog w) h₂ (mroOf (.ref C)) (Value.ref C :: bm) := fun A' Q' E' s' k' q' => wpAny_bind ((looks_clsIn X₂ hcl) A' _ E' s' k' (wpAny_pure q'))
  refine kxs_getMethod kxs_ValueError e₂ (looks_opaque X₂ T.opq) hmro rfl X₂ hsi hI (ks_ne X₂ I₂ hcl) (by decide +kernel) ?_
  have hu : (h₂.push (kxs_mw "ValueError.__init__" e)).get? h₂.objs.size = some (kxs_mw "ValueError.__init__" e) := by heap_get
  have k₃ : ∀ b o, h₂.get? b = some o → (h₂.push (kxs_mw "ValueError.__init__" e)).get? b = some o := fun b o z => Heap.get?_push_of_some _ z
  refine kxs_callWith (i := "ValueError.__init__") (x := e) (by rfl) ?_
  refine evalArgs_plain (spliced_cons ?_)
  show wpAny _ _ (eval (.Constant (.str m) k p3) _) _ _ _
  refine Constant_str (spliced_nil ⟨hu, ?_⟩)
  refine call_bw (k₃ _ _ hC₂) (k₃ _ _ hx₂) hu (two_size _) (fun h₄ t4 k₄ hx₄ => ?_)
  have k₅ : ∀ b o, b ≠ e → s.heap.get? b = some o → h₄.get? b = some o := fun b o z y => k₄ b o z (k₃ _ _ (k₂ _ _ (hk₁ _ _ y)))
  have X₄ : K.In h₄ := kept_but (X₂.keeps k₃) hnx k₄
  have hLe : s.heap.objs.size ≠ e := Nat.ne_of_gt (Heap.lt_size hx)
  have hns₄ : h₄.Ns s.heap.objs.size (fun y => List.lookup y ([(("self" : Str), Value.ref e), (("value" : Str), v)] : List (Str × Value)).reverse) := by
    obtain ⟨oL, es, ep, hL, r⟩ := hns
    exact ⟨oL, es, ep, k₄ _ _ hLe (k₃ _ _ (k₂ _ _ hL)), r⟩
  show wpAt _ _ _ (execs [.Assign [.Attribute (.Name "self" q1) "value" q2] (.Name "value" q3) q4] _) _ _ _
  refine wpAt_of_wpAny (wpAny_execs_cons (plainObj_wpAny_Assign_Attribute ?_))
  refine ESX.ldL (v := v) hns₄ (by rfl) (ESX.ldL (v := .ref e) hns₄ (by rfl) ?_)
  refine set_plain X₄ (ox := excO C t4) (od := none) ⟨hx₄, rfl, rfl, trivial⟩ T.sa ?_
  refine exc_osa X₄ hx₄ hcl (show refsVE (.ref C :: bm) = true from hbm) rfl T.noN (fun h₆ tk₆ dx k₆ dn dne hx₆ hn₆ => ?_)
  refine wpAny_execs_nil (hq h₆ tk₆ dx ⟨fun b o hb y => k₆ b o hb (k₅ b o hb y), ⟨t4, hx₆⟩, ?_, dne, hn₆⟩)
  have z : s.heap.objs.size < h₄.objs.size := hns₄.lt
  exact Nat.le_of_lt (Nat.lt_of_lt_of_le z dn)
/-- a made exception -/
structure OwnMade (h h' : Heap) (e C d : Addr) (v : Value) : Prop where
  keep : ∀ b o, h.get? b = some o → h'.get? b = some o
  new : h.objs.size ≤ e
  obj : ∃ t1 : Addr, h'.get? e = some { cls := .ref C, dict := some d, data := .fields #[.ref t1, .none, .none, .none, .bool false, .none] }
  dbig : h.objs.size ≤ d
  dne : d ≠ e
  ns : h'.Ns1 d (fun y => if y = "value" then some v else none)
theorem sup_made (T : XTxt prog K mg x C fI) {v : Value} (X : K.In s.heap) (hlim : s.heap.NoLimit) (hg : s.heap.Ns mainGlobals mg) (hb : ∃ mb, s.heap.Ns builtinsNs mb ∧ ∀ y : Str, y ≠ "__name__" → mb y = bootBuiltins y) (hroom : A.depth + 1 < recursionLimit)
    (hq : ∀ h' tk e d, OwnMade s.heap h' e C d v → R (.ok (.ret (.ref e))) { s with heap := h', toks := tk }) :
    codeAny (model prog w) A (.call (.ref C) ⟨[v], []⟩) R s := by
  obtain ⟨nm, q, N, bs, bm, sn, sub, ab, col, dd, k0, k1, k2, k3, k5, hC, hbm⟩ := T.cls
  obtain ⟨mb, hb1, hb2⟩ := hb
  obtain ⟨hp, g, dr, tk, os⟩ := s
  have k : ∀ b o, hp.get? b = some o → ((hp.push (kdv_tup [v])).push (excO C hp.objs.size)).get? b = some o := fun b o e => Heap.get?_push_of_some _ (Heap.get?_push_of_some _ e)
  have hget : ((hp.push (kdv_tup [v])).push (excO C hp.objs.size)).get? (hp.objs.size + 1) = some (excO C hp.objs.size) := by heap_get
  have hnx : K.lookup (hp.objs.size + 1) = none := by
    cases e : K.lookup (hp.objs.size + 1) with
    | none => rfl
    | some o =>
      have z : hp.get? (hp.objs.size + 1) = some o := X _ _ e
      exact absurd (Nat.lt_of_succ_lt (Heap.lt_size z)) (Nat.lt_irrefl _)
  refine call_own F.excBase_ValueError (fun X => refsVE_contains X bm hbm) (X _ _ hC) (looks_findIn X T.iC) (fun self => bind_fn X self T.tC) (two_size v) ?_
  refine sup_init (s := ⟨(hp.push (kdv_tup [v])).push (excO C hp.objs.size), g, dr, tk, os⟩) T (X.keeps k) (hlim.keeps k) (hg.keeps k) ⟨mb, hb1.keeps k, hb2⟩ hget hnx ?_ fun h' tk' dx M => ?_
  · show A.depth + 1 < recursionLimit
    exact hroom
  · obtain ⟨k', hx, dn, dne, hns⟩ := M
    have old : ∀ b o, hp.get? b = some o → h'.get? b = some o := fun b o e => k' b o (Nat.ne_of_lt (Nat.lt_succ_of_lt (Heap.lt_size e))) (k b o e)
    have z : hp.objs.size + 1 + 1 ≤ dx := by
      first
        | (simpa only [Heap.size_push] using dn)
        | exact dn
        | (have q := dn; rw [Heap.size_push, Heap.size_push] at q; exact q)
    exact ⟨rfl, hq h' tk' (hp.objs.size + 1) dx ⟨old, Nat.le_succ _, hx, Nat.le_trans (Nat.le_trans (Nat.le_succ _) (Nat.le_succ _)) z, dne, hns⟩⟩
end
end SupX_value
end PySem

set_option Elab.async false
set_option linter.all false
set_option maxRecDepth 100000
set_option maxHeartbeats 2000000

namespace L2
open PySem PySem.Spec PyProof.Rows
theorem relO_one {f : Str} {v : V} {v' : Value} (r : RelV v v') (g : Str) : RelO (List.lookup g [(f, v)]) (if g = f then some v' else none) := by
  by_cases hw : g = f
  · subst hw
    rw [if_pos rfl]
    have q : List.lookup g [(g, v)] = some v := by simp [List.lookup]
    rw [q]
    exact r
  · rw [if_neg hw]
    have qw : (g == f) = false := by simpa using hw
    have q2 : List.lookup g [(f, v)] = none := by simp [List.lookup, qw]
    rw [q2]
    trivial
/-- C(e), an exception that is made -/
def tMkX (C : Addr) (f : Str) (ta : TA) : St → Hp → XK → Prop := fun σ H Q => ta σ H fun vs H1 => ∃ v, vs = [v] ∧ ∀ d, H1 d = none → Q (.ref C) (some d) (upd H1 d (.xd [(f, v)]))
/-- C(e) as a value: the exception at a, its dict at d -/
def tExV (C : Addr) (f : Str) (ta : TA) : TE := fun σ H Q => ta σ H fun vs H1 => ∃ v, vs = [v] ∧ ∀ a d, H1 a = none → H1 d = none → d ≠ a → Q (.ref a) (upd (upd H1 d (.xd [(f, v)])) a (exo a C (some d)))
end L2
namespace L2
namespace Sup_value
open PySem PySem.Spec PyProof.Rows PySem.SupX_value
section
variable {X : Cx} {C fI : Addr} {x : Str}
theorem gblt {pins : List (Addr × Obj)} {σ : St} {H : Hp} {s : Shared} (I : Inv X pins σ H s) : ∃ mb, s.heap.Ns builtinsNs mb ∧ ∀ y : Str, y ≠ "__name__" → mb y = bootBuiltins y := by
  obtain ⟨mb, h1, h2⟩ := I.mod.blt
  exact ⟨mb, h1.keeps I.bk, h2⟩
theorem pmk_sup {a : Expr} {ta : TA} {p pos : Pos} {k : Nat} (T : XTxt X.prog X.K X.mg x C fI) (hr : Room k X.A) (ha : PA X [a] ta) (hg : Gl X x := by rfl)
    (he : starEach (a :: []) X.env = (false, eval a X.env) :: starEach [] X.env := by rfl) (hpl : (backTo pos (starEach [] X.env)).any (·.1) = false := by rfl) :
    PMk X (.Call (.Name x p) [a] [] pos) (tMkX C "value" ta) := by
  intro pins s σ H Q I h
  refine wpAny_Call_Name_kw (ld_glob I hg T.gC ?_ T.nm)
  refine PySem.W.callWith_K (h₀ := X.base) I.ok.mod.kin T.kC (thn (ha.run pos pins s σ H _ I h) fun us s1 hh => ?_) he hpl
  obtain ⟨vs, H1, I1, r1, v, ev, q1⟩ := hh
  subst ev
  refine ⟨I1.kIn, ?_⟩
  cases r1 with
  | cons rv rn =>
    rename_i v' us'
    cases rn
    show wpAny _ _ (call (.ref C) [v']) _ _ _
    have hlim := I1.nolimit
    have hgl := I1.mod.glob.keeps I1.bk
    have hbl := gblt I1
    obtain ⟨hp, g, dr, tk, os⟩ := s1
    refine wpAny_call (sup_made T I1.kIn hlim hgl hbl (by have := hr.dp; omega) fun h' tk' e d M => ?_)
    show MkP X pins σ Q (.ref e) ⟨h', g, dr, tk', os⟩
    obtain ⟨t1, hoe⟩ := M.obj
    have hns := M.ns
    obtain ⟨G', g1, g2⟩ := restrict h' fun b => decide (b ≠ e)
    have gk : ∀ b, b ≠ e → G'.get? b = h'.get? b := fun b hb => g1 b (decide_eq_true hb)
    have ge : G'.get? e = none := g2 e (by simp)
    have old : ∀ b o, hp.get? b = some o → G'.get? b = some o := fun b o q => (gk b (Nat.ne_of_lt (Nat.lt_of_lt_of_le (Heap.lt_size q) M.new))).trans (M.keep b o q)
    have ob : ObjOk X.prog X.w (upd H1 d (.xd [(("value" : Str), v)])) G' d (.xd [(("value" : Str), v)]) :=
      ⟨_, hns.at (fun o q => (gk d M.dne).trans q), fun f => relO_one rv f⟩
    have J : Inv X pins σ (upd H1 d (.xd [(("value" : Str), v)])) ⟨G', g, dr, tk', os⟩ := I1.laid (t' := tk') old M.dbig ob
    refine ⟨e, _, _, ⟨G', g, dr, tk', os⟩, _, .ref C, some d, rfl, J, fun b o q => ?_, ge, hoe, ⟨rfl, rfl⟩, rfl, rfl, ?_, rfl, I1.bare, raises_own T.exC T.tyC, q1 d (I1.hok.fresh M.dbig)⟩
    · by_cases hb : b = e
      · have q' : G'.get? b = some o := q
        rw [hb, ge] at q'; cases q'
      · exact (gk b hb).symm.trans q
    · rw [upd_ne (Ne.symm M.dne)]
      exact I1.hok.fresh M.new
/-- raise C(e) -/
theorem ps_raiseSup {a : Expr} {ta : TA} {W : WX} {p pos pos2 : Pos} {k : Nat} (hc : X.calm = true) (T : XTxt X.prog X.K X.mg x C fI) (hr : Room k X.A) (tk : Takes X W) (ha : PA X [a] ta) (hg : Gl X x := by rfl)
    (he : starEach (a :: []) X.env = (false, eval a X.env) :: starEach [] X.env := by rfl) (hpl : (backTo pos (starEach [] X.env)).any (·.1) = false := by rfl) :
    PS X (.Raise (some (.Call (.Name x p) [a] [] pos)) none pos2) (fun _ σ H => tMkX C "value" ta σ H fun cls d H' => W cls d σ H') := ps_raise hc tk (pmk_sup T hr ha hg he hpl)
theorem pmk_supN {a : Expr} {ta : TA} {p pos : Pos} {k : Nat} (T : XTxt X.prog X.K X.mg x C fI) (hr : Room k X.A) (ha : PA X [a] ta) (hg : Gl X x := by rfl)
    (he : starEach (a :: []) X.env = (false, eval a X.env) :: starEach [] X.env := by rfl) (hpl : (backTo pos (starEach [] X.env)).any (·.1) = false := by rfl) :
    L2N.PMk X (.Call (.Name x p) [a] [] pos) (tMkX C "value" ta) := by
  intro pins s σ H Q I h
  refine wpAny_Call_Name_kw (ld_glob I hg T.gC ?_ T.nm)
  refine PySem.W.callWith_K (h₀ := X.base) I.ok.mod.kin T.kC (thn (ha.run pos pins s σ H _ I h) fun us s1 hh => ?_) he hpl
  obtain ⟨vs, H1, I1, r1, v, ev, q1⟩ := hh
  subst ev
  refine ⟨I1.kIn, ?_⟩
  cases r1 with
  | cons rv rn =>
    rename_i v' us'
    cases rn
    show wpAny _ _ (call (.ref C) [v']) _ _ _
    have hlim := I1.nolimit
    have hgl := I1.mod.glob.keeps I1.bk
    have hbl := gblt I1
    obtain ⟨hp, g, dr, tk, os⟩ := s1
    refine wpAny_call (sup_made T I1.kIn hlim hgl hbl (by have := hr.dp; omega) fun h' tk' e d M => ?_)
    show L2N.MkP X pins σ Q (.ref e) ⟨h', g, dr, tk', os⟩
    obtain ⟨t1, hoe⟩ := M.obj
    have hns := M.ns
    obtain ⟨G', g1, g2⟩ := restrict h' fun b => decide (b ≠ e)
    have gk : ∀ b, b ≠ e → G'.get? b = h'.get? b := fun b hb => g1 b (decide_eq_true hb)
    have ge : G'.get? e = none := g2 e (by simp)
    have old : ∀ b o, hp.get? b = some o → G'.get? b = some o := fun b o q => (gk b (Nat.ne_of_lt (Nat.lt_of_lt_of_le (Heap.lt_size q) M.new))).trans (M.keep b o q)
    have ob : ObjOk X.prog X.w (upd H1 d (.xd [(("value" : Str), v)])) G' d (.xd [(("value" : Str), v)]) :=
      ⟨_, hns.at (fun o q => (gk d M.dne).trans q), fun f => relO_one rv f⟩
    have J : Inv X pins σ (upd H1 d (.xd [(("value" : Str), v)])) ⟨G', g, dr, tk', os⟩ := I1.laid (t' := tk') old M.dbig ob
    refine ⟨e, _, _, ⟨G', g, dr, tk', os⟩, _, .ref C, some d, rfl, J, fun b o q => ?_, ge, hoe, ⟨rfl, rfl, fun vs e => by cases e; rfl⟩, rfl, rfl, ?_, rfl, I1.bare, raises_own T.exC T.tyC, q1 d (I1.hok.fresh M.dbig)⟩
    · by_cases hb : b = e
      · have q' : G'.get? b = some o := q
        rw [hb, ge] at q'; cases q'
      · exact (gk b hb).symm.trans q
    · rw [upd_ne (Ne.symm M.dne)]
      exact I1.hok.fresh M.new
/-- raise C(e) -/
theorem ps_raiseSupN {a : Expr} {ta : TA} {W : WX} {p pos pos2 : Pos} {k : Nat} (hc : X.calm = true) (T : XTxt X.prog X.K X.mg x C fI) (hr : Room k X.A) (tk : L2N.Takes X W) (ha : PA X [a] ta) (hg : Gl X x := by rfl)
    (he : starEach (a :: []) X.env = (false, eval a X.env) :: starEach [] X.env := by rfl) (hpl : (backTo pos (starEach [] X.env)).any (·.1) = false := by rfl) :
    PS X (.Raise (some (.Call (.Name x p) [a] [] pos)) none pos2) (fun _ σ H => tMkX C "value" ta σ H fun cls d H' => W cls d σ H')   := L2N.ps_raise hc tk (pmk_supN T hr ha hg he hpl)
/-- C(e) as a value -/
theorem pe_supV {a : Expr} {ta : TA} {p pos : Pos} {k : Nat} (T : XTxt X.prog X.K X.mg x C fI) (hr : Room k X.A) (ha : PA X [a] ta) (hg : Gl X x := by rfl)
    (he : starEach (a :: []) X.env = (false, eval a X.env) :: starEach [] X.env := by rfl) (hpl : (backTo pos (starEach [] X.env)).any (·.1) = false := by rfl) :
    PE X (.Call (.Name x p) [a] [] pos) (tExV C "value" ta) := by
  refine ⟨fun pins s σ H Q I h => ?_⟩
  refine wpAny_Call_Name_kw (ld_glob I hg T.gC ?_ T.nm)
  refine PySem.W.callWith_K (h₀ := X.base) I.ok.mod.kin T.kC (thn (ha.run pos pins s σ H _ I h) fun us s1 hh => ?_) he hpl
  obtain ⟨vs, H1, I1, r1, v, ev, q1⟩ := hh
  subst ev
  refine ⟨I1.kIn, ?_⟩
  cases r1 with
  | cons rv rn =>
    rename_i v' us'
    cases rn
    show wpAny _ _ (call (.ref C) [v']) _ _ _
    have hlim := I1.nolimit
    have hgl := I1.mod.glob.keeps I1.bk
    have hbl := gblt I1
    obtain ⟨hp, g, dr, tk, os⟩ := s1
    refine wpAny_call (sup_made T I1.kIn hlim hgl hbl (by have := hr.dp; omega) fun h' tk' e d M => ?_)
    obtain ⟨t1, hoe⟩ := M.obj
    have hne : H1 e = none := I1.hok.fresh M.new
    have hnd : H1 d = none := I1.hok.fresh M.dbig
    have nde : ∀ {b : Addr} {o : Obj}, hp.get? b = some o → b ≠ e := fun {b o} z => Nat.ne_of_lt (Nat.lt_of_lt_of_le (Heap.lt_size z) M.new)
    have ndd : ∀ {b : Addr} {o : Obj}, hp.get? b = some o → b ≠ d := fun {b o} z => Nat.ne_of_lt (Nat.lt_of_lt_of_le (Heap.lt_size z) M.dbig)
    have two : ∀ {b : Addr} {o : HO}, H1 b = some o → upd (upd H1 d (.xd [(("value" : Str), v)])) e (exo e C (some d)) b = some o := fun {b o} z => by
      rw [upd_ne (ne_of_none z hne), upd_ne (ne_of_none z hnd)]
      exact z
    have U : Un X.fs [] H1 (upd (upd H1 d (.xd [(("value" : Str), v)])) e (exo e C (some d))) hp h' := {
      keep := fun b u z _ _ _ => M.keep b u z
      slot := fun b u z _ _ _ => ⟨u.slots, M.keep b u z⟩
      free := fun b u z n _ => by rw [upd_ne (nde z), upd_ne (ndd z)]; exact n
      there := fun b u z _ => ⟨u, M.keep b u z⟩
      tups := fun b xs z => two z
      frzs := fun b u xs z => two z
      tbls := fun b ps z => ⟨#[], by rw [two z]; simp⟩ }
    have ok2 : HOk X.prog X.w (upd (upd H1 d (.xd [(("value" : Str), v)])) e (exo e C (some d))) h' := fun b o z => by
      by_cases hb : b = e
      · subst hb
        rw [upd_same] at z
        cases z
        exact exo_ok hoe
      · rw [upd_ne hb] at z
        by_cases hd : b = d
        · subst hd
          rw [upd_same] at z
          cases z
          exact ⟨_, M.ns, fun f => relO_one rv f⟩
        · rw [upd_ne hd] at z
          exact (I1.hok b o z).stay (fun c u _ q => M.keep c u q) (fun c q => two q) fun c xs q => two q
    have J2 : Inv X pins σ (upd (upd H1 d (.xd [(("value" : Str), v)])) e (exo e C (some d))) ⟨h', g, dr, tk', os⟩ := I1.un (t' := tk') U ok2
    exact ⟨.ref e, _, J2, rfl, q1 e d hne hnd M.dne⟩
end
end Sup_value
end L2

set_option Elab.async false
set_option linter.all false
set_option maxRecDepth 100000
set_option maxHeartbeats 4000000
namespace PySem.W
open PySem PySem.Spec PySem.Calls PyProof.Rows
section
variable {prog : Program} {w : World} {A : Around} {E : Value → Shared → Prop} {s : Shared} {K : Frag} {x D : Addr} {ox : Obj}
theorem findObj_dX {C : Addr} {odx : Option Obj} {name : Str} {a g : Value} (hc : (clsIn K C).isSome = true) (ha : findIn K (.ref C) name = some (some a)) (hg : specialIn K a "__get__" = some (some g)) (ht : takesIn K a = some true) : findObj K C odx name = some (.bind g a) := by
  obtain ⟨cd, hc⟩ := Option.isSome_iff_exists.mp hc
  unfold findObj
  rw [hc, Option.bind_some, ha, Option.bind_some]
  simp [hg, ht]
theorem kin_classX {odx : Option Obj} {Q : Option Value → Shared → Prop} (hga : findIn K (.ref D) "__getattribute__" = some (some (.builtin "BaseException.__getattribute__"))) (hgt : findIn K (.ref D) "__getattr__" = some none) (hsub : subIn K (.ref D) (.type "BaseException") = some true)
    (hdct : hasDictIn K D = true) (ha : findIn K (.ref D) "__class__" = some (some (.builtin "object.__class__")))
    (hn : specialIn K (.builtin "object.__class__") "__get__" = some (some (.builtin "getset_descriptor.__get__"))) (htk : takesIn K (.builtin "object.__class__") = some true) (hm : mroIn K D (.type "object") = some true)
    (X : K.In s.heap) (I : InstAt s.heap x ox D odx) (h : Q (some (.ref D)) { s with toks := s.toks + 1 }) : wpAny (model prog w) A (getAttr? (.ref x) "__class__") Q E s := by
  have hf : findObj K D odx "__class__" = some (.bind (.builtin "getset_descriptor.__get__") (.builtin "object.__class__")) := findObj_dX (by obtain ⟨cd, hc, _⟩ := any_some hdct; rw [hc]; rfl) ha hn htk
  obtain ⟨hp, g, d, t, os⟩ := s
  have L0 := I.type (M := model prog w)
  have L1 := looks_findIn (M := model prog w) X hga
  have L2 := looks_findIn (M := model prog w) X hgt
  have L3 := looks_find (M := model prog w) X I hf
  have sub : Looks (model prog w) hp (isInstance (.ref x) (.type "BaseException")) true := L0.andThen (looks_subIn X hsub)
  have hx0 : (false && onTheHeap (Value.builtin "BaseException.__getattribute__")) = false := rfl
  have hx2 : (Value.builtin "BaseException.__getattribute__" == Value.builtin "object.__getattribute__") = false := by decide +kernel
  have hx1 : (onTheHeap (Value.ref D) && Value.builtin "BaseException.__getattribute__" == Value.builtin "object.__getattribute__") = false := by rw [hx2]; rfl
  unfold getAttr? getAttrBy? getAttrBy
  refine wpAny_bind (wpAny_mkText (wpAny_bind (wpAny_attempt (wpAny_holding (wpAny_bind (L0.at (wpAny_bind (L1.at ?_))))))))
  show wpAny _ _ (if (onTheHeap (Value.ref D) && Value.builtin "BaseException.__getattribute__" == Value.builtin "object.__getattribute__") = true then _ else _) _ _ _
  rw [hx1, if_neg Bool.false_ne_true]
  unfold getAttrByItsOwn hookBefore
  refine wpAny_bind ?_
  rw [if_pos (show onTheHeap (Value.ref D) = true from rfl)]
  refine L2.at ?_
  refine wpAny_bind (wpAny_attempt (wpAny_holding ?_))
  unfold callGetattribute
  rw [hx0, if_neg Bool.false_ne_true]
  unfold boundAndCalled
  rw [PySem.F.excAttr_ValueError.ga.bind (.ref x)]
  refine wpAny_bind (wpAny_pure ?_)
  show wpAny _ _ (call (.builtin "BaseException.__getattribute__") [.ref x, .str "__class__" t]) _ _ _
  refine wpAny_call (codeAny_call_builtin PySem.F.excAttr_ValueError.ga.plain PySem.F.entry_bexc_ga ?_)
  refine @check_slot (model prog w) _ _ ⟨hp, g, d, t + 1, os⟩ "BaseException.__getattribute__" "BaseException" "__getattribute__" (.ref x) [.str "__class__" t] [] _ (by decide +kernel) (by decide +kernel) sub (PySem.F.args_bexc_ga (.ref x) (.str "__class__" t)) ?_
  unfold Builtin.«object.__getattribute__»
  refine wpAny_bind (wpAny_of_eq (a := ((Value.ref x : Value), [Value.str "__class__" t])) (by first | rfl | (simp only [slotArgs]; rfl)) ?_)
  refine wpAny_bind (wpAny_pure (wpAny_bind (L0.at (wpAny_bind (L3.at ?_)))))
  show wpAny _ _ (holding [Value.builtin "object.__class__"] (call (.builtin "getset_descriptor.__get__") [.builtin "object.__class__", .ref x, .ref D]) >>= ret) _ _ _
  refine wpAny_bind (wpAny_holding (wpAny_call (class_get (s := ⟨hp, g, d, t + 1, os⟩) (ox := ox) (od := odx) X I hm ?_)))
  refine wpAny_pure ?_
  show wpAny _ _ (handedOut (.ref D)) _ _ _
  rw [handedOut_of (v := .ref D) rfl]
  first
    | exact wpAny_pure (wpAny_pure h)
    | exact wpAny_pure h
    | exact wpAny_pure (wpAny_bind (wpAny_pure (wpAny_pure h)))
theorem kitx_excX {odx : Option Obj} (hga : findIn K (.ref D) "__getattribute__" = some (some (.builtin "BaseException.__getattribute__"))) (hgt : findIn K (.ref D) "__getattr__" = some none) (hsub : subIn K (.ref D) (.type "BaseException") = some true) (hdct : hasDictIn K D = true) (ha : findIn K (.ref D) "__class__" = some (some (.builtin "object.__class__")))
    (hn : specialIn K (.builtin "object.__class__") "__get__" = some (some (.builtin "getset_descriptor.__get__"))) (htk : takesIn K (.builtin "object.__class__") = some true) (hm : mroIn K D (.type "object") = some true) :
    KitX K (.ref x) (.ref D) (fun h => InstAt h x ox D odx) where
  ty := fun _ _ _ I => I.type
  it := fun _ _ X _ => by
    obtain ⟨cdD, hcD, _⟩ := any_some hdct
    unfold clsIn at hcD
    split at hcD
    · rename_i c' d' cd' sl' ho
      intro A' Q' E' s' k q
      unfold isType loadHead
      exact wpAny_bind (wpAny_loadPart (k _ _ (X _ _ ho)) (wpAny_pure q))
    · cases hcD
  ne := fun h tp dd its n sl X htp => by
    obtain ⟨cdD, hcD, _⟩ := any_some hdct
    refine Bool.eq_false_iff.mpr fun q => ?_
    have e : D = tp := Value.ref.inj (beq_iff_eq.mp q)
    subst e
    unfold clsIn at hcD
    split at hcD
    · rename_i c' d' cd' sl' ho
      have z := (X _ _ ho).symm.trans htp
      cases z
    · cases hcD
  ca := fun X I k => kin_classX hga hgt hsub hdct ha hn htk hm X I k
end
end PySem.W
namespace L2
open PySem PySem.Spec PyProof.Rows
/-- an exception object that stands, with its dict -/
def ExT (K : PySem.W.Frag) (H : Hp) (x : V) (t : Value) : Prop := ∃ (a C d : Addr) (fs : List (Str × V)), x = .ref a ∧ t = .ref C ∧ H a = some (exo a C (some d)) ∧ H d = some (.xd fs) ∧ ExcC K C
def KX (K : PySem.W.Frag) (H : Hp) (x : V) (t : Value) : Prop := TyX K H x t ∨ ExT K H x t
def rIsiV (K : PySem.W.Frag) : List V → Hp → VK → Prop := fun xs H Q => ∃ (x c : V) (t u : Value) (b : Bool), xs = [x, c] ∧ ClsV c u ∧ KX K H x t ∧ PySem.W.kitOne K t u = some b ∧ Q (.bl b) H
section
variable {X : Cx}
theorem call_isiV : CallR X (.builtin "isinstance") (rIsiV X.K) := by
  intro pins s σ H xs us Q I r h
  obtain ⟨x, c, t, u, b, rfl, k, ty, e, q⟩ := h
  obtain ⟨u1, u2, rfl, r1, r2⟩ := vals2 r
  have e2 := k.eq r2
  subst e2
  rcases ty with ty | ⟨a, C, d, fs, rfl, rfl, ha, hd, EC⟩
  · obtain ⟨P, Z, p, hx⟩ := kit_of I r1 ty
    exact PySem.W.kia_one Z I.kIn p e hx fun tk => ⟨.bl b, H, I.tok tk, rfl, q⟩
  · cases (show u1 = Value.ref a from r1)
    obtain ⟨t1, ho⟩ := exo_at I.hok ha
    obtain ⟨mA, ⟨od, es, ep, hod, _⟩, _⟩ := (show ObjOk X.prog X.w H s.heap d (.xd fs) from I.hok d _ hd)
    have J : PySem.W.InstAt s.heap a _ C (some od) := ⟨ho, rfl, rfl, hod⟩
    exact PySem.W.kia_one (PySem.W.kitx_excX EC.hg EC.hk EC.hs EC.hd EC.ha EC.hn EC.ht EC.hm) I.kIn J e (fun z => nomatch z) fun tk => ⟨.bl b, H, I.tok tk, rfl, q⟩
end
end L2

set_option Elab.async false
set_option linter.all false
set_option maxRecDepth 100000
set_option maxHeartbeats 2000000
namespace L2
open PySem PySem.Spec PyProof.Rows
section
variable {X : Cx} {CX : CXT} {k : Nat} {f C : Addr} {fd : FuncData} {ps ks : List Str} {sp : Sp} {E : XK} {x m : Str} {p pos : Pos} {kws : List Keyword} {tk : TA} {g : List Value → List Value → List Value} {gV : List V → List V → List V}
/-- f(k = v, ..): keywords alone -/
theorem pe_kw0 (F : FnOk X.prog X.w X.K X.mg X.base CX k f fd ps sp) (hr : Room k X.A) (hg : Gl X x) (hm : X.mg x = some (.ref f)) (hk : PySem.W.keepIn X.K (.ref f) = true) (hb : KBinds X.K fd ps ks g gV) (hx : Passes CX X E)
    (hkw : PK X kws tk) (hall : (backToKw pos (keywordEach kws X.env)).all (·.1.isSome) = true := by rfl) (hks : (backToKw pos (keywordEach kws X.env)).filterMap (·.1) = ks := by rfl) (hdb : (x == ("__debug__" : Str)) = false := by decide)
    (hpl : ((backTo pos (starEach [] X.env)).any (·.1) || (backToKw pos (keywordEach kws X.env)).any (·.1.isNone)) = false := by rfl) :
    PE X (.Call (.Name x p) [] kws pos) (tCallK sp gV E tNil tk) := by
  refine ⟨fun pins s σ H Q I h => ?_⟩
  refine wpAny_Call_Name_kw (ld_glob I hg hm ?_ hdb)
  refine PySem.W.callWith_KW0 (h₀ := X.base) I.ok.mod.kin hk hall (thn (hkw.run pos pins s σ H _ I h) fun ws s2 ⟨zs, H2, I2, rz, q2⟩ => ⟨I2.kIn, ?_⟩) hpl
  rw [hks]
  exact run_fnk (us := []) (vs := []) F hr hb hx I2 .nil rz q2
end
section
variable {X : Cx} {CX : CXT} {k : Nat} {f C : Addr} {fd : FuncData} {ps ks : List Str} {sp : Sp} {E : L2.St → XK} {x m : Str} {p pos : Pos} {kws : List Keyword} {tk : TA} {g : List Value → List Value → List Value} {gV : List V → List V → List V}
def tCallKS (sp : Sp) (gV : List V → List V → List V) (E : L2.St → XK) (tk : TA) : TE := fun σ H Q => tk σ H fun zs H2 => sp (gV [] zs) H2 Q (E σ)
/-- f(k = v, ..) that may raise, the wish at the caller's slots -/
theorem pe_kwS0 (F : FnOk X.prog X.w X.K X.mg X.base CX k f fd ps sp) (hr : Room k X.A) (hg : Gl X x) (hm : X.mg x = some (.ref f)) (hk : PySem.W.keepIn X.K (.ref f) = true) (hb : KBinds X.K fd ps ks g gV) (hx : ∀ σ, PassesAt CX X σ (E σ))
    (hkw : PK X kws tk) (hall : (backToKw pos (keywordEach kws X.env)).all (·.1.isSome) = true := by rfl) (hks : (backToKw pos (keywordEach kws X.env)).filterMap (·.1) = ks := by rfl) (hdb : (x == ("__debug__" : Str)) = false := by decide)
    (hpl : ((backTo pos (starEach [] X.env)).any (·.1) || (backToKw pos (keywordEach kws X.env)).any (·.1.isNone)) = false := by rfl) :
    PE X (.Call (.Name x p) [] kws pos) (tCallKS sp gV E tk) := by
  refine ⟨fun pins s σ H Q I h => ?_⟩
  refine wpAny_Call_Name_kw (ld_glob I hg hm ?_ hdb)
  refine PySem.W.callWith_KW0 (h₀ := X.base) I.ok.mod.kin hk hall (thn (hkw.run pos pins s σ H _ I h) fun ws s2 ⟨zs, H2, I2, rz, q2⟩ => ⟨I2.kIn, ?_⟩) hpl
  rw [hks]
  have r2 := hb.rel (vs := []) (us := []) .nil rz
  have hl : (g [] ws).length = ps.length := by rw [← r2.length]; exact F.len _ _ _ _ q2
  refine wpAny_call (codeAny_mono (F.run X.A X.stack s2 H2 ⟨[], ks.zip ws⟩ (g [] ws) (gV [] zs) Q (E σ) hr I2.env0 (hb.to s2 [] ws I2.kIn hl) r2 q2) fun r s' hq => ?_)
  cases r with
  | error e => exact hx σ pins H2 s2 e s' I2 hq
  | ok fl =>
    cases fl with
    | ret u => exact I2.after hq
    | next => exact False.elim hq
    | brk => exact False.elim hq
    | cont => exact False.elim hq
end
section
variable {X : Cx}
/-- // by any divisor but nought, not too long -/
def CDivV (_ j : Int) : Prop := j ≠ 0 ∧ j.natAbs.log2 < 9000
theorem op_fdivV : OpR X (binaryOp .FloorDiv) (rI CDivV fun i j => .int (i.fdiv j)) := opI fun _ _ _ _ _ _ _ hc q => floordiv_int hc.1 q (.inl (PyProof.noPylong_of_log2 hc.2))
end
end L2
namespace L2
open PySem PySem.Spec PyProof.Rows
theorem passN {X : Cx} : Passes (L2N.CX X.prog X.w) X E0 := fun _ _ _ _ _ _ _ h => by
  obtain ⟨_, _, _, _, _, _, _, _, _, _, _, _, z⟩ := h
  exact z.elim
theorem passH {X : Cx} {σ : L2.St} {E : XK} : PassesAt CX0 X σ E := fun _ _ _ _ _ _ h => h.elim
theorem takesN0 {X : Cx} : L2N.Takes X (fun _ _ _ _ => False) := fun _ _ x => by
  obtain ⟨_, _, _, _, _, _, _, _, _, _, _, _, _, _, _, _, z⟩ := x
  exact z.elim
theorem hotS {X : Cx} {a : Addr} {oe : Obj} {cls : Value} {d : Option Addr} {pn : List (Addr × Obj)} (hz : L2N.Zn cls d oe) (hf : ∃ vs, oe.data = .fields vs) : L2H.HotC (X.suite a ((a, oe) :: pn)) := by
  obtain ⟨vs, e⟩ := hf
  exact ⟨(a, oe), ⟨rfl, vs, e, hz.2.2 vs e⟩, List.mem_cons_self⟩
theorem roomS {X : Cx} {k : Nat} {a : Addr} {pn : List (Addr × Obj)} (r : Room k X.A) : L2H.RoomH k (X.suite a pn).A := ⟨r.dp, r.un⟩
section
variable {P : Program} {w : World} {K : PySem.W.Frag} {mg : Str → Option Value} {base : Heap}
/-- a def that may raise, the exception's context none -/
theorem Fun.okN {x qual : Str} {st : Stmt} {f : Addr} {fd : FuncData} {N ps : List Str} {k : Nat} {sp : Sp} (F : Fun K x qual st f fd) (S : FnScope N ps (defScope st)) (len : ∀ vs H Q E, sp vs H Q E → vs.length = ps.length)
    (hbody : ∀ (cdv : Value) (A : Around) (outer : List Env) (s : Shared) (H : Hp) (vs : List V) (Q : VK) (E : XK), Room k (A.deeper (envOfC qual (defScope st) s.heap.objs.size f cdv)) → sp vs H Q E →
      ∃ t, PSs (cxOf (L2N.CX P w) P w K mg base N qual (defScope st) f cdv A outer s H E) (defBody st) t ∧ t { nx := fun _ H' => Q .non H', rt := Q } (start N vs) H) : FnOk P w K mg base (L2N.CX P w) (k + 1) f fd ps sp := by
  obtain ⟨oc, od, kV, doc, pm, an, cdv, ct, osl, rfl, lk, hcd⟩ := F.ex
  exact fn_of lk hcd S len fun A outer s H vs Q E hr hsp => hbody cdv A outer s H vs Q E hr hsp
/-- a def called where an exception is handled -/
theorem Fun.okH {CX : CXT} {x qual : Str} {st : Stmt} {f : Addr} {fd : FuncData} {N ps : List Str} {k : Nat} {sp : Sp} (F : Fun K x qual st f fd) (S : FnScope N ps (defScope st)) (len : ∀ vs H Q E, sp vs H Q E → vs.length = ps.length)
    (hbody : ∀ (cdv : Value) (A : Around) (outer : List Env) (s : Shared) (H : Hp) (vs : List V) (Q : VK) (E : XK) (p : Addr × Obj), L2H.RoomH k (A.deeper (envOfC qual (defScope st) s.heap.objs.size f cdv)) → sp vs H Q E →
      ∃ t, PSs (L2H.cxH CX P w K mg base N qual (defScope st) f cdv A outer s H E p) (defBody st) t ∧ t { nx := fun _ H' => Q .non H', rt := Q } (start N vs) H) : L2H.FnH P w K mg base CX (k + 1) f fd ps sp := by
  obtain ⟨oc, od, kV, doc, pm, an, cdv, ct, osl, rfl, lk, hcd⟩ := F.ex
  exact L2H.fn_ofH lk hcd S len fun A outer s H vs Q E p _ hr hsp => hbody cdv A outer s H vs Q E p hr hsp
end
end L2
namespace Sx
open PySem L2
abbrev St := L2.St
theorem Same.up {H H' : Hp} {a : Addr} {o : HO} (e : Same H H') (h : H a = some o) : H' a = some o := e _ _ h
/-- all but what stands at a is as it was -/
def Keep (a : Addr) (H H' : Hp) : Prop := ∀ b o, b ≠ a → H b = some o → H' b = some o
theorem Keep.up {c : Addr} {H H' : Hp} {a : Addr} {o : HO} (e : Keep c H H') (n : a ≠ c) (h : H a = some o) : H' a = some o := e _ _ n h
theorem Keep.refl (a : Addr) (H : Hp) : Keep a H H := fun _ _ _ h => h
theorem Keep.trans {a : Addr} {H H1 H2 : Hp} (e : Keep a H H1) (f : Keep a H1 H2) : Keep a H H2 := fun b o n h => f b o n (e b o n h)
theorem Keep.same {a : Addr} {H H1 : Hp} (e : Same H H1) : Keep a H H1 := fun b o _ h => e b o h
theorem Keep.put {a : Addr} {H H1 : Hp} {o : HO} (e : Keep a H H1) : Keep a H (upd H1 a o) := fun b o n h => by
  rw [upd_ne n]
  exact e b o n h
theorem Same.new {H : Hp} {p : Addr} {o : HO} (h : H p = none) : Same H (upd H p o) := fun a u e => by
  rw [upd_ne (ne_of_none e h)]
  exact e
theorem Same.put {a : Addr} {H H1 : Hp} {o : HO} (e : Same H H1) (n : H a = none) : Same H (upd H1 a o) := fun b u h => by
  rw [upd_ne (ne_of_none h n)]
  exact e b u h
/-- a keeping but at a place that was free ahead -/
theorem Keep.toSame {a : Addr} {H H1 H2 : Hp} (e : Same H H1) (n : H a = none) (f : Keep a H1 H2) : Same H H2 := fun b o h => f b o (ne_of_none h n) (e b o h)
theorem Keep.free {a b : Addr} {H H' : Hp} (e : Keep a H H') (n : b ≠ a) (h : H' b = none) : H b = none := by
  cases q : H b with
  | none => rfl
  | some o =>
    rw [e b o n q] at h
    cases h
theorem same_free {H H' : Hp} (e : Same H H') {l : Addr} (h : H' l = none) : H l = none := L2.Same.free e h
section
variable {K : PySem.W.Frag} {σ : St} {H : Hp} {Q : VK} {D : Ends} {t u : TS} {te ta tb tx : TE} {tt tu : TT} {r : R2} {x y z v w : V} {nx : St → Hp → Prop} {xs ys : List V}
theorem s_seq (h : t { D with nx := u D } σ H) : tSeq t u D σ H := h
theorem s_next (h : D.nx σ H) : tNext D σ H := h
theorem s_brk (h : D.bk σ H) : tBreak D σ H := h
theorem s_cont (h : D.ct σ H) : tCont D σ H := h
theorem s_asg {g : TG} (h : te σ H fun x H1 => g x σ H1 D.nx) : tAsg te g D σ H := h
theorem s_name {i : Nat} (h : nx (σ.set i (some v)) H) : gName i v σ H nx := h
theorem s_drop (h : te σ H fun _ H1 => D.nx σ H1) : tDrop te D σ H := h
theorem s_ret (h : te σ H D.rt) : tRet te D σ H := h
theorem s_ifS (h : tt σ H fun b H1 => if b = true then t D σ H1 else u D σ H1) : tIfS tt t u D σ H := h
theorem s_var {i : Nat} (h : σ[i]? = some (some v)) (q : Q v H) : tVar i σ H Q := ⟨v, h, q⟩
theorem s_c (q : Q v H) : tC v σ H Q := q
theorem s_op (h : ta σ H fun x H1 => tb σ H1 fun y H2 => r x y H2 Q) : tOp r ta tb σ H Q := h
theorem s_un {r : V → Hp → VK → Prop} (h : ta σ H fun x H1 => r x H1 Q) : tUn r ta σ H Q := h
variable {R : Bool → Hp → Prop}
theorem s_test (h : te σ H fun x H' => ∃ k, x = .bl k ∧ R k H') : tTest te σ H R := h
theorem s_tB (h : te σ H fun x H' => ∃ k, x = .bl k ∧ R k H') : tB te σ H R := h
theorem s_tT (h : te σ H fun x H' => ∃ k, x = .bl k ∧ R k H') : tTest te σ H R := h
theorem s_bl {k : Bool} (h : R k H) : ∃ k', V.bl k = V.bl k' ∧ R k' H := ⟨k, rfl, h⟩
theorem s_and (h : tt σ H fun c H1 => if c = true then tu σ H1 R else R false H1) : tAnd tt tu σ H R := h
theorem s_or (h : tt σ H fun c H1 => if c = true then R true H1 else tu σ H1 R) : tOr tt tu σ H R := h
theorem s_not (h : tt σ H fun c H1 => R (!c) H1) : tNot tt σ H R := h
theorem s_andV (h : ta σ H fun x H1 => ∃ c, x = .bl c ∧ if c = true then tb σ H1 Q else Q (.bl false) H1) : tAndV ta tb σ H Q := h
theorem s_orV (h : ta σ H fun x H1 => ∃ c, x = .bl c ∧ if c = true then Q (.bl true) H1 else tb σ H1 Q) : tOrV ta tb σ H Q := h
theorem s_notV (h : ta σ H fun x H1 => ∃ c, x = .bl c ∧ Q (.bl (!c)) H1) : tNotV ta σ H Q := h
theorem s_blV {k : Bool} {P : Bool → Prop} (h : P k) : ∃ k', V.bl k = V.bl k' ∧ P k' := ⟨k, rfl, h⟩
theorem s_if (h : tt σ H fun c H1 => if c = true then ta σ H1 Q else tb σ H1 Q) : tIf tt ta tb σ H Q := h
theorem s_cb {r : List V → Hp → VK → Prop} {t : TA} (h : t σ H fun vs H1 => r vs H1 Q) : tCB r t σ H Q := h
theorem s_call {sp : Sp} {dvs : List V} {E : XK} {t : TA} (h : t σ H fun vs H1 => sp (vs ++ dvs) H1 Q E) : tCall sp dvs E t σ H Q := h
theorem s_callK {sp : Sp} {gV : List V → List V → List V} {E : XK} {t tk : TA} (h : t σ H fun vs H1 => tk σ H1 fun zs H2 => sp (gV vs zs) H2 Q E) : tCallK sp gV E t tk σ H Q := h
theorem s_nil {P : List V → Hp → Prop} (h : P [] H) : tNil σ H P := h
theorem s_cons {ta : TE} {tr : TA} {P : List V → Hp → Prop} (h : ta σ H fun x H1 => tr σ H1 fun xs H2 => P (x :: xs) H2) : tCons ta tr σ H P := h
theorem s_tup {t : TA} (h : t σ H fun xs H1 => xs.length ≤ sizeLine ∧ ∀ p, H1 p = none → Q (.ref p) (upd H1 p (.tup xs))) : tTup t σ H Q := h
theorem s_lst {t : TA} (h : t σ H fun xs H1 => xs.length ≤ sizeLine ∧ ∀ p, H1 p = none → Q (.ref p) (upd H1 p (.lst xs))) : tLst t σ H Q := h
theorem new_same {H H2 : Hp} {p : Addr} {o : HO} (n : H p = none) (e : upd H p o = H2) : Same H H2 := by
  subst e
  exact Same.new n
theorem new_at {H H2 : Hp} {p : Addr} {o : HO} (e : upd H p o = H2) : H2 p = some o := by
  subst e
  exact upd_same
theorem put_keep {H H2 : Hp} {p : Addr} {o : HO} (e : upd H p o = H2) : Keep p H H2 := by
  subst e
  exact Keep.put (Keep.refl p H)
theorem c_mul_r {i j : Int} (a : -(2 ^ 64) < j) (b : j < 2 ^ 64) : CMul i j := .inr ⟨a, b⟩
theorem c_mul_l {i j : Int} (a : -(2 ^ 64) < i) (b : i < 2 ^ 64) : CMul i j := .inl ⟨a, b⟩
theorem c_div {i j : Int} (a : 0 < j) (b : j < 1073741824) : CDiv i j := ⟨a, b⟩
theorem c_pow {i j : Int} (a : 0 ≤ j) (b : j ≤ 1000000) (c : i.natAbs < 2 ^ 64) : CPow i j := ⟨a, b, c⟩
-- operators on values
theorem r_I0 {g : Int → Int → V} {i j : Int} (q : Q (g i j) H) : rI0 g (.int i) (.int j) H Q := ⟨i, j, rfl, rfl, q⟩
theorem r_I {C : Int → Int → Prop} {g : Int → Int → V} {i j : Int} (c : C i j) (q : Q (g i j) H) : rI C g (.int i) (.int j) H Q := ⟨i, j, rfl, rfl, c, q⟩
theorem r_U {g : Int → V} {i : Int} (q : Q (g i) H) : rU g (.int i) H Q := ⟨i, rfl, q⟩
theorem r_eq (h : scal x y = true) (q : Q (.bl (decide (x = y))) H) : rEq x y H Q := ⟨h, q⟩
theorem r_ne (h : scal x y = true) (q : Q (.bl (!decide (x = y))) H) : rNe x y H Q := ⟨h, q⟩
theorem v_int_eq {i j : Int} : decide (V.int i = V.int j) = decide (i = j) := by
  by_cases h : i = j
  · rw [h]; simp
  · simp [h]
theorem r_eqI {i j : Int} (q : Q (.bl (decide (i = j))) H) : rEq (.int i) (.int j) H Q := ⟨rfl, by rw [v_int_eq]; exact q⟩
theorem r_neI {i j : Int} (q : Q (.bl (!decide (i = j))) H) : rNe (.int i) (.int j) H Q := ⟨rfl, by rw [v_int_eq]; exact q⟩
theorem r_isB {a b : Bool} (q : Q (.bl (decide (a = b))) H) : rIsB (.bl a) (.bl b) H Q := ⟨a, b, rfl, rfl, q⟩
theorem r_notB {a b : Bool} (q : Q (.bl (!decide (a = b))) H) : rNotB (.bl a) (.bl b) H Q := ⟨a, b, rfl, rfl, q⟩
theorem r_ixL {p : Addr} {i : Int} (h : H p = some (.lst xs)) (a : atI xs i = some v) (q : Q v H) : rIx K (.ref p) (.int i) H Q := .inl ⟨p, xs, i, v, rfl, rfl, SqL.of h, a, q⟩
theorem r_ixT {p : Addr} {i : Int} (h : H p = some (.tup xs)) (a : atI xs i = some v) (q : Q v H) : rIx K (.ref p) (.int i) H Q := .inr (.inl ⟨p, xs, i, v, rfl, rfl, SqT.of h, a, q⟩)
def IxG : List V → Int → (V → Prop) → Prop
  | [], _, _ => False
  | a :: r, i, P => (i = 0 → P a) ∧ (i ≠ 0 → IxG r (i - 1) P)
theorem ig_cons {a : V} {r : List V} {i : Int} {P : V → Prop} (h1 : i = 0 → P a) (h2 : i ≠ 0 → IxG r (i - 1) P) : IxG (a :: r) i P := ⟨h1, h2⟩
theorem ig_nil {i : Int} {P : V → Prop} (h : False) : IxG [] i P := h
theorem IxG.get : ∀ {xs : List V} {n : Nat} {P : V → Prop}, IxG xs (n : Int) P → ∃ v, xs[n]? = some v ∧ P v
  | [], _, _, h => h.elim
  | a :: r, 0, P, h => ⟨a, rfl, h.1 rfl⟩
  | a :: r, n + 1, P, h => by
    have h2 := h.2 (by omega)
    have e : ((n + 1 : Nat) : Int) - 1 = (n : Int) := by omega
    rw [e] at h2
    obtain ⟨v, h3, h4⟩ := IxG.get h2
    exact ⟨v, by simpa using h3, h4⟩
theorem r_ixG {p : Addr} {i : Int} (h : H p = some (.lst xs)) (hi : 0 ≤ i) (q : IxG xs i fun v => Q v H) : rIx K (.ref p) (.int i) H Q := by
  obtain ⟨n, rfl⟩ := Int.eq_ofNat_of_zero_le hi
  obtain ⟨v, h1, h2⟩ := IxG.get q
  exact .inl ⟨p, xs, _, v, rfl, rfl, SqL.of h, atI_nat h1, h2⟩
theorem r_ixGT {p : Addr} {i : Int} (h : H p = some (.tup xs)) (hi : 0 ≤ i) (q : IxG xs i fun v => Q v H) : rIx K (.ref p) (.int i) H Q := by
  obtain ⟨n, rfl⟩ := Int.eq_ofNat_of_zero_le hi
  obtain ⟨v, h1, h2⟩ := IxG.get q
  exact .inr (.inl ⟨p, xs, _, v, rfl, rfl, SqT.of h, atI_nat h1, h2⟩)
theorem r_ixS {p : Addr} {i : Int} (h : SqL K H p xs) (a : atI xs i = some v) (q : Q v H) : rIx K (.ref p) (.int i) H Q := .inl ⟨p, xs, i, v, rfl, rfl, h, a, q⟩
theorem r_setL {p : Addr} {i : Int} {j : Nat} {P : Hp → Prop} (h : H p = some (.lst xs)) (a : ixN xs.length i = some j) (q : ∀ H2, Keep p H H2 → H2 p = some (.lst (xs.set j v)) → P H2) : rSetL (.ref p) (.int i) v H P := ⟨p, xs, i, j, rfl, rfl, h, a, q _ (Keep.put (Keep.refl p H)) upd_same⟩
theorem s_sub {to ti : TE} {ts : TSet} (h : to σ H fun o H1 => ti σ H1 fun i H2 => ts o i v H2 fun H3 => nx σ H3) : gSub to ti ts v σ H nx := h
theorem r_app {p : Addr} (h : H p = some (.lst xs)) (l : xs.length < sizeLine) (q : ∀ H2, Keep p H H2 → H2 p = some (.lst (xs ++ [y])) → Q .non H2) : rAppend (.ref p) [y] H Q := ⟨p, xs, y, rfl, rfl, h, l, q _ (Keep.put (Keep.refl p H)) upd_same⟩
theorem s_bm {T : String} {r : V → List V → Hp → VK → Prop} {to : TE} {t : TA} (h : to σ H fun x H1 => tyV K T x H1 ∧ t σ H1 fun xs H2 => r x xs H2 Q) : tBM K T r to t σ H Q := h
theorem ty_list {p : Addr} {P : Prop} (h : H p = some (.lst xs)) (q : P) : tyV K "list" (.ref p) H ∧ P := ⟨.inl ⟨rfl, _, SqL.of h⟩, q⟩
theorem r_gcd {a b : Int} (q : Q (.int ((Nat.gcd a.natAbs b.natAbs : Nat) : Int)) H) : rGcd [.int a, .int b] H Q := ⟨a, b, rfl, q⟩
theorem r_all {p : Addr} {bs : List Bool} (h : H p = some (.lst (bs.map V.bl))) (q : Q (.bl (bs.all id)) H) : rAll K [.ref p] H Q := ⟨p, bs, rfl, SqL.of h, q⟩
theorem i_T {c : Prop} [Decidable c] {A B : Prop} (hc : c) (h : A) : if decide c = true then A else B := by
  rw [if_pos (decide_eq_true hc)]; exact h
theorem i_F {c : Prop} [Decidable c] {A B : Prop} (hc : ¬ c) (h : B) : if decide c = true then A else B := by
  rw [if_neg (by simp [hc])]; exact h
theorem i_2 {c : Prop} [Decidable c] {A B : Prop} (h1 : c → A) (h2 : ¬ c → B) : if decide c = true then A else B := by
  by_cases h : c
  · exact i_T h (h1 h)
  · exact i_F h (h2 h)
theorem i_n2 {c : Prop} [Decidable c] {A B : Prop} (h1 : ¬ c → A) (h2 : c → B) : if (!decide c) = true then A else B := by
  by_cases h : c
  · rw [if_neg (by simp [h])]; exact h2 h
  · rw [if_pos (by simp [h])]; exact h1 h
theorem i_b2 {b : Bool} {A B : Prop} (h1 : b = true → A) (h2 : b = false → B) : if b = true then A else B := by
  cases b
  · exact iteF (h2 rfl)
  · exact iteT (h1 rfl)
theorem i_nb2 {b : Bool} {A B : Prop} (h1 : b = false → A) (h2 : b = true → B) : if (!b) = true then A else B := by
  cases b
  · exact iteT (h1 rfl)
  · exact iteF (h2 rfl)
theorem i_t {A B : Prop} (h : A) : if true = true then A else B := iteT h
theorem i_f {A B : Prop} (h : B) : if false = true then A else B := iteF h
theorem i_nt {A B : Prop} (h : B) : if (!true) = true then A else B := iteF h
theorem i_nf {A B : Prop} (h : A) : if (!false) = true then A else B := iteT h
end
end Sx

set_option Elab.async false
set_option linter.all false
set_option maxRecDepth 100000
set_option maxHeartbeats 2000000
namespace Sx
open PySem L2
/-- what a class of errors is not -/
structure ExK (K : PySem.W.Frag) (C : Addr) : Prop where
  ec : ExcC K C
  ni : PySem.W.subIn K (.ref C) (.type "int") = some false
  nb : PySem.W.subIn K (.ref C) (.type "bool") = some false
  nt : PySem.W.subIn K (.ref C) (.type "tuple") = some false
  ns : PySem.W.subIn K (.ref C) (.type "str") = some false
  nl : PySem.W.subIn K (.ref C) (.type "list") = some false
/-- a value whose kind is known; every address of it is in B -/
inductive Kn (K : PySem.W.Frag) (H : Hp) (B : Addr → Prop) : V → Prop where
  | non : Kn K H B .non
  | bl (b : Bool) : Kn K H B (.bl b)
  | int (i : Int) : Kn K H B (.int i)
  | str (s : Str) : Kn K H B (.str s)
  | lst {p : Addr} {xs : List V} (h : H p = some (.lst xs)) (b : B p) : Kn K H B (.ref p)
  | tup {p : Addr} {xs : List V} (h : H p = some (.tup xs)) (b : B p) : Kn K H B (.ref p)
  | exc {a C d : Addr} {fs : List (Str × V)} (ha : H a = some (exo a C (some d))) (hd : H d = some (.xd fs)) (e : ExK K C) (ba : B a) (bd : B d) : Kn K H B (.ref a)
theorem Kn.up {K : PySem.W.Frag} {H H' : Hp} {B B' : Addr → Prop} {v : V} (k : Kn K H B v) (hB : ∀ b, B b → B' b) (hk : ∀ b o, B b → H b = some o → H' b = some o) : Kn K H' B' v := by
  cases k with
  | non => exact .non
  | bl b => exact .bl b
  | int i => exact .int i
  | str s => exact .str s
  | lst h b => exact .lst (hk _ _ b h) (hB _ b)
  | tup h b => exact .tup (hk _ _ b h) (hB _ b)
  | exc ha hd e ba bd => exact .exc (hk _ _ ba ha) (hk _ _ bd hd) e (hB _ ba) (hB _ bd)
def isI : V → Bool | .int _ => true | _ => false
def isB : V → Bool | .bl _ => true | _ => false
def isS : V → Bool | .str _ => true | _ => false
def tO : Option HO → Bool | some (.tup _) => true | _ => false
def lO : Option HO → Bool | some (.lst _) => true | _ => false
def isT (H : Hp) : V → Bool | .ref p => tO (H p) | _ => false
def isL (H : Hp) : V → Bool | .ref p => lO (H p) | _ => false
theorem isT_of {H : Hp} {p : Addr} {o : HO} (h : H p = some o) : isT H (.ref p) = tO (some o) := by
  show tO (H p) = _
  rw [h]
theorem isL_of {H : Hp} {p : Addr} {o : HO} (h : H p = some o) : isL H (.ref p) = lO (some o) := by
  show lO (H p) = _
  rw [h]
theorem isT_inv {H : Hp} {v : V} (h : isT H v = true) : ∃ p xs, v = .ref p ∧ H p = some (.tup xs) := by
  cases v with
  | ref p =>
    have h' : tO (H p) = true := h
    cases e : H p with
    | none =>
      rw [e] at h'
      cases h'
    | some o =>
      rw [e] at h'
      cases o with
      | tup xs => exact ⟨p, xs, rfl, e⟩
      | _ => cases h'
  | _ => cases h
section
variable {K : PySem.W.Frag} {H : Hp} {B : Addr → Prop} {v : V} {Q : VK}
theorem kit_exc {C : Addr} {T : String} {b : Bool} (h : PySem.W.subIn K (.ref C) (.type T) = some b) (m : PySem.W.kitMeta T = true) : PySem.W.kitOne K (.ref C) (.type T) = some b := by
  unfold PySem.W.kitOne
  rw [if_neg (by intro z; exact nomatch z)]
  show (if PySem.W.kitMeta T = true then PySem.W.subIn K (.ref C) (.type T) else none) = some b
  rw [if_pos m, h]
theorem isi_go {T n : String} {ty : Value} {b : Bool} (k : KX K H v ty) (e : PySem.W.kitOne K ty (.type T) = some b) (q : Q (.bl b) H) : rIsiV K [v, .ty T] H Q := ⟨v, .ty T, ty, .type T, b, rfl, .ty T, k, e, q⟩
theorem c_isiI (k : Kn K H B v) (q : Q (.bl (isI v || isB v)) H) : rIsiV K [v, .ty "int"] H Q := by
  cases k with
  | non => exact ⟨_, _, _, _, false, rfl, .ty _, .inl (.base .non), kit_ty (by decide +kernel), q⟩
  | bl b => exact ⟨_, _, _, _, true, rfl, .ty _, .inl (.base (.bl b)), kit_ty (by decide +kernel), q⟩
  | int i => exact ⟨_, _, _, _, true, rfl, .ty _, .inl (.base (.int i)), kit_ty (by decide +kernel), q⟩
  | str s => exact ⟨_, _, _, _, false, rfl, .ty _, .inl (.base (.str s)), kit_ty (by decide +kernel), q⟩
  | lst h _ => exact ⟨_, _, _, _, false, rfl, .ty _, .inl (.base (.lst h)), kit_ty (by decide +kernel), q⟩
  | tup h _ => exact ⟨_, _, _, _, false, rfl, .ty _, .inl (.base (.tup h)), kit_ty (by decide +kernel), q⟩
  | exc ha hd e _ _ => exact ⟨_, _, _, _, false, rfl, .ty _, .inr ⟨_, _, _, _, rfl, rfl, ha, hd, e.ec⟩, kit_exc e.ni (by decide +kernel), q⟩
theorem c_isiB (k : Kn K H B v) (q : Q (.bl (isB v)) H) : rIsiV K [v, .ty "bool"] H Q := by
  cases k with
  | non => exact ⟨_, _, _, _, false, rfl, .ty _, .inl (.base .non), kit_ty (by decide +kernel), q⟩
  | bl b => exact ⟨_, _, _, _, true, rfl, .ty _, .inl (.base (.bl b)), kit_ty (by decide +kernel), q⟩
  | int i => exact ⟨_, _, _, _, false, rfl, .ty _, .inl (.base (.int i)), kit_ty (by decide +kernel), q⟩
  | str s => exact ⟨_, _, _, _, false, rfl, .ty _, .inl (.base (.str s)), kit_ty (by decide +kernel), q⟩
  | lst h _ => exact ⟨_, _, _, _, false, rfl, .ty _, .inl (.base (.lst h)), kit_ty (by decide +kernel), q⟩
  | tup h _ => exact ⟨_, _, _, _, false, rfl, .ty _, .inl (.base (.tup h)), kit_ty (by decide +kernel), q⟩
  | exc ha hd e _ _ => exact ⟨_, _, _, _, false, rfl, .ty _, .inr ⟨_, _, _, _, rfl, rfl, ha, hd, e.ec⟩, kit_exc e.nb (by decide +kernel), q⟩
theorem c_isiS (k : Kn K H B v) (q : Q (.bl (isS v)) H) : rIsiV K [v, .ty "str"] H Q := by
  cases k with
  | non => exact ⟨_, _, _, _, false, rfl, .ty _, .inl (.base .non), kit_ty (by decide +kernel), q⟩
  | bl b => exact ⟨_, _, _, _, false, rfl, .ty _, .inl (.base (.bl b)), kit_ty (by decide +kernel), q⟩
  | int i => exact ⟨_, _, _, _, false, rfl, .ty _, .inl (.base (.int i)), kit_ty (by decide +kernel), q⟩
  | str s => exact ⟨_, _, _, _, true, rfl, .ty _, .inl (.base (.str s)), kit_ty (by decide +kernel), q⟩
  | lst h _ => exact ⟨_, _, _, _, false, rfl, .ty _, .inl (.base (.lst h)), kit_ty (by decide +kernel), q⟩
  | tup h _ => exact ⟨_, _, _, _, false, rfl, .ty _, .inl (.base (.tup h)), kit_ty (by decide +kernel), q⟩
  | exc ha hd e _ _ => exact ⟨_, _, _, _, false, rfl, .ty _, .inr ⟨_, _, _, _, rfl, rfl, ha, hd, e.ec⟩, kit_exc e.ns (by decide +kernel), q⟩
theorem c_isiT (k : Kn K H B v) (q : Q (.bl (isT H v)) H) : rIsiV K [v, .ty "tuple"] H Q := by
  cases k with
  | non => exact ⟨_, _, _, _, false, rfl, .ty _, .inl (.base .non), kit_ty (by decide +kernel), q⟩
  | bl b => exact ⟨_, _, _, _, false, rfl, .ty _, .inl (.base (.bl b)), kit_ty (by decide +kernel), q⟩
  | int i => exact ⟨_, _, _, _, false, rfl, .ty _, .inl (.base (.int i)), kit_ty (by decide +kernel), q⟩
  | str s => exact ⟨_, _, _, _, false, rfl, .ty _, .inl (.base (.str s)), kit_ty (by decide +kernel), q⟩
  | lst h _ => exact ⟨_, _, _, _, false, rfl, .ty _, .inl (.base (.lst h)), kit_ty (by decide +kernel), by rw [isT_of h] at q; exact q⟩
  | tup h _ => exact ⟨_, _, _, _, true, rfl, .ty _, .inl (.base (.tup h)), kit_ty (by decide +kernel), by rw [isT_of h] at q; exact q⟩
  | exc ha hd e _ _ => exact ⟨_, _, _, _, false, rfl, .ty _, .inr ⟨_, _, _, _, rfl, rfl, ha, hd, e.ec⟩, kit_exc e.nt (by decide +kernel), by rw [isT_of ha] at q; exact q⟩
theorem c_isiL (k : Kn K H B v) (q : Q (.bl (isL H v)) H) : rIsiV K [v, .ty "list"] H Q := by
  cases k with
  | non => exact ⟨_, _, _, _, false, rfl, .ty _, .inl (.base .non), kit_ty (by decide +kernel), q⟩
  | bl b => exact ⟨_, _, _, _, false, rfl, .ty _, .inl (.base (.bl b)), kit_ty (by decide +kernel), q⟩
  | int i => exact ⟨_, _, _, _, false, rfl, .ty _, .inl (.base (.int i)), kit_ty (by decide +kernel), q⟩
  | str s => exact ⟨_, _, _, _, false, rfl, .ty _, .inl (.base (.str s)), kit_ty (by decide +kernel), q⟩
  | lst h _ => exact ⟨_, _, _, _, true, rfl, .ty _, .inl (.base (.lst h)), kit_ty (by decide +kernel), by rw [isL_of h] at q; exact q⟩
  | tup h _ => exact ⟨_, _, _, _, false, rfl, .ty _, .inl (.base (.tup h)), kit_ty (by decide +kernel), by rw [isL_of h] at q; exact q⟩
  | exc ha hd e _ _ => exact ⟨_, _, _, _, false, rfl, .ty _, .inr ⟨_, _, _, _, rfl, rfl, ha, hd, e.ec⟩, kit_exc e.nl (by decide +kernel), by rw [isL_of ha] at q; exact q⟩
end
/-- a stream of draws stands at a -/
def Flow (H : Hp) (a : Addr) : Prop := ∃ (c n : Int) (b : Bool) (p : Int), H a = some (.lst [.int c, .int n, .bl b, .int p])
theorem Flow.up {H H' : Hp} {a : Addr} (f : Flow H a) (k : ∀ o, H a = some o → H' a = some o) : Flow H' a := by
  obtain ⟨c, n, b, p, h⟩ := f
  exact ⟨c, n, b, p, k _ h⟩
theorem Flow.same {H H' : Hp} {a : Addr} (e : Same H H') (f : Flow H a) : Flow H' a := f.up fun o h => e _ _ h
theorem Flow.keep {H H' : Hp} {a b : Addr} (e : Keep b H H') (n : a ≠ b) (f : Flow H a) : Flow H' a := f.up fun o h => e _ _ n h
theorem Flow.at {H : Hp} {a : Addr} (f : Flow H a) : ∃ o, H a = some o := by
  obtain ⟨c, n, b, p, h⟩ := f
  exact ⟨_, h⟩
theorem Flow.ne {H : Hp} {a b : Addr} (f : Flow H a) (n : H b = none) : a ≠ b := by
  obtain ⟨o, h⟩ := f.at
  exact ne_of_none h n
end Sx
namespace Sx
open PySem L2
def Mem (K : PySem.W.Frag) (H : Hp) (B : Addr → Prop) (x : V) : Prop := Kn K H B x ∧ ∀ n, x = .int n → n.natAbs < 2 ^ 190
def Val (K : PySem.W.Frag) (H : Hp) (B : Addr → Prop) (v : V) : Prop := Kn K H B v ∧ ∀ p xs, v = .ref p → H p = some (.tup xs) → ∀ x ∈ xs, Mem K H B x
section
variable {K : PySem.W.Frag} {H H' : Hp} {B B' : Addr → Prop} {v x : V} {xs : List V} {p a d C : Addr}
theorem Mem.up (k : Mem K H B x) (hB : ∀ b, B b → B' b) (hk : ∀ b o, B b → H b = some o → H' b = some o) : Mem K H' B' x := ⟨k.1.up hB hk, k.2⟩
theorem Val.up (k : Val K H B v) (hB : ∀ b, B b → B' b) (hk : ∀ b o, B b → H b = some o → H' b = some o) : Val K H' B' v := by
  refine ⟨k.1.up hB hk, fun p xs e h x hx => ?_⟩
  subst e
  cases k.1 with
  | lst g b =>
    rw [hk _ _ b g] at h
    cases h
  | tup g b =>
    have g' := hk _ _ b g
    rw [g'] at h
    cases h
    exact (k.2 p xs rfl g x hx).up hB hk
  | exc ha hd e ba bd =>
    rw [hk _ _ ba ha] at h
    cases h
theorem mem_int {n : Int} (h1 : -100000000000000 < n) (h2 : n < 100000000000000) : Mem K H B (.int n) := ⟨.int n, fun m e => by
  cases e
  have : (100000000000000 : Nat) < 2 ^ 190 := by decide
  omega⟩
theorem mem_kn (k : Kn K H B x) (h : isI x = false) : Mem K H B x := ⟨k, fun n e => by
  subst e
  cases h⟩
theorem mems_nil : ∀ x ∈ ([] : List V), Mem K H B x := fun x h => by cases h
theorem mems_cons (h1 : Mem K H B x) (h2 : ∀ y ∈ xs, Mem K H B y) : ∀ y ∈ x :: xs, Mem K H B y := fun y h => by
  rcases List.mem_cons.mp h with rfl | h
  · exact h1
  · exact h2 y h
theorem val_tup (h : H p = some (.tup xs)) (b : B p) (m : ∀ x ∈ xs, Mem K H B x) : Val K H B (.ref p) := ⟨.tup h b, fun q ys e g => by
  cases e
  rw [h] at g
  cases g
  exact m⟩
theorem val_lst (h : H p = some (.lst xs)) (b : B p) : Val K H B (.ref p) := ⟨.lst h b, fun q ys e g => by
  cases e
  rw [h] at g
  cases g⟩
theorem val_exc {fs : List (Str × V)} (ha : H a = some (exo a C (some d))) (hd : H d = some (.xd fs)) (e : ExK K C) (ba : B a) (bd : B d) : Val K H B (.ref a) := ⟨.exc ha hd e ba bd, fun q ys z g => by
  cases z
  rw [ha] at g
  cases g⟩
theorem val_flat (k : Kn K H B v) (h : ∀ p, v ≠ .ref p) : Val K H B v := ⟨k, fun q ys e _ => absurd e (h q)⟩
theorem newx_same {H2 : Hp} {o u : HO} (na : H a = none) (nd : H d = none) (e : upd (upd H d u) a o = H2) : Same H H2 := by
  subst e
  intro b z h
  rw [upd_ne (ne_of_none h na), upd_ne (ne_of_none h nd)]
  exact h
theorem newx_at {H2 : Hp} {o u : HO} (e : upd (upd H d u) a o = H2) : H2 a = some o := by
  subst e
  exact upd_same
theorem newx_d {H2 : Hp} {o u : HO} (n : d ≠ a) (e : upd (upd H d u) a o = H2) : H2 d = some u := by
  subst e
  rw [upd_ne n]
  exact upd_same
theorem s_exv {σ : St} {Q : VK} {f : Str} {ta : TA} (h : ta σ H fun vs H1 => ∃ v, vs = [v] ∧ ∀ a d, H1 a = none → H1 d = none → d ≠ a → Q (.ref a) (upd (upd H1 d (.xd [(f, v)])) a (exo a C (some d)))) : tExV C f ta σ H Q := h
end
end Sx

set_option Elab.async false
set_option linter.all false
set_option maxRecDepth 100000
set_option maxHeartbeats 2000000
/-! a dict comprehension whose dict may have tuples as keys -/
namespace L2
open PySem PySem.Spec PyProof.Rows
section
variable {X : Cx} {pins : List (Addr × Obj)} {σ : St} {H H' : Hp} {s : Shared} {E : Value → Shared → Prop} {D : Addr} {y v : V} {yv r : Value} {Q : Unit → Shared → Prop}
/-- the store of a comprehension, keys of both kinds -/
theorem dcp_put (hu : X.A.units < cLine) (I : Inv X pins σ H s) (g : DPut H D y v H') (ry : RelV y yv) (rv : RelV v r) (h : ∀ s', Inv X pins σ H' s' → Q () s') :
    wpAny (model X.prog X.w) X.A (dictSet D yv r) Q E s := by
  rcases g with ⟨kvs, k, eD, rfl, lz, rfl⟩ | ⟨kvs, k, b, eD, rfl, eb, lz, rfl⟩
  · exact d_dictSet I eD lz ry rv h
  · obtain rfl : yv = Value.ref b := ry
    obtain ⟨z1, ns, xs, rl, ok⟩ := dt_of I.hok eD
    have l1 : (putK kvs k v).length ≤ sizeLine := Nat.le_trans (length_putK kvs k v) lz
    have l2 : xs.length ≤ sizeLine := by
      rw [← rl.length]
      exact z1
    refine wpAny_dictSet_heap (hsz := l2) (knd := tupleKind (mixKind X.prog X.w)) hu (key_of I.hok eb) ok fun hh ⟨q, es, ep, k1, k2, k3, k4, _, k5⟩ sb => h _ (d_write I (by rw [eD]; trivial) sb ⟨q, k1⟩ ?_)
    exact ⟨l1, ns, _, (rl.put k eb rv).keeps fun c ys ec => (upd_ne (ne_of ec eD fun e => nomatch e)).trans ec, q, es, ep, k1, k2, k3, k4, k5⟩
end
section
variable {X : Cx}
/-- {k: v for target in iter if ..}: u0 says which keys are coming -/
def tDcP (u0 : HO) (wi : TI) (g : TG) (tt : TT) (tk tv : TE) (vs : List Nat) : TE := fun σ H Q => wi σ H fun J H1 => ∀ D, H1 D = none →
  ∃ W : Nat → Nat → Hp → Prop, (∃ m, W 0 m (upd H1 D u0)) ∧ ∀ i m H2, W i m H2 → (J.stop i H2 ∧ Q (.ref D) H2) ∨
    (J.go i H2 ∧ ∃ Nx : Hp → Prop, (∀ H', Nx H' → ∃ m', m' < m ∧ W (i + 1) m' H') ∧ ∀ x H3, J.yld i H2 x H3 → g x (wipe σ vs) H3 fun σ2 H4 => wipe σ2 vs = wipe σ vs ∧ tt σ2 H4 fun b H5 =>
      if b = true then tk σ2 H5 fun y H6 => tv σ2 H6 fun z H7 => ∃ H8, DPut H7 D y z H8 ∧ Nx H8 else Nx H5)
/-- the two beginnings -/
def Dc0 (u0 : HO) : Prop := u0 = .dK [] ∨ u0 = .dT []
theorem Dc0.new {u0 : HO} (z : Dc0 u0) {P : Program} {w : World} {H : Hp} (h : Heap) (hb : sysModules < h.objs.size) : ObjOk P w H (h.push { cls := .type "dict", data := .dict #[] }) h.objs.size u0 := by
  rcases z with rfl | rfl
  · exact dk_empty h hb
  · exact dt_empty h hb

/-- what a comprehension's parts answer, whatever block they stand in -/
structure DcParts (X : Cx) (scope : Scope) (tg kx vx : Expr) (ifs : List Expr) (g : TG) (tt : TT) (tk tv : TE) : Prop where
  tgt : ∀ (s : Shared) (H : Hp) (C : Addr) (cl : List (Str × Addr)) (fp : List Addr), PG (X.blk s H scope (compEnvC scope cl C X.env) fp) tg g
  tst : ∀ (s : Shared) (H : Hp) (C : Addr) (cl : List (Str × Addr)) (fp : List Addr), PTs (X.blk s H scope (compEnvC scope cl C X.env) fp) ifs tt
  key : ∀ (s : Shared) (H : Hp) (C : Addr) (cl : List (Str × Addr)) (fp : List Addr), PE (X.blk s H scope (compEnvC scope cl C X.env) fp) kx tk
  val : ∀ (s : Shared) (H : Hp) (C : Addr) (cl : List (Str × Addr)) (fp : List Addr), PE (X.blk s H scope (compEnvC scope cl C X.env) fp) vx tv
/-- a dict comprehension, its value used as use says -/
theorem dcp_core {pins : List (Addr × Obj)} {s : Shared} {σ : St} {H : Hp} {Q : VK} {u0 : HO} {kx vx tg iter : Expr} {ifs : List Expr} {scope : Scope} {own : List (Str × Nat)} {pos pos' : Pos} {wi : TI} {g : TG} {tt : TT} {tk tv : TE} {use : Option (Value → Sem Unit)} {Qf : Value → Shared → Prop} (z0 : Dc0 u0) (hu : X.A.units < cLine) (hc : X.calm = true) (hN : X.N.Nodup)
    (I : Inv X pins σ H s) (hi : PI X tg iter wi) (ok : BlkOk X.N X.env.scope scope own) (parts : DcParts X scope tg kx vx ifs g tt tk tv) (hs : ∀ x, foldedSetIterable iter X.env x = pure x) (want : tDcP u0 wi g tt tk tv (own.map (·.2)) σ H Q)
    (ends : ∀ D C s' m H', Inv X pins σ H' s' → Q (.ref D) H' → s'.heap.Ns C m → FpOk X pins H' C → compPost (model X.prog X.w) X.A X.xe use Qf (.ref D) C (.ok .next) s') :
    wpAny (model X.prog X.w) X.A (comprehension (.DictComp kx vx [⟨tg, iter, ifs, 0⟩] scope pos) scope X.env pos' newDict false (eval iter X.env) use) Qf X.xe s := by
  have cells : ∀ y ∈ scope.names, y.2 = .free → ∃ c, X.env.cells.lookup y.1 = some c := fun y hy e =>
    (ok.free y hy e).elim (fun k => I.ok.has _ (.inl k)) fun k => I.ok.has _ (.inr k)
  refine wpAny_comprehension_free (use := use) rfl hs (closure_ok cells) ok.kind (fun y hy e => (ok.uniq y hy).trans (by rw [e])) ?_
  refine thn (hi.run pins s σ H _ I want) fun xv s1 hx => thn hx fun itv s2 ⟨it, fp, tn, J, H2, e, I2, T, st2, f2, rest⟩ => ?_
  subst e
  refine wpAny_newObj_type (newEnv_comp ?_)
  obtain ⟨D, hD⟩ : ∃ D, D = s2.heap.objs.size := ⟨_, rfl⟩
  rw [← hD]
  obtain ⟨W, ⟨m0, start⟩, turns⟩ := rest D (I2.hok.fresh (Nat.le_of_eq hD.symm))
  -- behind the making of the dict
  obtain ⟨s3, hs3⟩ : ∃ s3 : Shared, s3 = { s2 with heap := s2.heap.push { cls := .type "dict", data := .dict #[] } } := ⟨_, rfl⟩
  have heap3 : s3.heap = s2.heap.push { cls := .type "dict", data := .dict #[] } := by rw [hs3]
  have grows : ∀ b o, s2.heap.get? b = some o → s3.heap.get? b = some o := fun b o e => by
    rw [heap3]
    exact Heap.get?_push_of_some _ e
  have I3 : Inv X pins σ (upd H2 D u0) s3 := by
    rw [hs3]
    refine I2.laid (t' := s2.toks) (fun b o e => Heap.get?_push_of_some _ e) (Nat.le_of_eq hD.symm) ?_
    rw [hD]
    exact z0.new s2.heap I2.big
  have lows : ∀ b ∈ fp, b < s2.heap.objs.size := fun b hb => (T.obj _ _ st2 b hb).elim fun o h => Heap.lt_size h.1
  have frees : ∀ b ∈ fp, FpOk X pins (upd H2 D u0) b ∧ b < s3.heap.objs.size := fun b hb => by
    have l := lows b hb
    have n : b ≠ D := fun e => Nat.lt_irrefl _ (by rw [e, hD] at l; exact l)
    refine ⟨⟨by rw [upd_ne n]; exact (f2 b hb).1, (f2 b hb).2⟩, ?_⟩
    rw [heap3, Heap.size_push]
    exact Nat.lt_succ_of_lt l
  have st3 : tn 0 s3.heap := T.keep _ _ _ st2 fun b _ o e => grows b o e
  obtain ⟨C, hC⟩ : ∃ C, C = s3.heap.objs.size := ⟨_, rfl⟩
  obtain ⟨cl, hcl⟩ : ∃ cl, cl = cellsFrom (C + 1) scope.names (cloFrom X.env.cells scope.names []) := ⟨_, rfl⟩
  obtain ⟨H3, hH3⟩ : ∃ H3, H3 = upd H2 D u0 := ⟨_, rfl⟩
  have I4 := block_start I3 ok hN frees
  rw [← hC, ← hcl, ← hH3] at I4
  rw [← hH3] at I3 frees start
  have pg := parts.tgt s3 H3 C cl fp
  have pt := parts.tst s3 H3 C cl fp
  have pk := parts.key s3 H3 C cl fp
  have pv := parts.val s3 H3 C cl fp
  rw [← hs3, ← hC, ← hcl]
  obtain ⟨ce, hce⟩ : ∃ ce, ce = compEnvC scope cl C X.env := ⟨_, rfl⟩
  have locals : ce.locals = C := by rw [hce]; rfl
  rw [← hce] at I4 pg pt pk pv
  show codeAny _ _ (.compStart (.DictComp kx vx [⟨tg, iter, ifs, 0⟩] scope pos) 0 (.ref it) (.ref D) (compEnvC scope cl C X.env)) (compPost (model X.prog X.w) X.A X.xe use Qf (.ref D) C) { s3 with heap := pushCells (s3.heap.push { cls := .type "dict", data := .dict #[] }) scope.names }
  rw [← hce]
  obtain ⟨s4, hs4⟩ : ∃ s4 : Shared, s4 = { s3 with heap := pushCells (s3.heap.push { cls := .type "dict", data := .dict #[] }) scope.names } := ⟨_, rfl⟩
  rw [← hs4] at I4 ⊢
  have st4 : tn 0 s4.heap := T.keep _ _ _ st3 fun b _ o e => by
    rw [hs4]
    exact pushCells_keeps _ _ _ _ (Heap.get?_push_of_some _ e)
  -- what the walk reads stays what it was
  have still : ∀ {τ : St} {H' : Hp} {s' : Shared}, Inv (X.blk s3 H3 scope ce fp) [] τ H' s' → (∀ b ∈ fp, H' b = none) → ∀ b ∈ fp, FpOk (X.blk s3 H3 scope ce fp) [] H' b := by
    exact fun I' no b hb => ⟨no b hb, (I'.ok.exf b hb).1, I'.ok.exfs b hb, .inl hb, fun x c e => (I'.ok.exf b hb).2 x c e, fun p hp => absurd (show p ∈ ([] : List (Addr × Obj)) ++ [] from hp) (by simp)⟩
  -- behind the block
  have back : ∀ {τ : St} {H' : Hp} {s' : Shared}, Inv (X.blk s3 H3 scope ce fp) [] τ H' s' → Inv X pins σ H' s' ∧ (∃ m, s'.heap.Ns C m) ∧ FpOk X pins H' C := by
    intro τ H' s' I'
    have n : H' C = none := by rw [← locals]; exact I'.free
    obtain ⟨m, ns, _⟩ := I'.loc
    refine ⟨I3.call' (ch := fp) I'.os I'.base I'.hok I'.bare fun b hb => ⟨(frees b hb).1.2.2.2.1, (frees b hb).1.2.1, (frees b hb).1.2.2.2.2.1, (frees b hb).1.2.2.2.2.2⟩, ⟨m, ?_⟩, I3.fpOk (Nat.le_of_eq hC.symm) n⟩
    rw [← locals]
    exact ns
  have loop : codeAny (model X.prog X.w) X.A (.compLoop (.DictComp kx vx [⟨tg, iter, ifs, 0⟩] scope pos) 0 (.ref it) (.ref D) ce) (compPost (model X.prog X.w) X.A X.xe use Qf (.ref D) C) s4 := by
    refine compLoop_anyD (fun n s' => ∃ i H', W i n H' ∧ tn i s'.heap ∧ (∀ b ∈ fp, H' b = none) ∧ Inv (X.blk s3 H3 scope ce fp) [] (wipe σ (own.map (·.2))) H' s') ?_ m0 ⟨0, H3, start, st4, fun b hb => (frees b hb).1.1, I4⟩
    rintro n s5 ⟨i, H5, w5, st5, n5, I5⟩
    rcases turns i n H5 w5 with ⟨halt, won⟩ | ⟨go, Nx, next, turn⟩
    · refine thnF (T.done (X.blk s3 H3 scope ce fp) rfl rfl rfl hc i [] s5 _ H5 (fun _ _ => False) I5 (still I5 n5) st5 halt) fun r s6 ⟨hr, I6⟩ => ?_
      subst hr
      obtain ⟨J6, ⟨m, ns⟩, f6⟩ := back I6
      exact ends D C s6 m H5 J6 won ns f6
    · refine thnF (T.item (X.blk s3 H3 scope ce fp) rfl rfl rfl hc i [] s5 _ H5 (fun _ _ => False) I5 (still I5 n5) st5 go) fun r s6 ⟨u, hr, h6⟩ => ?_
      subst hr
      refine thnF h6 fun _ s7 ⟨x, H7, I7, r7, y7, st7, n7⟩ => ?_
      obtain ⟨pl, hpl⟩ : ∃ pl, pl = pinsAt fp s7.heap := ⟨_, rfl⟩
      have P7 : Inv (X.blk s3 H3 scope ce fp) ([] ++ pl) (wipe σ (own.map (·.2))) H7 s7 := by
        rw [hpl]
        exact I7.pinned (still I7 n7) (T.obj _ _ st7)
      -- a turn that is over
      have over : ∀ {τ : St} {s' : Shared} {H' : Hp}, wipe τ (own.map (·.2)) = wipe σ (own.map (·.2)) → Inv (X.blk s3 H3 scope ce fp) ([] ++ pl) τ H' s' → Nx H' →
          ∃ m, m < n ∧ ∃ i H', W i m H' ∧ tn i s'.heap ∧ (∀ b ∈ fp, H' b = none) ∧ Inv (X.blk s3 H3 scope ce fp) [] (wipe σ (own.map (·.2))) H' s' := by
        intro τ s' H' same I' nx
        obtain ⟨m', lt, w'⟩ := next H' nx
        have there : ∀ b ∈ fp, ∀ o, s7.heap.get? b = some o → s'.heap.get? b = some o ∧ H' b = none := fun b hb o e => by
          have z := I'.pin (b, o) (List.mem_append_right _ (List.mem_append_right _ (by rw [hpl]; exact mem_pinsAt hb e)))
          exact ⟨z.1, z.2.1⟩
        refine ⟨m', lt, i + 1, H', w', T.keep _ _ _ st7 fun b hb o e => (there b hb o e).1, fun b hb => (T.obj _ _ st7 b hb).elim fun o h => (there b hb o h.1).2, ?_⟩
        refine (I'.unpinned (pins := [])).weak (by rw [← same, wipe_length]) fun j v e => ?_
        rw [← same] at e
        exact (wipe_some e).1
      refine thnF (pg.run _ s7 _ H7 x u _ P7 r7 (turn x H7 y7)) fun _ s8 ⟨τ, H8, I8, same, q8⟩ => ?_
      refine thnF (pt.run _ s8 τ H8 _ I8 q8) fun b s9 ⟨H9, I9, q9⟩ => ?_
      cases b with
      | true =>
        refine thnF (pk.run _ s9 τ H9 _ I9 q9) fun ku s10 ⟨y, H10, I10, r10, q10⟩ => ?_
        refine thnF (pv.run _ s10 τ H10 _ I10 q10) fun vu s11 ⟨v, H11, I11, r11, H12, put, nx⟩ => ?_
        exact dcp_put (X := X.blk s3 H3 scope ce fp) hu I11 put r10 r11 fun s12 I12 => over same I12 nx
      | false => exact over same I9 q9
  exact codeAny_compStart_dict loop (T.self X.A 0 _ _ _ st4 loop)
/-- the value of a dict comprehension over any walk -/
theorem pe_dcP {u0 : HO} {kx vx tg iter : Expr} {ifs : List Expr} {scope : Scope} {own : List (Str × Nat)} {pos : Pos} {wi : TI} {g : TG} {tt : TT} {tk tv : TE} (z0 : Dc0 u0) (hu : X.A.units < cLine) (hc : X.calm = true) (hN : X.N.Nodup)
    (hi : PI X tg iter wi) (ok : BlkOk X.N X.env.scope scope own) (parts : DcParts X scope tg kx vx ifs g tt tk tv) (hs : ∀ x, foldedSetIterable iter X.env x = pure x := by intro _; rfl) :
    PE X (.DictComp kx vx [⟨tg, iter, ifs, 0⟩] scope pos) (tDcP u0 wi g tt tk tv (own.map (·.2))) := by
  refine ⟨fun pins s σ H Q I want => ?_⟩
  rw [arm_eval_DictComp]
  refine dcp_core z0 hu hc hN I hi ok parts hs want fun D C s' m H' I' q ns f => ⟨m, ns, fun h'' sb => ?_⟩
  obtain ⟨q0, q1, _, q3, q4, q5⟩ := f
  exact ⟨.ref D, H', I'.turned (t' := s'.toks) (fun b o hb e => (sb.2 b hb).trans e) q0 q1 q3 q4 q5, rfl, q⟩
theorem swd_true {kx vx : Expr} {gs : List Comprehension} {scope : Scope} {pos py : Pos} {y : Str} {l : Nat} {env : Env} (hk : env.scope.kind = .function) (hy : env.scope.names.lookup y = some .local) (hl : (py.line == pos.line) = true)
    (ha : (scope.names.any fun (n, k) => n == y && (k == .local || k == .cell)) = false) : swapsWith (.DictComp kx vx gs scope pos) (some (.Name y py)) l env = pure true := by
  have b1 : env.kindOf y = some .local := hy
  have b2 : env.blockKind = .function := by (unfold Env.blockKind; rw [hk]; rfl)
  (unfold swapsWith; simp only [b2, b1, ha, Expr.pos, hl]; rfl)
/-- name = {..} on one line, the name a local -/
theorem ps_setDc {i : Nat} {y : Str} {py : Pos} {u0 : HO} {kx vx tg iter : Expr} {ifs : List Expr} {scope : Scope} {own : List (Str × Nat)} {pos spos : Pos} {wi : TI} {g : TG} {tt : TT} {tk tv : TE} (z0 : Dc0 u0) (hu : X.A.units < cLine) (hc : X.calm = true) (hN : X.N.Nodup) (hy : X.N[i]? = some y) (hyl : X.env.scope.names.lookup y = some .local)
    (hsw : swapsWith (.DictComp kx vx [⟨tg, iter, ifs, 0⟩] scope pos) (some (.Name y py)) spos.line X.env = pure true) (hi : PI X tg iter wi) (ok : BlkOk X.N X.env.scope scope own) (parts : DcParts X scope tg kx vx ifs g tt tk tv) (hs : ∀ x, foldedSetIterable iter X.env x = pure x := by intro _; rfl) :
    PS X (.Assign [.Name y py] (.DictComp kx vx [⟨tg, iter, ifs, 0⟩] scope pos) spos) (tAsg (tDcP u0 wi g tt tk tv (own.map (·.2))) (gName i)) := by
  refine ⟨fun pins s σ H D I want => ?_⟩
  rw [exec_Assign_Name_used _ _ _ _ hsw]
  refine wpAny_bind (wpAny_standAt (wpAny_bind (m := evalThenUse _ _ _) ?_))
  show wpAny _ X.A (do let _ ← comprehension (.DictComp kx vx [⟨tg, iter, ifs, 0⟩] scope pos) scope X.env (firstIterPos [⟨tg, iter, ifs, 0⟩] pos) newDict false (eval iter X.env) (some (assign (.Name y py) X.env))) _ _ s
  have want' : tDcP u0 wi g tt tk tv (own.map (·.2)) σ H (fun x H1 => gName i x σ H1 D.nx) := want
  refine wpAny_bind (thn (dcp_core (Qf := fun _ s' => SP X pins D .next s') z0 hu hc hN I hi ok parts hs want' fun L C s' m H' I' q hn f => ?_) fun _ s' hq => wpAny_pure (wpAny_pure hq))
  obtain ⟨f0, f1, f2, f3, f4, f5⟩ := f
  refine wpAny_assign_Name (store_ok2 (v := V.ref L) I' hN hy (.inl hyl) rfl (fun s2 I2 ⟨a, sb, ha⟩ => ⟨m, hn.sameBut sb ?_, fun h3 sb3 => ⟨_, H', I2.turned (t' := s2.toks) (fun b o hb e => (sb3.2 b hb).trans e) f0 f1 f3 f4 f5, q⟩⟩) (.inr hyl))
  exact ha.elim (fun z => by rw [z]; exact f1) fun z e => f4 y a z e.symm
/-- over a tuple that stays: n turns, Pv i what is so behind i of them -/
theorem dcp_tup {K : PySem.W.Frag} {u0 : HO} {a : Addr} {xs : List V} {g : TG} {tt : TT} {tk tv : TE} {vs : List Nat} {σ : St} {H1 : Hp} {D : Addr} {Qd : Hp → Prop} (Pv : Nat → Hp → Prop) (first : Pv 0 (upd H1 D u0)) (stays : ∀ i H, i ≤ xs.length → Pv i H → SqT K H a xs)
    (each : ∀ i x H, xs[i]? = some x → Pv i H → g x (wipe σ vs) H fun σ2 H4 => wipe σ2 vs = wipe σ vs ∧ tt σ2 H4 fun b H5 =>
      if b = true then tk σ2 H5 fun y H6 => tv σ2 H6 fun z H7 => ∃ H8, DPut H7 D y z H8 ∧ Pv (i + 1) H8 else Pv (i + 1) H5) (last : ∀ H, Pv xs.length H → Qd H) :
    ∃ W : Nat → Nat → Hp → Prop, (∃ m, W 0 m (upd H1 D u0)) ∧ ∀ i m H2, W i m H2 → ((Itt K a).stop i H2 ∧ Qd H2) ∨
      ((Itt K a).go i H2 ∧ ∃ Nx : Hp → Prop, (∀ H', Nx H' → ∃ m', m' < m ∧ W (i + 1) m' H') ∧ ∀ x H3, (Itt K a).yld i H2 x H3 → g x (wipe σ vs) H3 fun σ2 H4 => wipe σ2 vs = wipe σ vs ∧ tt σ2 H4 fun b H5 =>
        if b = true then tk σ2 H5 fun y H6 => tv σ2 H6 fun z H7 => ∃ H8, DPut H7 D y z H8 ∧ Nx H8 else Nx H5) := by
  refine ⟨fun i m H => i + m = xs.length ∧ Pv i H, ⟨xs.length, Nat.zero_add _, first⟩, ?_⟩
  rintro i m H ⟨e, p⟩
  have sq := stays i H (by omega) p
  cases m with
  | zero =>
    obtain rfl : i = xs.length := by omega
    exact .inl ⟨⟨xs, sq, Nat.le_refl _⟩, last H p⟩
  | succ m =>
    have lt : i < xs.length := by omega
    refine .inr ⟨⟨xs, xs[i], sq, by simp [lt]⟩, Pv (i + 1), fun H' p' => ⟨m, Nat.lt_succ_self m, by omega, p'⟩, fun x H' ⟨e', y⟩ => ?_⟩
    subst e'
    exact each i x _ (y xs sq) p
end
end L2

set_option Elab.async false
set_option linter.all false
set_option maxRecDepth 100000
set_option maxHeartbeats 3200000
/-! sorted(s) of a set with one tuple, or none -/
namespace L2
open PySem PySem.Spec PyProof.Rows SrtO
section
variable {P : Program} {w : World} {A : Around} {E : Value → Shared → Prop} {s : Shared}
theorem perm_one {α : Type} {l m : List α} (p : l.Perm m) (h : m.length ≤ 1) : l = m := by
  match m, h with
  | [], _ => exact p.eq_nil
  | [x], _ => exact List.perm_singleton.mp p
theorem swo_none {α : Type} : Swo fun (_ _ : α) => false := ⟨fun _ _ _ => rfl, fun _ _ _ _ _ => rfl⟩
theorem sorted_setOne {a : Addr} {L : List (Addr × List Int)} {es : Array (Int × Value)} {ep : Nat} {t : SetTable} {Q : Value → Shared → Prop} (R : SetTR P w s.heap a L es ep t) (hh : A.handled = none) (one : L.length ≤ 1)
    (won : ∀ s' p c, (∀ b o, s.heap.get? b = some o → s'.heap.get? b = some o) → s'.gens = s.gens → s'.os = s.os → s.heap.objs.size ≤ p → s'.heap.get? p = some (seqObj "list" (L.map fun q => Value.ref q.1).toArray c) → Q (.ref p) s') :
    wpAny (model P w) A (call (.builtin "sorted") [.ref a]) Q E s := by
  obtain ⟨o, ho, hex, hd⟩ := R.ob
  have size := R.size
  refine Calls.call_function_entry kind_sorted plain_sorted entry_sorted (args_sorted1 _) ?_
  unfold Builtin.«sorted»
  refine wpAny_bind (m := checkCount "sorted" 1 1 _) (wpAny_pure ?_)
  refine wpAny_bind (collect_set (A := A.in1) hh ⟨o, ho, hex.1, hd⟩ R.fits (by unfold scanBound; omega) R.tab.ris R.led fun s1 vs keep bigger hg hos pm => ?_)
  have vals : es.toList.map (·.2) = L.map fun q => Value.ref q.1 := by
    rw [R.rows]
    unfold rowsOf
    rw [List.map_map] <;> rfl
  have evs : vs = L.map fun q => Value.ref q.1 := by
    rw [vals] at pm
    exact perm_one pm (by rw [List.length_map]; exact one)
  subst evs
  have lz : (L.map fun q => Value.ref q.1).length ≤ sizeLine := by rw [List.length_map, sizeLine_eq]; omega
  refine wpAny_bind (wpAny_newList ?_ lz)
  have new : (s1.heap.push (seqObj "list" (L.map fun q => Value.ref q.1).toArray 0)).get? s1.heap.objs.size = some (seqObj "list" (L.map fun q => Value.ref q.1).toArray 0) := Heap.get?_push_size _ rfl
  refine wpAny_bind (wpAny_holding (wpAny_call_entry slot_list_sort ⟨_, new, rfl⟩ entry_list_sort
    (list_sort_ord (s := { s1 with heap := s1.heap.push (seqObj "list" (L.map fun q => Value.ref q.1).toArray 0) }) swo_none new lz (fun h => absurd h (by rw [List.length_map]; omega)) fun out h1 h2 => ⟨_, rfl, ?_⟩) (args_list_sort _)))
  have eo : out = L.map fun q => Value.ref q.1 := perm_one h2.perm (by rw [List.length_map]; exact one)
  subst eo
  obtain ⟨c, hc⟩ := sortedHeap_at (vs := L.map fun q => Value.ref q.1) (out := (L.map fun q => Value.ref q.1).toArray) new
  refine wpAny_pure ⟨_, rfl, won _ s1.heap.objs.size c (fun b u e => ?_) hg hos bigger hc⟩
  have lt := Heap.lt_size (keep b u e)
  have q := Heap.get?_push_of_some (seqObj "list" (L.map fun q => Value.ref q.1).toArray 0) (keep b u e)
  rw [← sortedHeap_old (vs := L.map fun q => Value.ref q.1) (out := (L.map fun q => Value.ref q.1).toArray) (Nat.ne_of_lt lt) (by rw [size_push']; exact Nat.lt_succ_of_lt lt)] at q
  exact q
end
section
variable {X : Cx}
def rSortedOne (K : PySem.W.Frag) (P : Program) (w : World) : List V → Hp → VK → Prop := fun vs H Q => ∃ (a : Addr) (L : List (Addr × List Int)), vs = [V.ref a] ∧ H a = some (SetTO P w a L) ∧ (∀ p ∈ L, SqT K H p.1 (p.2.map V.int)) ∧ (∀ p ∈ L, p.2 = []) ∧
  ((L.map (·.2)).Nodup → L.length ≤ 1 → ∀ p, H p = none → Q (.ref p) (upd H p (.lst (L.map fun q => V.ref q.1))))
theorem nils_one : ∀ {L : List (Addr × List Int)}, (L.map (·.2)).Nodup → (∀ p ∈ L, p.2 = []) → L.length ≤ 1
  | [], _, _ => Nat.zero_le _
  | [p], _, _ => Nat.le_refl _
  | p :: q :: L, nd, e => by
    have h1 := e p List.mem_cons_self
    have h2 := e q (List.mem_cons_of_mem _ List.mem_cons_self)
    have h3 := (List.nodup_cons.mp nd).1
    exact absurd (show p.2 ∈ (q :: L).map (·.2) by rw [List.map_cons, h1, h2]; exact List.mem_cons_self) h3
theorem cr_sortedOne (hc : X.calm = true) : CallR X (.builtin "sorted") (rSortedOne X.K X.prog X.w) := by
  rintro pins s σ H vs us Q I r ⟨a, L, rfl, ha, keys, nils, won⟩
  obtain ⟨es, ep, t, R⟩ := SetT0.full (show SetT0 X.prog X.w s.heap a L from (I.hok a _ ha).1) fun p hp => I.isT (keys p hp)
  have one := nils_one R.nd nils
  rw [Vals.ref1 r]
  refine sorted_setOne R (I.ok.hd hc) one fun s' p c keep hg hos le at' => ?_
  have new : H p = none := I.hok.fresh le
  have J : Inv X pins σ (upd H p (.lst (L.map fun q => V.ref q.1))) { s with heap := s'.heap, gens := s'.gens, drawn := s'.drawn, toks := s'.toks } := by
    refine I.call (ch := []) (Un.laid keep le new) (I.hok.laid keep le ⟨?_, _, c, vals_of_refs L, at'⟩) (by rw [hg]; exact I.bare) fun _ z => nomatch z
    rw [List.length_map, sizeLine_eq]
    omega
  have e : s' = { s with heap := s'.heap, gens := s'.gens, drawn := s'.drawn, toks := s'.toks } := by
    cases s'; cases s; cases hos; rfl
  rw [e]
  exact ⟨.ref p, _, J, rfl, won R.nd one p new⟩
end
end L2

set_option Elab.async false
set_option linter.all false
set_option maxRecDepth 100000
set_option maxHeartbeats 2000000
/-! values of any kind asked for their class; instances of an own class -/
namespace Sx
open PySem L2
/-- an own class whose instances are asked with isinstance -/
structure OwnK (K : PySem.W.Frag) (C : Addr) : Prop where
  cl : Cls K C
  co : PySem.W.findIn K (.ref C) "__class__" = some (some (.builtin "object.__class__"))
  s1 : PySem.W.specialIn K (.builtin "object.__class__") "__get__" = some (some (.builtin "getset_descriptor.__get__"))
  s2 : PySem.W.takesIn K (.builtin "object.__class__") = some true
  mo : PySem.W.mroIn K C (.type "object") = some true
  is : PySem.W.subIn K (.ref C) (.ref C) = some true
  ni : PySem.W.subIn K (.ref C) (.type "int") = some false
  nb : PySem.W.subIn K (.ref C) (.type "bool") = some false
  nt : PySem.W.subIn K (.ref C) (.type "tuple") = some false
  ns : PySem.W.subIn K (.ref C) (.type "str") = some false
  nl : PySem.W.subIn K (.ref C) (.type "list") = some false
theorem u1 {k : Nat} {A : Around} (r : Room k A) : A.units + 1 < cLine := by
  have := r.units
  omega
/-- isinstance(v, T) is b -/
def IsIn (K : PySem.W.Frag) (H : Hp) (v : V) (T : String) (b : Bool) : Prop := ∃ ty, KX K H v ty ∧ PySem.W.kitOne K ty (.type T) = some b
section
variable {K : PySem.W.Frag} {H H' : Hp} {B : Addr → Prop} {v : V} {Q : VK} {C : Addr}
theorem isi_in {T : String} {b : Bool} (h : IsIn K H v T b) (q : Q (.bl b) H) : rIsiV K [v, .ty T] H Q := by
  obtain ⟨ty, k, e⟩ := h
  exact ⟨v, .ty T, ty, .type T, b, rfl, .ty T, k, e, q⟩
theorem OwnK.ty (o : OwnK K C) {a dx : Addr} {fs : List (Str × V)} (h : H a = some (.ins C dx fs)) : KX K H (.ref a) (.ref C) := .inl (.base (.ins h o.cl o.co o.s1 o.s2 o.mo))
theorem OwnK.isin (o : OwnK K C) {a dx : Addr} {fs : List (Str × V)} (h : H a = some (.ins C dx fs)) {T : String} {b : Bool} (e : PySem.W.subIn K (.ref C) (.type T) = some b) (m : PySem.W.kitMeta T = true) : IsIn K H (.ref a) T b :=
  ⟨_, o.ty h, kit_exc e m⟩
/-- isinstance(o, C), o one of C's -/
theorem OwnK.own (o : OwnK K C) {a dx : Addr} {fs : List (Str × V)} (h : H a = some (.ins C dx fs)) (q : Q (.bl true) H) : rIsiV K [.ref a, .ref C] H Q := by
  refine ⟨.ref a, .ref C, .ref C, .ref C, true, rfl, .own C, o.ty h, ?_, q⟩
  unfold PySem.W.kitOne
  rw [if_pos (beq_self_eq_true _)]
theorem in_int (i : Int) : IsIn K H (.int i) "int" true := ⟨_, .inl (.base (.int i)), kit_ty (by decide +kernel)⟩
theorem in_int_b (i : Int) : IsIn K H (.int i) "bool" false := ⟨_, .inl (.base (.int i)), kit_ty (by decide +kernel)⟩
theorem in_int_t (i : Int) : IsIn K H (.int i) "tuple" false := ⟨_, .inl (.base (.int i)), kit_ty (by decide +kernel)⟩
theorem in_int_l (i : Int) : IsIn K H (.int i) "list" false := ⟨_, .inl (.base (.int i)), kit_ty (by decide +kernel)⟩
theorem in_int_s (i : Int) : IsIn K H (.int i) "str" false := ⟨_, .inl (.base (.int i)), kit_ty (by decide +kernel)⟩
theorem in_tup {p : Addr} {xs : List V} (h : H p = some (.tup xs)) : IsIn K H (.ref p) "tuple" true := ⟨_, .inl (.base (.tup h)), kit_ty (by decide +kernel)⟩
theorem in_tup_i {p : Addr} {xs : List V} (h : H p = some (.tup xs)) : IsIn K H (.ref p) "int" false := ⟨_, .inl (.base (.tup h)), kit_ty (by decide +kernel)⟩
theorem in_tup_b {p : Addr} {xs : List V} (h : H p = some (.tup xs)) : IsIn K H (.ref p) "bool" false := ⟨_, .inl (.base (.tup h)), kit_ty (by decide +kernel)⟩
theorem in_tup_l {p : Addr} {xs : List V} (h : H p = some (.tup xs)) : IsIn K H (.ref p) "list" false := ⟨_, .inl (.base (.tup h)), kit_ty (by decide +kernel)⟩
theorem in_tup_s {p : Addr} {xs : List V} (h : H p = some (.tup xs)) : IsIn K H (.ref p) "str" false := ⟨_, .inl (.base (.tup h)), kit_ty (by decide +kernel)⟩
theorem in_lst {p : Addr} {xs : List V} (h : H p = some (.lst xs)) : IsIn K H (.ref p) "list" true := ⟨_, .inl (.base (.lst h)), kit_ty (by decide +kernel)⟩
theorem in_lst_t {p : Addr} {xs : List V} (h : H p = some (.lst xs)) : IsIn K H (.ref p) "tuple" false := ⟨_, .inl (.base (.lst h)), kit_ty (by decide +kernel)⟩
/-- asked for int and for bool -/
def NI (K : PySem.W.Frag) (H : Hp) (v : V) : Prop := ∃ b c, IsIn K H v "int" b ∧ IsIn K H v "bool" c ∧ (b && !c) = isI v
theorem ni_int (i : Int) : NI K H (.int i) := ⟨_, _, in_int i, in_int_b i, rfl⟩
theorem ni_kn (k : Kn K H B v) : NI K H v := by
  cases k with
  | non => exact ⟨false, false, ⟨_, .inl (.base .non), kit_ty (by decide +kernel)⟩, ⟨_, .inl (.base .non), kit_ty (by decide +kernel)⟩, rfl⟩
  | bl b => exact ⟨true, true, ⟨_, .inl (.base (.bl b)), kit_ty (by decide +kernel)⟩, ⟨_, .inl (.base (.bl b)), kit_ty (by decide +kernel)⟩, rfl⟩
  | int i => exact ni_int i
  | str s => exact ⟨false, false, ⟨_, .inl (.base (.str s)), kit_ty (by decide +kernel)⟩, ⟨_, .inl (.base (.str s)), kit_ty (by decide +kernel)⟩, rfl⟩
  | lst h _ => exact ⟨false, false, ⟨_, .inl (.base (.lst h)), kit_ty (by decide +kernel)⟩, ⟨_, .inl (.base (.lst h)), kit_ty (by decide +kernel)⟩, rfl⟩
  | tup h _ => exact ⟨_, _, in_tup_i h, in_tup_b h, rfl⟩
  | exc ha hd e _ _ => exact ⟨false, false, ⟨_, .inr ⟨_, _, _, _, rfl, rfl, ha, hd, e.ec⟩, kit_exc e.ni (by decide +kernel)⟩, ⟨_, .inr ⟨_, _, _, _, rfl, rfl, ha, hd, e.ec⟩, kit_exc e.nb (by decide +kernel)⟩, rfl⟩
theorem OwnK.ni' (o : OwnK K C) {a dx : Addr} {fs : List (Str × V)} (h : H a = some (.ins C dx fs)) : NI K H (.ref a) := ⟨_, _, o.isin h o.ni (by decide +kernel), o.isin h o.nb (by decide +kernel), rfl⟩
/-- the number that a value is -/
def num? (f : Int → Bool) : V → Bool | .int i => f i | _ => false
def isBit : V → Bool := num? fun i => decide (0 ≤ i) && decide (i ≤ 1)
theorem tyOf_same {t : Value} (e : Same H H') (h : TyOf K H v t) : TyOf K H' v t := by
  cases h with
  | non => exact .non
  | bl x => exact .bl x
  | int i => exact .int i
  | str x => exact .str x
  | flt x => exact .flt x
  | lst g => exact .lst (e _ _ g)
  | frz g => exact .frz (e _ _ g)
  | tup g => exact .tup (e _ _ g)
  | dK g => exact .dK (e _ _ g)
  | dT g => exact .dT (e _ _ g)
  | ins g cl ha hn htk hm => exact .ins (e _ _ g) cl ha hn htk hm
theorem tyX_same {t : Value} (e : Same H H') (h : TyX K H v t) : TyX K H' v t := by
  cases h with
  | base g => exact .base (tyOf_same e g)
  | byt b => exact .byt b
  | set g => exact .set (e _ _ g)
  | kList g c => exact .kList g c
  | kTuple g c => exact .kTuple g c
  | kDict g c => exact .kDict g c
  | fTuple g => exact .fTuple (e _ _ g)
  | fDict g => exact .fDict (e _ _ g)
theorem isIn_same {T : String} {b : Bool} (e : Same H H') (h : IsIn K H v T b) : IsIn K H' v T b := by
  obtain ⟨ty, k, z⟩ := h
  refine ⟨ty, k.elim (fun k => .inl (tyX_same e k)) fun ⟨a, C, d, fs, e1, e2, ha, hd, c⟩ => .inr ⟨a, C, d, fs, e1, e2, e _ _ ha, e _ _ hd, c⟩, z⟩
theorem ni_same (e : Same H H') (h : NI K H v) : NI K H' v := by
  obtain ⟨b, c, h1, h2, z⟩ := h
  exact ⟨b, c, isIn_same e h1, isIn_same e h2, z⟩
theorem s_chain {σ : St} {r r' : R2} {ta tb tc : TE} (h : ta σ H fun x H1 => tb σ H1 fun y H2 => r x y H2 fun z H3 => ∃ k, z = .bl k ∧ if k = true then tc σ H3 fun w H4 => r' y w H4 Q else Q (.bl false) H3) : tChain r r' ta tb tc σ H Q := h
theorem s_fldS {σ : St} {D : Ends} {ta tv : TE} {f : Str} (h : tv σ H fun y H1 => ta σ H1 fun x H2 => ∃ a C dx fs, x = .ref a ∧ H2 a = some (.ins C dx fs) ∧ Cls K C ∧ NoAttr K C f ∧ fs.length < 1000 ∧ D.nx σ (upd H2 a (.ins C dx (putF f y fs)))) : sFld K ta tv f D σ H := h
theorem r_put {x : V} {a dx : Addr} {fs : List (Str × V)} {f : Str} {y : V} {P : Hp → Prop} (e : x = .ref a) (h : H a = some (.ins C dx fs)) (c : Cls K C) (n : NoAttr K C f) (l : fs.length < 1000) (q : ∀ H2, Keep a H H2 → H2 a = some (.ins C dx (putF f y fs)) → P H2) :
    ∃ a C dx fs, x = .ref a ∧ H a = some (.ins C dx fs) ∧ Cls K C ∧ NoAttr K C f ∧ fs.length < 1000 ∧ P (upd H a (.ins C dx (putF f y fs))) := ⟨a, C, dx, fs, e, h, c, n, l, q _ (put_keep rfl) upd_same⟩
theorem s_fld {σ : St} {ta : TE} {f : Str} (h : ta σ H fun x H1 => ∃ a C dx fs v, x = .ref a ∧ H1 a = some (.ins C dx fs) ∧ Cls K C ∧ NoAttr K C f ∧ fs.lookup f = some v ∧ Q v H1) : tFld K ta f σ H Q := h
theorem r_get {x : V} {a dx : Addr} {fs : List (Str × V)} {f : Str} {v : V} {P : V → Prop} (e : x = .ref a) (h : H a = some (.ins C dx fs)) (c : Cls K C) (n : NoAttr K C f) (l : fs.lookup f = some v) (q : P v) :
    ∃ a C dx fs v, x = .ref a ∧ H a = some (.ins C dx fs) ∧ Cls K C ∧ NoAttr K C f ∧ fs.lookup f = some v ∧ P v := ⟨a, C, dx, fs, v, e, h, c, n, l, q⟩
theorem s_dIn {σ : St} {ty td : TE} (h : ty σ H fun y H1 => td σ H1 fun x H2 => ∃ a o, x = .ref a ∧ DGet H2 a y o ∧ Q (.bl o.isSome) H2) : tDIn ty td σ H Q := h
theorem s_dNotIn {σ : St} {ty td : TE} (h : ty σ H fun y H1 => td σ H1 fun x H2 => ∃ a o, x = .ref a ∧ DGet H2 a y o ∧ Q (.bl (!o.isSome)) H2) : tDNotIn ty td σ H Q := h
theorem s_sl {σ : St} {r : V → Option Int → Option Int → Hp → VK → Prop} {te : TE} {tl th : TO} (h : te σ H fun x H1 => tl σ H1 fun l H2 => th σ H2 fun u H3 => r x l u H3 Q) : tSl r te tl th σ H Q := h
theorem s_noPart {σ : St} {R : Option Int → Hp → Prop} (h : R none H) : tNoPart σ H R := h
theorem s_part {σ : St} {t : TE} {R : Option Int → Hp → Prop} (h : t σ H fun x H1 => ∃ i, x = .int i ∧ R (some i) H1) : tPart t σ H R := h
/-- t[:j], a part of it -/
theorem r_take {p : Addr} {xs : List V} {j : Nat} (h : H p = some (.tup xs)) (lt : j < xs.length) (q : ∀ p' H2, H p' = none → Same H H2 → H2 p' = some (.tup (xs.take j)) → Q (.ref p') H2) : rSlA K (.ref p) none (some (j : Int)) H Q := by
  refine ⟨p, xs, rfl, SqT.of h, fun z => ?_, fun _ p' np => q p' _ np (Sx.Same.new np) ?_⟩
  · have e := z.2
    rw [HT.sIx_nat] at e
    omega
  · rw [upd_same]
    unfold cutV
    rw [HT.sIx_nat, HT.sIx_none, Nat.min_eq_left (Nat.le_of_lt lt)]
    rfl
/-- t[j + 1:] -/
theorem r_drop {p : Addr} {xs : List V} {j : Nat} (h : H p = some (.tup xs)) (lt : j < xs.length) (q : ∀ p' H2, H p' = none → Same H H2 → H2 p' = some (.tup (xs.drop (j + 1))) → Q (.ref p') H2) : rSlA K (.ref p) (some ((j : Int) + 1)) none H Q := by
  have e1 : ((j : Int) + 1) = ((j + 1 : Nat) : Int) := by omega
  rw [e1]
  refine ⟨p, xs, rfl, SqT.of h, fun z => ?_, fun _ p' np => q p' _ np (Sx.Same.new np) ?_⟩
  · have e := z.1
    rw [HT.sIx_nat] at e
    omega
  · rw [upd_same]
    unfold cutV
    rw [HT.sIx_nat, HT.sIx_none, Nat.min_eq_left lt, List.take_of_length_le (by rw [List.length_drop]; omega)]
/-- t + u -/
theorem r_cat {a b : Addr} {xs ys : List V} (ha : H a = some (.tup xs)) (hb : H b = some (.tup ys)) (sz : xs.length + ys.length ≤ sizeLine) (q : ∀ p H2, Same H H2 → H2 p = some (.tup (xs ++ ys)) → Q (.ref p) H2) : rCatA K (.ref a) (.ref b) H Q := by
  refine ⟨a, b, xs, ys, rfl, rfl, SqT.of ha, SqT.of hb, sz, fun e => q b H (L2.Same.refl _) ?_, fun _ e => q a H (L2.Same.refl _) ?_, fun _ _ p np => q p _ (Sx.Same.new np) upd_same⟩
  · rw [e]
    exact hb
  · rw [e, List.append_nil]
    exact ha
theorem s_meth {σ : St} {C : Addr} {m : Str} {sp : Sp} {dvs : List V} {E : XK} {ta : TE} {t : TA} (h : ta σ H fun x H1 => ∃ a dx fs, x = .ref a ∧ H1 a = some (.ins C dx fs) ∧ fs.lookup m = none ∧ t σ H1 fun vs H2 => sp (x :: (vs ++ dvs)) H2 Q E) : tMeth C m sp dvs E ta t σ H Q := h
theorem s_make {σ : St} {C : Addr} {sp : Sp} {dvs : List V} {E : XK} {t : TA} (h : t σ H fun vs H1 => ∀ x dx, H1 x = none → H1 dx = none → dx ≠ x → sp (.ref x :: (vs ++ dvs)) (upd (upd H1 dx (.own x)) x (.ins C dx [])) (fun v H2 => v = .non ∧ Q (.ref x) H2) E) : tMake C sp dvs E t σ H Q := h
theorem in_of {T : String} {b : Bool} (h : rIsiV K [v, .ty T] H fun z _ => z = .bl b) : IsIn K H v T b := by
  obtain ⟨x, c, t, u, b', e, kc, kx, ke, hb⟩ := h
  cases e
  cases kc
  cases hb
  exact ⟨t, kx, ke⟩
theorem in_iK (k : Kn K H B v) : IsIn K H v "int" (isI v || isB v) := in_of (c_isiI k rfl)
theorem in_bK (k : Kn K H B v) : IsIn K H v "bool" (isB v) := in_of (c_isiB k rfl)
theorem in_sK (k : Kn K H B v) : IsIn K H v "str" (isS v) := in_of (c_isiS k rfl)
theorem in_tK (k : Kn K H B v) : IsIn K H v "tuple" (isT H v) := in_of (c_isiT k rfl)
theorem in_lK (k : Kn K H B v) : IsIn K H v "list" (isL H v) := in_of (c_isiL k rfl)
theorem r_isN {x : V} (q : Q (.bl (decide (x = .non))) H) : V.non = V.non ∧ Q (.bl (decide (x = .non))) H := ⟨rfl, q⟩
theorem s_yes {σ : St} {R : Bool → Hp → Prop} (h : R true H) : tYes σ H R := h
theorem r_len {p : Addr} {xs : List V} (h : H p = some (.tup xs)) (q : Q (.int xs.length) H) : ∃ x n, [V.ref p] = [x] ∧ LenV K x H n ∧ Q (.int n) H := ⟨_, _, rfl, .inr ⟨xs, SqT.of h, rfl⟩, q⟩
end
end Sx

set_option Elab.async false
set_option linter.all false
set_option maxRecDepth 100000
set_option maxHeartbeats 3200000
/-! enumerate of a tuple -/
namespace PySem
open Sem (wp)
set_option maxHeartbeats 1000000 in
theorem enum1_new {v : Value} {o : Obj} {G : Heap → Prop} (B : Begins v o G) :
    Meets (Builtin.«enumerate.__new__» ⟨[.type "enumerate", v], []⟩) (fun _ R s => G s.heap ∧ R (.ok (.ret (.ref (s.heap.push o).objs.size)))
      { s with heap := (s.heap.push o).push { cls := .type "enumerate", data := .fields #[.none, .bool false, .ref s.heap.objs.size, rawInt 0, .none, .none] } }) :=
  .of_wp fun P w A R s0 z => by
    obtain ⟨hp, gs, dr, tk, os⟩ := s0; obtain ⟨z1, z⟩ := z
    have sube := sub_enumerate
    have qi : ∀ {A' : Around} {E' : Value → Shared → Prop} {Q' : Value → Shared → Prop}, Q' (.ref hp.objs.size) ⟨hp.push o, gs, dr, tk, os⟩ → wpAny (model P w) A' (pyIter v) Q' E' ⟨hp, gs, dr, tk, os⟩ := fun q => B.iter P w _ _ ⟨hp, gs, dr, tk, os⟩ _ z1 q
    wp_walk using qi
    (refine wpAny_stack_any fun st => wpAny_pure ?_; split)
    · rename_i c _ _ _ _ _
      (generalize (c == Value.type "enumerate") = same; cases same) <;> (wp_walk using qi; exact ⟨_, rfl, z⟩)
    · (wp_walk using qi; exact ⟨_, rfl, z⟩)
theorem enum1_call {P : Program} {w : World} {A : Around} {E : Value → Shared → Prop} {s : Shared} {v : Value} {o : Obj} {G : Heap → Prop} {Q : Value → Shared → Prop} (B : Begins v o G) (g : G s.heap)
    (q : ∀ h', IsEnum h' (s.heap.objs.size + 1) s.heap.objs.size 0 .none → h'.get? s.heap.objs.size = some o → h'.objs.size = s.heap.objs.size + 2 → (∀ b o', s.heap.get? b = some o' → h'.get? b = some o') → Q (.ref (s.heap.objs.size + 1)) { s with heap := h' }) :
    wpAny (model P w) A (call (.type "enumerate") [v]) Q E s := by
  refine callType_new F.called_enumerate (by decide) (F.typeCall_enumerate_1 _) (F.newCall_enumerate_1 _) (fun ob => F.args_object_init_2 ob _) F.entry_enumerate_new (enum1_new B) ⟨g, ?_⟩
  have sz : (s.heap.push o).objs.size = s.heap.objs.size + 1 := Heap.size_push ..
  have e := Heap.get?_push_size (s.heap.push o) (o := { cls := .type "enumerate", data := .fields #[.none, .bool false, .ref s.heap.objs.size, rawInt 0, .none, .none] }) rfl
  rw [sz] at e
  show _ ∧ _
  rw [sz]
  exact ⟨⟨_, e, rfl⟩, q _ e (Heap.get?_push_of_some _ (Heap.get?_push_size _ B.free)) (by rw [Heap.size_push, sz]) fun b o' z => Heap.get?_push_of_some _ (Heap.get?_push_of_some _ z)⟩
end PySem
namespace L2
open PySem PySem.Spec PyProof.Rows
/-- the tuple at a, each item in a new pair with its number -/
def IteT (K : PySem.W.Frag) (a : Addr) : It :=
  ⟨fun i H => ∃ (xs : List V) (x : V), SqT K H a xs ∧ xs[i]? = some x, fun i H v H' => ∃ T x, v = .ref T ∧ H T = none ∧ H' = upd H T (.tup [.int (i : Nat), x]) ∧ ∀ xs, SqT K H a xs → xs[i]? = some x, fun i H => ∃ xs : List V, SqT K H a xs ∧ xs.length = i⟩
theorem turn_enumT {P : Program} {w : World} {K : PySem.W.Frag} {elts : List Expr} {kk : Nat} {tpos : Pos} (a e it : Addr) :
    Turn P w K (.Tuple elts kk tpos) (IteT K a) [e, it] e (fun i h => (∃ old, IsEnum h e it ((i : Nat) : Int) old) ∧ h.IsTupleIter it a i ∧ e ≠ it) where
  mem := by simp
  obj := fun i h st b hb => by
    obtain ⟨⟨old, he⟩, ⟨o, ho, hc, hd⟩, _⟩ := st
    have two : b = e ∨ b = it := by simpa using hb
    rcases two with rfl | rfl
    · exact ⟨_, he, fun v q => nomatch q⟩
    · exact ⟨o, ho, fun v q => by rw [hd] at q; cases q⟩
  keep := fun i h h' st k => ⟨st.1.elim fun old he => ⟨old, k e (by simp) _ he⟩, st.2.1.at fun o q => k it (by simp) o q, st.2.2⟩
  item := by
    intro X hP hw hK hc i pins s σ H E I hf st hg
    (subst hP; subst hw; subst hK)
    obtain ⟨⟨old, he⟩, hit, ne⟩ := st
    obtain ⟨xs, x, hx0, hx⟩ := hg
    obtain ⟨us, rv, tp, tz⟩ := I.tuple hx0
    obtain ⟨u, hu, ru⟩ := rv.get hx
    have le : e < s.heap.objs.size := Heap.lt_size he
    have li : it < s.heap.objs.size := by obtain ⟨_, q, _⟩ := hit; exact Heap.lt_size q
    have ne2 : a ≠ it := fun z => by
      obtain ⟨o1, q1, c1, _⟩ := hit
      obtain ⟨o2, q2, c2, _⟩ := (show s.heap.IsTuple a us.toArray from tp)
      rw [z, q1] at q2
      cases q2
      rw [c1] at c2
      injection c2 with c3
      exact absurd c3 (by decide)
    have ne3 : e ≠ a := fun z => by
      obtain ⟨o2, q2, c2, _⟩ := (show s.heap.IsTuple a us.toArray from tp)
      rw [← z, he] at q2
      cases q2
      injection c2 with c3
      exact absurd c3 (by decide)
    have D := Draws.tuple (prog := X.prog) (w := X.w) (A := X.A.in1) (by simp [I.ok.hd hc]) it a ne2 us.toArray
    have lt : i < us.toArray.size := by
      have := (List.getElem?_eq_some_iff.mp hu).1
      simpa using this
    refine wpAny_pyNext_enum_itemC (D := D) he ⟨hit, tp⟩ lt ne (by simp [ne, ne3]) fun y h' tk hy ho st' hT hsz hk => ?_
    have ey : y = u := by
      have z : us.toArray[i]? = some y := hy
      simp [hu] at z
      exact z.symm
    subst ey
    refine ⟨_, rfl, wpAny_letOwnedTupleGo_enum (s := { s with heap := h', toks := tk + 1 }) ho fun h2 he2 sb => ?_⟩
    have hT2 : h2.get? s.heap.objs.size = some { cls := .type "tuple", data := .seq #[.int i tk, y] } := (sb.2 _ (Nat.ne_of_gt le)).trans hT
    have new : ObjOk X.prog X.w (upd H s.heap.objs.size (.tup [.int (i : Nat), x])) h2 s.heap.objs.size (.tup [.int (i : Nat), x]) :=
      ⟨by show 2 ≤ sizeLine; decide, [.int i tk, y], .cons ⟨_, rfl⟩ (.cons ru .nil), ⟨_, hT2, rfl, _, rfl⟩⟩
    have I1 : Inv X pins σ (upd H s.heap.objs.size (.tup [.int (i : Nat), x])) { s with heap := h2, toks := tk + 1 } :=
      I.turnedNew (ch := [e, it]) (fun b ob hb q => (sb.2 b (fun z => hb (by simp [z]))).trans (hk b ob (fun z => hb (by simp [z])) (fun z => hb (by simp [z])) q)) hf (Nat.le_refl _) new
    refine ⟨.ref s.heap.objs.size, _, I1, rfl, ⟨_, x, rfl, I.hok.fresh (Nat.le_refl _), rfl, fun ys hy' => by rw [I.tuple_inj hy' hx0]; exact hx⟩, ⟨⟨y, ?_⟩, st'.1.at fun o q => (sb.2 it (Ne.symm ne)).trans q, ne⟩, fun b hb => ?_⟩
    · rw [show ((i + 1 : Nat) : Int) = (i : Int) + 1 by omega]
      exact he2
    · have lb : b < s.heap.objs.size := by
        have two : b = e ∨ b = it := by simpa using hb
        rcases two with rfl | rfl
        · exact le
        · exact li
      rw [upd_ne (Nat.ne_of_lt lb)]
      exact (hf b hb).1
  done := by
    intro X hP hw hK hc i pins s σ H E I hf st hg
    (subst hP; subst hw; subst hK)
    obtain ⟨⟨old, he⟩, hit, ne⟩ := st
    obtain ⟨xs, hx0, hx⟩ := hg
    obtain ⟨us, rv, tp, tz⟩ := I.tuple hx0
    have ne2 : a ≠ it := fun z => by
      obtain ⟨o1, q1, c1, _⟩ := hit
      obtain ⟨o2, q2, c2, _⟩ := (show s.heap.IsTuple a us.toArray from tp)
      rw [z, q1] at q2
      cases q2
      rw [c1] at c2
      injection c2 with c3
      exact absurd c3 (by decide)
    have D := Draws.tuple (prog := X.prog) (w := X.w) (A := X.A.in1) (by simp [I.ok.hd hc]) it a ne2 us.toArray
    obtain ⟨f0, f1, f2, f3, f4, f5⟩ := hf it (by simp)
    have en : us.toArray.size = i := by
      have := rv.length
      simp
      omega
    refine wpAny_pyNext_enum_endD (D := D) he (by rw [en]; exact ⟨hit, tp⟩) fun h' eb => ⟨rfl, I.turned (t' := s.toks) (fun b o hb q => eb b o hb q) f0 f1 f3 f4 f5⟩
  self := fun A i s Q E st h => st.1.elim fun _ he => wpAny_pyIter_enum he h
def iEnumT (K : PySem.W.Frag) (ta : TA) : TI := fun σ H R => ta σ H fun vs H1 => ∃ a xs, vs = [.ref a] ∧ SqT K H1 a xs ∧ R (IteT K a) H1
theorem pi_enumT {X : Cx} {e : Expr} {ta : TA} {p pos tpos : Pos} {elts : List Expr} {kk : Nat} (hg : Gl X "enumerate") (hm : X.mg "enumerate" = none) (ha : PA X [e] ta) (hs : starEach [e] X.env = [(false, eval e X.env)] := by rfl) :
    PI X (.Tuple elts kk tpos) (.Call (.Name "enumerate" p) [e] [] pos) (iEnumT X.K ta) := ⟨fun pins s σ H R I h => by
  refine Call_ (ld_blt I hg hm boot_enumerate (PyProof.Rows.callWith_type1 (thn (ha.run pos pins s σ H _ I h) fun us s1 ⟨vs, H1, I1, r1, q1⟩ => ?_) hs rfl))
  obtain ⟨a, xs, rfl, hq, q⟩ := q1
  rw [Vals.ref1 r1]
  obtain ⟨its, rv, tp, hz⟩ := I1.tuple hq
  refine enum1_call (begins_tuple a its.toArray) tp fun h' he hit hsz hk => wpAny_pyIter_enum he ?_
  have I2 : Inv X pins σ H1 { s1 with heap := h' } := I1.kept (t' := s1.toks) hk
  refine ⟨s1.heap.objs.size + 1, [s1.heap.objs.size + 1, s1.heap.objs.size], _, _, H1, rfl, I2, turn_enumT a (s1.heap.objs.size + 1) s1.heap.objs.size, ⟨⟨.none, he⟩, ⟨_, hit, rfl, rfl⟩, Nat.succ_ne_self _⟩, fun b hb => ?_, q⟩
  have two : b = s1.heap.objs.size + 1 ∨ b = s1.heap.objs.size := by simpa using hb
  have le : s1.heap.objs.size ≤ b := by
    rcases two with rfl | rfl
    · exact Nat.le_succ _
    · exact Nat.le_refl _
  exact I1.fpOk le (I1.hok.fresh le)⟩
section
variable {K : PySem.W.Frag} {a : Addr} {xs : List V}
theorem walk_enumT : Walk (IteT K a) xs.length (fun H => SqT K H a xs) (YPair (fun i => some (.int (i : Nat))) (fun i => xs[i]?)) := by
  refine ⟨fun i _ hi q => ⟨xs, xs[i], q, by simp [hi]⟩, fun _ q => ⟨xs, q, rfl⟩, fun i H v H' _ q y => ?_⟩
  obtain ⟨T, x, h1, h2, h3, h4⟩ := y
  exact ⟨T, .int (i : Nat), x, h1, h2, h3, rfl, h4 xs q⟩
/-- a dict comprehension over any walk -/
theorem dcp_it {J : It} {n : Nat} {G : Hp → Prop} {Y : Nat → Hp → V → Hp → Prop} (wk : Walk J n G Y) {u0 : HO} {g : TG} {tt : TT} {tk tv : TE} {vs : List Nat} {σ : St} {H1 : Hp} {D : Addr} {Qd : Hp → Prop} (Pv : Nat → Hp → Prop) (h0 : Pv 0 (upd H1 D u0)) (hG : ∀ i H, i ≤ n → Pv i H → G H)
    (hs : ∀ i x H H', i < n → Pv i H → Y i H x H' → g x (wipe σ vs) H' fun σ2 H2 => wipe σ2 vs = wipe σ vs ∧ tt σ2 H2 fun b H3 => if b = true then tk σ2 H3 fun y H4 => tv σ2 H4 fun z H5 => ∃ H6, DPut H5 D y z H6 ∧ Pv (i + 1) H6 else Pv (i + 1) H3) (hd : ∀ H, Pv n H → Qd H) :
    ∃ W : Nat → Nat → Hp → Prop, (∃ m, W 0 m (upd H1 D u0)) ∧ ∀ i m H2, W i m H2 → (J.stop i H2 ∧ Qd H2) ∨ (J.go i H2 ∧ ∃ Nx : Hp → Prop, (∀ H', Nx H' → ∃ m', m' < m ∧ W (i + 1) m' H') ∧ ∀ x H3, J.yld i H2 x H3 → g x (wipe σ vs) H3 fun σ2 H4 => wipe σ2 vs = wipe σ vs ∧ tt σ2 H4 fun b H5 =>
      if b = true then tk σ2 H5 fun y H6 => tv σ2 H6 fun z H7 => ∃ H8, DPut H7 D y z H8 ∧ Nx H8 else Nx H5) := by
  refine ⟨fun i m H => m = n - i ∧ i ≤ n ∧ Pv i H, ⟨n, by simp, Nat.zero_le _, h0⟩, ?_⟩
  rintro i m H ⟨rfl, hi, p⟩
  have q := hG i H hi p
  by_cases lt : i < n
  · exact .inr ⟨wk.goes i H lt q, Pv (i + 1), fun H' p' => ⟨n - (i + 1), by omega, rfl, lt, p'⟩, fun x H' y => hs i x H H' lt p (wk.yields i H x H' lt q y)⟩
  · have e : i = n := by omega
    subst e
    exact .inl ⟨wk.stops H q, hd H p⟩
end
end L2

set_option Elab.async false
set_option linter.all false
set_option maxRecDepth 100000
set_option maxHeartbeats 2000000
namespace K37
open PySem L2 Sx
def top (i : Nat) : Stmt := PySem.Challenge.pw_nextguess_k37_best_drawn_guesses.main.body.getD i (.Pass ⟨0, 0, 0, 0⟩)
abbrev s_is_an_integer : Stmt := top 3
abbrev s_is_number : Stmt := top 4
abbrev s_is_value : Stmt := top 5
abbrev s_is_row : Stmt := top 19
abbrev s_with_value : Stmt := top 21
abbrev s_are_rows : Stmt := top 34
abbrev s_Rules____init__ : Stmt := inClass (top 36) 0
abbrev s_Rules____len__ : Stmt := inClass (top 36) 2
abbrev s_share_of : Stmt := top 12
abbrev s_ties_of : Stmt := top 23
abbrev s_inside : Stmt := top 24
abbrev s_Spread____init__ : Stmt := inClass (top 26) 0
abbrev s_Spread__settle : Stmt := inClass (top 26) 1
abbrev s_Spread__search : Stmt := inClass (top 26) 2
abbrev s_Spread__shift : Stmt := inClass (top 26) 3
abbrev s_Spread__first_amounts : Stmt := inClass (top 26) 4
abbrev s_density : Stmt := top 27
abbrev s_portion : Stmt := top 28
abbrev s_densest : Stmt := top 29
abbrev s_evenest : Stmt := top 31
abbrev s_best_drawn : Stmt := top 32
abbrev s__law_flow : Stmt := top 38
abbrev s__law_take : Stmt := top 39
abbrev s__law_full : Stmt := top 40
abbrev s__law_row : Stmt := top 41
abbrev s__law_ones : Stmt := top 42
abbrev s__law_walk : Stmt := top 43
abbrev s__law_product : Stmt := top 44
abbrev s__law_numbers : Stmt := top 45
abbrev s__law_densest : Stmt := top 46
abbrev s__law_divisor : Stmt := top 47
abbrev s__law_is_chance : Stmt := top 48
abbrev s__law_good : Stmt := top 49
abbrev s__law_all : Stmt := top 50
abbrev s_law : Stmt := top 51
theorem sc_is_an_integer : FnScope ["value"] ["value"] (defScope s_is_an_integer) := ⟨rfl, rfl, rfl, by decide +kernel, rfl, by decide +kernel, by decide +kernel⟩
theorem sc_is_number : FnScope ["value"] ["value"] (defScope s_is_number) := ⟨rfl, rfl, rfl, by decide +kernel, rfl, by decide +kernel, by decide +kernel⟩
theorem sc_is_value : FnScope ["value"] ["value"] (defScope s_is_value) := ⟨rfl, rfl, rfl, by decide +kernel, rfl, by decide +kernel, by decide +kernel⟩
theorem sc_is_row : FnScope ["value", "size", "member"] ["value", "size"] (defScope s_is_row) := ⟨rfl, rfl, rfl, by decide +kernel, rfl, by decide +kernel, by decide +kernel⟩
theorem sc_with_value : FnScope ["row", "point", "value"] ["row", "point", "value"] (defScope s_with_value) := ⟨rfl, rfl, rfl, by decide +kernel, rfl, by decide +kernel, by decide +kernel⟩
theorem sc_are_rows : FnScope ["rows", "size", "row"] ["rows", "size"] (defScope s_are_rows) := ⟨rfl, rfl, rfl, by decide +kernel, rfl, by decide +kernel, by decide +kernel⟩
theorem sc_Rules____init__ : FnScope ["self", "size", "rows", "row"] ["self", "size", "rows"] (defScope s_Rules____init__) := ⟨rfl, rfl, rfl, by decide +kernel, rfl, by decide +kernel, by decide +kernel⟩
theorem sc_Rules____len__ : FnScope ["self"] ["self"] (defScope s_Rules____len__) := ⟨rfl, rfl, rfl, by decide +kernel, rfl, by decide +kernel, by decide +kernel⟩
theorem sc_share_of : FnScope ["a", "b", "common"] ["a", "b"] (defScope s_share_of) := ⟨rfl, rfl, rfl, by decide +kernel, rfl, by decide +kernel, by decide +kernel⟩
theorem sc_ties_of : FnScope ["rules", "row", "numbers", "ties", "i", "point", "higher", "number"] ["rules"] (defScope s_ties_of) := ⟨rfl, rfl, rfl, by decide +kernel, rfl, by decide +kernel, by decide +kernel⟩
theorem sc_inside : FnScope ["ties", "part", "chosen", "number", "k", "i", "j", "_"] ["ties", "part"] (defScope s_inside) := ⟨rfl, rfl, rfl, by decide +kernel, rfl, by decide +kernel, by decide +kernel⟩
theorem sc_Spread____init__ : FnScope ["self", "many", "ties", "weights", "_", "k", "i", "j"] ["self", "many", "ties", "weights"] (defScope s_Spread____init__) := ⟨rfl, rfl, rfl, by decide +kernel, rfl, by decide +kernel, by decide +kernel⟩
theorem sc_Spread__settle : FnScope ["self", "limit", "came", "rule"] ["self", "limit"] (defScope s_Spread__settle) := ⟨rfl, rfl, rfl, by decide +kernel, rfl, by decide +kernel, by decide +kernel⟩
theorem sc_Spread__search : FnScope ["self", "limit", "rule", "came", "level", "reached", "arc", "end", "load"] ["self", "limit"] (defScope s_Spread__search) := ⟨rfl, rfl, rfl, by decide +kernel, rfl, by decide +kernel, by decide +kernel⟩
theorem sc_Spread__shift : FnScope ["self", "came", "rule", "limit", "way", "start", "arc", "amount"] ["self", "came", "rule", "limit"] (defScope s_Spread__shift) := ⟨rfl, rfl, rfl, by decide +kernel, rfl, by decide +kernel, by decide +kernel⟩
theorem sc_Spread__first_amounts : FnScope ["self"] ["self"] (defScope s_Spread__first_amounts) := ⟨rfl, rfl, rfl, by decide +kernel, rfl, by decide +kernel, by decide +kernel⟩
theorem sc_density : FnScope ["ties", "weights", "part", "k"] ["ties", "weights", "part"] (defScope s_density) := ⟨rfl, rfl, rfl, by decide +kernel, rfl, by decide +kernel, by decide +kernel⟩
theorem sc_portion : FnScope ["amount", "weight"] ["amount", "weight"] (defScope s_portion) := ⟨rfl, rfl, rfl, by decide +kernel, rfl, by decide +kernel, by decide +kernel⟩
theorem sc_densest : FnScope ["many", "ties", "weights", "part", "denser", "limit", "scale", "scaled", "spread", "portions", "amount", "weight"] ["many", "ties", "weights"] (defScope s_densest) := ⟨rfl, rfl, rfl, by decide +kernel, rfl, by decide +kernel, by decide +kernel⟩
theorem sc_evenest : FnScope ["rules", "ties"] ["rules"] (defScope s_evenest) := ⟨rfl, rfl, rfl, by decide +kernel, rfl, by decide +kernel, by decide +kernel⟩
theorem sc_best_drawn : FnScope ["rules"] ["rules"] (defScope s_best_drawn) := ⟨rfl, rfl, rfl, by decide +kernel, rfl, by decide +kernel, by decide +kernel⟩
theorem sc__law_flow : FnScope ["script", "place", "cell"] ["script", "place"] (defScope s__law_flow) := ⟨rfl, rfl, rfl, by decide +kernel, rfl, by decide +kernel, by decide +kernel⟩
theorem sc__law_take : FnScope ["flow", "limit", "digit", "mixed"] ["flow", "limit"] (defScope s__law_take) := ⟨rfl, rfl, rfl, by decide +kernel, rfl, by decide +kernel, by decide +kernel⟩
theorem sc__law_full : FnScope ["size"] ["size"] (defScope s__law_full) := ⟨rfl, rfl, rfl, by decide +kernel, rfl, by decide +kernel, by decide +kernel⟩
theorem sc__law_row : FnScope ["number", "size", "row", "k"] ["number", "size"] (defScope s__law_row) := ⟨rfl, rfl, rfl, by decide +kernel, rfl, by decide +kernel, by decide +kernel⟩
theorem sc__law_ones : FnScope ["number", "many", "k"] ["number"] (defScope s__law_ones) := ⟨rfl, rfl, rfl, by decide +kernel, rfl, by decide +kernel, by decide +kernel⟩
theorem sc__law_walk : FnScope ["flow", "size", "most", "full", "found", "due", "k", "number", "shape"] ["flow", "size", "most"] (defScope s__law_walk) := ⟨rfl, rfl, rfl, by decide +kernel, rfl, by decide +kernel, by decide +kernel⟩
theorem sc__law_product : FnScope ["flow", "size", "back_size", "numbers", "back", "number", "other"] ["flow"] (defScope s__law_product) := ⟨rfl, rfl, rfl, by decide +kernel, rfl, by decide +kernel, by decide +kernel⟩
theorem sc__law_numbers : FnScope ["flow", "shape", "size", "turn", "full", "odd", "numbers", "start", "k"] ["flow"] (defScope s__law_numbers) := ⟨rfl, rfl, rfl, by decide +kernel, rfl, by decide +kernel, by decide +kernel⟩
theorem sc__law_densest : FnScope ["size", "numbers", "bits", "ties", "many", "best", "power", "i", "mask", "bit", "j", "low", "within", "rules_there", "k"] ["size", "numbers"] (defScope s__law_densest) := ⟨rfl, rfl, rfl, by decide +kernel, rfl, by decide +kernel, by decide +kernel⟩
theorem sc__law_divisor : FnScope ["one", "other", "k", "rest"] ["one", "other"] (defScope s__law_divisor) := ⟨rfl, rfl, rfl, by decide +kernel, rfl, by decide +kernel, by decide +kernel⟩
theorem sc__law_is_chance : FnScope ["value", "part"] ["value"] (defScope s__law_is_chance) := ⟨rfl, rfl, rfl, by decide +kernel, rfl, by decide +kernel, by decide +kernel⟩
theorem sc__law_good : FnScope ["chances", "size", "numbers", "most", "bits", "k", "means", "at", "i", "j", "upper", "lower", "number", "mean"] ["chances", "size", "numbers", "most"] (defScope s__law_good) := ⟨rfl, rfl, rfl, by decide +kernel, rfl, by decide +kernel, by decide +kernel⟩
theorem sc__law_all : FnScope ["script", "one", "other", "listed", "other_listed", "first", "second", "chances", "other_chances", "flow", "size", "numbers", "cube", "number", "k"] ["script"] (defScope s__law_all) := ⟨rfl, rfl, rfl, by decide +kernel, rfl, by decide +kernel, by decide +kernel⟩
theorem sc_law : FnScope ["script"] ["script"] (defScope s_law) := ⟨rfl, rfl, rfl, by decide +kernel, rfl, by decide +kernel, by decide +kernel⟩
structure Ad where
  a_is_an_integer : Addr
  d_is_an_integer : FuncData
  a_is_number : Addr
  d_is_number : FuncData
  a_is_value : Addr
  d_is_value : FuncData
  a_is_row : Addr
  d_is_row : FuncData
  a_with_value : Addr
  d_with_value : FuncData
  a_are_rows : Addr
  d_are_rows : FuncData
  a_Rules____init__ : Addr
  d_Rules____init__ : FuncData
  a_Rules____len__ : Addr
  d_Rules____len__ : FuncData
  a_share_of : Addr
  d_share_of : FuncData
  a_ties_of : Addr
  d_ties_of : FuncData
  a_inside : Addr
  d_inside : FuncData
  a_Spread____init__ : Addr
  d_Spread____init__ : FuncData
  a_Spread__settle : Addr
  d_Spread__settle : FuncData
  a_Spread__search : Addr
  d_Spread__search : FuncData
  a_Spread__shift : Addr
  d_Spread__shift : FuncData
  a_Spread__first_amounts : Addr
  d_Spread__first_amounts : FuncData
  a_density : Addr
  d_density : FuncData
  a_portion : Addr
  d_portion : FuncData
  a_densest : Addr
  d_densest : FuncData
  a_evenest : Addr
  d_evenest : FuncData
  a_best_drawn : Addr
  d_best_drawn : FuncData
  a__law_flow : Addr
  d__law_flow : FuncData
  a__law_take : Addr
  d__law_take : FuncData
  a__law_full : Addr
  d__law_full : FuncData
  a__law_row : Addr
  d__law_row : FuncData
  a__law_ones : Addr
  d__law_ones : FuncData
  a__law_walk : Addr
  d__law_walk : FuncData
  a__law_product : Addr
  d__law_product : FuncData
  a__law_numbers : Addr
  d__law_numbers : FuncData
  a__law_densest : Addr
  d__law_densest : FuncData
  a__law_divisor : Addr
  d__law_divisor : FuncData
  a__law_is_chance : Addr
  d__law_is_chance : FuncData
  a__law_good : Addr
  d__law_good : FuncData
  a__law_all : Addr
  d__law_all : FuncData
  a_law : Addr
  d_law : FuncData
  c_Rules : Addr
  c_Spread : Addr
structure Txt (P : Program) (K : PySem.W.Frag) (mg : Str → Option Value) (A : Ad) : Prop where
  g_is_an_integer : mg "is_an_integer" = some (.ref A.a_is_an_integer)
  F_is_an_integer : Fun K "is_an_integer" "is_an_integer" s_is_an_integer A.a_is_an_integer A.d_is_an_integer
  g_is_number : mg "is_number" = some (.ref A.a_is_number)
  F_is_number : Fun K "is_number" "is_number" s_is_number A.a_is_number A.d_is_number
  g_is_value : mg "is_value" = some (.ref A.a_is_value)
  F_is_value : Fun K "is_value" "is_value" s_is_value A.a_is_value A.d_is_value
  g_is_row : mg "is_row" = some (.ref A.a_is_row)
  F_is_row : Fun K "is_row" "is_row" s_is_row A.a_is_row A.d_is_row
  g_with_value : mg "with_value" = some (.ref A.a_with_value)
  F_with_value : Fun K "with_value" "with_value" s_with_value A.a_with_value A.d_with_value
  g_are_rows : mg "are_rows" = some (.ref A.a_are_rows)
  F_are_rows : Fun K "are_rows" "are_rows" s_are_rows A.a_are_rows A.d_are_rows
  F_Rules____init__ : Fun K "__init__" "Rules.__init__" s_Rules____init__ A.a_Rules____init__ A.d_Rules____init__
  F_Rules____len__ : Fun K "__len__" "Rules.__len__" s_Rules____len__ A.a_Rules____len__ A.d_Rules____len__
  g_share_of : mg "share_of" = some (.ref A.a_share_of)
  F_share_of : Fun K "share_of" "share_of" s_share_of A.a_share_of A.d_share_of
  g_ties_of : mg "ties_of" = some (.ref A.a_ties_of)
  F_ties_of : Fun K "ties_of" "ties_of" s_ties_of A.a_ties_of A.d_ties_of
  g_inside : mg "inside" = some (.ref A.a_inside)
  F_inside : Fun K "inside" "inside" s_inside A.a_inside A.d_inside
  F_Spread____init__ : Fun K "__init__" "Spread.__init__" s_Spread____init__ A.a_Spread____init__ A.d_Spread____init__
  F_Spread__settle : Fun K "settle" "Spread.settle" s_Spread__settle A.a_Spread__settle A.d_Spread__settle
  F_Spread__search : Fun K "search" "Spread.search" s_Spread__search A.a_Spread__search A.d_Spread__search
  F_Spread__shift : Fun K "shift" "Spread.shift" s_Spread__shift A.a_Spread__shift A.d_Spread__shift
  F_Spread__first_amounts : Fun K "first_amounts" "Spread.first_amounts" s_Spread__first_amounts A.a_Spread__first_amounts A.d_Spread__first_amounts
  g_density : mg "density" = some (.ref A.a_density)
  F_density : Fun K "density" "density" s_density A.a_density A.d_density
  g_portion : mg "portion" = some (.ref A.a_portion)
  F_portion : Fun K "portion" "portion" s_portion A.a_portion A.d_portion
  g_densest : mg "densest" = some (.ref A.a_densest)
  F_densest : Fun K "densest" "densest" s_densest A.a_densest A.d_densest
  g_evenest : mg "evenest" = some (.ref A.a_evenest)
  F_evenest : Fun K "evenest" "evenest" s_evenest A.a_evenest A.d_evenest
  g_best_drawn : mg "best_drawn" = some (.ref A.a_best_drawn)
  F_best_drawn : Fun K "best_drawn" "best_drawn" s_best_drawn A.a_best_drawn A.d_best_drawn
  g__law_flow : mg "_law_flow" = some (.ref A.a__law_flow)
  F__law_flow : Fun K "_law_flow" "_law_flow" s__law_flow A.a__law_flow A.d__law_flow
  g__law_take : mg "_law_take" = some (.ref A.a__law_take)
  F__law_take : Fun K "_law_take" "_law_take" s__law_take A.a__law_take A.d__law_take
  g__law_full : mg "_law_full" = some (.ref A.a__law_full)
  F__law_full : Fun K "_law_full" "_law_full" s__law_full A.a__law_full A.d__law_full
  g__law_row : mg "_law_row" = some (.ref A.a__law_row)
  F__law_row : Fun K "_law_row" "_law_row" s__law_row A.a__law_row A.d__law_row
  g__law_ones : mg "_law_ones" = some (.ref A.a__law_ones)
  F__law_ones : Fun K "_law_ones" "_law_ones" s__law_ones A.a__law_ones A.d__law_ones
  g__law_walk : mg "_law_walk" = some (.ref A.a__law_walk)
  F__law_walk : Fun K "_law_walk" "_law_walk" s__law_walk A.a__law_walk A.d__law_walk
  g__law_product : mg "_law_product" = some (.ref A.a__law_product)
  F__law_product : Fun K "_law_product" "_law_product" s__law_product A.a__law_product A.d__law_product
  g__law_numbers : mg "_law_numbers" = some (.ref A.a__law_numbers)
  F__law_numbers : Fun K "_law_numbers" "_law_numbers" s__law_numbers A.a__law_numbers A.d__law_numbers
  g__law_densest : mg "_law_densest" = some (.ref A.a__law_densest)
  F__law_densest : Fun K "_law_densest" "_law_densest" s__law_densest A.a__law_densest A.d__law_densest
  g__law_divisor : mg "_law_divisor" = some (.ref A.a__law_divisor)
  F__law_divisor : Fun K "_law_divisor" "_law_divisor" s__law_divisor A.a__law_divisor A.d__law_divisor
  g__law_is_chance : mg "_law_is_chance" = some (.ref A.a__law_is_chance)
  F__law_is_chance : Fun K "_law_is_chance" "_law_is_chance" s__law_is_chance A.a__law_is_chance A.d__law_is_chance
  g__law_good : mg "_law_good" = some (.ref A.a__law_good)
  F__law_good : Fun K "_law_good" "_law_good" s__law_good A.a__law_good A.d__law_good
  g__law_all : mg "_law_all" = some (.ref A.a__law_all)
  F__law_all : Fun K "_law_all" "_law_all" s__law_all A.a__law_all A.d__law_all
  g_law : mg "law" = some (.ref A.a_law)
  F_law : Fun K "law" "law" s_law A.a_law A.d_law
  g_Rules : mg "Rules" = some (.ref A.c_Rules)
  o_Rules : Sx.OwnK K A.c_Rules
  mk_Rules : Mk K A.c_Rules A.a_Rules____init__
  no_Rules_size : NoAttr K A.c_Rules "size"
  no_Rules_rows : NoAttr K A.c_Rules "rows"
  no_Rules__known : NoAttr K A.c_Rules "_known"
  sp_Rules___len__ : PySem.W.findIn K (.ref A.c_Rules) "__len__" = some (some (.ref A.a_Rules____len__)) ∧ PySem.W.isFn K (.ref A.a_Rules____len__) = true
  g_Spread : mg "Spread" = some (.ref A.c_Spread)
  o_Spread : Sx.OwnK K A.c_Spread
  mk_Spread : Mk K A.c_Spread A.a_Spread____init__
  no_Spread_loads : NoAttr K A.c_Spread "loads"
  no_Spread_arcs : NoAttr K A.c_Spread "arcs"
  no_Spread_ends : NoAttr K A.c_Spread "ends"
  no_Spread_room : NoAttr K A.c_Spread "room"
  me_Spread_settle : Meth K A.c_Spread "settle" A.a_Spread__settle
  me_Spread_search : Meth K A.c_Spread "search" A.a_Spread__search
  me_Spread_shift : Meth K A.c_Spread "shift" A.a_Spread__shift
  me_Spread_first_amounts : Meth K A.c_Spread "first_amounts" A.a_Spread__first_amounts
  n_abs : mg "abs" = none
  n_all : mg "all" = none
  n_bool : mg "bool" = none
  n_enumerate : mg "enumerate" = none
  n_int : mg "int" = none
  n_isinstance : mg "isinstance" = none
  n_len : mg "len" = none
  n_list : mg "list" = none
  n_min : mg "min" = none
  n_range : mg "range" = none
  n_set : mg "set" = none
  n_sorted : mg "sorted" = none
  n_sum : mg "sum" = none
  n_tuple : mg "tuple" = none
  n_zip : mg "zip" = none
  m_gcd : mg "gcd" = some (.builtin "math.gcd")
section
variable {P : Program} {K : PySem.W.Frag} {mg : Str → Option Value} {A : Ad}
theorem Txt.cl_Rules (T : Txt P K mg A) : Cls K A.c_Rules := T.o_Rules.cl
theorem Txt.cl_Spread (T : Txt P K mg A) : Cls K A.c_Spread := T.o_Spread.cl
theorem B_is_an_integer (T : Txt P K mg A) : Binds K A.d_is_an_integer ["value"] [] := T.F_is_an_integer.binds (ps := ["value"]) fun _ _ _ _ _ _ us hl => match us, hl with | [_], _ => rfl
theorem B_is_number (T : Txt P K mg A) : Binds K A.d_is_number ["value"] [] := T.F_is_number.binds (ps := ["value"]) fun _ _ _ _ _ _ us hl => match us, hl with | [_], _ => rfl
theorem B_is_value (T : Txt P K mg A) : Binds K A.d_is_value ["value"] [] := T.F_is_value.binds (ps := ["value"]) fun _ _ _ _ _ _ us hl => match us, hl with | [_], _ => rfl
theorem B_is_row (T : Txt P K mg A) : Binds K A.d_is_row ["value", "size"] [] := T.F_is_row.binds (ps := ["value", "size"]) fun _ _ _ _ _ _ us hl => match us, hl with | [_, _], _ => rfl
theorem B_with_value (T : Txt P K mg A) : Binds K A.d_with_value ["row", "point", "value"] [] := T.F_with_value.binds (ps := ["row", "point", "value"]) fun _ _ _ _ _ _ us hl => match us, hl with | [_, _, _], _ => rfl
theorem B_are_rows (T : Txt P K mg A) : Binds K A.d_are_rows ["rows", "size"] [] := T.F_are_rows.binds (ps := ["rows", "size"]) fun _ _ _ _ _ _ us hl => match us, hl with | [_, _], _ => rfl
theorem B_Rules____init__ (T : Txt P K mg A) : Binds K A.d_Rules____init__ ["self", "size", "rows"] [] := T.F_Rules____init__.binds (ps := ["self", "size", "rows"]) fun _ _ _ _ _ _ us hl => match us, hl with | [_, _, _], _ => rfl
theorem B_Rules____len__ (T : Txt P K mg A) : Binds K A.d_Rules____len__ ["self"] [] := T.F_Rules____len__.binds (ps := ["self"]) fun _ _ _ _ _ _ us hl => match us, hl with | [_], _ => rfl
theorem B_share_of (T : Txt P K mg A) : Binds K A.d_share_of ["a", "b"] [] := T.F_share_of.binds (ps := ["a", "b"]) fun _ _ _ _ _ _ us hl => match us, hl with | [_, _], _ => rfl
theorem B_ties_of (T : Txt P K mg A) : Binds K A.d_ties_of ["rules"] [] := T.F_ties_of.binds (ps := ["rules"]) fun _ _ _ _ _ _ us hl => match us, hl with | [_], _ => rfl
theorem B_inside (T : Txt P K mg A) : Binds K A.d_inside ["ties", "part"] [] := T.F_inside.binds (ps := ["ties", "part"]) fun _ _ _ _ _ _ us hl => match us, hl with | [_, _], _ => rfl
theorem B_Spread____init__ (T : Txt P K mg A) : Binds K A.d_Spread____init__ ["self", "many", "ties", "weights"] [] := T.F_Spread____init__.binds (ps := ["self", "many", "ties", "weights"]) fun _ _ _ _ _ _ us hl => match us, hl with | [_, _, _, _], _ => rfl
theorem B_Spread__settle (T : Txt P K mg A) : Binds K A.d_Spread__settle ["self", "limit"] [] := T.F_Spread__settle.binds (ps := ["self", "limit"]) fun _ _ _ _ _ _ us hl => match us, hl with | [_, _], _ => rfl
theorem B_Spread__search (T : Txt P K mg A) : Binds K A.d_Spread__search ["self", "limit"] [] := T.F_Spread__search.binds (ps := ["self", "limit"]) fun _ _ _ _ _ _ us hl => match us, hl with | [_, _], _ => rfl
theorem B_Spread__shift (T : Txt P K mg A) : Binds K A.d_Spread__shift ["self", "came", "rule", "limit"] [] := T.F_Spread__shift.binds (ps := ["self", "came", "rule", "limit"]) fun _ _ _ _ _ _ us hl => match us, hl with | [_, _, _, _], _ => rfl
theorem B_Spread__first_amounts (T : Txt P K mg A) : Binds K A.d_Spread__first_amounts ["self"] [] := T.F_Spread__first_amounts.binds (ps := ["self"]) fun _ _ _ _ _ _ us hl => match us, hl with | [_], _ => rfl
theorem B_density (T : Txt P K mg A) : Binds K A.d_density ["ties", "weights", "part"] [] := T.F_density.binds (ps := ["ties", "weights", "part"]) fun _ _ _ _ _ _ us hl => match us, hl with | [_, _, _], _ => rfl
theorem B_portion (T : Txt P K mg A) : Binds K A.d_portion ["amount", "weight"] [] := T.F_portion.binds (ps := ["amount", "weight"]) fun _ _ _ _ _ _ us hl => match us, hl with | [_, _], _ => rfl
theorem B_densest (T : Txt P K mg A) : Binds K A.d_densest ["many", "ties", "weights"] [] := T.F_densest.binds (ps := ["many", "ties", "weights"]) fun _ _ _ _ _ _ us hl => match us, hl with | [_, _, _], _ => rfl
theorem B_evenest (T : Txt P K mg A) : Binds K A.d_evenest ["rules"] [] := T.F_evenest.binds (ps := ["rules"]) fun _ _ _ _ _ _ us hl => match us, hl with | [_], _ => rfl
theorem B_best_drawn (T : Txt P K mg A) : Binds K A.d_best_drawn ["rules"] [] := T.F_best_drawn.binds (ps := ["rules"]) fun _ _ _ _ _ _ us hl => match us, hl with | [_], _ => rfl
theorem B__law_flow (T : Txt P K mg A) : Binds K A.d__law_flow ["script", "place"] [] := T.F__law_flow.binds (ps := ["script", "place"]) fun _ _ _ _ _ _ us hl => match us, hl with | [_, _], _ => rfl
theorem B__law_take (T : Txt P K mg A) : Binds K A.d__law_take ["flow", "limit"] [] := T.F__law_take.binds (ps := ["flow", "limit"]) fun _ _ _ _ _ _ us hl => match us, hl with | [_, _], _ => rfl
theorem B__law_full (T : Txt P K mg A) : Binds K A.d__law_full ["size"] [] := T.F__law_full.binds (ps := ["size"]) fun _ _ _ _ _ _ us hl => match us, hl with | [_], _ => rfl
theorem B__law_row (T : Txt P K mg A) : Binds K A.d__law_row ["number", "size"] [] := T.F__law_row.binds (ps := ["number", "size"]) fun _ _ _ _ _ _ us hl => match us, hl with | [_, _], _ => rfl
theorem B__law_ones (T : Txt P K mg A) : Binds K A.d__law_ones ["number"] [] := T.F__law_ones.binds (ps := ["number"]) fun _ _ _ _ _ _ us hl => match us, hl with | [_], _ => rfl
theorem B__law_walk (T : Txt P K mg A) : Binds K A.d__law_walk ["flow", "size", "most"] [] := T.F__law_walk.binds (ps := ["flow", "size", "most"]) fun _ _ _ _ _ _ us hl => match us, hl with | [_, _, _], _ => rfl
theorem B__law_product (T : Txt P K mg A) : Binds K A.d__law_product ["flow"] [] := T.F__law_product.binds (ps := ["flow"]) fun _ _ _ _ _ _ us hl => match us, hl with | [_], _ => rfl
theorem B__law_numbers (T : Txt P K mg A) : Binds K A.d__law_numbers ["flow"] [] := T.F__law_numbers.binds (ps := ["flow"]) fun _ _ _ _ _ _ us hl => match us, hl with | [_], _ => rfl
theorem B__law_densest (T : Txt P K mg A) : Binds K A.d__law_densest ["size", "numbers"] [] := T.F__law_densest.binds (ps := ["size", "numbers"]) fun _ _ _ _ _ _ us hl => match us, hl with | [_, _], _ => rfl
theorem B__law_divisor (T : Txt P K mg A) : Binds K A.d__law_divisor ["one", "other"] [] := T.F__law_divisor.binds (ps := ["one", "other"]) fun _ _ _ _ _ _ us hl => match us, hl with | [_, _], _ => rfl
theorem B__law_is_chance (T : Txt P K mg A) : Binds K A.d__law_is_chance ["value"] [] := T.F__law_is_chance.binds (ps := ["value"]) fun _ _ _ _ _ _ us hl => match us, hl with | [_], _ => rfl
theorem B__law_good (T : Txt P K mg A) : Binds K A.d__law_good ["chances", "size", "numbers", "most"] [] := T.F__law_good.binds (ps := ["chances", "size", "numbers", "most"]) fun _ _ _ _ _ _ us hl => match us, hl with | [_, _, _, _], _ => rfl
theorem B__law_all (T : Txt P K mg A) : Binds K A.d__law_all ["script"] [] := T.F__law_all.binds (ps := ["script"]) fun _ _ _ _ _ _ us hl => match us, hl with | [_], _ => rfl
theorem B_law (T : Txt P K mg A) : Binds K A.d_law ["script"] [] := T.F_law.binds (ps := ["script"]) fun _ _ _ _ _ _ us hl => match us, hl with | [_], _ => rfl
def kg_best_drawn_rules : List Value → List Value → List Value := fun us ws => match us, ws with | [], [x0] => [x0] | _, _ => []
def kv_best_drawn_rules : List V → List V → List V := fun us ws => match us, ws with | [], [x0] => [x0] | _, _ => []
theorem KB_best_drawn_rules (T : Txt P K mg A) : KBinds K A.d_best_drawn ["rules"] ["rules"] kg_best_drawn_rules kv_best_drawn_rules := by
  obtain ⟨oc, od, kV, doc, pm, an, cdv, ct, osl, e, _, _⟩ := T.F_best_drawn.ex
  rw [e]
  refine ⟨fun s us ws _ hl => ?_, fun {vs us zs ws} r rz => ?_⟩
  · match us, ws, hl with
    | [], [_], _ => exact .of_eq rfl
  · cases r with
    | cons _ _ => exact .nil
    | nil =>
      cases rz with
      | nil => exact .nil
      | cons r0 rz =>
        cases rz with
        | cons _ _ => exact .nil
        | nil => exact (.cons r0 .nil)
end
local macro_rules | `(tactic| walk_at "cond") => `(tactic| first
  | assumption
  | decide
  | exact c_mul_r (by first | decide | omega) (by first | decide | omega)
  | exact c_mul_l (by first | decide | omega) (by first | decide | omega)
  | exact c_div (by first | decide | omega) (by first | decide | omega)
  | exact c_pow (by first | decide | omega) (by first | decide | omega) (by first | decide | omega)
  | omega)
local macro_rules | `(tactic| walk_at "ne") => `(tactic| first
  | assumption
  | (refine Ne.symm ?_; assumption)
  | (refine' Flow.ne ?nh ?nn; (case nn => assumption); (case nh => walk_at "fl"))
  | (refine Ne.symm ?_; refine' Flow.ne ?nh ?nn; (case nn => assumption); (case nh => walk_at "fl"))
  | (refine' ne_of_none ?nh ?nn; (case nn => assumption); (case nh => walk_at "at"))
  | (refine Ne.symm ?_; refine' ne_of_none ?nh ?nn; (case nn => assumption); (case nh => walk_at "at")))
local macro_rules | `(tactic| walk_at "at") => `(tactic| first
  | assumption
  | (refine Same.up (by assumption) ?_; walk_at "at")
  | (refine Keep.up (by assumption) (by walk_at "ne") ?_; walk_at "at"))
local macro_rules | `(tactic| walk_at "fl") => `(tactic| first
  | assumption
  | (refine Flow.same (by assumption) ?_; walk_at "fl")
  | (refine Flow.keep (by assumption) (by walk_at "ne") ?_; walk_at "fl"))
local macro_rules | `(tactic| walk_at "fr") => `(tactic| first
  | assumption
  | (refine same_free (by assumption) ?_; walk_at "fr")
  | (refine Keep.free (by assumption) (by walk_at "ne") ?_; walk_at "fr"))
local macro_rules | `(tactic| walk_at "kp") => `(tactic| first
  | assumption
  | exact Keep.refl _ _
  | (refine Keep.trans ?_ (by assumption); walk_at "kp")
  | (refine Keep.trans ?_ (Keep.same (by assumption)); walk_at "kp"))
local macro_rules | `(tactic| walk_at "sm") => `(tactic| first
  | assumption
  | exact L2.Same.refl _
  | (refine L2.Same.trans ?_ (by assumption); walk_at "sm"))
local macro_rules | `(tactic| walk_at "sz") => `(tactic| first | exact Nat.le_of_ble_eq_true rfl | omega)
local macro_rules | `(tactic| walk_at "new") => `(tactic| (intro p np; generalize hE : upd _ p _ = H2; have s2 := new_same np hE; have h2 := new_at hE; clear hE))
local macro_rules | `(tactic| walk_at "newx") => `(tactic| (intro e d na nd hda; generalize hE : upd (upd _ d _) e _ = H2; have s2 := newx_same na nd hE; have h2 := newx_at hE; have h3 := newx_d hda hE; clear hE))
local macro_rules | `(tactic| walk_at "s1") => `(tactic| first
  | with_reducible refine s_seq ?_
  | with_reducible refine s_asg ?_
  | with_reducible refine s_name ?_
  | with_reducible refine s_ret ?_
  | with_reducible refine s_c ?_
  | ((with_reducible refine' s_var ?hv ?_); (case hv => rfl))
  | with_reducible refine s_op ?_
  | with_reducible refine s_un ?_
  | with_reducible refine s_ifS ?_
  | with_reducible refine s_cb ?_
  | with_reducible refine s_cons ?_
  | with_reducible refine s_nil ?_
  | with_reducible refine s_call ?_
  | with_reducible refine s_test ?_
  | with_reducible refine s_tB ?_
  | with_reducible refine s_bl ?_
  | with_reducible refine s_and ?_
  | with_reducible refine s_or ?_
  | with_reducible refine s_not ?_
  | with_reducible refine s_andV ?_
  | with_reducible refine s_orV ?_
  | with_reducible refine s_notV ?_
  | with_reducible refine s_blV ?_
  | with_reducible refine s_if ?_
  | with_reducible refine s_tup ?_
  | with_reducible refine s_lst ?_
  | with_reducible refine s_drop ?_
  | with_reducible refine s_next ?_
  | with_reducible refine s_sub ?_
  | with_reducible refine s_bm ?_
  | with_reducible refine s_callK ?_
  | with_reducible refine s_brk ?_
  | with_reducible refine s_cont ?_
  | with_reducible refine r_I0 ?_
  | with_reducible refine r_U ?_
  | with_reducible refine r_eqI ?_
  | with_reducible refine r_neI ?_
  | with_reducible refine r_isB ?_
  | with_reducible refine r_notB ?_
  | with_reducible refine i_t ?_
  | with_reducible refine i_f ?_
  | with_reducible refine i_nt ?_
  | with_reducible refine i_nf ?_
  | ((with_reducible refine' r_I ?hc ?_); (case hc => walk_at "cond"))
  | (with_reducible refine .inl ⟨_, rfl, ?_⟩)
  | (with_reducible refine ⟨_, rfl, ?_⟩)
  | ((with_reducible refine' r_ixL ?hx ?ha ?_); (case hx => walk_at "at"); (case ha => rfl))
  | ((with_reducible refine' r_ixT ?hx ?ha ?_); (case hx => walk_at "at"); (case ha => rfl))
  | ((with_reducible refine' r_setL ?hx ?ha ?_); (case hx => walk_at "at"); (case ha => rfl); intro H2 k2 h2; (try dsimp only [List.set, Int.toNat] at h2))
  | ((with_reducible refine' r_app ?hx ?hl ?_); (case hx => walk_at "at"); (case hl => first | exact Nat.lt_of_ble_eq_true rfl | omega); intro H2 k2 h2)
  | ((with_reducible refine' ty_list ?hx ?_); (case hx => walk_at "at"))
  | (refine And.intro (by (with_reducible show _ ≤ sizeLine); walk_at "sz") ?_; walk_at "new")
  | with_reducible refine s_exv ?_
  | walk_at "newx")
local macro_rules | `(tactic| walk_at "sx") => `(tactic| repeat (walk_at "s1"))
local macro_rules | `(tactic| walk_at "s2") => `(tactic| first
  | ((with_reducible refine' r_ixG ?hx ?hn ?_); (case hx => walk_at "at"); (case hn => omega))
  | ((with_reducible refine' r_ixGT ?hx ?hn ?_); (case hx => walk_at "at"); (case hn => omega))
  | (with_reducible refine ig_cons (fun hix => ?_) (fun hix => ?_))
  | ((with_reducible refine ig_nil ?_); omega)
  | ((with_reducible refine' i_T ?hc ?_); (case hc => omega))
  | ((with_reducible refine' i_F ?hc ?_); (case hc => omega))
  | (with_reducible refine i_2 (fun hc => ?_) (fun hc => ?_))
  | (with_reducible refine i_n2 (fun hc => ?_) (fun hc => ?_)))
local macro_rules | `(tactic| walk_at "go") => `(tactic| repeat' (first | walk_at "s1" | walk_at "s2"))

section
variable {P : Program} {w : World} {K : PySem.W.Frag} {mg : Str → Option Value} {base : Heap} {A : Ad}
def spTake : Sp := fun vs H Q _ => ∃ (a : Addr) (m : Int), vs = [.ref a, .int m] ∧ Flow H a ∧ 0 < m ∧ m < 1073741824 ∧ ∀ d H', 0 ≤ d → d < m → Flow H' a → Keep a H H' → Q (.int d) H'
theorem c_take {H : Hp} {Q : VK} {E : XK} {a : Addr} {m : Int} (f : Flow H a) (m0 : 0 < m) (m1 : m < 1073741824) (q : ∀ d H', 0 ≤ d → d < m → Flow H' a → Keep a H H' → Q (.int d) H') : spTake ([.ref a, .int m] ++ []) H Q E := ⟨a, m, rfl, f, m0, m1, q⟩
theorem ok_take (T : Txt P K mg A) : FnOk P w K mg base CX0 1 A.a__law_take A.d__law_take ["flow", "limit"] spTake := by
  refine T.F__law_take.ok sc__law_take (fun vs H Q E h => ?_) (fun cdv A' outer s H vs Q E hr h => ?_)
  · obtain ⟨a, m, rfl, _⟩ := h
    rfl
  · obtain ⟨a, m, rfl, ⟨c, n, b, p, hL⟩, m0, m1, k⟩ := h
    refine ⟨_, (pss_cons (ps_asg (pe_op op_add (pe_ix ix_seq (pv 0) pe_int (fun _ _ => rfl)) pe_int) (pg_sub (pv 0) pe_int set_list))
  (pss_cons (ps_if (pt_val (pe_ix ix_seq (pv 0) pe_int (fun _ _ => rfl))) (pss_cons (ps_set (i := 2) sc__law_take.nd rfl (Or.inl rfl) (pe_op op_mod (pe_callTy call_int1 (by rfl) T.n_int (by decide +kernel) (pa_cons (pe_ix ix_seq (pv 0) pe_int (fun _ _ => rfl)) pa_nil)) (pv 1)))
  (pss_cons (ps_asg (pe_op op_fdiv (pe_ix ix_seq (pv 0) pe_int (fun _ _ => rfl)) (pv 1)) (pg_sub (pv 0) pe_int set_list))
  (pss_one (ps_ret (pv 2))))) pss_nil)
  (pss_cons (ps_set (i := 3) sc__law_take.nd rfl (Or.inl rfl) (pe_op op_mod (pe_callTy call_int1 (by rfl) T.n_int (by decide +kernel) (pa_cons (pe_op op_add (pe_op op_add (pe_op op_mul (pe_ix ix_seq (pv 0) pe_int (fun _ _ => rfl)) pe_int) (pe_op op_mul (pe_ix ix_seq (pv 0) pe_int (fun _ _ => rfl)) pe_int)) (pe_op op_mul (pe_ix ix_seq (pv 0) pe_int (fun _ _ => rfl)) pe_int)) pa_nil)) pe_int))
  (pss_cons (ps_set (i := 3) sc__law_take.nd rfl (Or.inl rfl) (pe_op op_mod (pe_callTy call_int1 (by rfl) T.n_int (by decide +kernel) (pa_cons (pe_op op_add (pe_op op_add (pe_op op_mul (pv 3) pe_int) (pe_op op_mul (pe_ix ix_seq (pv 0) pe_int (fun _ _ => rfl)) pe_int)) pe_int) pa_nil)) pe_int))
  (pss_one (ps_ret (pe_op op_mod (pe_callTy call_int1 (by rfl) T.n_int (by decide +kernel) (pa_cons (pe_op op_fdiv (pv 3) pe_int) pa_nil)) (pv 1)))))))), ?_⟩
    walk_at "sx"
    refine i_b2 (fun hb => ?_) (fun hb => ?_)
    · walk_at "sx"
      exact k _ _ (Int.emod_nonneg _ (by omega)) (Int.emod_lt_of_pos _ m0) ⟨_, _, _, _, by assumption⟩ (by walk_at "kp")
    · walk_at "sx"
      exact k _ _ (Int.emod_nonneg _ (by omega)) (Int.emod_lt_of_pos _ m0) ⟨_, _, _, _, by assumption⟩ (by walk_at "kp")
def spFlow (K : PySem.W.Frag) : Sp := fun vs H Q _ => ∃ (l : Addr) (ns : List Int) (j : Nat), vs = [.ref l, .int (j : Int)] ∧ SqL K H l (ns.map V.int) ∧ ∀ p H', H p = none → Same H H' → Flow H' p → Q (.ref p) H'
theorem c_flow {H : Hp} {Q : VK} {E : XK} {l : Addr} {ns : List Int} {i : Int} (hi : 0 ≤ i) (h : SqL K H l (ns.map V.int)) (q : ∀ p H', H p = none → Same H H' → Flow H' p → Q (.ref p) H') : spFlow K ([.ref l, .int i] ++ []) H Q E :=
  ⟨l, ns, i.toNat, by rw [Int.toNat_of_nonneg hi]; rfl, h, q⟩
theorem ok_flow (T : Txt P K mg A) : FnOk P w K mg base CX0 1 A.a__law_flow A.d__law_flow ["script", "place"] (spFlow K) := by
  refine T.F__law_flow.ok sc__law_flow (fun vs H Q E h => ?_) (fun cdv A' outer s H vs Q E hr h => ?_)
  · obtain ⟨l, ns, j, rfl, _⟩ := h
    rfl
  · obtain ⟨l, ns, j, rfl, hs, k⟩ := h
    refine ⟨_, (pss_cons (ps_set (i := 2) sc__law_flow.nd rfl (Or.inl rfl) pe_int)
  (pss_cons (ps_if (pt_cmpR op_lt (pv 1) (pe_callB call_len (by rfl) T.n_len (by decide +kernel) (pa_cons (pv 0) pa_nil)) (nomark _)) (pss_one (ps_set (i := 2) sc__law_flow.nd rfl (Or.inl rfl) (pe_callB call_abs (by rfl) T.n_abs (by decide +kernel) (pa_cons (pe_callTy call_int1 (by rfl) T.n_int (by decide +kernel) (pa_cons (pe_ix ix_seq (pv 0) (pv 1) (fun _ _ => rfl)) pa_nil)) pa_nil)))) pss_nil)
  (pss_one (ps_ret (pe_lst (pa_cons (pv 2) (pa_cons pe_int (pa_cons (pe_cmpR op_ge (pv 2) (pe_op op_pow pe_int pe_int) (nomark _)) (pa_cons (pv 1) pa_nil))))))))), ?_⟩
    walk_at "sx"
    refine ⟨_, _, rfl, .inl ⟨_, hs, rfl⟩, ?_⟩
    walk_at "sx"
    refine i_2 (fun hb => ?_) (fun hb => ?_)
    · walk_at "sx"
      have hj : j < ns.length := by
        rw [List.length_map] at hb
        omega
      refine r_ixS hs (v := .int (ns[j])) (atI_nat (by rw [List.getElem?_map, List.getElem?_eq_getElem hj]; rfl)) ?_
      walk_at "sx"
      exact k _ _ (by walk_at "fr") (by walk_at "sm") ⟨_, _, _, _, by assumption⟩
    · walk_at "sx"
      exact k _ _ (by walk_at "fr") (by walk_at "sm") ⟨_, _, _, _, by assumption⟩

end
end K37

set_option Elab.async false
set_option linter.all false
set_option maxRecDepth 100000
set_option maxHeartbeats 4000000
namespace K37
open PySem L2 Sx
local macro_rules | `(tactic| walk_at "cond") => `(tactic| first
  | assumption
  | decide
  | exact c_mul_r (by first | decide | omega) (by first | decide | omega)
  | exact c_mul_l (by first | decide | omega) (by first | decide | omega)
  | exact c_div (by first | decide | omega) (by first | decide | omega)
  | exact c_pow (by first | decide | omega) (by first | decide | omega) (by first | decide | omega)
  | omega)
local macro_rules | `(tactic| walk_at "ne") => `(tactic| first
  | assumption
  | (refine Ne.symm ?_; assumption)
  | (refine' Flow.ne ?nh ?nn; (case nn => assumption); (case nh => walk_at "fl"))
  | (refine Ne.symm ?_; refine' Flow.ne ?nh ?nn; (case nn => assumption); (case nh => walk_at "fl"))
  | (refine' ne_of_none ?nh ?nn; (case nn => assumption); (case nh => walk_at "at"))
  | (refine Ne.symm ?_; refine' ne_of_none ?nh ?nn; (case nn => assumption); (case nh => walk_at "at")))
local macro_rules | `(tactic| walk_at "at") => `(tactic| first
  | assumption
  | (refine Same.up (by assumption) ?_; walk_at "at")
  | (refine Keep.up (by assumption) (by walk_at "ne") ?_; walk_at "at"))
local macro_rules | `(tactic| walk_at "fl") => `(tactic| first
  | assumption
  | (refine Flow.same (by assumption) ?_; walk_at "fl")
  | (refine Flow.keep (by assumption) (by walk_at "ne") ?_; walk_at "fl"))
local macro_rules | `(tactic| walk_at "fr") => `(tactic| first
  | assumption
  | (refine same_free (by assumption) ?_; walk_at "fr")
  | (refine Keep.free (by assumption) (by walk_at "ne") ?_; walk_at "fr"))
local macro_rules | `(tactic| walk_at "kp") => `(tactic| first
  | assumption
  | exact Keep.refl _ _
  | (refine Keep.trans ?_ (by assumption); walk_at "kp")
  | (refine Keep.trans ?_ (Keep.same (by assumption)); walk_at "kp"))
local macro_rules | `(tactic| walk_at "sm") => `(tactic| first
  | assumption
  | exact L2.Same.refl _
  | (refine L2.Same.trans ?_ (by assumption); walk_at "sm"))
local macro_rules | `(tactic| walk_at "sz") => `(tactic| first | exact Nat.le_of_ble_eq_true rfl | omega)
local macro_rules | `(tactic| walk_at "new") => `(tactic| (intro p np; generalize hE : upd _ p _ = H2; have s2 := new_same np hE; have h2 := new_at hE; clear hE))
local macro_rules | `(tactic| walk_at "newx") => `(tactic| (intro e d na nd hda; generalize hE : upd (upd _ d _) e _ = H2; have s2 := newx_same na nd hE; have h2 := newx_at hE; have h3 := newx_d hda hE; clear hE))
local macro_rules | `(tactic| walk_at "s1") => `(tactic| first
  | with_reducible refine s_seq ?_
  | with_reducible refine s_asg ?_
  | with_reducible refine s_name ?_
  | with_reducible refine s_ret ?_
  | with_reducible refine s_c ?_
  | ((with_reducible refine' s_var ?hv ?_); (case hv => rfl))
  | with_reducible refine s_op ?_
  | with_reducible refine s_un ?_
  | with_reducible refine s_ifS ?_
  | with_reducible refine s_cb ?_
  | with_reducible refine s_cons ?_
  | with_reducible refine s_nil ?_
  | with_reducible refine s_call ?_
  | with_reducible refine s_test ?_
  | with_reducible refine s_tB ?_
  | with_reducible refine s_bl ?_
  | with_reducible refine s_and ?_
  | with_reducible refine s_or ?_
  | with_reducible refine s_not ?_
  | with_reducible refine s_andV ?_
  | with_reducible refine s_orV ?_
  | with_reducible refine s_notV ?_
  | with_reducible refine s_blV ?_
  | with_reducible refine s_if ?_
  | with_reducible refine s_tup ?_
  | with_reducible refine s_lst ?_
  | with_reducible refine s_drop ?_
  | with_reducible refine s_next ?_
  | with_reducible refine s_sub ?_
  | with_reducible refine s_bm ?_
  | with_reducible refine s_callK ?_
  | with_reducible refine s_brk ?_
  | with_reducible refine s_cont ?_
  | with_reducible refine r_I0 ?_
  | with_reducible refine r_U ?_
  | with_reducible refine r_eqI ?_
  | with_reducible refine r_neI ?_
  | with_reducible refine r_isB ?_
  | with_reducible refine r_notB ?_
  | with_reducible refine i_t ?_
  | with_reducible refine i_f ?_
  | with_reducible refine i_nt ?_
  | with_reducible refine i_nf ?_
  | ((with_reducible refine' r_I ?hc ?_); (case hc => walk_at "cond"))
  | (with_reducible refine .inl ⟨_, rfl, ?_⟩)
  | (with_reducible refine ⟨_, rfl, ?_⟩)
  | ((with_reducible refine' r_ixL ?hx ?ha ?_); (case hx => walk_at "at"); (case ha => rfl))
  | ((with_reducible refine' r_ixT ?hx ?ha ?_); (case hx => walk_at "at"); (case ha => rfl))
  | ((with_reducible refine' r_setL ?hx ?ha ?_); (case hx => walk_at "at"); (case ha => rfl); intro H2 k2 h2; (try dsimp only [List.set, Int.toNat] at h2))
  | ((with_reducible refine' r_app ?hx ?hl ?_); (case hx => walk_at "at"); (case hl => first | exact Nat.lt_of_ble_eq_true rfl | omega); intro H2 k2 h2)
  | ((with_reducible refine' ty_list ?hx ?_); (case hx => walk_at "at"))
  | (refine And.intro (by (with_reducible show _ ≤ sizeLine); walk_at "sz") ?_; walk_at "new")
  | with_reducible refine s_exv ?_
  | walk_at "newx")
local macro_rules | `(tactic| walk_at "sx") => `(tactic| repeat (walk_at "s1"))
local macro_rules | `(tactic| walk_at "s2") => `(tactic| first
  | ((with_reducible refine' r_ixG ?hx ?hn ?_); (case hx => walk_at "at"); (case hn => omega))
  | ((with_reducible refine' r_ixGT ?hx ?hn ?_); (case hx => walk_at "at"); (case hn => omega))
  | (with_reducible refine ig_cons (fun hix => ?_) (fun hix => ?_))
  | ((with_reducible refine ig_nil ?_); omega)
  | ((with_reducible refine' i_T ?hc ?_); (case hc => omega))
  | ((with_reducible refine' i_F ?hc ?_); (case hc => omega))
  | (with_reducible refine i_2 (fun hc => ?_) (fun hc => ?_))
  | (with_reducible refine i_n2 (fun hc => ?_) (fun hc => ?_)))
local macro_rules | `(tactic| walk_at "go") => `(tactic| repeat' (first | walk_at "s1" | walk_at "s2"))

local macro_rules | `(tactic| walk_at "s1") => `(tactic| first
  | with_reducible refine s_chain ?_
  | with_reducible refine s_fldS ?_
  | with_reducible refine s_fld ?_
  | with_reducible refine s_dIn ?_
  | with_reducible refine s_dNotIn ?_
  | with_reducible refine s_sl ?_
  | with_reducible refine s_noPart ?_
  | with_reducible refine s_part ?_
  | with_reducible refine s_meth ?_
  | with_reducible refine s_make ?_)

abbrev nv (m : Nat) : V := .int m
theorem s_get {σ : L2.St} {H : Hp} {Q : VK} {td ty : TE} (h : td σ H fun x H1 => ty σ H1 fun y H2 => ∃ a v, x = .ref a ∧ DGet H2 a y (some v) ∧ Q v H2) : tDGet td ty σ H Q := h
theorem keep_new {a D : Addr} {H H8 H9 : Hp} (k : Keep a H H8) (n : H D = none) (k9 : Keep D H8 H9) : Keep a H H9 := fun b o hb h => k9 b o (ne_of_none h n) (k b o hb h)
end K37

set_option Elab.async false
set_option linter.all false
set_option maxRecDepth 100000
set_option maxHeartbeats 1000000
/-! how rules were come to; what is above the limit -/
namespace Fl
/-- a rule and the arc it was come to by, none where one starts -/
abbrev Ent := Nat × Option Nat
def keys (cm : List Ent) : List Nat := cm.map (·.1)
def at? (cm : List Ent) (r : Nat) : Option (Option Nat) := (cm.find? fun p => p.1 == r).map (·.2)
section
variable {m N : Nat} {i j : Nat → Nat} {R : Nat → Int}
/-- each rule was come to by an arc with room from a rule ahead of it -/
structure Came (m N : Nat) (i j : Nat → Nat) (R : Nat → Int) (cm : List Ent) : Prop where
  nd : (keys cm).Nodup
  lt : ∀ p ∈ cm, p.1 < N
  arc : ∀ (k r a : Nat), cm[k]? = some (r, some a) → a < 2 * m ∧ 0 < R a ∧ dst i j a = r ∧ ∃ l, l < k ∧ ∃ o, cm[l]? = some (src i j a, o)
theorem Came.uniq {cm : List Ent} (h : Came m N i j R cm) {k l r : Nat} {o o' : Option Nat} (hk : cm[k]? = some (r, o)) (hl : cm[l]? = some (r, o')) : k = l := by
  have a1 : (keys cm)[k]? = some r := by
    unfold keys
    rw [List.getElem?_map, hk]
    rfl
  have a2 : (keys cm)[l]? = some r := by
    unfold keys
    rw [List.getElem?_map, hl]
    rfl
  have lk := (List.getElem?_eq_some_iff.mp a1).1
  exact (List.getElem?_inj lk h.nd).mp (a1.trans a2.symm)
theorem Came.snoc {cm : List Ent} (h : Came m N i j R cm) {r a : Nat} (hr : r < N) (new : r ∉ keys cm) (ha : a < 2 * m) (ra : 0 < R a) (d : dst i j a = r) (s : src i j a ∈ keys cm) : Came m N i j R (cm ++ [(r, some a)]) := by
  refine ⟨?_, ?_, ?_⟩
  · unfold keys
    rw [List.map_append]
    refine List.nodup_append.mpr ⟨h.nd, by simp, ?_⟩
    rintro x hx y hy rfl
    rw [List.mem_singleton.mp hy] at hx
    exact new hx
  · intro p hp
    rcases List.mem_append.mp hp with z | z
    · exact h.lt p z
    · rw [List.mem_singleton.mp z]
      exact hr
  · intro k q b hk
    rcases Nat.lt_or_ge k cm.length with l | l
    · rw [List.getElem?_append_left l] at hk
      obtain ⟨h1, h2, h3, l', ll, o, ho⟩ := h.arc k q b hk
      exact ⟨h1, h2, h3, l', ll, o, by rw [List.getElem?_append_left (by omega)]; exact ho⟩
    · rw [List.getElem?_append_right l] at hk
      have k0 : k - cm.length = 0 := by
        rcases Nat.eq_zero_or_pos (k - cm.length) with z | z
        · exact z
        · rw [List.getElem?_eq_none (by simp; omega)] at hk
          cases hk
      rw [k0] at hk
      cases hk
      obtain ⟨p, hp, e⟩ := List.mem_map.mp s
      obtain ⟨l2, hl2, el⟩ := List.mem_iff_getElem.mp hp
      refine ⟨ha, ra, d, l2, by omega, p.2, ?_⟩
      rw [List.getElem?_append_left hl2, List.getElem?_eq_getElem hl2, el, ← e]
/-- how much is above the limit -/
def over (N : Nat) (L : Nat → Int) (c : Int) : Nat := (sumN N fun r => if c < L r then L r - c else 0).toNat
theorem sumN_nonneg {f : Nat → Int} : ∀ {m : Nat}, (∀ k, k < m → 0 ≤ f k) → 0 ≤ sumN m f
  | 0, _ => Int.le_refl _
  | m + 1, h => by
    rw [sumN_succ]
    have := sumN_nonneg (m := m) fun k hk => h k (by omega)
    have := h m (by omega)
    omega
theorem over_less {L L' : Nat → Int} {c d : Int} {s q : Nat} (hs : s < N) (hq : q < N) (d0 : 0 < d) (h1 : d ≤ L s - c) (h2 : d ≤ c - L q) (e : ∀ r, r < N → L' r = L r - (if s = r then d else 0) + (if q = r then d else 0)) : over N L' c < over N L c := by
  have sq : s ≠ q := fun z => by
    subst z
    omega
  have key : sumN N (fun r => if c < L' r then L' r - c else 0) + d = sumN N (fun r => if c < L r then L r - c else 0) := by
    have a := sumN_one (m := N) (f := fun r => if c < L r then L r - c else 0) (g := fun r => if c < L' r then L' r - c else 0) (k0 := s) hs fun r hr ne => by
      have er := e r hr
      rw [if_neg (fun z => ne z.symm)] at er
      show (if c < L' r then L' r - c else 0) = if c < L r then L r - c else 0
      by_cases z : q = r
      · subst z
        rw [if_pos rfl] at er
        rw [if_neg (by omega), if_neg (by omega)]
      · rw [if_neg z] at er
        rw [show L' r = L r by omega]
    have es := e s hs
    rw [if_pos rfl, if_neg (fun z => sq z.symm)] at es
    rw [a]
    show sumN N _ + ((if c < L' s then L' s - c else 0) - (if c < L s then L s - c else 0)) + d = _
    by_cases z : c < L' s
    · rw [if_pos z, if_pos (by omega)]
      omega
    · rw [if_neg z, if_pos (by omega)]
      omega
  have p1 : 0 ≤ sumN N (fun r => if c < L' r then L' r - c else 0) := sumN_nonneg fun k _ => by
    show 0 ≤ if c < L' k then L' k - c else 0
    split <;> omega
  unfold over
  omega
theorem set_fn {α : Type} (n k : Nat) (f : Nat → α) (v : α) (h : k < n) : ((List.range n).map f).set k v = (List.range n).map fun a => if a = k then v else f a := by
  apply List.ext_getElem?
  intro l
  rw [List.getElem?_set]
  rcases Nat.lt_or_ge l n with z | z
  · rw [List.length_map, List.length_range]
    by_cases e : k = l
    · subst e
      rw [if_pos rfl, if_pos h, List.getElem?_map, List.getElem?_range z]
      simp
    · rw [if_neg e, List.getElem?_map, List.getElem?_map, List.getElem?_range z]
      simp [show ¬ l = k from fun q => e q.symm]
  · rw [List.getElem?_eq_none (l := List.map (fun a => if a = k then v else f a) _) (by simp; exact z)]
    rw [if_neg (by omega), List.getElem?_eq_none (by simp; exact z)]
end
theorem xor_one {x : Nat} : x ^^^ 1 = opp x := by
  unfold opp
  rcases arc_cases x with ⟨k, rfl⟩ | ⟨k, rfl⟩
  · rw [if_pos (by omega)]
    apply Nat.eq_of_testBit_eq
    intro b
    rw [Nat.testBit_xor]
    cases b with
    | zero => simp [Nat.testBit_zero]
    | succ b => 
      rw [Nat.testBit_succ, Nat.testBit_succ, Nat.testBit_succ, show (2 * k + 1) / 2 = k by omega, show 2 * k / 2 = k by omega]
      simp
  · rw [if_neg (by omega)]
    apply Nat.eq_of_testBit_eq
    intro b
    rw [Nat.testBit_xor]
    cases b with
    | zero => simp [Nat.testBit_zero]
    | succ b =>
      rw [Nat.testBit_succ, Nat.testBit_succ, Nat.testBit_succ, show (2 * k + 1) / 2 = k by omega, show (2 * k + 1 - 1) / 2 = k by omega]
      simp
end Fl

set_option Elab.async false
set_option linter.all false
namespace Fl
/-- a way of steps -/
inductive Rt {α : Type} (r : α → α → Prop) : α → α → Prop
  | refl (a : α) : Rt r a a
  | tail {a b c : α} : Rt r a b → r b c → Rt r a c
theorem Rt.head {α : Type} {r : α → α → Prop} {a b c : α} (h : r a b) (t : Rt r b c) : Rt r a c := by
  induction t with
  | refl => exact .tail (.refl _) h
  | tail _ s ih => exact .tail ih s
theorem Rt.cases_head {α : Type} {r : α → α → Prop} {a c : α} (t : Rt r a c) : a = c ∨ ∃ b, r a b ∧ Rt r b c := by
  induction t with
  | refl => exact .inl rfl
  | tail _ s ih =>
    rcases ih with rfl | ⟨b, h, t⟩
    · exact .inr ⟨_, s, .refl _⟩
    · exact .inr ⟨b, h, .tail t s⟩
theorem Rt.conf {α : Type} {r : α → α → Prop} (det : ∀ a b c, r a b → r a c → b = c) {s a b : α} (h : Rt r s a) (g : Rt r s b) : Rt r a b ∨ Rt r b a := by
  induction g with
  | refl => exact .inr h
  | @tail b c _ e ih =>
    rcases ih with t | t
    · exact .inl (.tail t e)
    · rcases t.cases_head with rfl | ⟨x, hx, tx⟩
      · exact .inl (.tail (.refl _) e)
      · rw [det _ _ _ e hx]
        exact .inr tx
theorem Rt.unique {α : Type} {r : α → α → Prop} (det : ∀ a b c, r a b → r a c → b = c) {s a b : α} (h : Rt r s a) (g : Rt r s b) (ea : ∀ c, ¬ r a c) (eb : ∀ c, ¬ r b c) : a = b := by
  rcases h.conf det g with t | t
  · rcases t.cases_head with z | ⟨x, hx, _⟩
    · exact z
    · exact absurd hx (ea x)
  · rcases t.cases_head with z | ⟨x, hx, _⟩
    · exact z.symm
    · exact absurd hx (eb x)
/-- a search as it stands -/
structure SS where
  cm : List Ent
  lv : List Nat
  t : Nat
  u : Nat
  re : List Nat
  fin : Option Nat
def arcsOf (m : Nat) (i j : Nat → Nat) (r : Nat) : List Nat := (List.range (2 * m)).filter fun a => src i j a == r
def sst (m : Nat) (i j : Nat → Nat) (R L : Nat → Int) (lim : Int) (s : SS) : Option SS :=
  match s.fin with
  | some _ => none
  | none =>
    match s.lv[s.t]? with
    | none => if s.lv = [] then none else some ⟨s.cm, s.re, 0, 0, [], none⟩
    | some r =>
      match (arcsOf m i j r)[s.u]? with
      | none => some ⟨s.cm, s.lv, s.t + 1, 0, s.re, none⟩
      | some z =>
        if 0 < R z ∧ dst i j z ∉ keys s.cm then
          if L (dst i j z) < lim then some ⟨s.cm ++ [(dst i j z, some z)], [], 0, 0, [], some (dst i j z)⟩
          else some ⟨s.cm ++ [(dst i j z, some z)], s.lv, s.t, s.u + 1, s.re ++ [dst i j z], none⟩
        else some ⟨s.cm, s.lv, s.t, s.u + 1, s.re, none⟩
def begs (L : Nat → Int) (lim : Int) (N : Nat) : List Ent := ((List.range N).filter fun r => decide (lim < L r)).map fun r => (r, none)
/-- where a search may stand -/
def Sr (m N : Nat) (i j : Nat → Nat) (R L : Nat → Int) (lim : Int) (s : SS) : Prop := Rt (fun a b => sst m i j R L lim a = some b) ⟨begs L lim N, keys (begs L lim N), 0, 0, [], none⟩ s
/-- what a search comes to -/
def SRes (m N : Nat) (i j : Nat → Nat) (R L : Nat → Int) (lim : Int) (cm : List Ent) (o : Option Nat) : Prop := Sr m N i j R L lim ⟨cm, [], 0, 0, [], o⟩
section
variable {m N : Nat} {i j : Nat → Nat} {R L : Nat → Int} {lim : Int}
theorem Sr.first : Sr m N i j R L lim ⟨begs L lim N, keys (begs L lim N), 0, 0, [], none⟩ := .refl _
theorem SRes.uniq {cm cm' : List Ent} {o o' : Option Nat} (h : SRes m N i j R L lim cm o) (g : SRes m N i j R L lim cm' o') : cm = cm' ∧ o = o' := by
  have ends : ∀ (cm : List Ent) (o : Option Nat) (c : SS), ¬ sst m i j R L lim ⟨cm, [], 0, 0, [], o⟩ = some c := fun cm o c e => by
    cases o <;> simp [sst] at e
  have z := Rt.unique (fun a b c h1 h2 => Option.some.inj (h1.symm.trans h2)) h g (ends _ _) (ends _ _)
  exact ⟨congrArg SS.cm z, congrArg SS.fin z⟩
/-- the level is through -/
theorem Sr.next {cm : List Ent} {lv re : List Nat} (h : Sr m N i j R L lim ⟨cm, lv, lv.length, 0, re, none⟩) (ne : lv ≠ []) : Sr m N i j R L lim ⟨cm, re, 0, 0, [], none⟩ := by
  refine Rt.tail h ?_
  show sst m i j R L lim _ = _
  unfold sst
  dsimp only
  rw [List.getElem?_eq_none (Nat.le_refl _)]
  dsimp only
  rw [if_neg ne]
/-- the rule is through -/
theorem Sr.rule {cm : List Ent} {lv re : List Nat} {t r u : Nat} (h : Sr m N i j R L lim ⟨cm, lv, t, u, re, none⟩) (hr : lv[t]? = some r) (hu : u = (arcsOf m i j r).length) : Sr m N i j R L lim ⟨cm, lv, t + 1, 0, re, none⟩ := by
  refine Rt.tail h ?_
  show sst m i j R L lim _ = _
  unfold sst
  dsimp only
  rw [hr]
  dsimp only
  rw [hu, List.getElem?_eq_none (Nat.le_refl _)]
theorem Sr.skip {cm : List Ent} {lv re : List Nat} {t r u z : Nat} (h : Sr m N i j R L lim ⟨cm, lv, t, u, re, none⟩) (hr : lv[t]? = some r) (hz : (arcsOf m i j r)[u]? = some z) (no : ¬ (0 < R z ∧ dst i j z ∉ keys cm)) : Sr m N i j R L lim ⟨cm, lv, t, u + 1, re, none⟩ := by
  refine Rt.tail h ?_
  show sst m i j R L lim _ = _
  unfold sst
  dsimp only
  rw [hr]
  dsimp only
  rw [hz]
  dsimp only
  rw [if_neg no]
theorem Sr.more {cm : List Ent} {lv re : List Nat} {t r u z : Nat} (h : Sr m N i j R L lim ⟨cm, lv, t, u, re, none⟩) (hr : lv[t]? = some r) (hz : (arcsOf m i j r)[u]? = some z) (yes : 0 < R z ∧ dst i j z ∉ keys cm) (no : ¬ L (dst i j z) < lim) : Sr m N i j R L lim ⟨cm ++ [(dst i j z, some z)], lv, t, u + 1, re ++ [dst i j z], none⟩ := by
  refine Rt.tail h ?_
  show sst m i j R L lim _ = _
  unfold sst
  dsimp only
  rw [hr]
  dsimp only
  rw [hz]
  dsimp only
  rw [if_pos yes, if_neg no]
theorem Sr.found {cm : List Ent} {lv re : List Nat} {t r u z : Nat} (h : Sr m N i j R L lim ⟨cm, lv, t, u, re, none⟩) (hr : lv[t]? = some r) (hz : (arcsOf m i j r)[u]? = some z) (yes : 0 < R z ∧ dst i j z ∉ keys cm) (lo : L (dst i j z) < lim) : SRes m N i j R L lim (cm ++ [(dst i j z, some z)]) (some (dst i j z)) := by
  refine Rt.tail h ?_
  show sst m i j R L lim _ = _
  unfold sst
  dsimp only
  rw [hr]
  dsimp only
  rw [hz]
  dsimp only
  rw [if_pos yes, if_pos lo]
end
/-- a way back, as it stands: the rule, and the arcs so far -/
def wst (i j : Nat → Nat) (cm : List Ent) (s : Nat × List Nat) : Option (Nat × List Nat) :=
  match at? cm s.1 with
  | some (some a) => some (src i j a, s.2 ++ [a])
  | _ => none
def Wy (i j : Nat → Nat) (cm : List Ent) (q : Nat) (cur : Nat) (ws : List Nat) : Prop := Rt (fun a b => wst i j cm a = some b) (q, []) (cur, ws)
theorem Wy.first {i j : Nat → Nat} {cm : List Ent} {q : Nat} : Wy i j cm q q [] := .refl _
theorem at_of : ∀ {cm : List Ent} {k r : Nat} {o : Option Nat}, (keys cm).Nodup → cm[k]? = some (r, o) → at? cm r = some o
  | [], _, _, _, _, h => by simp at h
  | p :: cm, 0, r, o, _, h => by
    rw [List.getElem?_cons_zero] at h
    cases h
    simp [at?]
  | p :: cm, k + 1, r, o, nd, h => by
    rw [List.getElem?_cons_succ] at h
    obtain ⟨h1, h2⟩ := List.nodup_cons.mp (show (p.1 :: keys cm).Nodup from nd)
    have ne : p.1 ≠ r := fun e => h1 (by
      rw [e]
      exact List.mem_map.mpr ⟨_, List.mem_of_getElem? h, rfl⟩)
    have z := at_of h2 h
    unfold at? at z ⊢
    rw [List.find?_cons, show (p.1 == r) = false by simp [ne]]
    exact z
theorem Wy.back {i j : Nat → Nat} {cm : List Ent} {q cur a k : Nat} {ws : List Nat} (h : Wy i j cm q cur ws) (nd : (keys cm).Nodup) (hk : cm[k]? = some (cur, some a)) : Wy i j cm q (src i j a) (ws ++ [a]) := by
  refine Rt.tail h ?_
  show wst i j cm _ = _
  unfold wst
  rw [at_of nd hk]
/-- what a shift comes to -/
def Shf (i j : Nat → Nat) (R L : Nat → Int) (lim : Int) (cm : List Ent) (q : Nat) (R' L' : Nat → Int) : Prop :=
  ∃ (cur : Nat) (ws : List Nat) (d : Int), Wy i j cm q cur ws ∧ at? cm cur = some none ∧ (d ∈ (L cur - lim) :: (lim - L q) :: ws.map R) ∧ (∀ y ∈ (L cur - lim) :: (lim - L q) :: ws.map R, d ≤ y) ∧
    R' = mvs R ws d ∧ L' = fun r => L r - (if cur = r then d else 0) + (if q = r then d else 0)
theorem Shf.uniq {i j : Nat → Nat} {R L : Nat → Int} {lim : Int} {cm : List Ent} {q : Nat} {R1 L1 R2 L2 : Nat → Int} (h : Shf i j R L lim cm q R1 L1) (g : Shf i j R L lim cm q R2 L2) : R1 = R2 ∧ L1 = L2 := by
  obtain ⟨c1, w1, d1, y1, n1, m1, l1, rfl, rfl⟩ := h
  obtain ⟨c2, w2, d2, y2, n2, m2, l2, rfl, rfl⟩ := g
  have ends : ∀ (c : Nat) (w : List Nat), at? cm c = some none → ∀ x, ¬ wst i j cm (c, w) = some x := fun c w n x e => by
    unfold wst at e
    rw [n] at e
    cases e
  have z := Rt.unique (fun a b c h1 h2 => Option.some.inj (h1.symm.trans h2)) y1 y2 (ends _ _ n1) (ends _ _ n2)
  have ec : c1 = c2 := congrArg Prod.fst z
  have ew : w1 = w2 := congrArg Prod.snd z
  subst ec
  subst ew
  have ed : d1 = d2 := Int.le_antisymm (l1 _ m2) (l2 _ m1)
  subst ed
  exact ⟨rfl, rfl⟩
/-- a shift after a search -/
def One (m N : Nat) (i j : Nat → Nat) (lim : Int) (s s' : (Nat → Int) × (Nat → Int)) : Prop := ∃ cm q, SRes m N i j s.1 s.2 lim cm (some q) ∧ Shf i j s.1 s.2 lim cm q s'.1 s'.2
theorem One.det {m N : Nat} {i j : Nat → Nat} {lim : Int} (a b c : (Nat → Int) × (Nat → Int)) (h : One m N i j lim a b) (g : One m N i j lim a c) : b = c := by
  obtain ⟨m1, q1, s1, f1⟩ := h
  obtain ⟨m2, q2, s2, f2⟩ := g
  obtain ⟨rfl, e⟩ := s1.uniq s2
  cases e
  obtain ⟨z1, z2⟩ := f1.uniq f2
  exact Prod.ext z1 z2
/-- where a settling may stand -/
def Stl (m N : Nat) (i j : Nat → Nat) (R L : Nat → Int) (lim : Int) (R' L' : Nat → Int) : Prop := Rt (One m N i j lim) (R, L) (R', L')
/-- what a settling comes to -/
def Set' (m N : Nat) (i j : Nat → Nat) (R L : Nat → Int) (lim : Int) (R' L' : Nat → Int) (ks : List Nat) : Prop := Stl m N i j R L lim R' L' ∧ ∃ cm, SRes m N i j R' L' lim cm none ∧ ks.Perm (keys cm) ∧ ks.Pairwise (· < ·)
theorem asc_eq : ∀ {l s : List Nat}, l.Pairwise (· < ·) → s.Pairwise (· < ·) → (∀ x, x ∈ l ↔ x ∈ s) → l = s
  | [], [], _, _, _ => rfl
  | [], b :: s, _, _, h => absurd ((h b).mpr List.mem_cons_self) List.not_mem_nil
  | a :: l, [], _, _, h => absurd ((h a).mp List.mem_cons_self) List.not_mem_nil
  | a :: l, b :: s, hl, hs, h => by
    obtain ⟨l1, l2⟩ := List.pairwise_cons.mp hl
    obtain ⟨s1, s2⟩ := List.pairwise_cons.mp hs
    have e : a = b := by
      have z1 := (h a).mp List.mem_cons_self
      have z2 := (h b).mpr List.mem_cons_self
      rcases List.mem_cons.mp z1 with c | c
      · exact c
      · rcases List.mem_cons.mp z2 with d | d
        · exact d.symm
        · have := s1 _ c
          have := l1 _ d
          omega
    subst e
    rw [asc_eq l2 s2 fun x => ?_]
    constructor
    · intro hx
      rcases List.mem_cons.mp ((h x).mp (List.mem_cons_of_mem _ hx)) with c | c
      · have := l1 _ hx
        omega
      · exact c
    · intro hx
      rcases List.mem_cons.mp ((h x).mpr (List.mem_cons_of_mem _ hx)) with c | c
      · have := s1 _ hx
        omega
      · exact c
theorem Set'.uniq {m N : Nat} {i j : Nat → Nat} {R L : Nat → Int} {lim : Int} {R1 L1 R2 L2 : Nat → Int} {k1 k2 : List Nat} (h : Set' m N i j R L lim R1 L1 k1) (g : Set' m N i j R L lim R2 L2 k2) : R1 = R2 ∧ L1 = L2 ∧ k1 = k2 := by
  obtain ⟨t1, c1, r1, p1, a1⟩ := h
  obtain ⟨t2, c2, r2, p2, a2⟩ := g
  have ends : ∀ (R L : Nat → Int) (cm : List Ent), SRes m N i j R L lim cm none → ∀ x, ¬ One m N i j lim (R, L) x := fun R L cm s x o => by
    obtain ⟨cm', q, s', _⟩ := o
    have := (s.uniq s').2
    cases this
  have z := t1.unique One.det t2 (ends _ _ _ r1) (ends _ _ _ r2)
  have e1 : R1 = R2 := congrArg Prod.fst z
  have e2 : L1 = L2 := congrArg Prod.snd z
  subst e1
  subst e2
  obtain ⟨rfl, _⟩ := r1.uniq r2
  exact ⟨rfl, rfl, asc_eq a1 a2 fun x => p1.mem_iff.trans p2.mem_iff.symm⟩
/-- all on the first rule -/
def Rf (W : Nat → Int) (a : Nat) : Int := if a % 2 = 0 then W (a / 2) else 0
/-- a look at a part: its density, and what settling comes to -/
def Den (m N : Nat) (i j : Nat → Nat) (W : Nat → Int) (ks : List Nat) (a b : Nat) (R L : Nat → Int) (ks2 : List Nat) : Prop :=
  a = (inside m i j W ks).toNat / Nat.gcd (inside m i j W ks).toNat ks.length ∧ b = ks.length / Nat.gcd (inside m i j W ks).toNat ks.length ∧
    Set' m N i j (Rf fun k => (b : Int) * W k) (fun r => carry m i j (Rf fun k => (b : Int) * W k) r) a R L ks2
theorem Den.uniq {m N : Nat} {i j : Nat → Nat} {W : Nat → Int} {ks : List Nat} {a1 b1 a2 b2 : Nat} {R1 L1 R2 L2 : Nat → Int} {k1 k2 : List Nat} (h : Den m N i j W ks a1 b1 R1 L1 k1) (g : Den m N i j W ks a2 b2 R2 L2 k2) : a1 = a2 ∧ b1 = b2 ∧ R1 = R2 ∧ k1 = k2 := by
  obtain ⟨ea, eb, s⟩ := h
  obtain ⟨ea', eb', s'⟩ := g
  have x : a1 = a2 := ea.trans ea'.symm
  have y : b1 = b2 := eb.trans eb'.symm
  subst x
  subst y
  obtain ⟨z1, _, z3⟩ := s.uniq s'
  exact ⟨rfl, rfl, z1, z3⟩
def Dstep (m N : Nat) (i j : Nat → Nat) (W : Nat → Int) (ks ks2 : List Nat) : Prop := ks2 ≠ [] ∧ ∃ a b R L, Den m N i j W ks a b R L ks2
/-- where the search of the densest may stand -/
def Dway (m N : Nat) (i j : Nat → Nat) (W : Nat → Int) (ks : List Nat) : Prop := Rt (Dstep m N i j W) (List.range N) ks
/-- what the search of the densest comes to -/
def Dfin (m N : Nat) (i j : Nat → Nat) (W : Nat → Int) (ks : List Nat) (a b : Nat) (R : Nat → Int) : Prop := Dway m N i j W ks ∧ ∃ L, Den m N i j W ks a b R L []
theorem Dway.first {m N : Nat} {i j : Nat → Nat} {W : Nat → Int} : Dway m N i j W (List.range N) := .refl _
theorem Dfin.uniq {m N : Nat} {i j : Nat → Nat} {W : Nat → Int} {k1 k2 : List Nat} {a1 b1 a2 b2 : Nat} {R1 R2 : Nat → Int} (h : Dfin m N i j W k1 a1 b1 R1) (g : Dfin m N i j W k2 a2 b2 R2) : k1 = k2 ∧ a1 = a2 ∧ b1 = b2 ∧ R1 = R2 := by
  obtain ⟨t1, L1, d1⟩ := h
  obtain ⟨t2, L2, d2⟩ := g
  have ends : ∀ (k : List Nat) (a b : Nat) (R L : Nat → Int), Den m N i j W k a b R L [] → ∀ x, ¬ Dstep m N i j W k x := fun k a b R L d x s => by
    obtain ⟨ne, a', b', R', L', d'⟩ := s
    exact ne (d.uniq d').2.2.2.symm
  have det : ∀ a b c, Dstep m N i j W a b → Dstep m N i j W a c → b = c := fun a b c h g => by
    obtain ⟨_, _, _, _, _, d⟩ := h
    obtain ⟨_, _, _, _, _, d'⟩ := g
    exact (d.uniq d').2.2.2
  have z := t1.unique det t2 (ends _ _ _ _ _ d1) (ends _ _ _ _ _ d2)
  subst z
  obtain ⟨x, y, w, _⟩ := d1.uniq d2
  exact ⟨rfl, x, y, w⟩
end Fl

set_option Elab.async false
set_option linter.all false
set_option maxRecDepth 100000
set_option maxHeartbeats 4000000
namespace K37
open PySem L2 Sx Fl
local macro_rules | `(tactic| walk_at "cond") => `(tactic| first
  | assumption
  | decide
  | exact c_mul_r (by first | decide | omega) (by first | decide | omega)
  | exact c_mul_l (by first | decide | omega) (by first | decide | omega)
  | exact c_div (by first | decide | omega) (by first | decide | omega)
  | exact c_pow (by first | decide | omega) (by first | decide | omega) (by first | decide | omega)
  | omega)
local macro_rules | `(tactic| walk_at "ne") => `(tactic| first
  | assumption
  | (refine Ne.symm ?_; assumption)
  | (refine' Flow.ne ?nh ?nn; (case nn => assumption); (case nh => walk_at "fl"))
  | (refine Ne.symm ?_; refine' Flow.ne ?nh ?nn; (case nn => assumption); (case nh => walk_at "fl"))
  | (refine' ne_of_none ?nh ?nn; (case nn => assumption); (case nh => walk_at "at"))
  | (refine Ne.symm ?_; refine' ne_of_none ?nh ?nn; (case nn => assumption); (case nh => walk_at "at")))
local macro_rules | `(tactic| walk_at "at") => `(tactic| first
  | assumption
  | (refine Same.up (by assumption) ?_; walk_at "at")
  | (refine Keep.up (by assumption) (by walk_at "ne") ?_; walk_at "at"))
local macro_rules | `(tactic| walk_at "fl") => `(tactic| first
  | assumption
  | (refine Flow.same (by assumption) ?_; walk_at "fl")
  | (refine Flow.keep (by assumption) (by walk_at "ne") ?_; walk_at "fl"))
local macro_rules | `(tactic| walk_at "fr") => `(tactic| first
  | assumption
  | (refine same_free (by assumption) ?_; walk_at "fr")
  | (refine Keep.free (by assumption) (by walk_at "ne") ?_; walk_at "fr"))
local macro_rules | `(tactic| walk_at "kp") => `(tactic| first
  | assumption
  | exact Keep.refl _ _
  | (refine Keep.trans ?_ (by assumption); walk_at "kp")
  | (refine Keep.trans ?_ (Keep.same (by assumption)); walk_at "kp"))
local macro_rules | `(tactic| walk_at "sm") => `(tactic| first
  | assumption
  | exact L2.Same.refl _
  | (refine L2.Same.trans ?_ (by assumption); walk_at "sm"))
local macro_rules | `(tactic| walk_at "sz") => `(tactic| first | exact Nat.le_of_ble_eq_true rfl | omega)
local macro_rules | `(tactic| walk_at "new") => `(tactic| (intro p np; generalize hE : upd _ p _ = H2; have s2 := new_same np hE; have h2 := new_at hE; clear hE))
local macro_rules | `(tactic| walk_at "newx") => `(tactic| (intro e d na nd hda; generalize hE : upd (upd _ d _) e _ = H2; have s2 := newx_same na nd hE; have h2 := newx_at hE; have h3 := newx_d hda hE; clear hE))
local macro_rules | `(tactic| walk_at "s1") => `(tactic| first
  | with_reducible refine s_seq ?_
  | with_reducible refine s_asg ?_
  | with_reducible refine s_name ?_
  | with_reducible refine s_ret ?_
  | with_reducible refine s_c ?_
  | ((with_reducible refine' s_var ?hv ?_); (case hv => rfl))
  | with_reducible refine s_op ?_
  | with_reducible refine s_un ?_
  | with_reducible refine s_ifS ?_
  | with_reducible refine s_cb ?_
  | with_reducible refine s_cons ?_
  | with_reducible refine s_nil ?_
  | with_reducible refine s_call ?_
  | with_reducible refine s_test ?_
  | with_reducible refine s_tB ?_
  | with_reducible refine s_bl ?_
  | with_reducible refine s_and ?_
  | with_reducible refine s_or ?_
  | with_reducible refine s_not ?_
  | with_reducible refine s_andV ?_
  | with_reducible refine s_orV ?_
  | with_reducible refine s_notV ?_
  | with_reducible refine s_blV ?_
  | with_reducible refine s_if ?_
  | with_reducible refine s_tup ?_
  | with_reducible refine s_lst ?_
  | with_reducible refine s_drop ?_
  | with_reducible refine s_next ?_
  | with_reducible refine s_sub ?_
  | with_reducible refine s_bm ?_
  | with_reducible refine s_callK ?_
  | with_reducible refine s_brk ?_
  | with_reducible refine s_cont ?_
  | with_reducible refine r_I0 ?_
  | with_reducible refine r_U ?_
  | with_reducible refine r_eqI ?_
  | with_reducible refine r_neI ?_
  | with_reducible refine r_isB ?_
  | with_reducible refine r_notB ?_
  | with_reducible refine i_t ?_
  | with_reducible refine i_f ?_
  | with_reducible refine i_nt ?_
  | with_reducible refine i_nf ?_
  | ((with_reducible refine' r_I ?hc ?_); (case hc => walk_at "cond"))
  | (with_reducible refine .inl ⟨_, rfl, ?_⟩)
  | (with_reducible refine ⟨_, rfl, ?_⟩)
  | ((with_reducible refine' r_ixL ?hx ?ha ?_); (case hx => walk_at "at"); (case ha => rfl))
  | ((with_reducible refine' r_ixT ?hx ?ha ?_); (case hx => walk_at "at"); (case ha => rfl))
  | ((with_reducible refine' r_setL ?hx ?ha ?_); (case hx => walk_at "at"); (case ha => rfl); intro H2 k2 h2; (try dsimp only [List.set, Int.toNat] at h2))
  | ((with_reducible refine' r_app ?hx ?hl ?_); (case hx => walk_at "at"); (case hl => first | exact Nat.lt_of_ble_eq_true rfl | omega); intro H2 k2 h2)
  | ((with_reducible refine' ty_list ?hx ?_); (case hx => walk_at "at"))
  | (refine And.intro (by (with_reducible show _ ≤ sizeLine); walk_at "sz") ?_; walk_at "new")
  | with_reducible refine s_exv ?_
  | walk_at "newx")
local macro_rules | `(tactic| walk_at "sx") => `(tactic| repeat (walk_at "s1"))
local macro_rules | `(tactic| walk_at "s2") => `(tactic| first
  | ((with_reducible refine' r_ixG ?hx ?hn ?_); (case hx => walk_at "at"); (case hn => omega))
  | ((with_reducible refine' r_ixGT ?hx ?hn ?_); (case hx => walk_at "at"); (case hn => omega))
  | (with_reducible refine ig_cons (fun hix => ?_) (fun hix => ?_))
  | ((with_reducible refine ig_nil ?_); omega)
  | ((with_reducible refine' i_T ?hc ?_); (case hc => omega))
  | ((with_reducible refine' i_F ?hc ?_); (case hc => omega))
  | (with_reducible refine i_2 (fun hc => ?_) (fun hc => ?_))
  | (with_reducible refine i_n2 (fun hc => ?_) (fun hc => ?_)))
local macro_rules | `(tactic| walk_at "go") => `(tactic| repeat' (first | walk_at "s1" | walk_at "s2"))

local macro_rules | `(tactic| walk_at "s1") => `(tactic| first
  | with_reducible refine s_chain ?_
  | with_reducible refine s_fldS ?_
  | with_reducible refine s_fld ?_
  | with_reducible refine s_dIn ?_
  | with_reducible refine s_dNotIn ?_
  | with_reducible refine s_sl ?_
  | with_reducible refine s_noPart ?_
  | with_reducible refine s_part ?_
  | with_reducible refine s_meth ?_
  | with_reducible refine s_make ?_)

theorem pe_fldK {X : Cx} {e : Expr} {ta : TE} {f : Str} {pos : Pos} (K : PySem.W.Frag) (he : PE X e ta) (hk : X.K = K) (hb : attributeBase e f X.env (eval e X.env) = eval e X.env) : PE X (.Attribute e f pos) (tFld K ta f) := by
  subst hk
  exact pe_fld he hb
def valE : Option Nat → V
  | none => .non
  | some a => .int (a : Nat)
def kvM (cm : List Ent) : List (Key × V) := cm.map fun p => (Sum.inl (p.1 : Int), valE p.2)
theorem kvM_get : ∀ {cm : List Ent} {k r : Nat} {o : Option Nat}, (keys cm).Nodup → cm[k]? = some (r, o) → valV (kvM cm) (Sum.inl (r : Int)) = some (valE o)
  | [], _, _, _, _, h => by simp at h
  | p :: cm, 0, r, o, _, h => by
    rw [List.getElem?_cons_zero] at h
    cases h
    exact valV_pos rfl
  | p :: cm, k + 1, r, o, nd, h => by
    rw [List.getElem?_cons_succ] at h
    obtain ⟨h1, h2⟩ := List.nodup_cons.mp (show (p.1 :: keys cm).Nodup from nd)
    have ne : p.1 ≠ r := fun e => h1 (by
      rw [e]
      exact List.mem_map.mpr ⟨_, List.mem_of_getElem? h, rfl⟩)
    refine (valV_neg (fun z => ne (by have := Sum.inl.inj z; omega))).trans (kvM_get h2 h)
/-- a list of whole numbers told by their places -/
def intsN (n : Nat) (f : Nat → Int) : List V := (List.range n).map fun a => .int (f a)
theorem intsN_at {n k : Nat} {f : Nat → Int} (h : k < n) : (intsN n f)[k]? = some (.int (f k)) := by
  unfold intsN
  rw [List.getElem?_map, List.getElem?_range h]
  rfl
theorem intsN_set {n k : Nat} {f : Nat → Int} {v : Int} (h : k < n) : (intsN n f).set k (.int v) = intsN n fun a => if a = k then v else f a := by
  unfold intsN
  rw [set_fn n k _ _ h]
  refine List.map_congr_left fun a _ => ?_
  by_cases e : a = k <;> simp [e]
theorem intsN_congr {n : Nat} {f g : Nat → Int} (h : ∀ k, k < n → f k = g k) : intsN n f = intsN n g := by
  unfold intsN
  exact List.map_congr_left fun a ha => by rw [h a (List.mem_range.mp ha)]
theorem intsN_len (n : Nat) (f : Nat → Int) : (intsN n f).length = n := by
  unfold intsN
  rw [List.length_map, List.length_range]
theorem xor_n (a : Nat) : Builtin.bitXor (a : Int) 1 = ((opp a : Nat) : Int) := by
  rw [← xor_one, show (1 : Int) = ((1 : Nat) : Int) from rfl, Bits.bitXor_pp (Int.natCast_nonneg _) (Int.natCast_nonneg _), Int.toNat_natCast, Int.toNat_natCast]
theorem ix_in {n j : Nat} (h : j < n) : ixN n (j : Int) = some j := by
  unfold ixN
  rw [if_pos (Int.natCast_nonneg j), if_pos (by omega), Int.toNat_natCast]
/-- all but two places stays -/
def K2 (a b : Addr) (H H' : Hp) : Prop := ∀ c o, c ≠ a → c ≠ b → H c = some o → H' c = some o
theorem K2.refl (a b : Addr) (H : Hp) : K2 a b H H := fun _ _ _ _ h => h
theorem K2.trans {a b : Addr} {H H1 H2 : Hp} (h : K2 a b H H1) (g : K2 a b H1 H2) : K2 a b H H2 := fun c o n1 n2 e => g c o n1 n2 (h c o n1 n2 e)
theorem K2.same {a b : Addr} {H H1 : Hp} (h : Same H H1) : K2 a b H H1 := fun c o _ _ e => h c o e
theorem K2.left {a b : Addr} {H H1 : Hp} (h : Keep a H H1) : K2 a b H H1 := fun c o n _ e => h c o n e
theorem K2.right {a b : Addr} {H H1 : Hp} (h : Keep b H H1) : K2 a b H H1 := fun c o _ n e => h c o n e
/-- a spread as it stands: la its loads, ra its room -/
structure SpAt (C : Addr) (H : Hp) (x la ra : Addr) (N m : Nat) (i j : Nat → Nat) (R L : Nat → Int) : Prop where
  obj : ∃ dx aa ea, ∃ as_ : List Addr, H x = some (.ins C dx [("loads", .ref la), ("arcs", .ref aa), ("ends", .ref ea), ("room", .ref ra)]) ∧ H aa = some (.lst (as_.map .ref)) ∧ as_.length = N ∧
    (∀ r, r < N → ∃ b, as_[r]? = some b ∧ b ≠ la ∧ b ≠ ra ∧ H b = some (.lst (((List.range (2 * m)).filter fun a => src i j a == r).map nv))) ∧ H ea = some (.lst (intsN (2 * m) fun a => (dst i j a : Nat))) ∧ aa ≠ la ∧ aa ≠ ra ∧ ea ≠ la ∧ ea ≠ ra
  hl : H la = some (.lst (intsN N L))
  hr : H ra = some (.lst (intsN (2 * m) R))
  ne : la ≠ ra
  ij : ∀ k, k < m → i k < N ∧ j k < N
theorem SpAt.move {C : Addr} {H H' : Hp} {x la ra : Addr} {N m : Nat} {i j : Nat → Nat} {R L R' L' : Nat → Int} (S : SpAt C H x la ra N m i j R L) (k : K2 la ra H H') (hl : H' la = some (.lst (intsN N L'))) (hr : H' ra = some (.lst (intsN (2 * m) R'))) : SpAt C H' x la ra N m i j R' L' := by
  obtain ⟨dx, aa, ea, as_, h1, h2, h3, h4, h5, n1, n2, n3, n4⟩ := S.obj
  have xl : x ≠ la := fun e => by rw [e, S.hl] at h1; cases h1
  have xr : x ≠ ra := fun e => by rw [e, S.hr] at h1; cases h1
  exact ⟨⟨dx, aa, ea, as_, k _ _ xl xr h1, k _ _ n1 n2 h2, h3, fun r hr => (h4 r hr).imp fun b h => ⟨h.1, h.2.1, h.2.2.1, k _ _ h.2.1 h.2.2.1 h.2.2.2⟩, k _ _ n3 n4 h5, n1, n2, n3, n4⟩, hl, hr, S.ne, S.ij⟩
theorem SpAt.same {C : Addr} {H H' : Hp} {x la ra : Addr} {N m : Nat} {i j : Nat → Nat} {R L : Nat → Int} (S : SpAt C H x la ra N m i j R L) (s : Same H H') : SpAt C H' x la ra N m i j R L := S.move (K2.same s) (s _ _ S.hl) (s _ _ S.hr)
theorem s_while {σ : L2.St} {H : Hp} {D : Ends} {tc : TT} {tb : TS} {W : Nat → L2.St → Hp → Prop} {m : Nat} (h0 : W m σ H) (h : ∀ m σ H, W m σ H → tc σ H fun b H1 => if b = true then ∃ N : L2.St → Hp → Prop, (∀ σ' H', N σ' H' → ∃ m', m' < m ∧ W m' σ' H') ∧ tb { D with nx := N, ct := N, bk := D.nx } σ H1 else D.nx σ H1) : tWhile tc tb D σ H := ⟨W, ⟨m, h0⟩, h⟩
theorem s_augS {σ : L2.St} {H : Hp} {D : Ends} {to ti te : TE} {tget : V → V → Hp → VK → Prop} {tip : V → V → Hp → VK → Prop} {tset : V → V → V → Hp → (Hp → Prop) → Prop} (h : to σ H fun o H1 => ti σ H1 fun i H2 => tget o i H2 fun x H3 => te σ H3 fun y H4 => tip x y H4 fun z H5 => tset o i z H5 fun H6 => D.nx σ H6) : tAugS to ti te tget tip tset D σ H := h
section
variable {P : Program} {w : World} {K : PySem.W.Frag} {mg : Str → Option Value} {base : Heap} {A : Ad}
/-- an amount shifted to a rule that carries less than the limit -/
def spShift (C : Addr) : Sp := fun vs H Q _ => ∃ (x c la ra : Addr) (N m q : Nat) (i j : Nat → Nat) (W R L : Nat → Int) (cm : List Ent) (lim : Int), vs = [.ref x, .ref c, .int q, .int lim] ∧ SpAt C H x la ra N m i j R L ∧ H c = some (.dK (kvM cm)) ∧ Came m N i j R cm ∧ Am m W R ∧ (∀ r, r < N → L r = carry m i j R r) ∧ N ≤ 64 ∧ m ≤ 1000 ∧
  (∃ (k : Nat) (o : Option Nat), cm[k]? = some (q, o)) ∧ L q < lim ∧ (∀ r, (r, none) ∈ cm → lim < L r) ∧ ∀ H' R' L', K2 la ra H H' → SpAt C H' x la ra N m i j R' L' → Am m W R' → (∀ r, r < N → L' r = carry m i j R' r) → over N L' lim < over N L lim → Shf i j R L lim cm q R' L' → Q .non H'
theorem ok_shift (T : Txt P K mg A) : FnOk P w K mg base CX0 1 A.a_Spread__shift A.d_Spread__shift ["self", "came", "rule", "limit"] (spShift A.c_Spread) := by
  refine T.F_Spread__shift.ok sc_Spread__shift (fun vs H Q E h => ?_) (fun cdv A' outer s H vs Q E hr h => ?_)
  · obtain ⟨x, c, la, ra, N, m, q, i, j, W, R, L, cm, lim, rfl, _⟩ := h
    rfl
  · obtain ⟨x, c, la, ra, N, m, q, i, j, W, R, L, cm, lim, rfl, S, hc0, CM, AM, LC, n64, m1, ⟨k0, o0, hk0⟩, Lq, st, k⟩ := h
    obtain ⟨dx, aa, ea, as_, hx, haa, has, harc, hea0, z1, z2, z3, z4⟩ := S.obj
    have hc : True → H c = some (.dK (kvM cm)) := fun _ => hc0
    have hea : True → H ea = some (.lst (intsN (2 * m) fun a => (dst i j a : Nat))) := fun _ => hea0
    have hla : True → H la = some (.lst (intsN N L)) := fun _ => S.hl
    have hra : True → H ra = some (.lst (intsN (2 * m) R)) := fun _ => S.hr
    have cla : c ≠ la := fun e => by rw [e, S.hl] at hc0; cases hc0
    have cra : c ≠ ra := fun e => by rw [e, S.hr] at hc0; cases hc0
    clear hc0 hea0 haa harc
    have lcm : cm.length ≤ N := by
      have z := L2.nat_nodup_len (keys cm) (List.range N) CM.nd fun r hr => by
        obtain ⟨p, hp, rfl⟩ := List.mem_map.mp hr
        exact List.mem_range.mpr (CM.lt p hp)
      rw [List.length_range] at z
      unfold keys at z
      rwa [List.length_map] at z
    have k0l := (List.getElem?_eq_some_iff.mp hk0).1
    refine ⟨_, (pss_cons (ps_set (i := 4) sc_Spread__shift.nd rfl (Or.inl rfl) (pe_lst pa_nil))
  (pss_cons (ps_set (i := 5) sc_Spread__shift.nd rfl (Or.inl rfl) (pv 2))
  (pss_cons (ps_while PassesOwn.never (pt_cmpR op_notN (pe_dget (u1 hr) (pv 1) (pv 5) (fun _ _ => rfl)) pe_non (nomark _))
  (pss_cons (ps_expr (pe_bm PySem.F.plainAttrs_list PySem.F.slot_list_append PySem.F.type_list_append mt_append (pv 4) (pa_cons (pe_dget (u1 hr) (pv 1) (pv 5) (fun _ _ => rfl)) pa_nil)))
  (pss_one (ps_set (i := 5) sc_Spread__shift.nd rfl (Or.inl rfl) (pe_ix ix_seq (pe_fld (pv 0) rfl) (pe_op op_xor (pe_dget (u1 hr) (pv 1) (pv 5) (fun _ _ => rfl)) pe_int) (fun _ _ => rfl))))))
  (pss_cons (ps_set (i := 7) sc_Spread__shift.nd rfl (Or.inl rfl) (pe_callB (cr_min rfl) (by rfl) T.n_min (by decide +kernel) (pa_cons (pe_op op_cat (pe_lst (pa_cons (pe_op op_sub (pe_ix ix_seq (pe_fld (pv 0) rfl) (pv 5) (fun _ _ => rfl)) (pv 3)) (pa_cons (pe_op op_sub (pv 3) (pe_ix ix_seq (pe_fld (pv 0) rfl) (pv 2) (fun _ _ => rfl))) pa_nil))) (pe_lc (own := [("arc", 6)]) (g := (gName 6)) (by rfl) sc_Spread__shift.nd (pi_list (pv 4)) (blkOk_by (own := [("arc", 6)]) (N := ["self", "came", "rule", "limit", "way", "start", "arc", "amount"]) (sc := defScope s_Spread__shift) (by decide +kernel)) (fun _ _ _ _ _ => (pg_name (i := 6) sc_Spread__shift.nd rfl (Or.inl rfl))) (fun _ _ _ _ _ => pts_nil) (fun _ _ _ _ _ => (pe_ix (r := rIx K) ix_seq (pe_fldK K (pv 0) rfl rfl) (pv 6) (fun _ _ => rfl))))) pa_nil)))
  (pss_cons (ps_for PassesOwn.never rfl (pi_list (pv 4)) (pg_name (i := 6) sc_Spread__shift.nd rfl (Or.inl rfl))
  (pss_cons (ps_augS (pe_fldK K (pv 0) rfl rfl) (pv 6) get_ix (pv 7) ip_sub set_list)
  (pss_one (ps_augS (pe_fldK K (pv 0) rfl rfl) (pe_op op_xor (pv 6) pe_int) get_ix (pv 7) ip_add set_list))))
  (pss_cons (ps_augS (pe_fld (pv 0) rfl) (pv 5) get_ix (pv 7) ip_sub set_list)
  (pss_one (ps_augS (pe_fld (pv 0) rfl) (pv 2) get_ix (pv 7) ip_add set_list)))))))), ?_⟩
    walk_at "sx"
    rename_i pw npw H1 s1 hw0
    have cpw : c ≠ pw := ne_of_none (hc trivial) npw
    have epw : ea ≠ pw := ne_of_none (hea trivial) npw
    have xpw : x ≠ pw := ne_of_none hx npw
    have lpw : la ≠ pw := ne_of_none (hla trivial) npw
    have rpw : ra ≠ pw := ne_of_none (hra trivial) npw
    obtain ⟨WW, eW⟩ : ∃ WW : Nat → L2.St → Hp → Prop, WW = fun mm σ H' => Keep pw H1 H' ∧ ∃ (cur : Nat) (ws : List Nat) (o : Option Nat), cm[mm]? = some (cur, o) ∧ ws.length + mm ≤ k0 ∧ (True → H' pw = some (.lst (ws.map nv))) ∧ Way i j q ws cur ∧ Wy i j cm q cur ws ∧ (∀ y ∈ ws, y < 2 * m ∧ 0 < R y) ∧ ws.Nodup ∧ (∀ y ∈ ws, ∃ k', mm < k' ∧ ∃ o' : Option Nat, cm[k']? = some (dst i j y, o')) ∧
      σ = [some (.ref x), some (.ref c), some (.int q), some (.int lim), some (.ref pw), some (.int cur), none, none] := ⟨_, rfl⟩
    refine s_while (m := k0) (W := WW) ?_ ?_
    · rw [eW]
      exact ⟨Keep.refl _ _, q, [], o0, hk0, by simp, fun _ => hw0, .nil _, .first, (fun _ h => nomatch h), List.nodup_nil, (fun _ h => nomatch h), rfl⟩
    · intro mm σ H' hW
      rw [eW] at hW
      obtain ⟨kp, cur, ws, o, hmm, lw, hw, way, wy, pos, nd, ahead, rfl⟩ := hW
      have hcc : True → H' c = some (.dK (kvM cm)) := fun _ => kp _ _ cpw (s1 _ _ (hc trivial))
      have hxx : H' x = some (.ins A.c_Spread dx [("loads", .ref la), ("arcs", .ref aa), ("ends", .ref ea), ("room", .ref ra)]) := kp _ _ xpw (s1 _ _ hx)
      have hee : True → H' ea = some (.lst (intsN (2 * m) fun a => (dst i j a : Nat))) := fun _ => kp _ _ epw (s1 _ _ (hea trivial))
      have gt : DGet H' c (.int cur) (some (valE o)) := by
        have z := kvM_get CM.nd hmm
        rw [← z]
        exact DGet.k (k := Sum.inl (cur : Int)) (hcc trivial)
      walk_at "sx"
      refine s_get (s_var rfl (s_var rfl ⟨c, _, rfl, gt, ?_⟩))
      walk_at "sx"
      refine ⟨rfl, _, rfl, ?_⟩
      cases o with
      | some a =>
        obtain ⟨ha, pa, da, l, lk, o', hl⟩ := CM.arc mm cur a hmm
        rw [show (!decide (valE (some a) = V.non)) = true by simp [valE]]
        refine i_t ?_
        refine ⟨fun σ' G => ∃ m', m' < mm ∧ WW m' σ' G, fun _ _ h => h, ?_⟩
        have lwk := (List.getElem?_eq_some_iff.mp hmm).1
        refine s_seq ?_
        walk_at "s1"
        refine s_bm (s_var rfl (ty_list (hw trivial) (s_cons (s_get (s_var rfl (s_var rfl ⟨c, _, rfl, gt, s_nil (r_app (hw trivial) (by rw [List.length_map, sizeLine_eq]; omega) (fun H2 k2 h2 => ?_))⟩))))))
        have hw2 : True → H2 pw = some (.lst ((ws ++ [a]).map nv)) := fun _ => by rw [h2, List.map_append]; rfl
        clear h2
        have hx2 := k2 _ _ xpw hxx
        have gt2 : DGet H2 c (.int cur) (some (valE (some a))) := by
          have z := kvM_get CM.nd hmm
          rw [← z]
          exact DGet.k (k := Sum.inl (cur : Int)) (k2 _ _ cpw (hcc trivial))
        have la2 : opp a < 2 * m := by
          unfold opp
          split <;> omega
        walk_at "sx"
        refine r_get rfl hx2 T.cl_Spread T.no_Spread_ends rfl ?_
        walk_at "sx"
        refine s_get (s_var rfl (s_var rfl ⟨c, _, rfl, gt2, ?_⟩))
        walk_at "sx"
        refine r_I0 ?_
        rw [xor_n]
        refine r_ixL (k2 _ _ epw (hee trivial)) (atI_nat (intsN_at la2)) ?_
        rw [dst_opp]
        walk_at "sx"
        refine ⟨l, lk, ?_⟩
        rw [eW]
        refine ⟨kp.trans k2, src i j a, ws ++ [a], o', hl, by rw [List.length_append, List.length_singleton]; omega, hw2, way.snoc da, wy.back CM.nd hmm, ?_, ?_, ?_, rfl⟩
        · intro y hy
          rcases List.mem_append.mp hy with z | z
          · exact pos y z
          · rw [List.mem_singleton.mp z]
            exact ⟨ha, pa⟩
        · refine List.nodup_append.mpr ⟨nd, by simp, ?_⟩
          rintro y hy z hz rfl
          rw [List.mem_singleton.mp hz] at hy
          obtain ⟨k', lt, o2, h2⟩ := ahead a hy
          rw [da] at h2
          have := CM.uniq hmm h2
          omega
        · intro y hy
          rcases List.mem_append.mp hy with z | z
          · obtain ⟨k', lt, o2, h2⟩ := ahead y z
            exact ⟨k', by omega, o2, h2⟩
          · rw [List.mem_singleton.mp z, da]
            exact ⟨mm, lk, _, hmm⟩
      | none =>
        rw [show (!decide (valE none = V.non)) = false by simp [valE]]
        refine i_f ?_
        have scur := st cur (List.mem_of_getElem? hmm)
        have cN : cur < N := CM.lt _ (List.mem_of_getElem? hmm)
        have qN : q < N := CM.lt _ (List.mem_of_getElem? hk0)
        have hl2 : True → H' la = some (.lst (intsN N L)) := fun _ => kp _ _ lpw (s1 _ _ (hla trivial))
        have hr2 : True → H' ra = some (.lst (intsN (2 * m) R)) := fun _ => kp _ _ rpw (s1 _ _ (hra trivial))
        walk_at "sx"
        refine r_get rfl hxx T.cl_Spread T.no_Spread_loads rfl ?_
        walk_at "sx"
        refine r_ixL (hl2 trivial) (atI_nat (intsN_at cN)) ?_
        walk_at "sx"
        refine r_get rfl hxx T.cl_Spread T.no_Spread_loads rfl ?_
        walk_at "sx"
        refine r_ixL (hl2 trivial) (atI_nat (intsN_at qN)) ?_
        walk_at "sx"
        rename_i pz npz H2 s2 h2
        have hw2 : True → H2 pw = some (.lst (ws.map nv)) := fun _ => s2 _ _ (hw trivial)
        have hr3 : True → H2 ra = some (.lst (intsN (2 * m) R)) := fun _ => s2 _ _ (hr2 trivial)
        have hx3 := s2 _ _ hxx
        have lws : ws.length ≤ 64 := by omega
        have h2' : True → H2 pz = _ := fun _ => h2
        clear h2
        refine ⟨_, rfl, pw, rfl, ⟨_, SqL.of (hw2 trivial)⟩, fun D hD => lc_list (K := K) (a := pw) (xs := ws.map nv) (fun t H' => Same H2 H' ∧ H' D = some (.lst (((ws.take t).map R).map V.int))) ⟨Same.new hD, upd_same⟩ (fun t H' _ h => SqL.of (h.1 _ _ (hw2 trivial))) ?_ ?_⟩
        · rintro t y H' hy ⟨s', hD'⟩
          obtain ⟨z, hz, rfl⟩ : ∃ z, ws[t]? = some z ∧ nv z = y := by
            rw [List.getElem?_map] at hy
            exact Option.map_eq_some_iff.mp hy
          have zl := (pos z (List.mem_of_getElem? hz)).1
          have hD2 : True → H' D = _ := fun _ => hD'
          clear hD'
          refine s_name ⟨rfl, ?_⟩
          refine s_yes (i_t ?_)
          walk_at "sx"
          refine r_get rfl (s' _ _ hx3) T.cl_Spread T.no_Spread_room rfl ?_
          walk_at "sx"
          refine r_ixL (s' _ _ (hr3 trivial)) (atI_nat (intsN_at zl)) ?_
          refine ⟨_, hD2 trivial, ?_, Sx.Same.put s' hD, ?_⟩
          · rw [List.length_map, List.length_map, List.length_take, sizeLine_eq]
            omega
          · rw [upd_same, List.take_succ, hz]
            simp
        rintro H3 ⟨s3, hD3⟩
        rw [List.length_map, List.take_length] at hD3
        refine ⟨pz, D, _, _, rfl, rfl, s3 _ _ (h2' trivial), hD3, by rw [List.length_map, List.length_map, sizeLine_eq]; show 2 + _ ≤ _; omega, fun p4 np4 => ?_⟩
        generalize hE : upd H3 p4 _ = H4
        have s4 := new_same np4 hE
        have h4 : H4 p4 = some (.lst (((L cur - lim) :: (lim - L q) :: (ws.map R)).map V.int)) := new_at hE
        clear hE
        refine ⟨p4, _, rfl, SqL.of h4, by rw [List.length_cons]; omega, fun d hm hmn => ?_⟩
        have d1 : d ≤ L cur - lim := hmn _ List.mem_cons_self
        have d2 : d ≤ lim - L q := hmn _ (List.mem_cons_of_mem _ List.mem_cons_self)
        have d3 : ∀ y ∈ ws, d ≤ R y := fun y hy => hmn _ (List.mem_cons_of_mem _ (List.mem_cons_of_mem _ (List.mem_map.mpr ⟨y, hy, rfl⟩)))
        have d0 : 0 < d := by
          rcases List.mem_cons.mp hm with z | z
          · omega
          · rcases List.mem_cons.mp z with z | z
            · omega
            · obtain ⟨y, hy, rfl⟩ := List.mem_map.mp z
              exact (pos y hy).2
        have s24 := s2.trans (s3.trans s4)
        have hm' := hm
        have hmn' := hmn
        clear h4 hm hmn
        have rw' : ra ≠ pw := rpw
        have hw4 : True → H4 pw = some (.lst (ws.map nv)) := fun _ => s24 _ _ (hw trivial)
        have hr4 : True → H4 ra = some (.lst (intsN (2 * m) R)) := fun _ => s24 _ _ (hr2 trivial)
        have hl4 : True → H4 la = some (.lst (intsN N L)) := fun _ => s24 _ _ (hl2 trivial)
        have hx4 := s24 _ _ hxx
        have xra : x ≠ ra := fun e => by rw [e, hr4 trivial] at hx4; cases hx4
        have xla : x ≠ la := fun e => by rw [e, hl4 trivial] at hx4; cases hx4
        walk_at "sx"
        refine ⟨_, rfl, pw, rfl, ⟨_, SqL.of (hw4 trivial)⟩, for_list (K := K) (a := pw) (xs := ws.map nv) (fun t σ H' => Keep ra H4 H' ∧ (True → H' ra = some (.lst (intsN (2 * m) (mvs R (ws.take t) d)))) ∧ ∃ v6, σ = [some (.ref x), some (.ref c), some (.int q), some (.int lim), some (.ref pw), some (.int cur), v6, some (.int d)]) ?_ ?_ ?_ ?_⟩
        · exact ⟨Keep.refl _ _, fun _ => hr4 trivial, _, rfl⟩
        · rintro t σ H' _ ⟨k5, _⟩
          exact SqL.of (k5 _ _ (Ne.symm rpw) (hw4 trivial))
        · rintro t y σ H' hy ⟨k5, hr5, v6, rfl⟩
          obtain ⟨z, hz, rfl⟩ : ∃ z, ws[t]? = some z ∧ nv z = y := by
            rw [List.getElem?_map] at hy
            exact Option.map_eq_some_iff.mp hy
          have zl := (pos z (List.mem_of_getElem? hz)).1
          have zo : opp z < 2 * m := by
            unfold opp
            split <;> omega
          have zne : opp z ≠ z := by
            unfold opp
            split <;> omega
          have hx5 := k5 _ _ xra hx4
          walk_at "sx"
          refine s_augS ?_
          walk_at "sx"
          refine r_get rfl hx5 T.cl_Spread T.no_Spread_room rfl ?_
          walk_at "sx"
          refine ⟨ra, _, z, _, rfl, rfl, SqL.of (hr5 trivial), intsN_at zl, ?_⟩
          walk_at "sx"
          refine ⟨_, _, rfl, rfl, ?_⟩
          refine r_setL (hr5 trivial) (ix_in (by rw [intsN_len]; exact zl)) fun H6 k6 h60 => ?_
          rw [intsN_set zl] at h60
          have h6 : True → H6 ra = _ := fun _ => h60
          clear h60
          have hx6 := k6 _ _ xra hx5
          dsimp only
          refine s_augS ?_
          walk_at "sx"
          refine r_get rfl hx6 T.cl_Spread T.no_Spread_room rfl ?_
          walk_at "sx"
          rw [xor_n]
          refine ⟨ra, _, opp z, _, rfl, rfl, SqL.of (h6 trivial), intsN_at zo, ?_⟩
          walk_at "sx"
          refine ⟨_, _, rfl, rfl, ?_⟩
          refine r_setL (h6 trivial) (ix_in (by rw [intsN_len]; exact zo)) fun H7 k7 h7 => ?_
          rw [intsN_set zo] at h7
          refine ⟨k5.trans (k6.trans k7), fun _ => ?_, _, rfl⟩
          rw [h7]
          congr 2
          refine intsN_congr fun b hb => ?_
          have em : mvs R (ws.take (t + 1)) d = mv (mvs R (ws.take t) d) z d := by
            unfold mvs
            rw [List.take_succ, hz, List.foldl_append]
            rfl
          rw [em]
          unfold mv
          by_cases e1 : b = z
          · subst e1
            rw [if_neg (fun q => zne q.symm), if_pos rfl, if_pos rfl]
          · by_cases e2 : b = opp z
            · subst e2
              rw [if_pos rfl, if_neg zne, if_neg zne, if_pos rfl]
            · rw [if_neg e2, if_neg e1, if_neg e1, if_neg e2]
        · rintro σ H5 ⟨k5, hr5, v6, rfl⟩
          rw [List.length_map, List.take_length] at hr5
          have hl5 : True → H5 la = some (.lst (intsN N L)) := fun _ => k5 _ _ S.ne (hl4 trivial)
          have hx5 := k5 _ _ xra hx4
          walk_at "sx"
          refine s_augS ?_
          walk_at "sx"
          refine r_get rfl hx5 T.cl_Spread T.no_Spread_loads rfl ?_
          walk_at "sx"
          refine ⟨la, _, cur, _, rfl, rfl, SqL.of (hl5 trivial), intsN_at cN, ?_⟩
          walk_at "sx"
          refine ⟨_, _, rfl, rfl, ?_⟩
          refine r_setL (hl5 trivial) (ix_in (by rw [intsN_len]; exact cN)) fun H6 k6 h60 => ?_
          rw [intsN_set cN] at h60
          have h6 : True → H6 la = _ := fun _ => h60
          clear h60
          have hx6 := k6 _ _ xla hx5
          dsimp only
          refine s_augS ?_
          walk_at "sx"
          refine r_get rfl hx6 T.cl_Spread T.no_Spread_loads rfl ?_
          walk_at "sx"
          refine ⟨la, _, q, _, rfl, rfl, SqL.of (h6 trivial), intsN_at qN, ?_⟩
          walk_at "sx"
          refine ⟨_, _, rfl, rfl, ?_⟩
          refine r_setL (h6 trivial) (ix_in (by rw [intsN_len]; exact qN)) fun H7 k7 h7 => ?_
          rw [intsN_set qN] at h7
          have cq : cur ≠ q := fun e => by
            rw [e] at scur
            omega
          obtain ⟨L', eL⟩ : ∃ L' : Nat → Int, L' = fun r => L r - (if cur = r then d else 0) + (if q = r then d else 0) := ⟨_, rfl⟩
          have h7' : H7 la = some (.lst (intsN N L')) := by
            rw [h7, eL]
            congr 2
            refine intsN_congr fun b hb => ?_
            by_cases e1 : b = cur
            · subst e1
              rw [if_neg cq, if_pos rfl, if_pos rfl, if_neg (fun z => cq z.symm)]
              show L b - d = L b - d + 0
              omega
            · by_cases e2 : b = q
              · subst e2
                rw [if_pos rfl, if_neg (fun z => cq z.symm), if_neg cq, if_pos rfl]
                show L b + d = L b - 0 + d
                omega
              · rw [if_neg e2, if_neg e1, if_neg (fun z => e1 z.symm), if_neg (fun z => e2 z.symm)]
                omega
          have fr : K2 la ra H H7 := fun b o n1 n2 hb => by
            have a1 := kp b o (ne_of_none hb npw) (s1 _ _ hb)
            exact k7 _ _ n1 (k6 _ _ n1 (k5 _ _ n2 (s24 _ _ a1)))
          have hr7 : H7 ra = some (.lst (intsN (2 * m) (mvs R ws d))) := k7 _ _ (Ne.symm S.ne) (k6 _ _ (Ne.symm S.ne) (hr5 trivial))
          refine k H7 _ L' fr (S.move fr h7' hr7) (mvs_am (by omega) AM nd fun y hy => ⟨(pos y hy).1, d3 y hy⟩) (fun r hr => ?_) (over_less cN qN d0 d1 d2 fun r hr => by rw [eL]) ⟨cur, ws, d, wy, at_of CM.nd hmm, hm', hmn', rfl, eL⟩
          rw [mvs_carry way (fun y hy => (pos y hy).1) r, ← LC r hr, eL]
end
end K37

set_option Elab.async false
set_option linter.all false
set_option maxRecDepth 100000
set_option maxHeartbeats 4000000
namespace K37
open PySem L2 Sx Fl
local macro_rules | `(tactic| walk_at "cond") => `(tactic| first
  | assumption
  | decide
  | exact c_mul_r (by first | decide | omega) (by first | decide | omega)
  | exact c_mul_l (by first | decide | omega) (by first | decide | omega)
  | exact c_div (by first | decide | omega) (by first | decide | omega)
  | exact c_pow (by first | decide | omega) (by first | decide | omega) (by first | decide | omega)
  | omega)
local macro_rules | `(tactic| walk_at "ne") => `(tactic| first
  | assumption
  | (refine Ne.symm ?_; assumption)
  | (refine' Flow.ne ?nh ?nn; (case nn => assumption); (case nh => walk_at "fl"))
  | (refine Ne.symm ?_; refine' Flow.ne ?nh ?nn; (case nn => assumption); (case nh => walk_at "fl"))
  | (refine' ne_of_none ?nh ?nn; (case nn => assumption); (case nh => walk_at "at"))
  | (refine Ne.symm ?_; refine' ne_of_none ?nh ?nn; (case nn => assumption); (case nh => walk_at "at")))
local macro_rules | `(tactic| walk_at "at") => `(tactic| first
  | assumption
  | (refine Same.up (by assumption) ?_; walk_at "at")
  | (refine Keep.up (by assumption) (by walk_at "ne") ?_; walk_at "at"))
local macro_rules | `(tactic| walk_at "fl") => `(tactic| first
  | assumption
  | (refine Flow.same (by assumption) ?_; walk_at "fl")
  | (refine Flow.keep (by assumption) (by walk_at "ne") ?_; walk_at "fl"))
local macro_rules | `(tactic| walk_at "fr") => `(tactic| first
  | assumption
  | (refine same_free (by assumption) ?_; walk_at "fr")
  | (refine Keep.free (by assumption) (by walk_at "ne") ?_; walk_at "fr"))
local macro_rules | `(tactic| walk_at "kp") => `(tactic| first
  | assumption
  | exact Keep.refl _ _
  | (refine Keep.trans ?_ (by assumption); walk_at "kp")
  | (refine Keep.trans ?_ (Keep.same (by assumption)); walk_at "kp"))
local macro_rules | `(tactic| walk_at "sm") => `(tactic| first
  | assumption
  | exact L2.Same.refl _
  | (refine L2.Same.trans ?_ (by assumption); walk_at "sm"))
local macro_rules | `(tactic| walk_at "sz") => `(tactic| first | exact Nat.le_of_ble_eq_true rfl | omega)
local macro_rules | `(tactic| walk_at "new") => `(tactic| (intro p np; generalize hE : upd _ p _ = H2; have s2 := new_same np hE; have h2 := new_at hE; clear hE))
local macro_rules | `(tactic| walk_at "newx") => `(tactic| (intro e d na nd hda; generalize hE : upd (upd _ d _) e _ = H2; have s2 := newx_same na nd hE; have h2 := newx_at hE; have h3 := newx_d hda hE; clear hE))
local macro_rules | `(tactic| walk_at "s1") => `(tactic| first
  | with_reducible refine s_seq ?_
  | with_reducible refine s_asg ?_
  | with_reducible refine s_name ?_
  | with_reducible refine s_ret ?_
  | with_reducible refine s_c ?_
  | ((with_reducible refine' s_var ?hv ?_); (case hv => rfl))
  | with_reducible refine s_op ?_
  | with_reducible refine s_un ?_
  | with_reducible refine s_ifS ?_
  | with_reducible refine s_cb ?_
  | with_reducible refine s_cons ?_
  | with_reducible refine s_nil ?_
  | with_reducible refine s_call ?_
  | with_reducible refine s_test ?_
  | with_reducible refine s_tB ?_
  | with_reducible refine s_bl ?_
  | with_reducible refine s_and ?_
  | with_reducible refine s_or ?_
  | with_reducible refine s_not ?_
  | with_reducible refine s_andV ?_
  | with_reducible refine s_orV ?_
  | with_reducible refine s_notV ?_
  | with_reducible refine s_blV ?_
  | with_reducible refine s_if ?_
  | with_reducible refine s_tup ?_
  | with_reducible refine s_lst ?_
  | with_reducible refine s_drop ?_
  | with_reducible refine s_next ?_
  | with_reducible refine s_sub ?_
  | with_reducible refine s_bm ?_
  | with_reducible refine s_callK ?_
  | with_reducible refine s_brk ?_
  | with_reducible refine s_cont ?_
  | with_reducible refine r_I0 ?_
  | with_reducible refine r_U ?_
  | with_reducible refine r_eqI ?_
  | with_reducible refine r_neI ?_
  | with_reducible refine r_isB ?_
  | with_reducible refine r_notB ?_
  | with_reducible refine i_t ?_
  | with_reducible refine i_f ?_
  | with_reducible refine i_nt ?_
  | with_reducible refine i_nf ?_
  | ((with_reducible refine' r_I ?hc ?_); (case hc => walk_at "cond"))
  | (with_reducible refine .inl ⟨_, rfl, ?_⟩)
  | (with_reducible refine ⟨_, rfl, ?_⟩)
  | ((with_reducible refine' r_ixL ?hx ?ha ?_); (case hx => walk_at "at"); (case ha => rfl))
  | ((with_reducible refine' r_ixT ?hx ?ha ?_); (case hx => walk_at "at"); (case ha => rfl))
  | ((with_reducible refine' r_setL ?hx ?ha ?_); (case hx => walk_at "at"); (case ha => rfl); intro H2 k2 h2; (try dsimp only [List.set, Int.toNat] at h2))
  | ((with_reducible refine' r_app ?hx ?hl ?_); (case hx => walk_at "at"); (case hl => first | exact Nat.lt_of_ble_eq_true rfl | omega); intro H2 k2 h2)
  | ((with_reducible refine' ty_list ?hx ?_); (case hx => walk_at "at"))
  | (refine And.intro (by (with_reducible show _ ≤ sizeLine); walk_at "sz") ?_; walk_at "new")
  | with_reducible refine s_exv ?_
  | walk_at "newx")
local macro_rules | `(tactic| walk_at "sx") => `(tactic| repeat (walk_at "s1"))
local macro_rules | `(tactic| walk_at "s2") => `(tactic| first
  | ((with_reducible refine' r_ixG ?hx ?hn ?_); (case hx => walk_at "at"); (case hn => omega))
  | ((with_reducible refine' r_ixGT ?hx ?hn ?_); (case hx => walk_at "at"); (case hn => omega))
  | (with_reducible refine ig_cons (fun hix => ?_) (fun hix => ?_))
  | ((with_reducible refine ig_nil ?_); omega)
  | ((with_reducible refine' i_T ?hc ?_); (case hc => omega))
  | ((with_reducible refine' i_F ?hc ?_); (case hc => omega))
  | (with_reducible refine i_2 (fun hc => ?_) (fun hc => ?_))
  | (with_reducible refine i_n2 (fun hc => ?_) (fun hc => ?_)))
local macro_rules | `(tactic| walk_at "go") => `(tactic| repeat' (first | walk_at "s1" | walk_at "s2"))

local macro_rules | `(tactic| walk_at "s1") => `(tactic| first
  | with_reducible refine s_chain ?_
  | with_reducible refine s_fldS ?_
  | with_reducible refine s_fld ?_
  | with_reducible refine s_dIn ?_
  | with_reducible refine s_dNotIn ?_
  | with_reducible refine s_sl ?_
  | with_reducible refine s_noPart ?_
  | with_reducible refine s_part ?_
  | with_reducible refine s_meth ?_
  | with_reducible refine s_make ?_)

theorem kvM_none : ∀ {cm : List Ent} {r : Nat}, r ∉ keys cm → valV (kvM cm) (Sum.inl (r : Int)) = none
  | [], _, _ => valV_nil
  | p :: cm, r, h => by
    have h1 : p.1 ≠ r := fun e => h (by rw [← e]; exact List.mem_cons_self)
    have h2 : r ∉ keys cm := fun m => h (List.mem_cons_of_mem _ m)
    exact (valV_neg (fun z => h1 (by have := Sum.inl.inj z; omega))).trans (kvM_none h2)
theorem kvM_put {cm : List Ent} {r : Nat} {o : Option Nat} (h : r ∉ keys cm) : putK (kvM cm) (Sum.inl (r : Int) : Key) (valE o) = kvM (cm ++ [(r, o)]) := by
  rw [putK_new _ (kvM_none h)]
  unfold kvM
  rw [List.map_append]
  rfl
theorem kvM_has {cm : List Ent} {r : Nat} (nd : (keys cm).Nodup) : (valV (kvM cm) (Sum.inl (r : Int))).isSome = decide (r ∈ keys cm) := by
  by_cases h : r ∈ keys cm
  · rw [decide_eq_true h]
    obtain ⟨p, hp, rfl⟩ := List.mem_map.mp h
    obtain ⟨k, hk, e⟩ := List.mem_iff_getElem.mp hp
    rw [kvM_get (o := p.2) nd (k := k) (by rw [List.getElem?_eq_getElem hk, e])]
    rfl
  · rw [decide_eq_false h, kvM_none h]
    rfl
/-- those above the limit, ahead of i -/
def starts (L : Nat → Int) (lim : Int) (i : Nat) : List Nat := (List.range i).filter fun r => decide (lim < L r)
def begin_ (L : Nat → Int) (lim : Int) (i : Nat) : List Ent := (starts L lim i).map fun r => (r, none)
theorem keys_begin (L : Nat → Int) (lim : Int) (i : Nat) : keys (begin_ L lim i) = starts L lim i := by
  unfold keys begin_
  rw [List.map_map]
  exact (List.map_congr_left fun _ _ => rfl).trans (List.map_id _)
theorem mem_starts {L : Nat → Int} {lim : Int} {i r : Nat} : r ∈ starts L lim i ↔ r < i ∧ lim < L r := by
  unfold starts
  rw [List.mem_filter, List.mem_range, decide_eq_true_eq]
theorem begin_came {m N : Nat} {i j : Nat → Nat} {R L : Nat → Int} {lim : Int} : Came m N i j R (begin_ L lim N) := by
  refine ⟨?_, ?_, ?_⟩
  · rw [keys_begin]
    exact List.Pairwise.filter _ List.nodup_range
  · intro p hp
    obtain ⟨r, hr, rfl⟩ := List.mem_map.mp hp
    exact (mem_starts.mp hr).1
  · intro k r a hk
    have z := List.mem_of_getElem? hk
    obtain ⟨r', _, e⟩ := List.mem_map.mp z
    cases e
theorem begin_succ (L : Nat → Int) (lim : Int) (i : Nat) : begin_ L lim (i + 1) = begin_ L lim i ++ (if lim < L i then [(i, none)] else []) := by
  unfold begin_ starts
  rw [List.range_succ, List.filter_append, List.map_append, List.filter_cons, List.filter_nil]
  by_cases h : lim < L i <;> simp [h]
/-- what a search keeps -/
structure Gd (m N : Nat) (i j : Nat → Nat) (R L : Nat → Int) (lim : Int) (cm : List Ent) : Prop where
  came : Came m N i j R cm
  top : ∀ r, (r, none) ∈ cm → lim < L r
  all : ∀ r, r < N → lim < L r → r ∈ keys cm
  low : ∀ r ∈ keys cm, lim ≤ L r
  some_ : cm ≠ [] → ∃ r ∈ keys cm, lim < L r
theorem Gd.snoc {m N : Nat} {i j : Nat → Nat} {R L : Nat → Int} {lim : Int} {cm : List Ent} (g : Gd m N i j R L lim cm) {r a : Nat} (c : Came m N i j R (cm ++ [(r, some a)])) (h : lim ≤ L r) (s : src i j a ∈ keys cm) : Gd m N i j R L lim (cm ++ [(r, some a)]) := by
  have ek : keys (cm ++ [(r, some a)]) = keys cm ++ [r] := by
    unfold keys
    rw [List.map_append]
    rfl
  refine ⟨c, fun q hq => ?_, fun q hq hl => ?_, fun q hq => ?_, fun _ => ?_⟩
  · rcases List.mem_append.mp hq with z | z
    · exact g.top q z
    · have := List.mem_singleton.mp z
      cases this
  · rw [ek]
    exact List.mem_append_left _ (g.all q hq hl)
  · rw [ek] at hq
    rcases List.mem_append.mp hq with z | z
    · exact g.low q z
    · rw [List.mem_singleton.mp z]
      exact h
  · obtain ⟨r0, h0, h1⟩ := g.some_ (fun e => by rw [e] at s; cases s)
    exact ⟨r0, by rw [ek]; exact List.mem_append_left _ h0, h1⟩
/-- its ways out are known -/
def Ex (m : Nat) (i j : Nat → Nat) (R : Nat → Int) (cm : List Ent) (r : Nat) : Prop := ∀ x, x < 2 * m → src i j x = r → 0 < R x → dst i j x ∈ keys cm
theorem kvM_keys (cm : List Ent) : (kvM cm).map (fun kv => kV kv.1) = (keys cm).map nv := by
  unfold kvM keys
  rw [List.map_map, List.map_map]
  rfl
theorem came_len {m N : Nat} {i j : Nat → Nat} {R : Nat → Int} {cm : List Ent} (CM : Came m N i j R cm) : cm.length ≤ N := by
  have z := L2.nat_nodup_len (keys cm) (List.range N) CM.nd fun r hr => by
    obtain ⟨p, hp, rfl⟩ := List.mem_map.mp hr
    exact List.mem_range.mpr (CM.lt p hp)
  rw [List.length_range] at z
  unfold keys at z
  rwa [List.length_map] at z
theorem keys_snoc (cm : List Ent) (r : Nat) (o : Option Nat) : keys (cm ++ [(r, o)]) = keys cm ++ [r] := by
  unfold keys
  rw [List.map_append]
  rfl
theorem Ex.snoc {m : Nat} {i j : Nat → Nat} {R : Nat → Int} {cm : List Ent} {r q : Nat} {o : Option Nat} (h : Ex m i j R cm r) : Ex m i j R (cm ++ [(q, o)]) r := fun x hx hs hp => by
  rw [keys_snoc]
  exact List.mem_append_left _ (h x hx hs hp)
theorem begin_gd {m N : Nat} {i j : Nat → Nat} {R L : Nat → Int} {lim : Int} : Gd m N i j R L lim (begin_ L lim N) := by
  refine ⟨begin_came, fun r hr => ?_, fun r hr hl => ?_, fun r hr => ?_, fun ne => ?_⟩
  · obtain ⟨q, hq, e⟩ := List.mem_map.mp hr
    cases e
    exact (mem_starts.mp hq).2
  · rw [keys_begin]
    exact mem_starts.mpr ⟨hr, hl⟩
  · rw [keys_begin] at hr
    have := (mem_starts.mp hr).2
    omega
  · obtain ⟨p, hp⟩ := List.exists_mem_of_ne_nil _ ne
    obtain ⟨r, hr, rfl⟩ := List.mem_map.mp hp
    exact ⟨r, by rw [keys_begin]; exact hr, (mem_starts.mp hr).2⟩
section
variable {P : Program} {w : World} {K : PySem.W.Frag} {mg : Str → Option Value} {base : Heap} {A : Ad}
def spSearch (C : Addr) : Sp := fun vs H Q _ => ∃ (x la ra : Addr) (N m : Nat) (i j : Nat → Nat) (W R L : Nat → Int) (lim : Int), vs = [.ref x, .int lim] ∧ SpAt C H x la ra N m i j R L ∧ N ≤ 64 ∧ m ≤ 1000 ∧
  (∀ (p c : Addr) (q : Nat) (cm : List Ent) H', Same H H' → H' p = some (.tup [.ref c, .int q]) → H' c = some (.dK (kvM cm)) → Came m N i j R cm → (∃ (k : Nat) (o : Option Nat), cm[k]? = some (q, o)) → L q < lim → (∀ r, (r, none) ∈ cm → lim < L r) → SRes m N i j R L lim cm (some q) → Q (.ref p) H') ∧
  (∀ (p c : Addr) (cm : List Ent) H', Same H H' → H' p = some (.tup [.ref c, .non]) → H' c = some (.dK (kvM cm)) → Gd m N i j R L lim cm → (∀ r ∈ keys cm, Ex m i j R cm r) → SRes m N i j R L lim cm none → Q (.ref p) H')
theorem ok_search (T : Txt P K mg A) : FnOk P w K mg base CX0 1 A.a_Spread__search A.d_Spread__search ["self", "limit"] (spSearch A.c_Spread) := by
  refine T.F_Spread__search.ok sc_Spread__search (fun vs H Q E h => ?_) (fun cdv A' outer s H vs Q E hr h => ?_)
  · obtain ⟨x, la, ra, N, m, i, j, W, R, L, lim, rfl, _⟩ := h
    rfl
  · obtain ⟨x, la, ra, N, m, i, j, W, R, L, lim, rfl, S, n64, m1, kF, kN⟩ := h
    obtain ⟨dx, aa, ea, as_, hx, haa0, has, harc, hea0, z1, z2, z3, z4⟩ := S.obj
    have haa : True → H aa = some (.lst (as_.map .ref)) := fun _ => haa0
    have hea : True → H ea = some (.lst (intsN (2 * m) fun a => (dst i j a : Nat))) := fun _ => hea0
    have hla : True → H la = some (.lst (intsN N L)) := fun _ => S.hl
    have hra : True → H ra = some (.lst (intsN (2 * m) R)) := fun _ => S.hr
    clear haa0 hea0
    refine ⟨_, (pss_cons (ps_setDc (i := 3) (u0 := .dK []) (own := [("rule", 2), ("load", 8)]) (g := (gTup K 2 (gCons (gName 2) (gCons (gName 8) gNil)))) (.inl rfl) hr.units0 rfl sc_Spread__search.nd rfl rfl (swd_true rfl rfl rfl (by decide +kernel)) (pi_enum (by rfl) T.n_enumerate (pa_cons (pe_fld (pv 0) rfl) pa_nil)) (blkOk_by (own := [("rule", 2), ("load", 8)]) (N := ["self", "limit", "rule", "came", "level", "reached", "arc", "end", "load"]) (sc := defScope s_Spread__search) (by decide +kernel)) ⟨fun _ _ _ _ _ => (pg_tup rfl (pgs_cons (pg_name (i := 2) sc_Spread__search.nd rfl (Or.inl rfl)) (pgs_cons (pg_name (i := 8) sc_Spread__search.nd rfl (Or.inl rfl)) pgs_nil))), fun _ _ _ _ _ => pts_one (pt_cmpR op_gt (pv 8) (pv 1) (nomark _)), fun _ _ _ _ _ => (pv 2), fun _ _ _ _ _ => pe_non⟩)
  (pss_cons (ps_set (i := 4) sc_Spread__search.nd rfl (Or.inl rfl) (pe_callTy (call_listD rfl) (by rfl) T.n_list (by decide +kernel) (pa_cons (pv 3) pa_nil)))
  (pss_cons (ps_while PassesOwn.never (pt_cmpR op_gt (pe_callB call_len (by rfl) T.n_len (by decide +kernel) (pa_cons (pv 4) pa_nil)) pe_int (nomark _))
  (pss_cons (ps_set (i := 5) sc_Spread__search.nd rfl (Or.inl rfl) (pe_lst pa_nil))
  (pss_cons (ps_for PassesOwn.never rfl (pi_list (pv 4)) (pg_name (i := 2) sc_Spread__search.nd rfl (Or.inl rfl))
  (pss_one (ps_for PassesOwn.never rfl (pi_list (pe_ix ix_seq (pe_fld (pv 0) rfl) (pv 2) (fun _ _ => rfl))) (pg_name (i := 6) sc_Spread__search.nd rfl (Or.inl rfl))
  (pss_cons (ps_set (i := 7) sc_Spread__search.nd rfl (Or.inl rfl) (pe_ix ix_seq (pe_fld (pv 0) rfl) (pv 6) (fun _ _ => rfl)))
  (pss_one (ps_if (PW.pt (pw_and (pt_cmpR op_gt (pe_ix ix_seq (pe_fld (pv 0) rfl) (pv 6) (fun _ _ => rfl)) pe_int (nomark _)) (pw_and1 (pt_cmp (pc_dnotin (u1 hr) (pv 7) (pv 3)))))) (pss_cons (ps_asg (pv 6) (pg_sub (pv 3) (pv 7) (set_dict (Sx.u1 hr))))
  (pss_cons (ps_expr (pe_bm PySem.F.plainAttrs_list PySem.F.slot_list_append PySem.F.type_list_append mt_append (pv 5) (pa_cons (pv 7) pa_nil)))
  (pss_one (ps_if (pt_cmpR op_lt (pe_ix ix_seq (pe_fld (pv 0) rfl) (pv 7) (fun _ _ => rfl)) (pv 1) (nomark _)) (pss_one (ps_ret (pe_tup (pa_cons (pv 3) (pa_cons (pv 7) pa_nil))))) pss_nil)))) pss_nil))))))
  (pss_one (ps_set (i := 4) sc_Spread__search.nd rfl (Or.inl rfl) (pv 5))))))
  (pss_one (ps_ret (pe_tup (pa_cons (pv 3) (pa_cons pe_non pa_nil)))))))), ?_⟩
    walk_at "sx"
    refine ⟨_, rfl, _, _, _, _, _, rfl, hx, T.cl_Spread, T.no_Spread_loads, rfl, la, _, rfl, SqL.of (hla trivial), fun D hD => dcp_it (walk_enum (K := K) (a := la) (xs := intsN N L)) (fun t H' => Same H H' ∧ H' D = some (.dK (kvM (begin_ L lim t)))) ⟨Same.new hD, by rw [upd_same]; rfl⟩ (fun t H' _ h => SqL.of (h.1 _ _ (hla trivial))) ?_ ?_⟩
    · rintro t y H' H'' ht ⟨s', hD'⟩ ⟨T1, u, v, rfl, nT, rfl, eu, ev⟩
      cases eu
      rw [intsN_len] at ht
      have ev' : (intsN N L)[t]? = some v := ev
      rw [intsN_at ht] at ev'
      cases ev'
      generalize hE : upd H' T1 _ = H2
      have s2 := new_same nT hE
      have g2 := new_at hE
      clear hE
      have hD2 := s2 _ _ hD'
      have lb : (begin_ L lim t).length ≤ t := by
        unfold begin_ starts
        rw [List.length_map]
        have := List.length_filter_le (fun r => decide (lim < L r)) (List.range t)
        rwa [List.length_range] at this
      refine ⟨T1, _, rfl, SqT.of g2, rfl, _, _, rfl, s_name ⟨_, _, rfl, s_name ⟨rfl, rfl, ?_⟩⟩⟩
      walk_at "sx"
      refine i_2 (fun c => ?_) (fun c => ?_)
      · walk_at "sx"
        refine ⟨_, DPut.k (k := Sum.inl (t : Int)) hD2 (by unfold kvM; rw [List.length_map, sizeLine_eq]; omega), Sx.Same.put (s'.trans s2) hD, ?_⟩
        rw [upd_same, begin_succ, if_pos c]
        have nk : t ∉ keys (begin_ L lim t) := fun h => by
          rw [keys_begin] at h
          exact Nat.lt_irrefl _ (mem_starts.mp h).1
        rw [show V.non = valE none from rfl, kvM_put nk]
      · refine ⟨s'.trans s2, ?_⟩
        rw [hD2, begin_succ, if_neg c, List.append_nil]
    rintro H1 ⟨s1, hc0⟩
    rw [intsN_len] at hc0
    have Dn : H D = none := hD
    have hc1 : True → H1 D = some (.dK (kvM (begin_ L lim N))) := fun _ => hc0
    clear hc0
    walk_at "sx"
    refine ⟨D, _, rfl, .inl (hc1 trivial), fun pl0 npl => ?_⟩
    generalize hE : upd H1 pl0 _ = H2
    have s2 := new_same npl hE
    have hpl0 : True → H2 pl0 = some (.lst ((keys (begin_ L lim N)).map nv)) := fun _ => by rw [← hE, upd_same, kvM_keys]
    clear hE
    have pD0 : pl0 ≠ D := fun e => by
      have z := hc1 trivial
      rw [← e, npl] at z
      cases z
    walk_at "sx"
    obtain ⟨WW, eW⟩ : ∃ WW : Nat → L2.St → Hp → Prop, WW = fun mm σ G => Same H G ∧ ∃ (cm : List Ent) (pl : Addr) (lv : List Nat) (v2 v5 v6 v7 : Option V), (True → G D = some (.dK (kvM cm))) ∧ (True → G pl = some (.lst (lv.map nv))) ∧ pl ≠ D ∧ Gd m N i j R L lim cm ∧ (∀ r ∈ lv, r ∈ keys cm) ∧ (∀ r ∈ keys cm, r ∈ lv ∨ Ex m i j R cm r) ∧ Sr m N i j R L lim ⟨cm, lv, 0, 0, [], none⟩ ∧
      mm = 2 * (N - cm.length) + (if lv = [] then 0 else 1) ∧ σ = [some (.ref x), some (.int lim), v2, some (.ref D), some (.ref pl), v5, v6, v7, none] := ⟨_, rfl⟩
    refine s_while (m := 2 * (N - (begin_ L lim N).length) + (if keys (begin_ L lim N) = [] then 0 else 1)) (W := WW) ?_ ?_
    · rw [eW]
      exact ⟨s1.trans s2, begin_ L lim N, pl0, _, _, _, _, _, fun _ => s2 _ _ (hc1 trivial), hpl0, pD0, begin_gd, fun r hr => hr, fun r hr => .inl hr, Sr.first, rfl, rfl⟩
    intro mm σ G hW
    rw [eW] at hW
    obtain ⟨sG, cm, pl, lv, v2, v5, v6, v7, hD', hpl, plD, gd, lvk, ex, sr, emm, rfl⟩ := hW
    walk_at "sx"
    refine ⟨_, _, rfl, .inl ⟨_, SqL.of (hpl trivial), rfl⟩, ?_⟩
    rw [List.length_map]
    walk_at "sx"
    refine i_2 (fun c => ?_) (fun c => ?_)
    · have lv0 : lv ≠ [] := fun e => by
        rw [e] at c
        simp at c
      rw [if_neg lv0] at emm
      refine ⟨fun σ' G => ∃ m', m' < mm ∧ WW m' σ' G, fun _ _ h => h, ?_⟩
      walk_at "sx"
      rename_i pr npr G1 t1 hr1
      have prD : pr ≠ D := fun e => by
        have z := hD' trivial
        rw [← e, npr] at z
        cases z
      have plr : pl ≠ pr := ne_of_none (hpl trivial) npr
      have Hpr : H pr = none := Same.free sG npr
      have sG1 := sG.trans t1
      have cl := came_len gd.came
      refine ⟨_, rfl, pl, rfl, ⟨_, SqL.of (t1 _ _ (hpl trivial))⟩, for_list (K := K) (a := pl) (xs := lv.map nv) (fun t σ G => Same H G ∧ ∃ (cm' : List Ent) (re : List Nat) (v2 v6 v7 : Option V), (True → G D = some (.dK (kvM cm'))) ∧ (True → G pr = some (.lst (re.map nv))) ∧ (True → G pl = some (.lst (lv.map nv))) ∧ Gd m N i j R L lim cm' ∧ (∀ r ∈ lv, r ∈ keys cm') ∧ (∀ r ∈ re, r ∈ keys cm') ∧ (∀ r ∈ keys cm', r ∈ lv.drop t ∨ r ∈ re ∨ Ex m i j R cm' r) ∧ cm'.length = cm.length + re.length ∧ Sr m N i j R L lim ⟨cm', lv, t, 0, re, none⟩ ∧
        σ = [some (.ref x), some (.int lim), v2, some (.ref D), some (.ref pl), some (.ref pr), v6, v7, none]) ?_ ?_ ?_ ?_⟩
      · exact ⟨sG1, cm, [], _, _, _, fun _ => t1 _ _ (hD' trivial), fun _ => hr1, fun _ => t1 _ _ (hpl trivial), gd, lvk, (fun _ h => nomatch h), fun r hr => (ex r hr).imp (fun h => by rw [List.drop_zero]; exact h) .inr, rfl, sr, rfl⟩
      · rintro t σ G' _ ⟨_, cm', re, _, _, _, _, _, h, _⟩
        exact SqL.of (h trivial)
      · rintro t y σ G' hy ⟨sg, cm', re, v2, v6, v7, hD2, hre, hpl2, gd', lvk', rek, ex', lc, sr', rfl⟩
        obtain ⟨r, hr, rfl⟩ : ∃ r, lv[t]? = some r ∧ nv r = y := by
          rw [List.getElem?_map] at hy
          exact Option.map_eq_some_iff.mp hy
        have rk := lvk' r (List.mem_of_getElem? hr)
        obtain ⟨pe, hpe, per⟩ := List.mem_map.mp rk
        have rN : r < N := by
          have := gd'.came.lt pe hpe
          rwa [per] at this
        obtain ⟨b, hb, b1, b2, hbl0⟩ := harc r rN
        have hbl : True → H b = some (.lst (((List.range (2 * m)).filter fun a => src i j a == r).map nv)) := fun _ => hbl0
        clear hbl0
        unfold tFor iList
        walk_at "sx"
        refine r_get rfl (sg _ _ hx) T.cl_Spread T.no_Spread_arcs rfl ?_
        walk_at "sx"
        refine r_ixL (sg _ _ (haa trivial)) (v := .ref b) (atI_nat (by rw [List.getElem?_map, hb]; rfl)) ?_
        obtain ⟨AL, eAL⟩ : ∃ AL : List Nat, AL = (List.range (2 * m)).filter fun a => src i j a == r := ⟨_, rfl⟩
        rw [← eAL] at hbl
        have inAL : ∀ z, z ∈ AL ↔ z < 2 * m ∧ src i j z = r := fun z => by
          rw [eAL, List.mem_filter, List.mem_range, beq_iff_eq]
        have dropt : lv.drop t = r :: lv.drop (t + 1) := by
          obtain ⟨l, e⟩ := List.getElem?_eq_some_iff.mp hr
          rw [List.drop_eq_getElem_cons l, e]
        refine ⟨b, rfl, ⟨_, SqL.of (sg _ _ (hbl trivial))⟩, for_list (K := K) (a := b) (xs := AL.map nv) (fun u σ G => Same H G ∧ ∃ (cm' : List Ent) (re : List Nat) (v6 v7 : Option V), (True → G D = some (.dK (kvM cm'))) ∧ (True → G pr = some (.lst (re.map nv))) ∧ (True → G pl = some (.lst (lv.map nv))) ∧ Gd m N i j R L lim cm' ∧ (∀ r ∈ lv, r ∈ keys cm') ∧ (∀ r ∈ re, r ∈ keys cm') ∧ (∀ r ∈ keys cm', r ∈ lv.drop t ∨ r ∈ re ∨ Ex m i j R cm' r) ∧ cm'.length = cm.length + re.length ∧
          (∀ z ∈ AL.take u, 0 < R z → dst i j z ∈ keys cm') ∧ Sr m N i j R L lim ⟨cm', lv, t, u, re, none⟩ ∧ σ = [some (.ref x), some (.int lim), some (.int r), some (.ref D), some (.ref pl), some (.ref pr), v6, v7, none]) ?_ ?_ ?_ ?_⟩
        · exact ⟨sg, cm', re, _, _, hD2, hre, hpl2, gd', lvk', rek, ex', lc, (fun _ h => nomatch h), sr', rfl⟩
        · rintro u σ G _ ⟨s5, _⟩
          exact SqL.of (s5 _ _ (hbl trivial))
        · rintro u y σ G hy ⟨s5, cm5, re5, v6, v7, hD5, hre5, hpl5, gd5, lvk5, rek5, ex5, lc5, kn5, sr5, rfl⟩
          obtain ⟨z, hz, rfl⟩ : ∃ z, AL[u]? = some z ∧ nv z = y := by
            rw [List.getElem?_map] at hy
            exact Option.map_eq_some_iff.mp hy
          have hzA : (arcsOf m i j r)[u]? = some z := by rw [← hz, eAL]; rfl
          obtain ⟨zl, zs⟩ := (inAL z).mp (List.mem_of_getElem? hz)
          obtain ⟨e, ee⟩ : ∃ e, e = dst i j z := ⟨_, rfl⟩
          have eN : e < N := by
            rw [ee]
            rcases arc_cases z with ⟨q, rfl⟩ | ⟨q, rfl⟩
            · rw [dst_even]
              exact (S.ij q (by omega)).2
            · rw [dst_odd]
              exact (S.ij q (by omega)).1
          have cl5 := came_len gd5.came
          have tk : AL.take (u + 1) = AL.take u ++ [z] := by
            rw [List.take_succ, hz]
            rfl
          have skip : (0 < R z → e ∈ keys cm5) → ∀ y ∈ AL.take (u + 1), 0 < R y → dst i j y ∈ keys cm5 := fun h y hy hp => by
            rw [tk] at hy
            rcases List.mem_append.mp hy with w | w
            · exact kn5 y w hp
            · rw [List.mem_singleton.mp w] at hp ⊢
              rw [← ee]
              exact h hp
          walk_at "sx"
          refine r_get rfl (s5 _ _ hx) T.cl_Spread T.no_Spread_ends rfl ?_
          walk_at "sx"
          refine r_ixL (s5 _ _ (hea trivial)) (atI_nat (intsN_at zl)) ?_
          rw [← ee]
          walk_at "sx"
          refine r_get rfl (s5 _ _ hx) T.cl_Spread T.no_Spread_room rfl ?_
          walk_at "sx"
          refine r_ixL (s5 _ _ (hra trivial)) (atI_nat (intsN_at zl)) ?_
          walk_at "sx"
          refine i_2 (fun c1 => ?_) (fun c1 => ?_)
          · walk_at "sx"
            refine ⟨D, _, rfl, DGet.k (k := Sum.inl (e : Int)) (hD5 trivial), ?_⟩
            rw [kvM_has gd5.came.nd]
            by_cases hk : e ∈ keys cm5
            · rw [decide_eq_true hk]
              walk_at "sx"
              exact ⟨s5, cm5, re5, _, _, hD5, hre5, hpl5, gd5, lvk5, rek5, ex5, lc5, skip fun _ => hk, sr5.skip hr hzA (fun w => w.2 (by rw [← ee]; exact hk)), rfl⟩
            · rw [decide_eq_false hk]
              have rk5 : src i j z ∈ keys cm5 := by
                rw [zs]
                exact lvk5 r (List.mem_of_getElem? hr)
              have CM6 := gd5.came.snoc eN hk zl c1 ee.symm rk5
              have yes6 : 0 < R z ∧ dst i j z ∉ keys cm5 := ⟨c1, by rw [← ee]; exact hk⟩
              have cl6 := came_len CM6
              rw [List.length_append, List.length_singleton] at cl6
              walk_at "sx"
              refine ⟨D, _, rfl, DPut.k (k := Sum.inl (e : Int)) (v := valE (some z)) (hD5 trivial) (by unfold kvM; rw [List.length_map, sizeLine_eq]; omega), ?_⟩
              rw [kvM_put hk]
              generalize hE : upd G D _ = G6
              have k6 : Keep D G G6 := by rw [← hE]; exact put_keep rfl
              have hD6 : True → G6 D = some (.dK (kvM (cm5 ++ [(e, some z)]))) := fun _ => by rw [← hE]; exact upd_same
              clear hE
              have s6 : Same H G6 := Keep.toSame s5 Dn k6
              have hre6 : True → G6 pr = some (.lst (re5.map nv)) := fun _ => k6 _ _ prD (hre5 trivial)
              have hpl6 : True → G6 pl = some (.lst (lv.map nv)) := fun _ => k6 _ _ plD (hpl5 trivial)
              walk_at "sx"
              refine ty_list (hre6 trivial) (s_cons (s_var rfl (s_nil (r_app (hre6 trivial) (by rw [List.length_map, sizeLine_eq]; omega) (fun G7 k7 h70 => ?_)))))
              have h7 : True → G7 pr = some (.lst ((re5 ++ [e]).map nv)) := fun _ => by rw [h70, List.map_append]; rfl
              clear h70
              have s7 : Same H G7 := Keep.toSame s6 Hpr k7
              have hD7 : True → G7 D = some (.dK (kvM (cm5 ++ [(e, some z)]))) := fun _ => k7 _ _ (Ne.symm prD) (hD6 trivial)
              have hpl7 : True → G7 pl = some (.lst (lv.map nv)) := fun _ => k7 _ _ plr (hpl6 trivial)
              walk_at "sx"
              refine r_get rfl (s7 _ _ hx) T.cl_Spread T.no_Spread_loads rfl ?_
              walk_at "sx"
              refine r_ixL (s7 _ _ (hla trivial)) (atI_nat (intsN_at eN)) ?_
              walk_at "sx"
              refine i_2 (fun c2 => ?_) (fun c2 => ?_)
              · walk_at "sx"
                rename_i p8 np8 G8 s8 h8
                refine kF p8 D e (cm5 ++ [(e, some z)]) G8 (s7.trans s8) h8 (s8 _ _ (hD7 trivial)) CM6 ⟨cm5.length, some z, by simp⟩ c2 (fun q hq => ?_) (by rw [ee] at c2 ⊢; exact sr5.found hr hzA yes6 c2)
                rcases List.mem_append.mp hq with w | w
                · exact gd5.top q w
                · have := List.mem_singleton.mp w
                  cases this
              · walk_at "sx"
                refine ⟨s7, cm5 ++ [(e, some z)], re5 ++ [e], _, _, hD7, h7, hpl7, gd5.snoc CM6 (by omega) rk5, fun q hq => ?_, fun q hq => ?_, fun q hq => ?_, by rw [List.length_append, List.length_append, List.length_singleton, List.length_singleton, lc5]; omega, fun y hy hp => ?_, (by rw [ee] at c2 ⊢; exact sr5.more hr hzA yes6 c2), rfl⟩
                · rw [keys_snoc]
                  exact List.mem_append_left _ (lvk5 q hq)
                · rw [keys_snoc]
                  rcases List.mem_append.mp hq with w | w
                  · exact List.mem_append_left _ (rek5 q w)
                  · exact List.mem_append_right _ w
                · rw [keys_snoc] at hq
                  rcases List.mem_append.mp hq with w | w
                  · rcases ex5 q w with h | h | h
                    · exact .inl h
                    · exact .inr (.inl (List.mem_append_left _ h))
                    · exact .inr (.inr h.snoc)
                  · exact .inr (.inl (List.mem_append_right _ w))
                · rw [keys_snoc]
                  rw [tk] at hy
                  rcases List.mem_append.mp hy with w | w
                  · exact List.mem_append_left _ (kn5 y w hp)
                  · rw [List.mem_singleton.mp w, ← ee]
                    exact List.mem_append_right _ (by simp)
          · walk_at "sx"
            exact ⟨s5, cm5, re5, _, _, hD5, hre5, hpl5, gd5, lvk5, rek5, ex5, lc5, skip fun h => absurd h c1, sr5.skip hr hzA (fun w => c1 w.1), rfl⟩
        · rintro σ G ⟨s5, cm5, re5, v6, v7, hD5, hre5, hpl5, gd5, lvk5, rek5, ex5, lc5, kn5, sr5, rfl⟩
          rw [List.length_map, List.take_length] at kn5
          rw [List.length_map] at sr5
          refine ⟨s5, cm5, re5, _, _, _, hD5, hre5, hpl5, gd5, lvk5, rek5, fun r' hr' => ?_, lc5, sr5.rule hr (by rw [eAL]; rfl), rfl⟩
          rcases ex5 r' hr' with h | h
          · rw [dropt] at h
            rcases List.mem_cons.mp h with w | w
            · exact .inr (.inr fun y hy hs hp => kn5 y ((inAL y).mpr ⟨hy, by rw [hs, w]⟩) hp)
            · exact .inl w
          · exact .inr h
      · rintro σ G ⟨sg, cm', re, v2, v6, v7, hD2, hre, hpl2, gd', lvk', rek, ex', lc, sr', rfl⟩
        rw [List.length_map] at sr'
        have cl' := came_len gd'.came
        walk_at "sx"
        refine ⟨2 * (N - cm'.length) + (if re = [] then 0 else 1), ?_, ?_⟩
        · by_cases h : re = []
          · have lr : re.length = 0 := by rw [h]; rfl
            rw [if_pos h]
            omega
          · have := List.length_pos_iff.mpr h
            split <;> omega
        · rw [eW]
          exact ⟨sg, cm', pr, re, _, _, _, _, hD2, hre, prD, gd', rek, fun r hr => (ex' r hr).elim (fun h => by rw [List.length_map, List.drop_length] at h; cases h) id, sr'.next lv0, rfl, rfl⟩
    · have lv0 : lv = [] := by
        cases lv with
        | nil => rfl
        | cons a b => exact absurd (by rw [List.length_cons]; omega) c
      subst lv0
      walk_at "sx"
      rename_i p3 np3 G3 t3 h3
      exact kN p3 D cm G3 (sG.trans t3) h3 (t3 _ _ (hD' trivial)) gd (fun r hr => (ex r hr).resolve_left fun h => nomatch h) sr
end
end K37

set_option Elab.async false
set_option linter.all false
set_option maxRecDepth 100000
set_option maxHeartbeats 4000000
namespace K37
open PySem L2 Sx Fl
local macro_rules | `(tactic| walk_at "cond") => `(tactic| first
  | assumption
  | decide
  | exact c_mul_r (by first | decide | omega) (by first | decide | omega)
  | exact c_mul_l (by first | decide | omega) (by first | decide | omega)
  | exact c_div (by first | decide | omega) (by first | decide | omega)
  | exact c_pow (by first | decide | omega) (by first | decide | omega) (by first | decide | omega)
  | omega)
local macro_rules | `(tactic| walk_at "ne") => `(tactic| first
  | assumption
  | (refine Ne.symm ?_; assumption)
  | (refine' Flow.ne ?nh ?nn; (case nn => assumption); (case nh => walk_at "fl"))
  | (refine Ne.symm ?_; refine' Flow.ne ?nh ?nn; (case nn => assumption); (case nh => walk_at "fl"))
  | (refine' ne_of_none ?nh ?nn; (case nn => assumption); (case nh => walk_at "at"))
  | (refine Ne.symm ?_; refine' ne_of_none ?nh ?nn; (case nn => assumption); (case nh => walk_at "at")))
local macro_rules | `(tactic| walk_at "at") => `(tactic| first
  | assumption
  | (refine Same.up (by assumption) ?_; walk_at "at")
  | (refine Keep.up (by assumption) (by walk_at "ne") ?_; walk_at "at"))
local macro_rules | `(tactic| walk_at "fl") => `(tactic| first
  | assumption
  | (refine Flow.same (by assumption) ?_; walk_at "fl")
  | (refine Flow.keep (by assumption) (by walk_at "ne") ?_; walk_at "fl"))
local macro_rules | `(tactic| walk_at "fr") => `(tactic| first
  | assumption
  | (refine same_free (by assumption) ?_; walk_at "fr")
  | (refine Keep.free (by assumption) (by walk_at "ne") ?_; walk_at "fr"))
local macro_rules | `(tactic| walk_at "kp") => `(tactic| first
  | assumption
  | exact Keep.refl _ _
  | (refine Keep.trans ?_ (by assumption); walk_at "kp")
  | (refine Keep.trans ?_ (Keep.same (by assumption)); walk_at "kp"))
local macro_rules | `(tactic| walk_at "sm") => `(tactic| first
  | assumption
  | exact L2.Same.refl _
  | (refine L2.Same.trans ?_ (by assumption); walk_at "sm"))
local macro_rules | `(tactic| walk_at "sz") => `(tactic| first | exact Nat.le_of_ble_eq_true rfl | omega)
local macro_rules | `(tactic| walk_at "new") => `(tactic| (intro p np; generalize hE : upd _ p _ = H2; have s2 := new_same np hE; have h2 := new_at hE; clear hE))
local macro_rules | `(tactic| walk_at "newx") => `(tactic| (intro e d na nd hda; generalize hE : upd (upd _ d _) e _ = H2; have s2 := newx_same na nd hE; have h2 := newx_at hE; have h3 := newx_d hda hE; clear hE))
local macro_rules | `(tactic| walk_at "s1") => `(tactic| first
  | with_reducible refine s_seq ?_
  | with_reducible refine s_asg ?_
  | with_reducible refine s_name ?_
  | with_reducible refine s_ret ?_
  | with_reducible refine s_c ?_
  | ((with_reducible refine' s_var ?hv ?_); (case hv => rfl))
  | with_reducible refine s_op ?_
  | with_reducible refine s_un ?_
  | with_reducible refine s_ifS ?_
  | with_reducible refine s_cb ?_
  | with_reducible refine s_cons ?_
  | with_reducible refine s_nil ?_
  | with_reducible refine s_call ?_
  | with_reducible refine s_test ?_
  | with_reducible refine s_tB ?_
  | with_reducible refine s_bl ?_
  | with_reducible refine s_and ?_
  | with_reducible refine s_or ?_
  | with_reducible refine s_not ?_
  | with_reducible refine s_andV ?_
  | with_reducible refine s_orV ?_
  | with_reducible refine s_notV ?_
  | with_reducible refine s_blV ?_
  | with_reducible refine s_if ?_
  | with_reducible refine s_tup ?_
  | with_reducible refine s_lst ?_
  | with_reducible refine s_drop ?_
  | with_reducible refine s_next ?_
  | with_reducible refine s_sub ?_
  | with_reducible refine s_bm ?_
  | with_reducible refine s_callK ?_
  | with_reducible refine s_brk ?_
  | with_reducible refine s_cont ?_
  | with_reducible refine r_I0 ?_
  | with_reducible refine r_U ?_
  | with_reducible refine r_eqI ?_
  | with_reducible refine r_neI ?_
  | with_reducible refine r_isB ?_
  | with_reducible refine r_notB ?_
  | with_reducible refine i_t ?_
  | with_reducible refine i_f ?_
  | with_reducible refine i_nt ?_
  | with_reducible refine i_nf ?_
  | ((with_reducible refine' r_I ?hc ?_); (case hc => walk_at "cond"))
  | (with_reducible refine .inl ⟨_, rfl, ?_⟩)
  | (with_reducible refine ⟨_, rfl, ?_⟩)
  | ((with_reducible refine' r_ixL ?hx ?ha ?_); (case hx => walk_at "at"); (case ha => rfl))
  | ((with_reducible refine' r_ixT ?hx ?ha ?_); (case hx => walk_at "at"); (case ha => rfl))
  | ((with_reducible refine' r_setL ?hx ?ha ?_); (case hx => walk_at "at"); (case ha => rfl); intro H2 k2 h2; (try dsimp only [List.set, Int.toNat] at h2))
  | ((with_reducible refine' r_app ?hx ?hl ?_); (case hx => walk_at "at"); (case hl => first | exact Nat.lt_of_ble_eq_true rfl | omega); intro H2 k2 h2)
  | ((with_reducible refine' ty_list ?hx ?_); (case hx => walk_at "at"))
  | (refine And.intro (by (with_reducible show _ ≤ sizeLine); walk_at "sz") ?_; walk_at "new")
  | with_reducible refine s_exv ?_
  | walk_at "newx")
local macro_rules | `(tactic| walk_at "sx") => `(tactic| repeat (walk_at "s1"))
local macro_rules | `(tactic| walk_at "s2") => `(tactic| first
  | ((with_reducible refine' r_ixG ?hx ?hn ?_); (case hx => walk_at "at"); (case hn => omega))
  | ((with_reducible refine' r_ixGT ?hx ?hn ?_); (case hx => walk_at "at"); (case hn => omega))
  | (with_reducible refine ig_cons (fun hix => ?_) (fun hix => ?_))
  | ((with_reducible refine ig_nil ?_); omega)
  | ((with_reducible refine' i_T ?hc ?_); (case hc => omega))
  | ((with_reducible refine' i_F ?hc ?_); (case hc => omega))
  | (with_reducible refine i_2 (fun hc => ?_) (fun hc => ?_))
  | (with_reducible refine i_n2 (fun hc => ?_) (fun hc => ?_)))
local macro_rules | `(tactic| walk_at "go") => `(tactic| repeat' (first | walk_at "s1" | walk_at "s2"))

local macro_rules | `(tactic| walk_at "s1") => `(tactic| first
  | with_reducible refine s_chain ?_
  | with_reducible refine s_fldS ?_
  | with_reducible refine s_fld ?_
  | with_reducible refine s_dIn ?_
  | with_reducible refine s_dNotIn ?_
  | with_reducible refine s_sl ?_
  | with_reducible refine s_noPart ?_
  | with_reducible refine s_part ?_
  | with_reducible refine s_meth ?_
  | with_reducible refine s_make ?_)

theorem inside_congr {m : Nat} {i j : Nat → Nat} {W : Nat → Int} {P P' : List Nat} (h : ∀ r, r ∈ P ↔ r ∈ P') : inside m i j W P = inside m i j W P' := by
  unfold inside
  refine sumN_congr fun k _ => ?_
  by_cases a : i k ∈ P ∧ j k ∈ P
  · rw [if_pos a, if_pos ⟨(h _).mp a.1, (h _).mp a.2⟩]
  · rw [if_neg a, if_neg fun z => a ⟨(h _).mpr z.1, (h _).mpr z.2⟩]
theorem all_of_len {l s : List Nat} (nd : l.Nodup) (sub : ∀ x ∈ l, x ∈ s) (h : s.length ≤ l.length) : ∀ x ∈ s, x ∈ l := by
  intro x hx
  refine Classical.byContradiction fun no => ?_
  have := L2.nat_nodup_len (x :: l) s (List.nodup_cons.mpr ⟨no, nd⟩) fun y hy => by
    rcases List.mem_cons.mp hy with rfl | hy
    · exact hx
    · exact sub y hy
  rw [List.length_cons] at this
  omega
theorem nat_perm {l : List Nat} {ns : List Int} (p : ns.Perm (l.map fun m : Nat => (m : Int))) : ∃ ms : List Nat, ns = (ms.map fun m : Nat => (m : Int)) ∧ ms.Perm l := by
  have z := p.map Int.toNat
  have e : (l.map fun m : Nat => (m : Int)).map Int.toNat = l := by
    rw [List.map_map]
    exact (List.map_congr_left fun x _ => rfl).trans (List.map_id l)
  refine ⟨ns.map Int.toNat, ?_, by rw [e] at z; exact z⟩
  rw [List.map_map]
  refine (List.map_id ns).symm.trans (List.map_congr_left fun x hx => ?_)
  obtain ⟨m, _, rfl⟩ := List.mem_map.mp (p.mem_iff.mp hx)
  rfl
/-- what a search comes back with -/
def Res (m N : Nat) (i j : Nat → Nat) (R L : Nat → Int) (lim : Int) (cm : List Ent) (vr : V) : Prop :=
  (∃ q : Nat, vr = .int q ∧ Came m N i j R cm ∧ (∃ (k : Nat) (o : Option Nat), cm[k]? = some (q, o)) ∧ L q < lim ∧ (∀ r, (r, none) ∈ cm → lim < L r) ∧ SRes m N i j R L lim cm (some q)) ∨ (vr = .non ∧ Gd m N i j R L lim cm ∧ (∀ r ∈ keys cm, Ex m i j R cm r) ∧ SRes m N i j R L lim cm none)
theorem c_search {C : Addr} {H : Hp} {Q : VK} {E : XK} {x la ra : Addr} {N m : Nat} {i j : Nat → Nat} {W R L : Nat → Int} {lim : Int} (S : SpAt C H x la ra N m i j R L) (n64 : N ≤ 64) (m1 : m ≤ 1000)
    (k : ∀ (p c : Addr) (vr : V) (cm : List Ent) H', Same H H' → H' p = some (.tup [.ref c, vr]) → H' c = some (.dK (kvM cm)) → Res m N i j R L lim cm vr → Q (.ref p) H') : spSearch C (.ref x :: ([.int lim] ++ [])) H Q E :=
  ⟨x, la, ra, N, m, i, j, W, R, L, lim, rfl, S, n64, m1, fun p c q cm H' s h1 h2 h3 h4 h5 h6 h7 => k p c _ cm H' s h1 h2 (.inl ⟨q, rfl, h3, h4, h5, h6, h7⟩), fun p c cm H' s h1 h2 h3 h4 h5 => k p c _ cm H' s h1 h2 (.inr ⟨rfl, h3, h4, h5⟩)⟩
/-- a search that finds none: nothing is above the limit, or a part weighs too much -/
theorem res_none {m N : Nat} {i j : Nat → Nat} {W R L : Nat → Int} {lim : Int} {cm : List Ent} (A : Am m W R) (LC : ∀ r, r < N → L r = carry m i j R r) (g : Gd m N i j R L lim cm) (e : ∀ r ∈ keys cm, Ex m i j R cm r) :
    (cm = [] → ∀ r, r < N → L r ≤ lim) ∧ (cm ≠ [] → lim * (keys cm).length < inside m i j W (keys cm)) := by
  have kN : ∀ r ∈ keys cm, r < N := fun r hr => by
    obtain ⟨p, hp, rfl⟩ := List.mem_map.mp hr
    exact g.came.lt p hp
  constructor
  · intro z r hr
    rcases Int.lt_or_le lim (L r) with h | h
    · have := g.all r hr h
      rw [z] at this
      cases this
    · exact h
  · intro ne
    obtain ⟨r0, h0, h1⟩ := g.some_ ne
    refine closed_gt A g.came.nd (fun x hx hs hp => e _ hs x hx rfl hp) (fun r hr => ?_) h0 ?_
    · rw [← LC r (kN r hr)]
      exact g.low r hr
    · rw [← LC r0 (kN r0 h0)]
      exact h1
section
variable {P : Program} {w : World} {K : PySem.W.Frag} {mg : Str → Option Value} {base : Heap} {A : Ad}
def spSettle (C : Addr) : Sp := fun vs H Q _ => ∃ (x la ra : Addr) (N m : Nat) (i j : Nat → Nat) (W R L : Nat → Int) (lim : Int), vs = [.ref x, .int lim] ∧ SpAt C H x la ra N m i j R L ∧ N ≤ 64 ∧ m ≤ 1000 ∧ Am m W R ∧ (∀ r, r < N → L r = carry m i j R r) ∧ inside m i j W (List.range N) ≤ lim * N ∧
  ∀ (p : Addr) (ks : List Nat) R' L' H', K2 la ra H H' → SpAt C H' x la ra N m i j R' L' → Am m W R' → (∀ r, r < N → L' r = carry m i j R' r) → H' p = some (.tup (ks.map nv)) → ks.Pairwise (· < ·) → (∀ r ∈ ks, r < N) → (ks = [] → ∀ r, r < N → L' r ≤ lim) → (ks ≠ [] → lim * ks.length < inside m i j W ks) → Set' m N i j R L lim R' L' ks → Q (.ref p) H'
theorem ok_settle (T : Txt P K mg A) : FnOk P w K mg base CX0 2 A.a_Spread__settle A.d_Spread__settle ["self", "limit"] (spSettle A.c_Spread) := by
  refine T.F_Spread__settle.ok sc_Spread__settle (fun vs H Q E h => ?_) (fun cdv A' outer s H vs Q E hr h => ?_)
  · obtain ⟨x, la, ra, N, m, i, j, W, R, L, lim, rfl, _⟩ := h
    rfl
  · obtain ⟨x, la, ra, N, m, i, j, W, R, L, lim, rfl, S, n64, m1, AM, LC, tot, k⟩ := h
    have G_Spread__search := ok_search (w := w) (base := base) T
    have G_Spread__shift := ok_shift (w := w) (base := base) T
    obtain ⟨dx, aa, ea, as_, hx, _⟩ := S.obj
    refine ⟨_, (pss_cons (ps_asg (pe_meth (pv 0) T.cl_Spread T.me_Spread_search G_Spread__search (hr.mono (by decide)) (B_Spread__search T) .nil pass0 (pa_cons (pv 1) pa_nil)) (pg_tup rfl (pgs_cons (pg_name (i := 2) sc_Spread__settle.nd rfl (Or.inl rfl)) (pgs_cons (pg_name (i := 3) sc_Spread__settle.nd rfl (Or.inl rfl)) pgs_nil))))
  (pss_cons (ps_while PassesOwn.never (pt_cmpR op_notN (pv 3) pe_non (nomark _))
  (pss_cons (ps_expr (pe_meth (pv 0) T.cl_Spread T.me_Spread_shift G_Spread__shift (hr.mono (by decide)) (B_Spread__shift T) .nil pass0 (pa_cons (pv 2) (pa_cons (pv 3) (pa_cons (pv 1) pa_nil)))))
  (pss_one (ps_asg (pe_meth (pv 0) T.cl_Spread T.me_Spread_search G_Spread__search (hr.mono (by decide)) (B_Spread__search T) .nil pass0 (pa_cons (pv 1) pa_nil)) (pg_tup rfl (pgs_cons (pg_name (i := 2) sc_Spread__settle.nd rfl (Or.inl rfl)) (pgs_cons (pg_name (i := 3) sc_Spread__settle.nd rfl (Or.inl rfl)) pgs_nil)))))))
  (pss_one (ps_ret (pe_callTy call_tuple_of (by rfl) T.n_tuple (by decide +kernel) (pa_cons (pe_callB (call_sortedDI rfl) (by rfl) T.n_sorted (by decide +kernel) (pa_cons (pv 2) pa_nil)) pa_nil)))))), ?_⟩
    walk_at "sx"
    refine ⟨x, dx, _, rfl, hx, rfl, ?_⟩
    walk_at "sx"
    refine c_search (W := W) S n64 m1 fun p c vr cm H1 s1 hp hc res => ?_
    refine ⟨p, _, rfl, SqT.of hp, rfl, _, _, rfl, s_name ⟨_, _, rfl, s_name ⟨rfl, ?_⟩⟩⟩
    clear hp
    obtain ⟨WW, eW⟩ : ∃ WW : Nat → L2.St → Hp → Prop, WW = fun mm σ G => K2 la ra H G ∧ ∃ (R' L' : Nat → Int) (c : Addr) (vr : V) (cm : List Ent), SpAt A.c_Spread G x la ra N m i j R' L' ∧ Am m W R' ∧ (∀ r, r < N → L' r = carry m i j R' r) ∧ (True → G c = some (.dK (kvM cm))) ∧ Res m N i j R' L' lim cm vr ∧ Stl m N i j R L lim R' L' ∧ mm = over N L' lim ∧ σ = [some (.ref x), some (.int lim), some (.ref c), some vr] := ⟨_, rfl⟩
    walk_at "s1"
    dsimp only
    refine s_while (m := over N L lim) (W := WW) ?_ ?_
    · rw [eW]
      exact ⟨K2.same s1, R, L, c, vr, cm, S.same s1, AM, LC, fun _ => hc, res, .refl _, rfl, rfl⟩
    clear hc res s1
    intro mm σ G hW
    rw [eW] at hW
    obtain ⟨kG, R', L', c, vr, cm, S', AM', LC', hc, res, stl, emm, rfl⟩ := hW
    walk_at "sx"
    refine ⟨rfl, _, rfl, ?_⟩
    rcases res with ⟨q, rfl, CM, hk, hq, top, sres⟩ | ⟨rfl, gd, ex, sres⟩
    · rw [show (!decide (V.int (q : Int) = V.non)) = true by simp]
      refine i_t ?_
      refine ⟨fun σ' G => ∃ m', m' < mm ∧ WW m' σ' G, fun _ _ h => h, ?_⟩
      obtain ⟨dx, aa, ea, as_, hx', _⟩ := S'.obj
      walk_at "sx"
      refine ⟨x, dx, _, rfl, hx', rfl, ?_⟩
      walk_at "sx"
      refine ⟨x, c, la, ra, N, m, q, i, j, W, R', L', cm, lim, rfl, S', hc trivial, CM, AM', LC', n64, m1, hk, hq, top, fun G2 R2 L2' k2 S2 AM2 LC2 less shf => ?_⟩
      obtain ⟨dx2, aa2, ea2, as2, hx2, _⟩ := S2.obj
      walk_at "sx"
      refine ⟨x, dx2, _, rfl, hx2, rfl, ?_⟩
      walk_at "sx"
      refine c_search (W := W) S2 n64 m1 fun p3 c3 vr3 cm3 G3 s3 hp3 hc3 res3 => ?_
      refine ⟨p3, _, rfl, SqT.of hp3, rfl, _, _, rfl, s_name ⟨_, _, rfl, s_name ⟨rfl, ?_⟩⟩⟩
      refine ⟨over N L2' lim, by omega, ?_⟩
      rw [eW]
      exact ⟨kG.trans (k2.trans (K2.same s3)), R2, L2', c3, vr3, cm3, S2.same s3, AM2, LC2, fun _ => hc3, res3, .tail stl ⟨cm, q, sres, shf⟩, rfl, rfl⟩
    · rw [show (!decide (V.non = V.non)) = false by simp]
      refine i_f ?_
      obtain ⟨e1, e2⟩ := res_none AM' LC' gd ex
      have kN : ∀ r ∈ keys cm, r < N := fun r hr => by
        obtain ⟨p, hp, rfl⟩ := List.mem_map.mp hr
        exact gd.came.lt p hp
      have lc := came_len gd.came
      have lk : (keys cm).length = cm.length := List.length_map ..
      have few : cm.length < 64 := by
        rcases Nat.lt_or_ge cm.length 64 with h | h
        · exact h
        · have ne : cm ≠ [] := fun z => by
            rw [z] at h
            simp at h
          have z := e2 ne
          have all := all_of_len gd.came.nd (s := List.range N) (fun r hr => List.mem_range.mpr (kN r hr)) (by rw [List.length_range]; omega)
          rw [inside_congr (P' := List.range N) fun r => ⟨fun hr => List.mem_range.mpr (kN r hr), all r⟩] at z
          rw [show (keys cm).length = N by omega] at z
          omega
      walk_at "sx"
      refine ⟨c, _, (keys cm).map fun r : Nat => (r : Int), rfl, .inl (hc trivial), by unfold kvM keys; rw [List.map_map, List.map_map, List.map_map]; rfl, by rw [List.length_map]; omega, fun ys p6 pm up n6 => ?_⟩
      generalize hE : upd G p6 _ = G6
      have s6 := new_same n6 hE
      obtain ⟨ms, rfl, pm2⟩ := nat_perm pm
      have h6 : True → G6 p6 = some (.lst (ms.map nv)) := fun _ => by rw [new_at hE, List.map_map]; rfl
      clear hE
      have S6 := S'.same s6
      walk_at "sx"
      refine ⟨p6, _, rfl, .inl ⟨SqL.of (h6 trivial), fun p7 n7 => ?_⟩⟩
      have s7 : Same G6 (upd G6 p7 (.tup (ms.map nv))) := Same.new n7
      have nd : ms.Nodup := pm2.nodup_iff.mpr gd.came.nd
      have asc : ms.Pairwise (· < ·) := by
        have le : ms.Pairwise (· ≤ ·) := (List.pairwise_map.mp up).imp fun h => by omega
        exact (le.and nd).imp fun h => Nat.lt_of_le_of_ne h.1 h.2
      have nil : ms = [] ↔ cm = [] := by
        have l1 := pm2.length_eq
        constructor
        · intro z
          rw [z] at l1
          exact List.length_eq_zero_iff.mp (by rw [← lk, ← l1]; rfl)
        · intro z
          rw [z] at l1
          exact List.length_eq_zero_iff.mp l1
      refine k p7 ms R' L' _ (kG.trans (K2.same (s6.trans s7))) (S6.same s7) AM' LC' upd_same asc (fun r hr => kN r (pm2.mem_iff.mp hr)) (fun z => e1 (nil.mp z)) (fun z => ?_) ⟨stl, cm, sres, pm2, asc⟩
      rw [inside_congr (P' := keys cm) fun r => pm2.mem_iff, pm2.length_eq]
      exact e2 fun w => z (nil.mpr w)
end
end K37

set_option Elab.async false
set_option linter.all false
set_option maxRecDepth 100000
set_option maxHeartbeats 4000000
namespace K37
open PySem L2 Sx Fl
local macro_rules | `(tactic| walk_at "cond") => `(tactic| first
  | assumption
  | decide
  | exact c_mul_r (by first | decide | omega) (by first | decide | omega)
  | exact c_mul_l (by first | decide | omega) (by first | decide | omega)
  | exact c_div (by first | decide | omega) (by first | decide | omega)
  | exact c_pow (by first | decide | omega) (by first | decide | omega) (by first | decide | omega)
  | omega)
local macro_rules | `(tactic| walk_at "ne") => `(tactic| first
  | assumption
  | (refine Ne.symm ?_; assumption)
  | (refine' Flow.ne ?nh ?nn; (case nn => assumption); (case nh => walk_at "fl"))
  | (refine Ne.symm ?_; refine' Flow.ne ?nh ?nn; (case nn => assumption); (case nh => walk_at "fl"))
  | (refine' ne_of_none ?nh ?nn; (case nn => assumption); (case nh => walk_at "at"))
  | (refine Ne.symm ?_; refine' ne_of_none ?nh ?nn; (case nn => assumption); (case nh => walk_at "at")))
local macro_rules | `(tactic| walk_at "at") => `(tactic| first
  | assumption
  | (refine Same.up (by assumption) ?_; walk_at "at")
  | (refine Keep.up (by assumption) (by walk_at "ne") ?_; walk_at "at"))
local macro_rules | `(tactic| walk_at "fl") => `(tactic| first
  | assumption
  | (refine Flow.same (by assumption) ?_; walk_at "fl")
  | (refine Flow.keep (by assumption) (by walk_at "ne") ?_; walk_at "fl"))
local macro_rules | `(tactic| walk_at "fr") => `(tactic| first
  | assumption
  | (refine same_free (by assumption) ?_; walk_at "fr")
  | (refine Keep.free (by assumption) (by walk_at "ne") ?_; walk_at "fr"))
local macro_rules | `(tactic| walk_at "kp") => `(tactic| first
  | assumption
  | exact Keep.refl _ _
  | (refine Keep.trans ?_ (by assumption); walk_at "kp")
  | (refine Keep.trans ?_ (Keep.same (by assumption)); walk_at "kp"))
local macro_rules | `(tactic| walk_at "sm") => `(tactic| first
  | assumption
  | exact L2.Same.refl _
  | (refine L2.Same.trans ?_ (by assumption); walk_at "sm"))
local macro_rules | `(tactic| walk_at "sz") => `(tactic| first | exact Nat.le_of_ble_eq_true rfl | omega)
local macro_rules | `(tactic| walk_at "new") => `(tactic| (intro p np; generalize hE : upd _ p _ = H2; have s2 := new_same np hE; have h2 := new_at hE; clear hE))
local macro_rules | `(tactic| walk_at "newx") => `(tactic| (intro e d na nd hda; generalize hE : upd (upd _ d _) e _ = H2; have s2 := newx_same na nd hE; have h2 := newx_at hE; have h3 := newx_d hda hE; clear hE))
local macro_rules | `(tactic| walk_at "s1") => `(tactic| first
  | with_reducible refine s_seq ?_
  | with_reducible refine s_asg ?_
  | with_reducible refine s_name ?_
  | with_reducible refine s_ret ?_
  | with_reducible refine s_c ?_
  | ((with_reducible refine' s_var ?hv ?_); (case hv => rfl))
  | with_reducible refine s_op ?_
  | with_reducible refine s_un ?_
  | with_reducible refine s_ifS ?_
  | with_reducible refine s_cb ?_
  | with_reducible refine s_cons ?_
  | with_reducible refine s_nil ?_
  | with_reducible refine s_call ?_
  | with_reducible refine s_test ?_
  | with_reducible refine s_tB ?_
  | with_reducible refine s_bl ?_
  | with_reducible refine s_and ?_
  | with_reducible refine s_or ?_
  | with_reducible refine s_not ?_
  | with_reducible refine s_andV ?_
  | with_reducible refine s_orV ?_
  | with_reducible refine s_notV ?_
  | with_reducible refine s_blV ?_
  | with_reducible refine s_if ?_
  | with_reducible refine s_tup ?_
  | with_reducible refine s_lst ?_
  | with_reducible refine s_drop ?_
  | with_reducible refine s_next ?_
  | with_reducible refine s_sub ?_
  | with_reducible refine s_bm ?_
  | with_reducible refine s_callK ?_
  | with_reducible refine s_brk ?_
  | with_reducible refine s_cont ?_
  | with_reducible refine r_I0 ?_
  | with_reducible refine r_U ?_
  | with_reducible refine r_eqI ?_
  | with_reducible refine r_neI ?_
  | with_reducible refine r_isB ?_
  | with_reducible refine r_notB ?_
  | with_reducible refine i_t ?_
  | with_reducible refine i_f ?_
  | with_reducible refine i_nt ?_
  | with_reducible refine i_nf ?_
  | ((with_reducible refine' r_I ?hc ?_); (case hc => walk_at "cond"))
  | (with_reducible refine .inl ⟨_, rfl, ?_⟩)
  | (with_reducible refine ⟨_, rfl, ?_⟩)
  | ((with_reducible refine' r_ixL ?hx ?ha ?_); (case hx => walk_at "at"); (case ha => rfl))
  | ((with_reducible refine' r_ixT ?hx ?ha ?_); (case hx => walk_at "at"); (case ha => rfl))
  | ((with_reducible refine' r_setL ?hx ?ha ?_); (case hx => walk_at "at"); (case ha => rfl); intro H2 k2 h2; (try dsimp only [List.set, Int.toNat] at h2))
  | ((with_reducible refine' r_app ?hx ?hl ?_); (case hx => walk_at "at"); (case hl => first | exact Nat.lt_of_ble_eq_true rfl | omega); intro H2 k2 h2)
  | ((with_reducible refine' ty_list ?hx ?_); (case hx => walk_at "at"))
  | (refine And.intro (by (with_reducible show _ ≤ sizeLine); walk_at "sz") ?_; walk_at "new")
  | with_reducible refine s_exv ?_
  | walk_at "newx")
local macro_rules | `(tactic| walk_at "sx") => `(tactic| repeat (walk_at "s1"))
local macro_rules | `(tactic| walk_at "s2") => `(tactic| first
  | ((with_reducible refine' r_ixG ?hx ?hn ?_); (case hx => walk_at "at"); (case hn => omega))
  | ((with_reducible refine' r_ixGT ?hx ?hn ?_); (case hx => walk_at "at"); (case hn => omega))
  | (with_reducible refine ig_cons (fun hix => ?_) (fun hix => ?_))
  | ((with_reducible refine ig_nil ?_); omega)
  | ((with_reducible refine' i_T ?hc ?_); (case hc => omega))
  | ((with_reducible refine' i_F ?hc ?_); (case hc => omega))
  | (with_reducible refine i_2 (fun hc => ?_) (fun hc => ?_))
  | (with_reducible refine i_n2 (fun hc => ?_) (fun hc => ?_)))
local macro_rules | `(tactic| walk_at "go") => `(tactic| repeat' (first | walk_at "s1" | walk_at "s2"))

local macro_rules | `(tactic| walk_at "s1") => `(tactic| first
  | with_reducible refine s_chain ?_
  | with_reducible refine s_fldS ?_
  | with_reducible refine s_fld ?_
  | with_reducible refine s_dIn ?_
  | with_reducible refine s_dNotIn ?_
  | with_reducible refine s_sl ?_
  | with_reducible refine s_noPart ?_
  | with_reducible refine s_part ?_
  | with_reducible refine s_meth ?_
  | with_reducible refine s_make ?_)

/-- ties as they stand: triples of two rules and a point -/
def TiesAt (H : Hp) (t : Addr) (m N : Nat) (i j p : Nat → Nat) : Prop := ∃ ts : List Addr, H t = some (.tup (ts.map .ref)) ∧ ts.length = m ∧ ∀ k, k < m → ∃ a, ts[k]? = some a ∧ H a = some (.tup [.int (i k : Nat), .int (j k : Nat), .int (p k : Nat)]) ∧ i k < N ∧ j k < N ∧ i k ≠ j k
/-- all on the first rule -/
def R0 (W : Nat → Int) (a : Nat) : Int := if a % 2 = 0 then W (a / 2) else 0
theorem R0_even (W : Nat → Int) (k : Nat) : R0 W (2 * k) = W k := by
  unfold R0
  rw [if_pos (by omega), show 2 * k / 2 = k by omega]
theorem R0_odd (W : Nat → Int) (k : Nat) : R0 W (2 * k + 1) = 0 := by
  unfold R0
  rw [if_neg (by omega)]
theorem R0_am {m : Nat} {W : Nat → Int} (h : ∀ k, k < m → 0 ≤ W k) : Am m W (R0 W) := by
  refine ⟨fun a ha => ?_, fun k hk => by rw [R0_even, R0_odd, Int.add_zero]⟩
  rcases arc_cases a with ⟨k, rfl⟩ | ⟨k, rfl⟩
  · rw [R0_even]
    exact h k (by omega)
  · rw [R0_odd]
    exact Int.le_refl _
theorem carry_succ {m : Nat} {i j : Nat → Nat} {W : Nat → Int} (r : Nat) : carry (m + 1) i j (R0 W) r = carry m i j (R0 W) r + (if i m = r then W m else 0) := by
  unfold carry
  rw [sumN_succ, R0_even, R0_odd]
  congr 1
  split <;> simp
theorem intsN_two (m : Nat) (f : Nat → Int) : intsN (2 * (m + 1)) f = intsN (2 * m) f ++ [.int (f (2 * m)), .int (f (2 * m + 1))] := by
  unfold intsN
  rw [show 2 * (m + 1) = 2 * m + 1 + 1 by omega, List.range_succ, List.range_succ, List.map_append, List.map_append, List.append_assoc]
  rfl
/-- the arcs of a rule -/
def arcsOf (m : Nat) (i j : Nat → Nat) (r : Nat) : List Nat := (List.range (2 * m)).filter fun a => src i j a == r
theorem arcsOf_succ (m : Nat) (i j : Nat → Nat) (r : Nat) : arcsOf (m + 1) i j r = arcsOf m i j r ++ (if i m = r then [2 * m] else []) ++ (if j m = r then [2 * m + 1] else []) := by
  unfold arcsOf
  rw [show 2 * (m + 1) = 2 * m + 1 + 1 by omega, List.range_succ, List.range_succ, List.filter_append, List.filter_append, List.filter_cons, List.filter_nil, List.filter_cons, List.filter_nil, src_even, src_odd]
  by_cases a : i m = r <;> by_cases b : j m = r <;> simp [a, b]
/-- the lists of a spread under way -/
structure Bld (H0 H : Hp) (x C dx la aa ea ra : Addr) (as_ : List Addr) (N m : Nat) (i j : Nat → Nat) (W : Nat → Int) : Prop where
  hx : H x = some (.ins C dx [("loads", .ref la), ("arcs", .ref aa), ("ends", .ref ea), ("room", .ref ra)])
  ha : H aa = some (.lst (as_.map .ref))
  len : as_.length = N
  each : ∀ r b, as_[r]? = some b → b ≠ la ∧ b ≠ ra ∧ b ≠ aa ∧ b ≠ ea ∧ H0 b = none ∧ H b = some (.lst ((arcsOf m i j r).map nv))
  nd : as_.Nodup
  he : H ea = some (.lst (intsN (2 * m) fun a => (dst i j a : Nat)))
  hr : H ra = some (.lst (intsN (2 * m) (R0 W)))
  hl : H la = some (.lst (intsN N fun r => carry m i j (R0 W) r))
  ne : aa ≠ la ∧ aa ≠ ra ∧ aa ≠ ea ∧ ea ≠ la ∧ ea ≠ ra ∧ la ≠ ra
  no : H0 la = none ∧ H0 aa = none ∧ H0 ea = none ∧ H0 ra = none
theorem Bld.same {H0 H H' : Hp} {x C dx la aa ea ra : Addr} {as_ : List Addr} {N m : Nat} {i j : Nat → Nat} {W : Nat → Int} (B : Bld H0 H x C dx la aa ea ra as_ N m i j W) (s : Same H H') : Bld H0 H' x C dx la aa ea ra as_ N m i j W :=
  ⟨s _ _ B.hx, s _ _ B.ha, B.len, fun r b h => by
    obtain ⟨a1, a2, a3, a4, a5, a6⟩ := B.each r b h
    exact ⟨a1, a2, a3, a4, a5, s _ _ a6⟩, B.nd, s _ _ B.he, s _ _ B.hr, s _ _ B.hl, B.ne, B.no⟩
section
variable {P : Program} {w : World} {K : PySem.W.Frag} {mg : Str → Option Value} {base : Heap} {A : Ad}
def spInit (C : Addr) : Sp := fun vs H Q _ => ∃ (x dx t u : Addr) (N m : Nat) (i j p : Nat → Nat) (W : Nat → Int), vs = [.ref x, .int N, .ref t, .ref u] ∧ H x = some (.ins C dx []) ∧ TiesAt H t m N i j p ∧ H u = some (.lst (intsN m W)) ∧ N ≤ 64 ∧ m ≤ 1000 ∧
  ∀ la ra H', H la = none → H ra = none → Keep x H H' → SpAt C H' x la ra N m i j (R0 W) (fun r => carry m i j (R0 W) r) → Q .non H'
theorem ok_init (T : Txt P K mg A) : FnOk P w K mg base CX0 1 A.a_Spread____init__ A.d_Spread____init__ ["self", "many", "ties", "weights"] (spInit A.c_Spread) := by
  refine T.F_Spread____init__.ok sc_Spread____init__ (fun vs H Q E h => ?_) (fun cdv A' outer s H vs Q E hr h => ?_)
  · obtain ⟨x, dx, t, u, N, m, i, j, p, W, rfl, _⟩ := h
    rfl
  · obtain ⟨x, dx, t, u, N, m, i, j, p, W, rfl, hx, ⟨ts, ht0, lts, tie⟩, hu0, n64, m1, k⟩ := h
    have ht : True → H t = some (.tup (ts.map .ref)) := fun _ => ht0
    have hu : True → H u = some (.lst (intsN m W)) := fun _ => hu0
    have tx : t ≠ x := fun e => by rw [e, hx] at ht0; cases ht0
    have ux : u ≠ x := fun e => by rw [e, hx] at hu0; cases hu0
    clear ht0 hu0
    refine ⟨_, (pss_cons (ps_fld (pv 0) (pe_op op_rep (pe_lst (pa_cons pe_int pa_nil)) (pv 1)) (by rfl))
  (pss_cons (ps_fld (pv 0) (pe_lc (own := [("_", 4)]) (g := (gName 4)) (by rfl) sc_Spread____init__.nd (pi_range1 rfl T.n_range (pa_cons (pv 1) pa_nil)) (blkOk_by (own := [("_", 4)]) (N := ["self", "many", "ties", "weights", "_", "k", "i", "j"]) (sc := defScope s_Spread____init__) (by decide +kernel)) (fun _ _ _ _ _ => (pg_name (i := 4) sc_Spread____init__.nd rfl (Or.inl rfl))) (fun _ _ _ _ _ => pts_nil) (fun _ _ _ _ _ => (pe_lst pa_nil))) (by rfl))
  (pss_cons (ps_fld (pv 0) (pe_lst pa_nil) (by rfl))
  (pss_cons (ps_fld (pv 0) (pe_lst pa_nil) (by rfl))
  (pss_one (ps_for PassesOwn.never rfl (pi_enumT (by rfl) T.n_enumerate (pa_cons (pv 2) pa_nil)) (pg_tup rfl (pgs_cons (pg_name (i := 5) sc_Spread____init__.nd rfl (Or.inl rfl)) (pgs_cons (pg_tup rfl (pgs_cons (pg_name (i := 6) sc_Spread____init__.nd rfl (Or.inl rfl)) (pgs_cons (pg_name (i := 7) sc_Spread____init__.nd rfl (Or.inl rfl)) (pgs_cons (pg_name (i := 4) sc_Spread____init__.nd rfl (Or.inl rfl)) pgs_nil)))) pgs_nil)))
  (pss_cons (ps_expr (pe_bm PySem.F.plainAttrs_list PySem.F.slot_list_append PySem.F.type_list_append mt_append (pe_ix ix_seq (pe_fld (pv 0) rfl) (pv 6) (fun _ _ => rfl)) (pa_cons (pe_op op_mul pe_int (pv 5)) pa_nil)))
  (pss_cons (ps_expr (pe_bm PySem.F.plainAttrs_list PySem.F.slot_list_append PySem.F.type_list_append mt_append (pe_ix ix_seq (pe_fld (pv 0) rfl) (pv 7) (fun _ _ => rfl)) (pa_cons (pe_op op_add (pe_op op_mul pe_int (pv 5)) pe_int) pa_nil)))
  (pss_cons (ps_expr (pe_bm PySem.F.plainAttrs_list PySem.F.slot_list_extend PySem.F.type_list_extend mt_extend (pe_fld (pv 0) rfl) (pa_cons (pe_lst (pa_cons (pv 7) (pa_cons (pv 6) pa_nil))) pa_nil)))
  (pss_cons (ps_expr (pe_bm PySem.F.plainAttrs_list PySem.F.slot_list_extend PySem.F.type_list_extend mt_extend (pe_fld (pv 0) rfl) (pa_cons (pe_lst (pa_cons (pe_ix ix_seq (pv 3) (pv 5) (fun _ _ => rfl)) (pa_cons pe_int pa_nil))) pa_nil)))
  (pss_one (ps_augS (pe_fld (pv 0) rfl) (pv 6) get_ix (pe_ix ix_seq (pv 3) (pv 5) (fun _ _ => rfl)) ip_add set_list)))))))))))), ?_⟩
    walk_at "sx"
    rename_i p1 np1 H1 s1 h1
    refine ⟨p1, N, _, rfl, rfl, h1, by omega, by omega, by rw [sizeLine_eq]; simp; omega, fun la nla => ?_⟩
    generalize hE : upd H1 la _ = H2
    have s2 := new_same nla hE
    have h2 := new_at hE
    clear hE
    have s02 := s1.trans s2
    have h2' : True → H2 la = some (.lst (intsN N fun r => carry 0 i j (R0 W) r)) := fun _ => by
      rw [h2, Int.toNat_natCast]
      congr 2
      have z : ∀ m : Nat, (List.replicate m [V.int 0]).flatten = List.replicate m (V.int 0) := fun m => by
        induction m with
        | zero => rfl
        | succ m ih => rw [List.replicate_succ, List.flatten_cons, ih, List.replicate_succ]; rfl
      rw [z]
      unfold intsN
      rw [show (fun a => V.int ((fun r => carry 0 i j (R0 W) r) a)) = (fun _ : Nat => V.int 0) from rfl, List.map_const', List.length_range]
    clear h2
    walk_at "sx"
    refine r_put rfl (s02 _ _ hx) T.cl_Spread T.no_Spread_loads (by decide) (fun H3 k3 h3 => ?_)
    have lax : la ≠ x := fun e => by
      have z := s1 _ _ hx
      rw [← e, nla] at z
      cases z
    have K3 : Keep x H H3 := (Keep.same s02).trans k3
    have h3l : True → H3 la = _ := fun _ => k3 _ _ lax (h2' trivial)
    have Hla : H la = none := Same.free s1 nla
    walk_at "sx"
    refine ⟨_, rfl, _, rfl, by omega, by omega, fun D hD => lc_range (lo := 0) (n := N) (fun t' H' => Same H3 H' ∧ ∃ as_ : List Addr, (True → H' D = some (.lst (as_.map .ref))) ∧ as_.length = t' ∧ as_.Nodup ∧ ∀ b ∈ as_, H3 b = none ∧ b ≠ D ∧ H' b = some (.lst [])) ⟨Same.new hD, [], fun _ => upd_same, rfl, List.nodup_nil, fun _ h => nomatch h⟩ ?_ ?_⟩
    · rintro t' H' ht' ⟨s', as_, hD', la', nd, each⟩
      refine s_name ⟨rfl, ?_⟩
      refine s_yes (i_t ?_)
      walk_at "sx"
      rename_i pb npb G sg hg
      have hb0 : H3 pb = none := Same.free s' npb
      have pbD : pb ≠ D := fun e => by
        have z := hD' trivial
        rw [← e, npb] at z
        cases z
      refine ⟨_, sg _ _ (hD' trivial), by rw [List.length_map, sizeLine_eq]; omega, Sx.Same.put (s'.trans sg) hD, as_ ++ [pb], fun _ => by rw [upd_same, List.map_append]; rfl, by rw [List.length_append, la']; rfl, ?_, ?_⟩
      · refine List.nodup_append.mpr ⟨nd, by simp, ?_⟩
        rintro b hb c hc rfl
        rw [List.mem_singleton.mp hc] at hb
        have z := (each pb hb).2.2
        rw [npb] at z
        cases z
      · intro b hb
        rcases List.mem_append.mp hb with z | z
        · obtain ⟨e1, e2, e3⟩ := each b z
          exact ⟨e1, e2, by rw [upd_ne e2]; exact sg _ _ e3⟩
        · rw [List.mem_singleton.mp z]
          exact ⟨hb0, pbD, by rw [upd_ne pbD]; exact hg⟩
    rintro H4 ⟨s4, as_, h4D, las, nd, each⟩
    have Kx4 : Keep x H H4 := K3.trans (Keep.same s4)
    have Dx : D ≠ x := fun e => by rw [e, h3] at hD; cases hD
    refine s_var rfl ?_
    refine r_put rfl (s4 _ _ h3) T.cl_Spread T.no_Spread_arcs (Nat.le_of_ble_eq_true rfl) (fun H5 k5 h5 => ?_)
    have fr4 : ∀ b ∈ as_, H b = none ∧ b ≠ la ∧ b ≠ D ∧ b ≠ x := fun b hb => by
      obtain ⟨e1, e2, e3⟩ := each b hb
      have bx : b ≠ x := fun e => by rw [e, h3] at e1; cases e1
      exact ⟨Keep.free K3 bx e1, (ne_of_none (h3l trivial) e1).symm, e2, bx⟩
    have HD : H D = none := Keep.free K3 Dx hD
    have laD : la ≠ D := fun e => by rw [← e, h3l trivial] at hD; cases hD
    have h5l : True → H5 la = some (.lst (intsN N fun r => carry 0 i j (R0 W) r)) := fun _ => k5 _ _ lax (s4 _ _ (h3l trivial))
    have h5D : True → H5 D = some (.lst (as_.map .ref)) := fun _ => k5 _ _ Dx (h4D trivial)
    have h5b : ∀ b ∈ as_, H5 b = some (.lst []) := fun b hb => k5 _ _ (fr4 b hb).2.2.2 (each b hb).2.2
    have Kx5 : Keep x H H5 := Kx4.trans k5
    clear h4D h3l
    walk_at "sx"
    rename_i ea nea H6 s6 h6
    have eax : ea ≠ x := fun e => by rw [e, h5] at nea; cases nea
    refine r_put rfl (s6 _ _ h5) T.cl_Spread T.no_Spread_ends (Nat.le_of_ble_eq_true rfl) (fun H7 k7 h7 => ?_)
    have h7e : True → H7 ea = some (.lst []) := fun _ => k7 _ _ eax h6
    clear h6
    walk_at "sx"
    rename_i ra nra H8 s8 h8
    have rax : ra ≠ x := fun e => by rw [e, h7] at nra; cases nra
    refine r_put rfl (s8 _ _ h7) T.cl_Spread T.no_Spread_room (Nat.le_of_ble_eq_true rfl) (fun H9 k9 h9 => ?_)
    have Kx57 : Keep x H5 H7 := (Keep.same s6).trans k7
    have Kx59 : Keep x H5 H9 := Kx57.trans ((Keep.same s8).trans k9)
    have Kx9 : Keep x H H9 := Kx5.trans Kx59
    have H5ea : H5 ea = none := nea
    have Hea : H ea = none := Keep.free Kx5 eax nea
    have H5ra : H5 ra = none := Keep.free Kx57 rax nra
    have Hra : H ra = none := Keep.free Kx5 rax H5ra
    have rae : ea ≠ ra := fun e => by rw [← e, h7e trivial] at nra; cases nra
    have B0 : Bld H H9 x A.c_Spread dx la D ea ra as_ N 0 i j W := by
      refine ⟨h9, Kx59 _ _ Dx (h5D trivial), las, fun r b hb => ?_, nd, ?_, ?_, Kx59 _ _ lax (h5l trivial), ?_, Hla, HD, Hea, Hra⟩
      · have hm := List.mem_of_getElem? hb
        obtain ⟨f1, f2, f3, f4⟩ := fr4 b hm
        exact ⟨f2, ne_of_none (h5b b hm) H5ra, f3, ne_of_none (h5b b hm) H5ea, f1, Kx59 _ _ f4 (h5b b hm)⟩
      · exact k9 _ _ eax (s8 _ _ (h7e trivial))
      · exact k9 _ _ rax h8
      · exact ⟨laD.symm, ne_of_none (h5D trivial) H5ra, ne_of_none (h5D trivial) H5ea, (ne_of_none (h5l trivial) H5ea).symm, rae, ne_of_none (h5l trivial) H5ra⟩
    clear h9 h8
    walk_at "sx"
    unfold tFor iEnumT
    walk_at "sx"
    refine ⟨t, _, rfl, SqT.of (Kx9 _ _ tx (ht trivial)), for_it (walk_enumT (K := K) (a := t) (xs := ts.map .ref)) (fun k σ G => Keep x H G ∧ Bld H G x A.c_Spread dx la D ea ra as_ N k i j W ∧ ∃ v4 v5 v6 v7 : Option V, σ = [some (.ref x), some (.int N), some (.ref t), some (.ref u), v4, v5, v6, v7]) ⟨Kx9, B0, _, _, _, _, rfl⟩ (fun k σ G _ h => SqT.of (h.1 _ _ tx (ht trivial))) ?_ ?_⟩
    · rintro q y σ G G' hq ⟨kG, B, v4, v5, v6, v7, rfl⟩ ⟨T1, u1, v, rfl, nT, rfl, eu, ev⟩
      cases eu
      rw [List.length_map, lts] at hq
      obtain ⟨a, ha, hta, iN, jN, ijn⟩ := tie q hq
      have ev' : (ts.map V.ref)[q]? = some v := ev
      rw [List.getElem?_map, ha] at ev'
      cases ev'
      generalize hE : upd G T1 _ = G1
      have s1' := new_same nT hE
      have g1 := new_at hE
      clear hE
      have KG1 : Keep x H G1 := kG.trans (Keep.same s1')
      have B1 := B.same s1'
      have ax : a ≠ x := fun e => by rw [e, hx] at hta; cases hta
      obtain ⟨bi, hbi⟩ : ∃ b, as_[i q]? = some b := ⟨_, List.getElem?_eq_getElem (by rw [las]; exact iN)⟩
      obtain ⟨bj, hbj⟩ : ∃ b, as_[j q]? = some b := ⟨_, List.getElem?_eq_getElem (by rw [las]; exact jN)⟩
      obtain ⟨i1, i2, i3, i4, i5, i6⟩ := B1.each _ _ hbi
      obtain ⟨j1, j2, j3, j4, j5, j6⟩ := B1.each _ _ hbj
      have bij : bi ≠ bj := fun e => ijn (by
        rw [e] at hbi
        exact (List.getElem?_inj (by rw [las]; exact iN) B1.nd).mp (hbi.trans hbj.symm))
      obtain ⟨n1, n2, n3, n4, n5, n6⟩ := B1.ne
      obtain ⟨o1, o2, o3, o4⟩ := B1.no
      have xbi : x ≠ bi := fun e => by rw [← e, B1.hx] at i6; cases i6
      have xbj : x ≠ bj := fun e => by rw [← e, B1.hx] at j6; cases j6
      refine ⟨T1, _, rfl, SqT.of g1, rfl, _, _, rfl, s_name ⟨_, _, rfl, ⟨a, _, rfl, SqT.of (KG1 _ _ ax hta), rfl, _, _, rfl, s_name ⟨_, _, rfl, s_name ⟨_, _, rfl, s_name ⟨rfl, ⟨rfl, ?_⟩⟩⟩⟩⟩⟩⟩
      have lar : ∀ r, (arcsOf q i j r).length ≤ 2 * q := fun r => by
        have := List.length_filter_le (fun a => src i j a == r) (List.range (2 * q))
        rw [List.length_range] at this
        exact this
      have Hx1 : G1 x = some (.ins A.c_Spread dx [("loads", .ref la), ("arcs", .ref D), ("ends", .ref ea), ("room", .ref ra)]) := B1.hx
      walk_at "sx"
      refine r_get rfl Hx1 T.cl_Spread T.no_Spread_arcs rfl ?_
      walk_at "sx"
      refine r_ixL B1.ha (v := .ref bi) (atI_nat (by rw [List.getElem?_map, hbi]; rfl)) ?_
      refine ty_list i6 ?_
      walk_at "sx"
      refine r_app i6 (by rw [List.length_map, sizeLine_eq]; have := lar (i q); omega) (fun G2 k2 g2 => ?_)
      have Hx2 := k2 _ _ xbi Hx1
      walk_at "sx"
      refine r_get rfl Hx2 T.cl_Spread T.no_Spread_arcs rfl ?_
      walk_at "sx"
      refine r_ixL (k2 _ _ (Ne.symm i3) B1.ha) (v := .ref bj) (atI_nat (by rw [List.getElem?_map, hbj]; rfl)) ?_
      refine ty_list (k2 _ _ (Ne.symm bij) j6) ?_
      walk_at "sx"
      refine r_app (k2 _ _ (Ne.symm bij) j6) (by rw [List.length_map, sizeLine_eq]; have := lar (j q); omega) (fun G3 k3' g3 => ?_)
      have Hx3 := k3' _ _ xbj Hx2
      have he3 : G3 ea = _ := k3' _ _ (Ne.symm j4) (k2 _ _ (Ne.symm i4) B1.he)
      walk_at "sx"
      refine r_get rfl Hx3 T.cl_Spread T.no_Spread_ends rfl ?_
      refine ty_list he3 ?_
      have KG3 : Keep x H G3 := keep_new (keep_new KG1 i5 k2) j5 k3'
      walk_at "sx"
      rename_i pe npe G4 s4' g4
      refine ⟨ea, pe, _, _, rfl, rfl, s4' _ _ he3, g4, by rw [intsN_len, sizeLine_eq]; show _ + 2 ≤ _; omega, ?_⟩
      generalize hE : upd G4 ea _ = G5
      have k5' : Keep ea G4 G5 := by rw [← hE]; exact put_keep rfl
      have h5e : True → G5 ea = some (.lst (intsN (2 * (q + 1)) fun a => (dst i j a : Nat))) := fun _ => by
        rw [← hE, upd_same, intsN_two, dst_even, dst_odd]
      clear hE g4
      have xea : x ≠ ea := fun e => by rw [← e, Hx3] at he3; cases he3
      have Hx5 := k5' _ _ xea (s4' _ _ Hx3)
      have KG5 : Keep x H G5 := keep_new (KG3.trans (Keep.same s4')) o3 k5'
      have hr5 : G5 ra = _ := k5' _ _ (Ne.symm n5) (s4' _ _ (k3' _ _ (Ne.symm j2) (k2 _ _ (Ne.symm i2) B1.hr)))
      walk_at "sx"
      refine r_get rfl Hx5 T.cl_Spread T.no_Spread_room rfl ?_
      refine ty_list hr5 ?_
      walk_at "sx"
      refine r_ixL (KG5 _ _ ux (hu trivial)) (atI_nat (intsN_at hq)) ?_
      walk_at "sx"
      rename_i pf npf G6 s6' g6
      refine ⟨ra, pf, _, _, rfl, rfl, s6' _ _ hr5, g6, by rw [intsN_len, sizeLine_eq]; show _ + 2 ≤ _; omega, ?_⟩
      generalize hE : upd G6 ra _ = G7
      have k7' : Keep ra G6 G7 := by rw [← hE]; exact put_keep rfl
      have h7r : True → G7 ra = some (.lst (intsN (2 * (q + 1)) (R0 W))) := fun _ => by
        rw [← hE, upd_same, intsN_two, R0_even, R0_odd]
      clear hE g6
      have xra : x ≠ ra := fun e => by rw [← e, Hx5] at hr5; cases hr5
      have Hx7 := k7' _ _ xra (s6' _ _ Hx5)
      have KG7 : Keep x H G7 := keep_new (KG5.trans (Keep.same s6')) o4 k7'
      have hl7 : True → G7 la = some (.lst (intsN N fun r => carry q i j (R0 W) r)) := fun _ => k7' _ _ n6 (s6' _ _ (k5' _ _ (Ne.symm n4) (s4' _ _ (k3' _ _ (Ne.symm j1) (k2 _ _ (Ne.symm i1) B1.hl)))))
      dsimp only
      refine s_augS ?_
      walk_at "sx"
      refine r_get rfl Hx7 T.cl_Spread T.no_Spread_loads rfl ?_
      walk_at "sx"
      refine ⟨la, _, i q, _, rfl, rfl, SqL.of (hl7 trivial), intsN_at iN, ?_⟩
      walk_at "sx"
      refine r_ixL (KG7 _ _ ux (hu trivial)) (atI_nat (intsN_at hq)) ?_
      refine ⟨_, _, rfl, rfl, ?_⟩
      refine r_setL (hl7 trivial) (ix_in (by rw [intsN_len]; exact iN)) fun G8 k8 h8 => ?_
      rw [intsN_set iN] at h8
      have K8 : ∀ b o, b ≠ bi → b ≠ bj → b ≠ ea → b ≠ ra → b ≠ la → G1 b = some o → G8 b = some o := fun b o c1 c2 c3 c4 c5 h => k8 _ _ c5 (k7' _ _ c4 (s6' _ _ (k5' _ _ c3 (s4' _ _ (k3' _ _ c2 (k2 _ _ c1 h))))))
      have xla : x ≠ la := fun e => by
        have z := hl7 trivial
        rw [← e, Hx7] at z
        cases z
      refine ⟨keep_new KG7 o1 k8, ⟨k8 _ _ xla Hx7, K8 _ _ (Ne.symm i3) (Ne.symm j3) n3 n2 n1 B1.ha, las, fun r b hb => ?_, B1.nd, ?_, ?_, ?_, B1.ne, B1.no⟩, _, _, _, _, rfl⟩
      · obtain ⟨a1, a2, a3, a4, a5, a6⟩ := B1.each r b hb
        refine ⟨a1, a2, a3, a4, a5, ?_⟩
        rw [arcsOf_succ]
        by_cases ri : i q = r
        · subst ri
          rw [hbi] at hb
          cases hb
          rw [if_pos rfl, if_neg (fun z => ijn z.symm), List.append_nil]
          refine k8 _ _ a1 (k7' _ _ a2 (s6' _ _ (k5' _ _ a4 (s4' _ _ (k3' _ _ bij ?_)))))
          rw [g2, List.map_append]
          rfl
        · by_cases rj : j q = r
          · subst rj
            rw [hbj] at hb
            cases hb
            rw [if_neg ri, if_pos rfl, List.append_nil]
            refine k8 _ _ a1 (k7' _ _ a2 (s6' _ _ (k5' _ _ a4 (s4' _ _ ?_))))
            rw [g3, List.map_append]
            rfl
          · rw [if_neg ri, if_neg rj, List.append_nil, List.append_nil]
            have rl := (List.getElem?_eq_some_iff.mp hb).1
            refine K8 _ _ (fun e => ri ?_) (fun e => rj ?_) a4 a2 a1 a6
            · rw [← e] at hbi
              exact (List.getElem?_inj (by rw [las]; exact iN) B1.nd).mp (hbi.trans hb.symm)
            · rw [← e] at hbj
              exact (List.getElem?_inj (by rw [las]; exact jN) B1.nd).mp (hbj.trans hb.symm)
      · exact k8 _ _ n4 (k7' _ _ n5 (s6' _ _ (h5e trivial)))
      · exact k8 _ _ (Ne.symm n6) (h7r trivial)
      · rw [h8]
        congr 2
        refine intsN_congr fun r hr => ?_
        rw [carry_succ]
        by_cases e : r = i q
        · subst e
          rw [if_pos rfl, if_pos rfl]
        · rw [if_neg e, if_neg (fun z => e z.symm), Int.add_zero]
    · rintro σ G ⟨kG, B, v4, v5, v6, v7, rfl⟩
      rw [List.length_map, lts] at B
      obtain ⟨n1, n2, n3, n4, n5, n6⟩ := B.ne
      refine k la ra G B.no.1 B.no.2.2.2 kG ⟨⟨dx, D, ea, as_, B.hx, B.ha, B.len, fun r hr => ?_, B.he, n1, n2, n4, n5⟩, B.hl, B.hr, n6, fun k hk => ?_⟩
      · have e : as_[r]? = some as_[r] := List.getElem?_eq_getElem (by rw [las]; exact hr)
        obtain ⟨b1, b2, _, _, _, b3⟩ := B.each _ _ e
        exact ⟨_, e, b1, b2, b3⟩
      · obtain ⟨_, _, _, h1, h2, _⟩ := tie k hk
        exact ⟨h1, h2⟩
end
end K37

set_option Elab.async false
set_option linter.all false
set_option maxRecDepth 100000
set_option maxHeartbeats 2000000
/-! t[::-1], t a tuple -/
namespace TV
open PySem PySem.Spec PyProof.Rows HT
section
variable {prog : Program} {w : World} {A : Around} {E : Value → Shared → Prop} {s : Shared}
theorem back_adjust (n : Nat) : Builtin.Slice.sliceAdjust none none (-1) (n : Int) = ((n : Int) - 1, -1) := by
  unfold Builtin.Slice.sliceAdjust
  have h1 : ((-1 : Int) < 0) := by omega
  simp only [h1, if_true]
theorem back_places (n : Nat) : Builtin.Slice.slicePlaces ((n : Int) - 1) (-1) (-1) = n := by
  unfold Builtin.Slice.slicePlaces
  have h1 : ¬ ((-1 : Int) > 0) := by omega
  have e : (- (-1) : Int) = 1 := by omega
  simp only [h1, if_false, e, Int.ediv_one]
  split <;> omega
theorem back_pick (xs : Array Value) : ((List.range xs.size).filterMap fun (k : Nat) => xs[(((xs.size : Int) - 1) + (k : Int) * (-1)).toNat]?).toArray = xs.toList.reverse.toArray := by
  rw [← PySem.W.krv_pick]
  unfold slicePick
  rw [PySem.W.krv_bounds]
  show _ = ((sliceRange ((xs.size : Int) - 1) (-1) (-1)).filterMap (xs[·]?)).toArray
  rw [PySem.W.krv_sliceRange, List.filterMap_map]
  have cg : ∀ (L : List Nat) (f g : Nat → Option Value), (∀ k ∈ L, f k = g k) → L.filterMap f = L.filterMap g := fun L f g h => by
    induction L with
    | nil => rfl
    | cons x L ih => rw [List.filterMap_cons, List.filterMap_cons, h x List.mem_cons_self, ih fun k hk => h k (List.mem_cons_of_mem _ hk)]
  refine congrArg List.toArray (cg _ _ _ fun k hk => ?_)
  have l := List.mem_range.mp hk
  have e : (((xs.size : Int) - 1) + (k : Int) * (-1)).toNat = xs.size - 1 - k := by omega
  show xs[(((xs.size : Int) - 1) + (k : Int) * (-1)).toNat]? = xs[xs.size - 1 - k]?
  rw [e]
theorem back_applied {sl : Addr} {vl vu vs : Value} {n : Nat} {Q : Int × Int × Nat → Shared → Prop} (hs : s.heap.IsSliceOf sl vl vu vs) (pl : IsPart vl none) (pu : IsPart vu none) (ps : IsPart vs (some (-1)))
    (h : Q ((n : Int) - 1, -1, n) s) : wpAny (model prog w) A (Builtin.Slice.sliceApplied (.ref sl) (pure (n : Int))) Q E s := by
  obtain ⟨os, hos, hcs, hds⟩ := id hs
  unfold Builtin.Slice.sliceApplied Builtin.Slice.sliceFields
  refine wpAny_bind (wpAny_bind (wpAny_field hos hds (x := vl) rfl (wpAny_bind (wpAny_field hos hds (x := vu) rfl (wpAny_bind (wpAny_field hos hds (x := vs) rfl (wpAny_pure ?_)))))))
  refine wpAny_bind (slicePart_ ps ?_)
  show wpAny _ _ (if ((-1 : Int) == 0) = true then _ else _) _ _ s
  rw [if_neg (by decide)]
  refine wpAny_bind (slicePart_ pl (wpAny_bind (slicePart_ pu (wpAny_bind (wpAny_pure ?_)))))
  show wpAny _ _ (match Builtin.Slice.sliceAdjust none none (-1) (n : Int) with | (lo, hi) => pure (lo, (-1 : Int), Builtin.Slice.slicePlaces lo hi (-1))) _ _ s
  rw [back_adjust n]
  show wpAny _ _ (pure ((n : Int) - 1, (-1 : Int), Builtin.Slice.slicePlaces ((n : Int) - 1) (-1) (-1))) _ _ s
  rw [back_places]
  exact wpAny_pure h
theorem back_item {t sl : Addr} {items : Array Value} {vl vu vs : Value} {Q : Value → Shared → Prop} (ht : IsTup s.heap t items) (hs : s.heap.IsSliceOf sl vl vu vs) (pl : IsPart vl none) (pu : IsPart vu none) (ps : IsPart vs (some (-1)))
    (h : Q (.ref s.heap.objs.size) { s with heap := s.heap.push { cls := .type "tuple", data := .seq items.toList.reverse.toArray } })
    (hsz : items.size ≤ sizeLine) : wpAny (model prog w) A (getItem (.ref t) (.ref sl)) Q E s := by
  have htake : sizeOk (.seq items.toList.reverse.toArray) := by
    show items.toList.reverse.toArray.size ≤ sizeLine
    rw [List.size_toArray, List.length_reverse, Array.length_toList]
    omega
  obtain ⟨os, hos, hcs, hds⟩ := id hs
  have hTs : s.TypeIs (.ref sl) "slice" := ⟨os, hos, hcs⟩
  unfold getItem
  try with_reducible refine wpAny_holding ?_
  first | refine wpAny_bind (wpAny_pure ?_) | skip
  refine wpAny_bind (wpAny_sequenceKey ht.typeIs (by decide) ?_)
  refine wpAny_bind (wpAny_callSpecial?_slot (name := Str.ofString "__getitem__") ht.typeIs PyProof.Rows.slot_tuple_getitem
    (wpAny_call_entry PyProof.Rows.slot_tuple_getitem ht.typeIs entry_tuple_getitem ?_ (args_tuple_getitem _ _)))
  show wpAny _ _ (Builtin.Tuple.tupleItemsOf (.ref t) >>= _) _ _ s
  refine wpAny_bind (tupleItemsOf_ ht ?_)
  refine wpAny_bind (wpAny_typeOf hTs ?_)
  rw [if_pos (by decide)]
  refine wpAny_bind (back_applied hs pl pu ps ?_)
  have hno : ¬ ((((items.size : Int) - 1) == 0 && (-1 : Int) == 1 && items.size == items.size) = true) := by
    intro q
    rw [Bool.and_eq_true, Bool.and_eq_true] at q
    exact absurd q.1.2 (by decide)
  show wpAny _ _ (if (((items.size : Int) - 1) == 0 && (-1 : Int) == 1 && items.size == items.size) = true then _ else _) _ _ s
  rw [if_neg hno, back_pick]
  first
    | exact wpAny_bind (m := Builtin.Tuple.tupleExact _) (wpAny_newObj_type (wpAny_pure ⟨_, rfl, wpAny_pure h⟩) htake)
    | exact wpAny_bind (m := Builtin.Tuple.tupleExact _) (wpAny_newObj_type (wpAny_bind (wpAny_pure (wpAny_pure ⟨_, rfl, wpAny_pure h⟩))) htake)
    | exact wpAny_bind (wpAny_bind (m := Builtin.Tuple.tupleExact _) (wpAny_newObj_type (wpAny_pure (wpAny_pure ⟨_, rfl, wpAny_pure h⟩)) htake))
    | exact wpAny_bind (wpAny_bind (m := Builtin.Tuple.tupleExact _) (wpAny_newObj_type (wpAny_pure ⟨_, rfl, wpAny_pure h⟩) htake))
end
end TV
namespace L2
open PySem PySem.Spec PyProof.Rows
section
variable {X : Cx}
def tRevT (K : PySem.W.Frag) (te : TE) : TE := fun σ H Q => te σ H fun x H1 => ∃ a xs, x = .ref a ∧ SqT K H1 a xs ∧ ∀ p, H1 p = none → Q (.ref p) (upd H1 p (.tup xs.reverse))
theorem pe_revT {e : Expr} {te : TE} {k : Nat} {p1 p2 p3 pos : Pos} (he : PE X e te) : PE X (.Subscript e (.Slice none none (some (.UnaryOp .USub (.Constant (.int 1) k p1) p2)) p3) pos) (tRevT X.K te) := by
  refine ⟨fun pins s σ H Q I h => ?_⟩
  refine Subscript_ (thn (he.run pins s σ H _ I h) fun v s1 ⟨x, H1, I1, r1, q1⟩ => ?_)
  obtain ⟨a, xs, ex, hx, q⟩ := q1
  subst ex
  cases r1
  have hst : PO X (some (.UnaryOp .USub (.Constant (.int 1) k p1) p2)) (tPart (tUn (rU fun i => .int (-i)) (tC (.int 1)))) := po_some (pe_un un_neg pe_int)
  refine wpAny_Slice (thn (po_none.run pins s1 σ H1 (fun o H2 => o = none ∧ H2 = H1) I1 ⟨rfl, rfl⟩) fun vl s2 ⟨l, H2, I2, pl, el, e2⟩ => ?_)
  subst el e2
  refine thn (po_none.run pins s2 σ H2 (fun o H3 => o = none ∧ H3 = H2) I2 ⟨rfl, rfl⟩) fun vu s3 ⟨u, H3, I3, pu, eu, e3⟩ => ?_
  subst eu e3
  refine thn (hst.run pins s3 σ H3 (fun o H4 => o = some (-1) ∧ H4 = H3) I3 ⟨1, rfl, -1, rfl, rfl, rfl⟩) fun vs s4 ⟨o, H4, I4, ps, eo, e4⟩ => ?_
  subst eo e4
  have I5 : Inv X pins σ H4 { s4 with heap := s4.heap.push { cls := .type "slice", data := .fields #[vl, vu, vs] } } := I4.kept (t' := s4.toks) fun b ob q => Heap.get?_push_of_some _ q
  obtain ⟨its, r, ht, hz⟩ := I5.tuple hx
  have hlen := r.length
  show wpAny (model X.prog X.w) X.A (subscriptTail e (.Slice none none (some (.UnaryOp .USub (.Constant (.int 1) k p1) p2)) p3) (.ref a) (.ref s4.heap.objs.size)) (EP X pins σ Q) X.xe { s4 with heap := s4.heap.push { cls := .type "slice", data := .fields #[vl, vu, vs] } }
  refine tail_any (ops := [.ref a, .ref s4.heap.objs.size]) ht.typeIs PyProof.Rows.slot_tuple_getitem.lookup ?_ (by with_unfolding_all rfl)
  refine TV.back_item ht (Heap.IsSliceOf.new _ vl vu vs) pl pu ps ?_ (by rw [List.size_toArray]; omega)
  refine ⟨.ref _, _, I5.laid (t' := s4.toks) (o := .tup xs.reverse) (fun b ob q => Heap.get?_push_of_some _ q) (Nat.le_refl _) ?_, rfl, q _ (I5.hok.fresh (Nat.le_refl _))⟩
  exact ⟨by rw [List.length_reverse]; exact hz, _, r.reverse, IsTup.new _ _⟩
end
end L2

set_option Elab.async false
set_option linter.all false
set_option maxRecDepth 100000
set_option maxHeartbeats 2000000
/-! xs[::2], xs a list -/
namespace L2
open PySem PySem.Spec PyProof.Rows
def evens {α : Type} (xs : List α) : List α := (List.range ((xs.length + 1) / 2)).filterMap fun k => xs[2 * k]?
theorem vals_pick {xs : List V} {us : List Value} (r : Vals xs us) : ∀ L : List Nat, Vals (L.filterMap fun k => xs[k]?) (L.filterMap fun k => us[k]?)
  | [] => .nil
  | k :: L => by
    have ln := Paired.length r
    rw [List.filterMap_cons, List.filterMap_cons]
    cases h : xs[k]? with
    | none =>
      have z := List.getElem?_eq_none_iff.mp h
      rw [List.getElem?_eq_none (by omega)]
      exact vals_pick r L
    | some v =>
      obtain ⟨u, hu, ru⟩ := r.get h
      rw [hu]
      exact .cons ru (vals_pick r L)
theorem even_bounds (n : Nat) : sliceBounds none none (some 2) n = (0, (n : Int), 2) := by
  unfold sliceBounds
  rfl
theorem even_pick (items : Array Value) : slicePick items none none (some 2) = ((List.range ((items.size + 1) / 2)).map (fun k => 2 * k) |>.filterMap fun k => items.toList[k]?).toArray := by
  unfold slicePick
  rw [even_bounds]
  show ((sliceRange 0 (items.size : Int) 2).filterMap fun x => items[x]?).toArray = _
  have e : sliceRange 0 (items.size : Int) 2 = (List.range ((items.size + 1) / 2)).map fun k => 2 * k := by
    unfold sliceRange
    have c : ((if (2 : Int) > 0 then if (0 : Int) < (items.size : Int) then ((items.size : Int) - 0 + 2 - 1) / 2 else 0 else if (0 : Int) > (items.size : Int) then (0 - (items.size : Int) - 2 - 1) / -2 else 0)).toNat = (items.size + 1) / 2 := by
      rw [if_pos (by decide)]
      split <;> omega
    show (List.range _).map _ = _
    rw [c]
    exact List.map_congr_left fun k _ => by omega
  rw [e]
  exact congrArg List.toArray (congrArg (fun f => List.filterMap f _) (funext fun x => (Array.getElem?_toList ..).symm))
variable {X : Cx}
def tEvenL (K : PySem.W.Frag) (te : TE) : TE := fun σ H Q => te σ H fun x H1 => ∃ a xs, x = .ref a ∧ SqL K H1 a xs ∧ ∀ p, H1 p = none → Q (.ref p) (upd H1 p (.lst (evens xs)))
theorem pe_evenL {e : Expr} {te : TE} {k : Nat} {p1 p3 pos : Pos} (he : PE X e te) : PE X (.Subscript e (.Slice none none (some (.Constant (.int 2) k p1)) p3) pos) (tEvenL X.K te) := by
  refine ⟨fun pins s σ H Q I h => ?_⟩
  refine Subscript_ (thn (he.run pins s σ H _ I h) fun v s1 ⟨x, H1, I1, r1, q1⟩ => ?_)
  obtain ⟨a, xs, ex, hx, q⟩ := q1
  subst ex
  cases r1
  have hst : PO X (some (.Constant (.int 2) k p1)) (tPart (tC (.int 2))) := po_some pe_int
  refine wpAny_Slice (thn (po_none.run pins s1 σ H1 (fun o H2 => o = none ∧ H2 = H1) I1 ⟨rfl, rfl⟩) fun vl s2 ⟨l, H2, I2, pl, el, e2⟩ => ?_)
  subst el e2
  refine thn (po_none.run pins s2 σ H2 (fun o H3 => o = none ∧ H3 = H2) I2 ⟨rfl, rfl⟩) fun vu s3 ⟨u, H3, I3, pu, eu, e3⟩ => ?_
  subst eu e3
  refine thn (hst.run pins s3 σ H3 (fun o H4 => o = some 2 ∧ H4 = H3) I3 ⟨2, rfl, rfl, rfl⟩) fun vs s4 ⟨o, H4, I4, ps, eo, e4⟩ => ?_
  subst eo e4
  have I5 : Inv X pins σ H4 { s4 with heap := s4.heap.push { cls := .type "slice", data := .fields #[vl, vu, vs] } } := I4.kept (t' := s4.toks) fun b ob q => Heap.get?_push_of_some _ q
  obtain ⟨its, r, ht, hz⟩ := I5.list hx
  have hlen := Paired.length r
  show wpAny (model X.prog X.w) X.A (subscriptTail e (.Slice none none (some (.Constant (.int 2) k p1)) p3) (.ref a) (.ref s4.heap.objs.size)) (EP X pins σ Q) X.xe { s4 with heap := s4.heap.push { cls := .type "slice", data := .fields #[vl, vu, vs] } }
  refine tail_any (ops := [.ref a, .ref s4.heap.objs.size]) ht.isList.typeIs F.slot_list_getitem.lookup ?_ (by with_unfolding_all rfl)
  refine wpAny_getItem_list_slice ht.isList (Heap.IsSliceOf.new _ vl vu vs) pl pu ps (by decide) ?_ (by rw [List.size_toArray]; omega)
  rw [even_pick]
  have ez : ((List.range ((its.toArray.size + 1) / 2)).map (fun k => 2 * k) |>.filterMap fun k => its.toArray.toList[k]?) = evens its := by
    unfold evens
    rw [List.filterMap_map, List.size_toArray]
    rfl
  rw [ez]
  have ex : evens xs = ((List.range ((xs.length + 1) / 2)).map (fun k => 2 * k)).filterMap fun k => xs[k]? := by
    unfold evens
    rw [List.filterMap_map]
    rfl
  have eu : evens its = ((List.range ((xs.length + 1) / 2)).map (fun k => 2 * k)).filterMap fun k => its[k]? := by
    unfold evens
    rw [List.filterMap_map, ← hlen]
    rfl
  have rv : Vals (evens xs) (evens its) := by
    rw [ex, eu]
    exact vals_pick r _
  have le : (evens xs).length ≤ xs.length := by
    have z := List.length_filterMap_le (fun k => xs[2 * k]?) (List.range ((xs.length + 1) / 2))
    rw [List.length_range] at z
    show (evens xs).length ≤ _
    unfold evens
    omega
  refine ⟨.ref _, _, I5.laid (t' := s4.toks) (o := .lst (evens xs)) (fun b ob q => Heap.get?_push_of_some _ q) (Nat.le_refl _) ?_, rfl, q _ (I5.hok.fresh (Nat.le_refl _))⟩
  exact ⟨by omega, _, 0, rv, Heap.get?_push_size _ rfl⟩
end L2

set_option Elab.async false
set_option linter.all false
set_option maxRecDepth 100000
set_option maxHeartbeats 4000000
namespace K37
open PySem L2 Sx Fl
local macro_rules | `(tactic| walk_at "cond") => `(tactic| first
  | assumption
  | decide
  | exact c_mul_r (by first | decide | omega) (by first | decide | omega)
  | exact c_mul_l (by first | decide | omega) (by first | decide | omega)
  | exact c_div (by first | decide | omega) (by first | decide | omega)
  | exact c_pow (by first | decide | omega) (by first | decide | omega) (by first | decide | omega)
  | omega)
local macro_rules | `(tactic| walk_at "ne") => `(tactic| first
  | assumption
  | (refine Ne.symm ?_; assumption)
  | (refine' Flow.ne ?nh ?nn; (case nn => assumption); (case nh => walk_at "fl"))
  | (refine Ne.symm ?_; refine' Flow.ne ?nh ?nn; (case nn => assumption); (case nh => walk_at "fl"))
  | (refine' ne_of_none ?nh ?nn; (case nn => assumption); (case nh => walk_at "at"))
  | (refine Ne.symm ?_; refine' ne_of_none ?nh ?nn; (case nn => assumption); (case nh => walk_at "at")))
local macro_rules | `(tactic| walk_at "at") => `(tactic| first
  | assumption
  | (refine Same.up (by assumption) ?_; walk_at "at")
  | (refine Keep.up (by assumption) (by walk_at "ne") ?_; walk_at "at"))
local macro_rules | `(tactic| walk_at "fl") => `(tactic| first
  | assumption
  | (refine Flow.same (by assumption) ?_; walk_at "fl")
  | (refine Flow.keep (by assumption) (by walk_at "ne") ?_; walk_at "fl"))
local macro_rules | `(tactic| walk_at "fr") => `(tactic| first
  | assumption
  | (refine same_free (by assumption) ?_; walk_at "fr")
  | (refine Keep.free (by assumption) (by walk_at "ne") ?_; walk_at "fr"))
local macro_rules | `(tactic| walk_at "kp") => `(tactic| first
  | assumption
  | exact Keep.refl _ _
  | (refine Keep.trans ?_ (by assumption); walk_at "kp")
  | (refine Keep.trans ?_ (Keep.same (by assumption)); walk_at "kp"))
local macro_rules | `(tactic| walk_at "sm") => `(tactic| first
  | assumption
  | exact L2.Same.refl _
  | (refine L2.Same.trans ?_ (by assumption); walk_at "sm"))
local macro_rules | `(tactic| walk_at "sz") => `(tactic| first | exact Nat.le_of_ble_eq_true rfl | omega)
local macro_rules | `(tactic| walk_at "new") => `(tactic| (intro p np; generalize hE : upd _ p _ = H2; have s2 := new_same np hE; have h2 := new_at hE; clear hE))
local macro_rules | `(tactic| walk_at "newx") => `(tactic| (intro e d na nd hda; generalize hE : upd (upd _ d _) e _ = H2; have s2 := newx_same na nd hE; have h2 := newx_at hE; have h3 := newx_d hda hE; clear hE))
local macro_rules | `(tactic| walk_at "s1") => `(tactic| first
  | with_reducible refine s_seq ?_
  | with_reducible refine s_asg ?_
  | with_reducible refine s_name ?_
  | with_reducible refine s_ret ?_
  | with_reducible refine s_c ?_
  | ((with_reducible refine' s_var ?hv ?_); (case hv => rfl))
  | with_reducible refine s_op ?_
  | with_reducible refine s_un ?_
  | with_reducible refine s_ifS ?_
  | with_reducible refine s_cb ?_
  | with_reducible refine s_cons ?_
  | with_reducible refine s_nil ?_
  | with_reducible refine s_call ?_
  | with_reducible refine s_test ?_
  | with_reducible refine s_tB ?_
  | with_reducible refine s_bl ?_
  | with_reducible refine s_and ?_
  | with_reducible refine s_or ?_
  | with_reducible refine s_not ?_
  | with_reducible refine s_andV ?_
  | with_reducible refine s_orV ?_
  | with_reducible refine s_notV ?_
  | with_reducible refine s_blV ?_
  | with_reducible refine s_if ?_
  | with_reducible refine s_tup ?_
  | with_reducible refine s_lst ?_
  | with_reducible refine s_drop ?_
  | with_reducible refine s_next ?_
  | with_reducible refine s_sub ?_
  | with_reducible refine s_bm ?_
  | with_reducible refine s_callK ?_
  | with_reducible refine s_brk ?_
  | with_reducible refine s_cont ?_
  | with_reducible refine r_I0 ?_
  | with_reducible refine r_U ?_
  | with_reducible refine r_eqI ?_
  | with_reducible refine r_neI ?_
  | with_reducible refine r_isB ?_
  | with_reducible refine r_notB ?_
  | with_reducible refine i_t ?_
  | with_reducible refine i_f ?_
  | with_reducible refine i_nt ?_
  | with_reducible refine i_nf ?_
  | ((with_reducible refine' r_I ?hc ?_); (case hc => walk_at "cond"))
  | (with_reducible refine .inl ⟨_, rfl, ?_⟩)
  | (with_reducible refine ⟨_, rfl, ?_⟩)
  | ((with_reducible refine' r_ixL ?hx ?ha ?_); (case hx => walk_at "at"); (case ha => rfl))
  | ((with_reducible refine' r_ixT ?hx ?ha ?_); (case hx => walk_at "at"); (case ha => rfl))
  | ((with_reducible refine' r_setL ?hx ?ha ?_); (case hx => walk_at "at"); (case ha => rfl); intro H2 k2 h2; (try dsimp only [List.set, Int.toNat] at h2))
  | ((with_reducible refine' r_app ?hx ?hl ?_); (case hx => walk_at "at"); (case hl => first | exact Nat.lt_of_ble_eq_true rfl | omega); intro H2 k2 h2)
  | ((with_reducible refine' ty_list ?hx ?_); (case hx => walk_at "at"))
  | (refine And.intro (by (with_reducible show _ ≤ sizeLine); walk_at "sz") ?_; walk_at "new")
  | with_reducible refine s_exv ?_
  | walk_at "newx")
local macro_rules | `(tactic| walk_at "sx") => `(tactic| repeat (walk_at "s1"))
local macro_rules | `(tactic| walk_at "s2") => `(tactic| first
  | ((with_reducible refine' r_ixG ?hx ?hn ?_); (case hx => walk_at "at"); (case hn => omega))
  | ((with_reducible refine' r_ixGT ?hx ?hn ?_); (case hx => walk_at "at"); (case hn => omega))
  | (with_reducible refine ig_cons (fun hix => ?_) (fun hix => ?_))
  | ((with_reducible refine ig_nil ?_); omega)
  | ((with_reducible refine' i_T ?hc ?_); (case hc => omega))
  | ((with_reducible refine' i_F ?hc ?_); (case hc => omega))
  | (with_reducible refine i_2 (fun hc => ?_) (fun hc => ?_))
  | (with_reducible refine i_n2 (fun hc => ?_) (fun hc => ?_)))
local macro_rules | `(tactic| walk_at "go") => `(tactic| repeat' (first | walk_at "s1" | walk_at "s2"))

local macro_rules | `(tactic| walk_at "s1") => `(tactic| first
  | with_reducible refine s_chain ?_
  | with_reducible refine s_fldS ?_
  | with_reducible refine s_fld ?_
  | with_reducible refine s_dIn ?_
  | with_reducible refine s_dNotIn ?_
  | with_reducible refine s_sl ?_
  | with_reducible refine s_noPart ?_
  | with_reducible refine s_part ?_
  | with_reducible refine s_meth ?_
  | with_reducible refine s_make ?_)

theorem evens_intsN (m : Nat) (R : Nat → Int) : evens (intsN (2 * m) R) = intsN m fun k => R (2 * k) := by
  unfold evens
  rw [intsN_len, show (2 * m + 1) / 2 = m by omega]
  have key : ∀ L : List Nat, (∀ k ∈ L, k < m) → L.filterMap (fun k => (intsN (2 * m) R)[2 * k]?) = L.map fun k => V.int (R (2 * k)) := fun L => by
    induction L with
    | nil => exact fun _ => rfl
    | cons k L ih =>
      intro h
      rw [List.filterMap_cons, intsN_at (by have := h k List.mem_cons_self; omega), List.map_cons, ih fun q hq => h q (List.mem_cons_of_mem _ hq)]
  exact key _ fun k hk => List.mem_range.mp hk
section
variable {P : Program} {w : World} {K : PySem.W.Frag} {mg : Str → Option Value} {base : Heap} {A : Ad}
def spFirst (C : Addr) : Sp := fun vs H Q _ => ∃ (x la ra : Addr) (N m : Nat) (i j : Nat → Nat) (R L : Nat → Int), vs = [.ref x] ∧ SpAt C H x la ra N m i j R L ∧ ∀ p H', Same H H' → H' p = some (.lst (intsN m fun k => R (2 * k))) → Q (.ref p) H'
theorem ok_first (T : Txt P K mg A) : FnOk P w K mg base CX0 1 A.a_Spread__first_amounts A.d_Spread__first_amounts ["self"] (spFirst A.c_Spread) := by
  refine T.F_Spread__first_amounts.ok sc_Spread__first_amounts (fun vs H Q E h => ?_) (fun cdv A' outer s H vs Q E hr h => ?_)
  · obtain ⟨x, la, ra, N, m, i, j, R, L, rfl, _⟩ := h
    rfl
  · obtain ⟨x, la, ra, N, m, i, j, R, L, rfl, S, k⟩ := h
    obtain ⟨dx, aa, ea, as_, hx, _⟩ := S.obj
    refine ⟨_, (pss_one (ps_ret (pe_evenL (pe_fld (pv 0) rfl)))), ?_⟩
    unfold tEvenL
    walk_at "sx"
    refine r_get rfl hx T.cl_Spread T.no_Spread_room rfl ?_
    refine ⟨ra, _, rfl, SqL.of S.hr, fun p np => ?_⟩
    rw [evens_intsN]
    exact k p _ (Same.new np) upd_same
end
end K37

set_option Elab.async false
set_option linter.all false
set_option maxRecDepth 100000
set_option maxHeartbeats 4000000
namespace K37
open PySem L2 Sx Fl
local macro_rules | `(tactic| walk_at "cond") => `(tactic| first
  | assumption
  | decide
  | exact c_mul_r (by first | decide | omega) (by first | decide | omega)
  | exact c_mul_l (by first | decide | omega) (by first | decide | omega)
  | exact c_div (by first | decide | omega) (by first | decide | omega)
  | exact c_pow (by first | decide | omega) (by first | decide | omega) (by first | decide | omega)
  | omega)
local macro_rules | `(tactic| walk_at "ne") => `(tactic| first
  | assumption
  | (refine Ne.symm ?_; assumption)
  | (refine' Flow.ne ?nh ?nn; (case nn => assumption); (case nh => walk_at "fl"))
  | (refine Ne.symm ?_; refine' Flow.ne ?nh ?nn; (case nn => assumption); (case nh => walk_at "fl"))
  | (refine' ne_of_none ?nh ?nn; (case nn => assumption); (case nh => walk_at "at"))
  | (refine Ne.symm ?_; refine' ne_of_none ?nh ?nn; (case nn => assumption); (case nh => walk_at "at")))
local macro_rules | `(tactic| walk_at "at") => `(tactic| first
  | assumption
  | (refine Same.up (by assumption) ?_; walk_at "at")
  | (refine Keep.up (by assumption) (by walk_at "ne") ?_; walk_at "at"))
local macro_rules | `(tactic| walk_at "fl") => `(tactic| first
  | assumption
  | (refine Flow.same (by assumption) ?_; walk_at "fl")
  | (refine Flow.keep (by assumption) (by walk_at "ne") ?_; walk_at "fl"))
local macro_rules | `(tactic| walk_at "fr") => `(tactic| first
  | assumption
  | (refine same_free (by assumption) ?_; walk_at "fr")
  | (refine Keep.free (by assumption) (by walk_at "ne") ?_; walk_at "fr"))
local macro_rules | `(tactic| walk_at "kp") => `(tactic| first
  | assumption
  | exact Keep.refl _ _
  | (refine Keep.trans ?_ (by assumption); walk_at "kp")
  | (refine Keep.trans ?_ (Keep.same (by assumption)); walk_at "kp"))
local macro_rules | `(tactic| walk_at "sm") => `(tactic| first
  | assumption
  | exact L2.Same.refl _
  | (refine L2.Same.trans ?_ (by assumption); walk_at "sm"))
local macro_rules | `(tactic| walk_at "sz") => `(tactic| first | exact Nat.le_of_ble_eq_true rfl | omega)
local macro_rules | `(tactic| walk_at "new") => `(tactic| (intro p np; generalize hE : upd _ p _ = H2; have s2 := new_same np hE; have h2 := new_at hE; clear hE))
local macro_rules | `(tactic| walk_at "newx") => `(tactic| (intro e d na nd hda; generalize hE : upd (upd _ d _) e _ = H2; have s2 := newx_same na nd hE; have h2 := newx_at hE; have h3 := newx_d hda hE; clear hE))
local macro_rules | `(tactic| walk_at "s1") => `(tactic| first
  | with_reducible refine s_seq ?_
  | with_reducible refine s_asg ?_
  | with_reducible refine s_name ?_
  | with_reducible refine s_ret ?_
  | with_reducible refine s_c ?_
  | ((with_reducible refine' s_var ?hv ?_); (case hv => rfl))
  | with_reducible refine s_op ?_
  | with_reducible refine s_un ?_
  | with_reducible refine s_ifS ?_
  | with_reducible refine s_cb ?_
  | with_reducible refine s_cons ?_
  | with_reducible refine s_nil ?_
  | with_reducible refine s_call ?_
  | with_reducible refine s_test ?_
  | with_reducible refine s_tB ?_
  | with_reducible refine s_bl ?_
  | with_reducible refine s_and ?_
  | with_reducible refine s_or ?_
  | with_reducible refine s_not ?_
  | with_reducible refine s_andV ?_
  | with_reducible refine s_orV ?_
  | with_reducible refine s_notV ?_
  | with_reducible refine s_blV ?_
  | with_reducible refine s_if ?_
  | with_reducible refine s_tup ?_
  | with_reducible refine s_lst ?_
  | with_reducible refine s_drop ?_
  | with_reducible refine s_next ?_
  | with_reducible refine s_sub ?_
  | with_reducible refine s_bm ?_
  | with_reducible refine s_callK ?_
  | with_reducible refine s_brk ?_
  | with_reducible refine s_cont ?_
  | with_reducible refine r_I0 ?_
  | with_reducible refine r_U ?_
  | with_reducible refine r_eqI ?_
  | with_reducible refine r_neI ?_
  | with_reducible refine r_isB ?_
  | with_reducible refine r_notB ?_
  | with_reducible refine i_t ?_
  | with_reducible refine i_f ?_
  | with_reducible refine i_nt ?_
  | with_reducible refine i_nf ?_
  | ((with_reducible refine' r_I ?hc ?_); (case hc => walk_at "cond"))
  | (with_reducible refine .inl ⟨_, rfl, ?_⟩)
  | (with_reducible refine ⟨_, rfl, ?_⟩)
  | ((with_reducible refine' r_ixL ?hx ?ha ?_); (case hx => walk_at "at"); (case ha => rfl))
  | ((with_reducible refine' r_ixT ?hx ?ha ?_); (case hx => walk_at "at"); (case ha => rfl))
  | ((with_reducible refine' r_setL ?hx ?ha ?_); (case hx => walk_at "at"); (case ha => rfl); intro H2 k2 h2; (try dsimp only [List.set, Int.toNat] at h2))
  | ((with_reducible refine' r_app ?hx ?hl ?_); (case hx => walk_at "at"); (case hl => first | exact Nat.lt_of_ble_eq_true rfl | omega); intro H2 k2 h2)
  | ((with_reducible refine' ty_list ?hx ?_); (case hx => walk_at "at"))
  | (refine And.intro (by (with_reducible show _ ≤ sizeLine); walk_at "sz") ?_; walk_at "new")
  | with_reducible refine s_exv ?_
  | walk_at "newx")
local macro_rules | `(tactic| walk_at "sx") => `(tactic| repeat (walk_at "s1"))
local macro_rules | `(tactic| walk_at "s2") => `(tactic| first
  | ((with_reducible refine' r_ixG ?hx ?hn ?_); (case hx => walk_at "at"); (case hn => omega))
  | ((with_reducible refine' r_ixGT ?hx ?hn ?_); (case hx => walk_at "at"); (case hn => omega))
  | (with_reducible refine ig_cons (fun hix => ?_) (fun hix => ?_))
  | ((with_reducible refine ig_nil ?_); omega)
  | ((with_reducible refine' i_T ?hc ?_); (case hc => omega))
  | ((with_reducible refine' i_F ?hc ?_); (case hc => omega))
  | (with_reducible refine i_2 (fun hc => ?_) (fun hc => ?_))
  | (with_reducible refine i_n2 (fun hc => ?_) (fun hc => ?_)))
local macro_rules | `(tactic| walk_at "go") => `(tactic| repeat' (first | walk_at "s1" | walk_at "s2"))

local macro_rules | `(tactic| walk_at "s1") => `(tactic| first
  | with_reducible refine s_chain ?_
  | with_reducible refine s_fldS ?_
  | with_reducible refine s_fld ?_
  | with_reducible refine s_dIn ?_
  | with_reducible refine s_dNotIn ?_
  | with_reducible refine s_sl ?_
  | with_reducible refine s_noPart ?_
  | with_reducible refine s_part ?_
  | with_reducible refine s_meth ?_
  | with_reducible refine s_make ?_)

def kvB (ks : List Nat) : List (Key × V) := ks.map fun r : Nat => (Sum.inl (r : Int), V.bl true)
theorem kvB_get : ∀ {ks : List Nat} {r : Nat}, (valV (kvB ks) (Sum.inl (r : Int))).isSome = decide (r ∈ ks)
  | [], r => by
    rw [show kvB [] = [] from rfl, valV_nil]
    simp
  | q :: ks, r => by
    have ih := kvB_get (ks := ks) (r := r)
    unfold kvB at ih ⊢
    rw [List.map_cons]
    by_cases h : q = r
    · subst h
      rw [valV_pos rfl]
      simp
    · rw [valV_neg (fun z => h (by have := Sum.inl.inj z; omega)), ih]
      have h2 : ¬ r = q := fun e => h e.symm
      simp [h2]
theorem kvB_put {ks : List Nat} {r : Nat} (h : r ∉ ks) : putK (kvB ks) (Sum.inl (r : Int) : Key) (.bl true) = kvB (ks ++ [r]) := by
  have n : valV (kvB ks) (Sum.inl (r : Int)) = none := by
    have z := kvB_get (ks := ks) (r := r)
    rw [decide_eq_false h] at z
    cases e : valV (kvB ks) (Sum.inl (r : Int)) with
    | none => rfl
    | some v => rw [e] at z; cases z
  rw [putK_new _ n]
  unfold kvB
  rw [List.map_append]
  rfl
/-- the ties within a part -/
def within (m : Nat) (i j : Nat → Nat) (ks : List Nat) : List Nat := (List.range m).filter fun k => decide (i k ∈ ks) && decide (j k ∈ ks)
section
variable {P : Program} {w : World} {K : PySem.W.Frag} {mg : Str → Option Value} {base : Heap} {A : Ad}
def spInside : Sp := fun vs H Q _ => ∃ (t pp : Addr) (m N : Nat) (i j p : Nat → Nat) (ks : List Nat), vs = [.ref t, .ref pp] ∧ TiesAt H t m N i j p ∧ m ≤ 1000 ∧ H pp = some (.tup (ks.map nv)) ∧ ks.Nodup ∧ ks.length ≤ 64 ∧ ∀ l H', Same H H' → H' l = some (.lst ((within m i j ks).map nv)) → Q (.ref l) H'
theorem ok_inside (T : Txt P K mg A) : FnOk P w K mg base CX0 1 A.a_inside A.d_inside ["ties", "part"] spInside := by
  refine T.F_inside.ok sc_inside (fun vs H Q E h => ?_) (fun cdv A' outer s H vs Q E hr h => ?_)
  · obtain ⟨t, pp, m, N, i, j, p, ks, rfl, _⟩ := h
    rfl
  · obtain ⟨t, pp, m, N, i, j, p, ks, rfl, ⟨ts, ht0, lts, tie⟩, m1, hp0, nd, few, k⟩ := h
    have ht : True → H t = some (.tup (ts.map .ref)) := fun _ => ht0
    have hp : True → H pp = some (.tup (ks.map nv)) := fun _ => hp0
    clear ht0 hp0
    refine ⟨_, (pss_cons (ps_set (i := 2) sc_inside.nd rfl (Or.inr rfl) (pe_dcP (u0 := .dK []) (own := [("number", 3)]) (g := (gName 3)) (.inl rfl) hr.units0 rfl sc_inside.nd (pi_tup (pv 1)) (blkOk_by (own := [("number", 3)]) (N := ["ties", "part", "chosen", "number", "k", "i", "j", "_"]) (sc := defScope s_inside) (by decide +kernel)) ⟨fun _ _ _ _ _ => (pg_name (i := 3) sc_inside.nd rfl (Or.inl rfl)), fun _ _ _ _ _ => pts_nil, fun _ _ _ _ _ => (pv 3), fun _ _ _ _ _ => pe_bl⟩))
  (pss_one (ps_ret (pe_lc (own := [("k", 4), ("i", 5), ("j", 6), ("_", 7)]) (g := (gTup K 2 (gCons (gName 4) (gCons (gTup K 3 (gCons (gName 5) (gCons (gName 6) (gCons (gName 7) gNil)))) gNil)))) (by rfl) sc_inside.nd (pi_enumT (by rfl) T.n_enumerate (pa_cons (pv 0) pa_nil)) (blkOk_by (own := [("k", 4), ("i", 5), ("j", 6), ("_", 7)]) (N := ["ties", "part", "chosen", "number", "k", "i", "j", "_"]) (sc := defScope s_inside) (by decide +kernel)) (fun _ _ _ _ _ => (pg_tup rfl (pgs_cons (pg_name (i := 4) sc_inside.nd rfl (Or.inl rfl)) (pgs_cons (pg_tup rfl (pgs_cons (pg_name (i := 5) sc_inside.nd rfl (Or.inl rfl)) (pgs_cons (pg_name (i := 6) sc_inside.nd rfl (Or.inl rfl)) (pgs_cons (pg_name (i := 7) sc_inside.nd rfl (Or.inl rfl)) pgs_nil)))) pgs_nil)))) (fun _ _ _ _ _ => pts_one (PW.pt (pw_and (pt_cmp (pc_din (u1 hr) (pv 5) (pv 2))) (pw_and1 (pt_cmp (pc_din (u1 hr) (pv 6) (pv 2))))))) (fun _ _ _ _ _ => (pv 4)))))), ?_⟩
    walk_at "s1"
    walk_at "s1"
    unfold tDcP iTup
    walk_at "sx"
    refine ⟨⟨_, SqT.of (hp trivial)⟩, fun D hD => dcp_tup (K := K) (a := pp) (xs := ks.map nv) (fun u H' => Same H H' ∧ H' D = some (.dK (kvB (ks.take u)))) ⟨Same.new hD, upd_same⟩ (fun u H' _ h => SqT.of (h.1 _ _ (hp trivial))) ?_ ?_⟩
    · rintro u y H' hy ⟨s', hD'⟩
      obtain ⟨r, hr', rfl⟩ : ∃ r, ks[u]? = some r ∧ nv r = y := by
        rw [List.getElem?_map] at hy
        exact Option.map_eq_some_iff.mp hy
      obtain ⟨ul, ur⟩ := List.getElem?_eq_some_iff.mp hr'
      have nk : r ∉ ks.take u := fun hm => by
        obtain ⟨l, hl, e⟩ := List.mem_iff_getElem.mp hm
        rw [List.length_take] at hl
        rw [List.getElem_take] at e
        have := (List.getElem?_inj (by omega) nd).mp ((List.getElem?_eq_getElem (l := ks) (i := l) (by omega)).trans ((congrArg some e).trans hr'.symm))
        omega
      refine s_name ⟨rfl, ?_⟩
      refine s_yes (i_t ?_)
      refine s_var rfl (s_c ?_)
      refine ⟨_, DPut.k (k := Sum.inl (r : Int)) hD' (by unfold kvB; rw [List.length_map, List.length_take, sizeLine_eq]; omega), Sx.Same.put s' hD, ?_⟩
      rw [upd_same, kvB_put nk, List.take_succ, hr']
      rfl
    · rintro H1 ⟨s1, h10⟩
      rw [List.length_map, List.take_length] at h10
      have h1 : True → H1 D = some (.dK (kvB ks)) := fun _ => h10
      clear h10
      walk_at "sx"
      unfold tLc iEnumT
      walk_at "sx"
      refine ⟨t, _, rfl, SqT.of (s1 _ _ (ht trivial)), fun D2 hD2 => lc_it (walk_enumT (K := K) (a := t) (xs := ts.map .ref)) (fun u G => Same H1 G ∧ (True → G D2 = some (.lst ((within u i j ks).map nv)))) ⟨Same.new hD2, fun _ => upd_same⟩ (fun u G _ h => SqT.of (h.1 _ _ (s1 _ _ (ht trivial)))) ?_ ?_⟩
      · rintro q y G G' hq ⟨s', hD'⟩ ⟨T1, u1, v, rfl, nT, rfl, eu, ev⟩
        cases eu
        rw [List.length_map, lts] at hq
        obtain ⟨a, ha, hta, iN, jN, ijn⟩ := tie q hq
        have ev' : (ts.map V.ref)[q]? = some v := ev
        rw [List.getElem?_map, ha] at ev'
        cases ev'
        generalize hE : upd G T1 _ = G1
        have s2 := new_same nT hE
        have g1 := new_at hE
        clear hE
        have s12 := s'.trans s2
        have hd1 : True → G1 D = some (.dK (kvB ks)) := fun _ => s12 _ _ (h1 trivial)
        have hw : (within q i j ks).length ≤ q := by
          have := List.length_filter_le (fun k => decide (i k ∈ ks) && decide (j k ∈ ks)) (List.range q)
          rw [List.length_range] at this
          exact this
        have nxt : within (q + 1) i j ks = within q i j ks ++ (if (decide (i q ∈ ks) && decide (j q ∈ ks)) = true then [q] else []) := by
          unfold within
          rw [List.range_succ, List.filter_append, List.filter_cons, List.filter_nil]
        refine ⟨T1, _, rfl, SqT.of g1, rfl, _, _, rfl, s_name ⟨_, _, rfl, ⟨a, _, rfl, SqT.of (s12 _ _ (s1 _ _ hta)), rfl, _, _, rfl, s_name ⟨_, _, rfl, s_name ⟨_, _, rfl, s_name ⟨rfl, ⟨rfl, ⟨rfl, ?_⟩⟩⟩⟩⟩⟩⟩⟩
        walk_at "sx"
        refine ⟨D, _, rfl, DGet.k (k := Sum.inl (i q : Int)) (hd1 trivial), ?_⟩
        rw [kvB_get]
        by_cases c1 : i q ∈ ks
        · rw [decide_eq_true c1]
          walk_at "sx"
          refine ⟨D, _, rfl, DGet.k (k := Sum.inl (j q : Int)) (hd1 trivial), ?_⟩
          rw [kvB_get]
          by_cases c2 : j q ∈ ks
          · rw [decide_eq_true c2]
            walk_at "sx"
            refine ⟨_, s2 _ _ (hD' trivial), by rw [List.length_map, sizeLine_eq]; omega, Sx.Same.put s12 hD2, fun _ => ?_⟩
            rw [upd_same, nxt, decide_eq_true c1, decide_eq_true c2, List.map_append]
            rfl
          · rw [decide_eq_false c2]
            walk_at "sx"
            refine ⟨s12, fun _ => ?_⟩
            rw [s2 _ _ (hD' trivial), nxt, decide_eq_false c2, Bool.and_false]
            simp
        · rw [decide_eq_false c1]
          walk_at "sx"
          refine ⟨s12, fun _ => ?_⟩
          rw [s2 _ _ (hD' trivial), nxt, decide_eq_false c1, Bool.false_and]
          simp
      · rintro G ⟨s', hD'⟩
        rw [List.length_map, lts] at hD'
        exact k _ _ (s1.trans s') (hD' trivial)
end
end K37

set_option Elab.async false
set_option linter.all false
set_option maxHeartbeats 1000000
/-! the measure of densest: how many fractions are above the limit -/
namespace Fl
theorem filter_less {α : Type} {p q : α → Bool} : ∀ {l : List α}, (∀ x ∈ l, q x = true → p x = true) → ∀ {y : α}, y ∈ l → p y = true → q y = false → (l.filter q).length < (l.filter p).length
  | [], _, _, h, _, _ => nomatch h
  | x :: l, h, y, hy, py, qy => by
    have le : ∀ l : List α, (∀ x ∈ l, q x = true → p x = true) → (l.filter q).length ≤ (l.filter p).length := fun l h => by
      rw [← List.countP_eq_length_filter, ← List.countP_eq_length_filter]
      exact List.countP_mono_left h
    have h' : ∀ x ∈ l, q x = true → p x = true := fun z hz => h z (List.mem_cons_of_mem _ hz)
    have := le l h'
    rw [List.filter_cons, List.filter_cons]
    rcases List.mem_cons.mp hy with e | e
    · subst e
      rw [if_pos py, if_neg (by rw [qy]; simp), List.length_cons]
      omega
    · have ih := filter_less h' e py qy
      by_cases c : q x = true
      · rw [if_pos c, if_pos (h x List.mem_cons_self c), List.length_cons, List.length_cons]
        omega
      · rw [if_neg c]
        split
        · rw [List.length_cons]
          omega
        · exact ih
def pairs (T N : Nat) : List (Nat × Nat) := (List.range (T + 1)).flatMap fun p => (List.range (N + 1)).map fun q => (p, q)
theorem mem_pairs {T N p q : Nat} : (p, q) ∈ pairs T N ↔ p ≤ T ∧ q ≤ N := by
  unfold pairs
  rw [List.mem_flatMap]
  constructor
  · rintro ⟨a, ha, h⟩
    obtain ⟨b, hb, e⟩ := List.mem_map.mp h
    cases e
    rw [List.mem_range] at ha hb
    omega
  · rintro ⟨h1, h2⟩
    exact ⟨p, List.mem_range.mpr (by omega), List.mem_map.mpr ⟨q, List.mem_range.mpr (by omega), rfl⟩⟩
/-- fractions p / q above a / b -/
def above (T N : Nat) (a b : Int) : Nat := ((pairs T N).filter fun x => decide (a * (x.2 : Int) < (x.1 : Int) * b) && decide (0 < x.2)).length
theorem above_less {T N p q : Nat} {a b : Int} (hp : p ≤ T) (hq : q ≤ N) (q0 : 0 < q) (b0 : 0 < b) (h : a * q < p * b) : above T N p q < above T N a b := by
  unfold above
  refine filter_less (fun x _ hx => ?_) (mem_pairs.mpr ⟨hp, hq⟩) ?_ ?_
  · rw [Bool.and_eq_true, decide_eq_true_eq, decide_eq_true_eq] at hx ⊢
    refine ⟨?_, hx.2⟩
    have q1 : (0 : Int) < (q : Int) := by omega
    have x1 : (0 : Int) < (x.2 : Int) := by have := hx.2; omega
    have c1 : a * x.2 * q < p * b * x.2 := by
      have := Int.mul_lt_mul_of_pos_right h x1
      calc a * x.2 * q = a * q * x.2 := by rw [Int.mul_assoc, Int.mul_comm (x.2 : Int), ← Int.mul_assoc]
        _ < p * b * x.2 := this
    have c2 : p * b * x.2 < x.1 * b * q := by
      have := Int.mul_lt_mul_of_pos_right hx.1 b0
      calc p * b * x.2 = p * x.2 * b := by rw [Int.mul_assoc, Int.mul_comm b, ← Int.mul_assoc]
        _ < x.1 * q * b := this
        _ = x.1 * b * q := by rw [Int.mul_assoc, Int.mul_comm (q : Int), ← Int.mul_assoc]
    exact Int.lt_of_mul_lt_mul_right (Int.lt_trans c1 c2) (Int.le_of_lt q1)
  · rw [Bool.and_eq_true, decide_eq_true_eq, decide_eq_true_eq]
    exact ⟨h, q0⟩
  · rw [Bool.and_eq_false_iff]
    exact .inl (decide_eq_false (Int.lt_irrefl _))
end Fl

set_option Elab.async false
set_option linter.all false
set_option maxHeartbeats 1000000
namespace K37
open PySem L2 Sx Fl
theorem within_succ (m : Nat) (i j : Nat → Nat) (ks : List Nat) : within (m + 1) i j ks = within m i j ks ++ (if i m ∈ ks ∧ j m ∈ ks then [m] else []) := by
  unfold within
  rw [List.range_succ, List.filter_append, List.filter_cons, List.filter_nil]
  by_cases a : i m ∈ ks <;> by_cases b : j m ∈ ks <;> simp [a, b]
/-- what the ties within a part weigh -/
theorem within_sum (i j : Nat → Nat) (W : Nat → Int) (ks : List Nat) : ∀ m : Nat, ((within m i j ks).map W).sum = inside m i j W ks
  | 0 => rfl
  | m + 1 => by
    rw [within_succ, List.map_append, List.sum_append, within_sum i j W ks m]
    unfold inside
    rw [sumN_succ]
    congr 1
    by_cases h : i m ∈ ks ∧ j m ∈ ks
    · rw [if_pos h, if_pos h]
      simp
    · rw [if_neg h, if_neg h]
      rfl
theorem within_lt {m : Nat} {i j : Nat → Nat} {ks : List Nat} {k : Nat} (h : k ∈ within m i j ks) : k < m := List.mem_range.mp (List.mem_filter.mp h).1
end K37

set_option Elab.async false
set_option linter.all false
set_option maxRecDepth 100000
set_option maxHeartbeats 4000000
namespace K37
open PySem L2 Sx Fl
local macro_rules | `(tactic| walk_at "cond") => `(tactic| first
  | assumption
  | decide
  | exact c_mul_r (by first | decide | omega) (by first | decide | omega)
  | exact c_mul_l (by first | decide | omega) (by first | decide | omega)
  | exact c_div (by first | decide | omega) (by first | decide | omega)
  | exact c_pow (by first | decide | omega) (by first | decide | omega) (by first | decide | omega)
  | omega)
local macro_rules | `(tactic| walk_at "ne") => `(tactic| first
  | assumption
  | (refine Ne.symm ?_; assumption)
  | (refine' Flow.ne ?nh ?nn; (case nn => assumption); (case nh => walk_at "fl"))
  | (refine Ne.symm ?_; refine' Flow.ne ?nh ?nn; (case nn => assumption); (case nh => walk_at "fl"))
  | (refine' ne_of_none ?nh ?nn; (case nn => assumption); (case nh => walk_at "at"))
  | (refine Ne.symm ?_; refine' ne_of_none ?nh ?nn; (case nn => assumption); (case nh => walk_at "at")))
local macro_rules | `(tactic| walk_at "at") => `(tactic| first
  | assumption
  | (refine Same.up (by assumption) ?_; walk_at "at")
  | (refine Keep.up (by assumption) (by walk_at "ne") ?_; walk_at "at"))
local macro_rules | `(tactic| walk_at "fl") => `(tactic| first
  | assumption
  | (refine Flow.same (by assumption) ?_; walk_at "fl")
  | (refine Flow.keep (by assumption) (by walk_at "ne") ?_; walk_at "fl"))
local macro_rules | `(tactic| walk_at "fr") => `(tactic| first
  | assumption
  | (refine same_free (by assumption) ?_; walk_at "fr")
  | (refine Keep.free (by assumption) (by walk_at "ne") ?_; walk_at "fr"))
local macro_rules | `(tactic| walk_at "kp") => `(tactic| first
  | assumption
  | exact Keep.refl _ _
  | (refine Keep.trans ?_ (by assumption); walk_at "kp")
  | (refine Keep.trans ?_ (Keep.same (by assumption)); walk_at "kp"))
local macro_rules | `(tactic| walk_at "sm") => `(tactic| first
  | assumption
  | exact L2.Same.refl _
  | (refine L2.Same.trans ?_ (by assumption); walk_at "sm"))
local macro_rules | `(tactic| walk_at "sz") => `(tactic| first | exact Nat.le_of_ble_eq_true rfl | omega)
local macro_rules | `(tactic| walk_at "new") => `(tactic| (intro p np; generalize hE : upd _ p _ = H2; have s2 := new_same np hE; have h2 := new_at hE; clear hE))
local macro_rules | `(tactic| walk_at "newx") => `(tactic| (intro e d na nd hda; generalize hE : upd (upd _ d _) e _ = H2; have s2 := newx_same na nd hE; have h2 := newx_at hE; have h3 := newx_d hda hE; clear hE))
local macro_rules | `(tactic| walk_at "s1") => `(tactic| first
  | with_reducible refine s_seq ?_
  | with_reducible refine s_asg ?_
  | with_reducible refine s_name ?_
  | with_reducible refine s_ret ?_
  | with_reducible refine s_c ?_
  | ((with_reducible refine' s_var ?hv ?_); (case hv => rfl))
  | with_reducible refine s_op ?_
  | with_reducible refine s_un ?_
  | with_reducible refine s_ifS ?_
  | with_reducible refine s_cb ?_
  | with_reducible refine s_cons ?_
  | with_reducible refine s_nil ?_
  | with_reducible refine s_call ?_
  | with_reducible refine s_test ?_
  | with_reducible refine s_tB ?_
  | with_reducible refine s_bl ?_
  | with_reducible refine s_and ?_
  | with_reducible refine s_or ?_
  | with_reducible refine s_not ?_
  | with_reducible refine s_andV ?_
  | with_reducible refine s_orV ?_
  | with_reducible refine s_notV ?_
  | with_reducible refine s_blV ?_
  | with_reducible refine s_if ?_
  | with_reducible refine s_tup ?_
  | with_reducible refine s_lst ?_
  | with_reducible refine s_drop ?_
  | with_reducible refine s_next ?_
  | with_reducible refine s_sub ?_
  | with_reducible refine s_bm ?_
  | with_reducible refine s_callK ?_
  | with_reducible refine s_brk ?_
  | with_reducible refine s_cont ?_
  | with_reducible refine r_I0 ?_
  | with_reducible refine r_U ?_
  | with_reducible refine r_eqI ?_
  | with_reducible refine r_neI ?_
  | with_reducible refine r_isB ?_
  | with_reducible refine r_notB ?_
  | with_reducible refine i_t ?_
  | with_reducible refine i_f ?_
  | with_reducible refine i_nt ?_
  | with_reducible refine i_nf ?_
  | ((with_reducible refine' r_I ?hc ?_); (case hc => walk_at "cond"))
  | (with_reducible refine .inl ⟨_, rfl, ?_⟩)
  | (with_reducible refine ⟨_, rfl, ?_⟩)
  | ((with_reducible refine' r_ixL ?hx ?ha ?_); (case hx => walk_at "at"); (case ha => rfl))
  | ((with_reducible refine' r_ixT ?hx ?ha ?_); (case hx => walk_at "at"); (case ha => rfl))
  | ((with_reducible refine' r_setL ?hx ?ha ?_); (case hx => walk_at "at"); (case ha => rfl); intro H2 k2 h2; (try dsimp only [List.set, Int.toNat] at h2))
  | ((with_reducible refine' r_app ?hx ?hl ?_); (case hx => walk_at "at"); (case hl => first | exact Nat.lt_of_ble_eq_true rfl | omega); intro H2 k2 h2)
  | ((with_reducible refine' ty_list ?hx ?_); (case hx => walk_at "at"))
  | (refine And.intro (by (with_reducible show _ ≤ sizeLine); walk_at "sz") ?_; walk_at "new")
  | with_reducible refine s_exv ?_
  | walk_at "newx")
local macro_rules | `(tactic| walk_at "sx") => `(tactic| repeat (walk_at "s1"))
local macro_rules | `(tactic| walk_at "s2") => `(tactic| first
  | ((with_reducible refine' r_ixG ?hx ?hn ?_); (case hx => walk_at "at"); (case hn => omega))
  | ((with_reducible refine' r_ixGT ?hx ?hn ?_); (case hx => walk_at "at"); (case hn => omega))
  | (with_reducible refine ig_cons (fun hix => ?_) (fun hix => ?_))
  | ((with_reducible refine ig_nil ?_); omega)
  | ((with_reducible refine' i_T ?hc ?_); (case hc => omega))
  | ((with_reducible refine' i_F ?hc ?_); (case hc => omega))
  | (with_reducible refine i_2 (fun hc => ?_) (fun hc => ?_))
  | (with_reducible refine i_n2 (fun hc => ?_) (fun hc => ?_)))
local macro_rules | `(tactic| walk_at "go") => `(tactic| repeat' (first | walk_at "s1" | walk_at "s2"))

local macro_rules | `(tactic| walk_at "s1") => `(tactic| first
  | with_reducible refine s_chain ?_
  | with_reducible refine s_fldS ?_
  | with_reducible refine s_fld ?_
  | with_reducible refine s_dIn ?_
  | with_reducible refine s_dNotIn ?_
  | with_reducible refine s_sl ?_
  | with_reducible refine s_noPart ?_
  | with_reducible refine s_part ?_
  | with_reducible refine s_meth ?_
  | with_reducible refine s_make ?_)

section
variable {P : Program} {w : World} {K : PySem.W.Frag} {mg : Str → Option Value} {base : Heap} {A : Ad}
def spShare : Sp := fun vs H Q _ => ∃ a b : Nat, vs = [.int a, .int b] ∧ 0 < b ∧ b ≤ 1000000 ∧ ∀ p H', Same H H' → H' p = some (.tup [.int ((a / Nat.gcd a b : Nat) : Int), .int ((b / Nat.gcd a b : Nat) : Int)]) → Q (.ref p) H'
theorem ok_share (T : Txt P K mg A) : FnOk P w K mg base CX0 1 A.a_share_of A.d_share_of ["a", "b"] spShare := by
  refine T.F_share_of.ok sc_share_of (fun vs H Q E h => ?_) (fun cdv A' outer s H vs Q E hr h => ?_)
  · obtain ⟨a, b, rfl, _⟩ := h
    rfl
  · obtain ⟨a, b, rfl, b0, b1, k⟩ := h
    obtain ⟨g, eg⟩ : ∃ g, g = Nat.gcd a b := ⟨_, rfl⟩
    have g0 : 0 < g := by rw [eg]; exact Nat.gcd_pos_of_pos_right _ b0
    have gb : g ≤ b := by rw [eg]; exact Nat.le_of_dvd b0 (Nat.gcd_dvd_right a b)
    rw [← eg] at k
    refine ⟨_, (pss_cons (ps_if (pt_cmpR op_eq (pv 1) pe_int (nomark _)) (pss_one ps_never) pss_nil)
  (pss_cons (ps_set (i := 2) sc_share_of.nd rfl (Or.inl rfl) (pe_callBfun cr_gcd (by rfl) T.m_gcd (pa_cons (pv 0) (pa_cons (pv 1) pa_nil))))
  (pss_cons (ps_if (pt_cmpR op_lt (pv 1) pe_int (nomark _)) (pss_one (ps_set (i := 2) sc_share_of.nd rfl (Or.inl rfl) (pe_un un_neg (pv 2)))) pss_nil)
  (pss_one (ps_ret (pe_tup (pa_cons (pe_op op_fdiv (pv 0) (pv 2)) (pa_cons (pe_op op_fdiv (pv 1) (pv 2)) pa_nil)))))))), ?_⟩
    walk_at "sx"
    refine i_F (by omega) ?_
    walk_at "sx"
    refine r_gcd ?_
    rw [Int.natAbs_natCast, Int.natAbs_natCast, ← eg]
    walk_at "sx"
    refine i_F (by omega) ?_
    walk_at "sx"
    rename_i p1 np1 H2 s2 h2
    exact k p1 H2 s2 (by rw [h2, Int.natCast_ediv, Int.natCast_ediv])
/-- which share of a weight an amount is -/
def spPortion : Sp := fun vs H Q _ => ∃ a b : Nat, vs = [.int a, .int b] ∧ b ≤ 1000000 ∧ ∀ p H', Same H H' → H' p = some (.tup (if b = 0 then [.int 0, .int 1] else [.int ((a / Nat.gcd a b : Nat) : Int), .int ((b / Nat.gcd a b : Nat) : Int)])) → Q (.ref p) H'
theorem ok_portion (T : Txt P K mg A) : FnOk P w K mg base CX0 2 A.a_portion A.d_portion ["amount", "weight"] spPortion := by
  refine T.F_portion.ok sc_portion (fun vs H Q E h => ?_) (fun cdv A' outer s H vs Q E hr h => ?_)
  · obtain ⟨a, b, rfl, _⟩ := h
    rfl
  · obtain ⟨a, b, rfl, b1, k⟩ := h
    have G_share_of := ok_share (w := w) (base := base) T
    refine ⟨_, (pss_one (ps_ret (pe_ifExp (pt_cmpR op_eq (pv 1) pe_int (nomark _)) (pe_tup (pa_cons pe_int (pa_cons pe_int pa_nil))) (pe_call G_share_of (hr.mono (by decide)) rfl T.g_share_of T.F_share_of.kp (B_share_of T) .nil pass0 (pa_cons (pv 0) (pa_cons (pv 1) pa_nil)))))), ?_⟩
    walk_at "sx"
    refine i_b2 (fun hb => ?_) (fun hb => ?_)
    · have h0 : b = 0 := by
        have := of_decide_eq_true hb
        omega
      rw [if_pos h0] at k
      walk_at "sx"
      rename_i p1 np1 H2 s2 h2
      exact k p1 H2 s2 h2
    · have h0 : ¬ b = 0 := by
        have := of_decide_eq_false hb
        omega
      rw [if_neg h0] at k
      walk_at "sx"
      exact ⟨a, b, rfl, by omega, b1, k⟩
end
end K37

set_option Elab.async false
set_option linter.all false
set_option maxRecDepth 100000
set_option maxHeartbeats 4000000
namespace K37
open PySem L2 Sx Fl
local macro_rules | `(tactic| walk_at "cond") => `(tactic| first
  | assumption
  | decide
  | exact c_mul_r (by first | decide | omega) (by first | decide | omega)
  | exact c_mul_l (by first | decide | omega) (by first | decide | omega)
  | exact c_div (by first | decide | omega) (by first | decide | omega)
  | exact c_pow (by first | decide | omega) (by first | decide | omega) (by first | decide | omega)
  | omega)
local macro_rules | `(tactic| walk_at "ne") => `(tactic| first
  | assumption
  | (refine Ne.symm ?_; assumption)
  | (refine' Flow.ne ?nh ?nn; (case nn => assumption); (case nh => walk_at "fl"))
  | (refine Ne.symm ?_; refine' Flow.ne ?nh ?nn; (case nn => assumption); (case nh => walk_at "fl"))
  | (refine' ne_of_none ?nh ?nn; (case nn => assumption); (case nh => walk_at "at"))
  | (refine Ne.symm ?_; refine' ne_of_none ?nh ?nn; (case nn => assumption); (case nh => walk_at "at")))
local macro_rules | `(tactic| walk_at "at") => `(tactic| first
  | assumption
  | (refine Same.up (by assumption) ?_; walk_at "at")
  | (refine Keep.up (by assumption) (by walk_at "ne") ?_; walk_at "at"))
local macro_rules | `(tactic| walk_at "fl") => `(tactic| first
  | assumption
  | (refine Flow.same (by assumption) ?_; walk_at "fl")
  | (refine Flow.keep (by assumption) (by walk_at "ne") ?_; walk_at "fl"))
local macro_rules | `(tactic| walk_at "fr") => `(tactic| first
  | assumption
  | (refine same_free (by assumption) ?_; walk_at "fr")
  | (refine Keep.free (by assumption) (by walk_at "ne") ?_; walk_at "fr"))
local macro_rules | `(tactic| walk_at "kp") => `(tactic| first
  | assumption
  | exact Keep.refl _ _
  | (refine Keep.trans ?_ (by assumption); walk_at "kp")
  | (refine Keep.trans ?_ (Keep.same (by assumption)); walk_at "kp"))
local macro_rules | `(tactic| walk_at "sm") => `(tactic| first
  | assumption
  | exact L2.Same.refl _
  | (refine L2.Same.trans ?_ (by assumption); walk_at "sm"))
local macro_rules | `(tactic| walk_at "sz") => `(tactic| first | exact Nat.le_of_ble_eq_true rfl | omega)
local macro_rules | `(tactic| walk_at "new") => `(tactic| (intro p np; generalize hE : upd _ p _ = H2; have s2 := new_same np hE; have h2 := new_at hE; clear hE))
local macro_rules | `(tactic| walk_at "newx") => `(tactic| (intro e d na nd hda; generalize hE : upd (upd _ d _) e _ = H2; have s2 := newx_same na nd hE; have h2 := newx_at hE; have h3 := newx_d hda hE; clear hE))
local macro_rules | `(tactic| walk_at "s1") => `(tactic| first
  | with_reducible refine s_seq ?_
  | with_reducible refine s_asg ?_
  | with_reducible refine s_name ?_
  | with_reducible refine s_ret ?_
  | with_reducible refine s_c ?_
  | ((with_reducible refine' s_var ?hv ?_); (case hv => rfl))
  | with_reducible refine s_op ?_
  | with_reducible refine s_un ?_
  | with_reducible refine s_ifS ?_
  | with_reducible refine s_cb ?_
  | with_reducible refine s_cons ?_
  | with_reducible refine s_nil ?_
  | with_reducible refine s_call ?_
  | with_reducible refine s_test ?_
  | with_reducible refine s_tB ?_
  | with_reducible refine s_bl ?_
  | with_reducible refine s_and ?_
  | with_reducible refine s_or ?_
  | with_reducible refine s_not ?_
  | with_reducible refine s_andV ?_
  | with_reducible refine s_orV ?_
  | with_reducible refine s_notV ?_
  | with_reducible refine s_blV ?_
  | with_reducible refine s_if ?_
  | with_reducible refine s_tup ?_
  | with_reducible refine s_lst ?_
  | with_reducible refine s_drop ?_
  | with_reducible refine s_next ?_
  | with_reducible refine s_sub ?_
  | with_reducible refine s_bm ?_
  | with_reducible refine s_callK ?_
  | with_reducible refine s_brk ?_
  | with_reducible refine s_cont ?_
  | with_reducible refine r_I0 ?_
  | with_reducible refine r_U ?_
  | with_reducible refine r_eqI ?_
  | with_reducible refine r_neI ?_
  | with_reducible refine r_isB ?_
  | with_reducible refine r_notB ?_
  | with_reducible refine i_t ?_
  | with_reducible refine i_f ?_
  | with_reducible refine i_nt ?_
  | with_reducible refine i_nf ?_
  | ((with_reducible refine' r_I ?hc ?_); (case hc => walk_at "cond"))
  | (with_reducible refine .inl ⟨_, rfl, ?_⟩)
  | (with_reducible refine ⟨_, rfl, ?_⟩)
  | ((with_reducible refine' r_ixL ?hx ?ha ?_); (case hx => walk_at "at"); (case ha => rfl))
  | ((with_reducible refine' r_ixT ?hx ?ha ?_); (case hx => walk_at "at"); (case ha => rfl))
  | ((with_reducible refine' r_setL ?hx ?ha ?_); (case hx => walk_at "at"); (case ha => rfl); intro H2 k2 h2; (try dsimp only [List.set, Int.toNat] at h2))
  | ((with_reducible refine' r_app ?hx ?hl ?_); (case hx => walk_at "at"); (case hl => first | exact Nat.lt_of_ble_eq_true rfl | omega); intro H2 k2 h2)
  | ((with_reducible refine' ty_list ?hx ?_); (case hx => walk_at "at"))
  | (refine And.intro (by (with_reducible show _ ≤ sizeLine); walk_at "sz") ?_; walk_at "new")
  | with_reducible refine s_exv ?_
  | walk_at "newx")
local macro_rules | `(tactic| walk_at "sx") => `(tactic| repeat (walk_at "s1"))
local macro_rules | `(tactic| walk_at "s2") => `(tactic| first
  | ((with_reducible refine' r_ixG ?hx ?hn ?_); (case hx => walk_at "at"); (case hn => omega))
  | ((with_reducible refine' r_ixGT ?hx ?hn ?_); (case hx => walk_at "at"); (case hn => omega))
  | (with_reducible refine ig_cons (fun hix => ?_) (fun hix => ?_))
  | ((with_reducible refine ig_nil ?_); omega)
  | ((with_reducible refine' i_T ?hc ?_); (case hc => omega))
  | ((with_reducible refine' i_F ?hc ?_); (case hc => omega))
  | (with_reducible refine i_2 (fun hc => ?_) (fun hc => ?_))
  | (with_reducible refine i_n2 (fun hc => ?_) (fun hc => ?_)))
local macro_rules | `(tactic| walk_at "go") => `(tactic| repeat' (first | walk_at "s1" | walk_at "s2"))

local macro_rules | `(tactic| walk_at "s1") => `(tactic| first
  | with_reducible refine s_chain ?_
  | with_reducible refine s_fldS ?_
  | with_reducible refine s_fld ?_
  | with_reducible refine s_dIn ?_
  | with_reducible refine s_dNotIn ?_
  | with_reducible refine s_sl ?_
  | with_reducible refine s_noPart ?_
  | with_reducible refine s_part ?_
  | with_reducible refine s_meth ?_
  | with_reducible refine s_make ?_)

theorem inside_nonneg {m : Nat} {i j : Nat → Nat} {W : Nat → Int} (h : ∀ k, k < m → 0 ≤ W k) (ks : List Nat) : 0 ≤ inside m i j W ks := sumN_nonneg fun k hk => by
  show 0 ≤ (if i k ∈ ks ∧ j k ∈ ks then W k else 0)
  split
  · exact h k hk
  · exact Int.le_refl _
section
variable {P : Program} {w : World} {K : PySem.W.Frag} {mg : Str → Option Value} {base : Heap} {A : Ad}
/-- how much a part weighs over how many rules it has -/
def spDensity : Sp := fun vs H Q _ => ∃ (t u pp : Addr) (m N : Nat) (i j p : Nat → Nat) (W : Nat → Int) (ks : List Nat), vs = [.ref t, .ref u, .ref pp] ∧ TiesAt H t m N i j p ∧ m ≤ 1000 ∧ H u = some (.lst (intsN m W)) ∧ (∀ k, k < m → 0 ≤ W k) ∧ H pp = some (.tup (ks.map nv)) ∧ ks.Nodup ∧ ks ≠ [] ∧ ks.length ≤ 64 ∧
  ∀ (T : Nat) p H', (T : Int) = inside m i j W ks → Same H H' → H' p = some (.tup [.int ((T / Nat.gcd T ks.length : Nat) : Int), .int ((ks.length / Nat.gcd T ks.length : Nat) : Int)]) → Q (.ref p) H'
theorem ok_density (T : Txt P K mg A) : FnOk P w K mg base CX0 2 A.a_density A.d_density ["ties", "weights", "part"] spDensity := by
  refine T.F_density.ok sc_density (fun vs H Q E h => ?_) (fun cdv A' outer s H vs Q E hr h => ?_)
  · obtain ⟨t, u, pp, m, N, i, j, p, W, ks, rfl, _⟩ := h
    rfl
  · obtain ⟨t, u, pp, m, N, i, j, p, W, ks, rfl, tie, m1, hu0, W0, hp0, nd, ne, few, k⟩ := h
    have G_share_of := ok_share (w := w) (base := base) T
    have G_inside := ok_inside (w := w) (base := base) T
    have hu : True → H u = _ := fun _ => hu0
    have hp : True → H pp = _ := fun _ => hp0
    clear hu0 hp0
    have lpos := List.length_pos_iff.mpr ne
    refine ⟨_, (pss_one (ps_ret (pe_call G_share_of (hr.mono (by decide)) rfl T.g_share_of T.F_share_of.kp (B_share_of T) .nil pass0 (pa_cons (pe_callB (cr_sum rfl) (by rfl) T.n_sum (by decide +kernel) (pa_cons (pe_lc (own := [("k", 3)]) (g := (gName 3)) (by rfl) sc_density.nd (pi_list (pe_call G_inside (hr.mono (by decide)) rfl T.g_inside T.F_inside.kp (B_inside T) .nil pass0 (pa_cons (pv 0) (pa_cons (pv 2) pa_nil)))) (blkOk_by (own := [("k", 3)]) (N := ["ties", "weights", "part", "k"]) (sc := defScope s_density) (by decide +kernel)) (fun _ _ _ _ _ => (pg_name (i := 3) sc_density.nd rfl (Or.inl rfl))) (fun _ _ _ _ _ => pts_nil) (fun _ _ _ _ _ => (pe_ix (r := rIx K) ix_seq (pv 1) (pv 3) (fun _ _ => rfl)))) pa_nil)) (pa_cons (pe_callB call_len (by rfl) T.n_len (by decide +kernel) (pa_cons (pv 2) pa_nil)) pa_nil))))), ?_⟩
    walk_at "sx"
    unfold tLc iList
    walk_at "sx"
    refine ⟨t, pp, m, N, i, j, p, ks, rfl, tie, m1, hp trivial, nd, few, fun l H1 s1 hl0 => ?_⟩
    have hl : True → H1 l = _ := fun _ => hl0
    clear hl0
    refine ⟨l, rfl, ⟨_, SqL.of (hl trivial)⟩, fun D hD => lc_list (K := K) (a := l) (xs := (within m i j ks).map nv) (fun q G => Same H1 G ∧ G D = some (.lst ((((within m i j ks).take q).map W).map V.int))) ⟨Same.new hD, upd_same⟩ (fun q G _ h => SqL.of (h.1 _ _ (hl trivial))) ?_ ?_⟩
    · rintro q y G hy ⟨s', hD'⟩
      obtain ⟨z, hz, rfl⟩ : ∃ z, (within m i j ks)[q]? = some z ∧ nv z = y := by
        rw [List.getElem?_map] at hy
        exact Option.map_eq_some_iff.mp hy
      have zl := within_lt (List.mem_of_getElem? hz)
      have ql : q < m := by
        have a := (List.getElem?_eq_some_iff.mp hz).1
        have b := List.length_filter_le (fun k => decide (i k ∈ ks) && decide (j k ∈ ks)) (List.range m)
        rw [List.length_range] at b
        exact Nat.lt_of_lt_of_le a b
      refine s_name ⟨rfl, ?_⟩
      refine s_yes (i_t ?_)
      refine s_op (s_var rfl (s_var rfl (r_ixL (s' _ _ (s1 _ _ (hu trivial))) (atI_nat (intsN_at zl)) ?_)))
      refine ⟨_, hD', ?_, Sx.Same.put s' hD, ?_⟩
      · rw [List.length_map, List.length_map, List.length_take, sizeLine_eq]
        omega
      · rw [upd_same, List.take_succ, hz]
        simp
    rintro H2 ⟨s2, hD2⟩
    rw [List.length_map, List.take_length] at hD2
    obtain ⟨T0, eT⟩ := Int.eq_ofNat_of_zero_le (inside_nonneg (i := i) (j := j) W0 ks)
    have s12 := s1.trans s2
    refine s_nil ?_
    refine ⟨D, _, rfl, SqL.of hD2, ?_⟩
    rw [within_sum, eT]
    walk_at "sx"
    refine ⟨_, _, rfl, .inr ⟨_, SqT.of (s12 _ _ (hp trivial)), rfl⟩, ?_⟩
    rw [List.length_map]
    walk_at "sx"
    refine ⟨T0, ks.length, rfl, lpos, by omega, fun p3 H3 s3 h3 => k T0 p3 H3 eT.symm (s12.trans s3) h3⟩
end
end K37

set_option Elab.async false
set_option linter.all false
set_option maxRecDepth 100000
set_option maxHeartbeats 4000000
namespace K37
open PySem L2 Sx Fl RZ
local macro_rules | `(tactic| walk_at "cond") => `(tactic| first
  | assumption
  | decide
  | exact c_mul_r (by first | decide | omega) (by first | decide | omega)
  | exact c_mul_l (by first | decide | omega) (by first | decide | omega)
  | exact c_div (by first | decide | omega) (by first | decide | omega)
  | exact c_pow (by first | decide | omega) (by first | decide | omega) (by first | decide | omega)
  | omega)
local macro_rules | `(tactic| walk_at "ne") => `(tactic| first
  | assumption
  | (refine Ne.symm ?_; assumption)
  | (refine' Flow.ne ?nh ?nn; (case nn => assumption); (case nh => walk_at "fl"))
  | (refine Ne.symm ?_; refine' Flow.ne ?nh ?nn; (case nn => assumption); (case nh => walk_at "fl"))
  | (refine' ne_of_none ?nh ?nn; (case nn => assumption); (case nh => walk_at "at"))
  | (refine Ne.symm ?_; refine' ne_of_none ?nh ?nn; (case nn => assumption); (case nh => walk_at "at")))
local macro_rules | `(tactic| walk_at "at") => `(tactic| first
  | assumption
  | (refine Same.up (by assumption) ?_; walk_at "at")
  | (refine Keep.up (by assumption) (by walk_at "ne") ?_; walk_at "at"))
local macro_rules | `(tactic| walk_at "fl") => `(tactic| first
  | assumption
  | (refine Flow.same (by assumption) ?_; walk_at "fl")
  | (refine Flow.keep (by assumption) (by walk_at "ne") ?_; walk_at "fl"))
local macro_rules | `(tactic| walk_at "fr") => `(tactic| first
  | assumption
  | (refine same_free (by assumption) ?_; walk_at "fr")
  | (refine Keep.free (by assumption) (by walk_at "ne") ?_; walk_at "fr"))
local macro_rules | `(tactic| walk_at "kp") => `(tactic| first
  | assumption
  | exact Keep.refl _ _
  | (refine Keep.trans ?_ (by assumption); walk_at "kp")
  | (refine Keep.trans ?_ (Keep.same (by assumption)); walk_at "kp"))
local macro_rules | `(tactic| walk_at "sm") => `(tactic| first
  | assumption
  | exact L2.Same.refl _
  | (refine L2.Same.trans ?_ (by assumption); walk_at "sm"))
local macro_rules | `(tactic| walk_at "sz") => `(tactic| first | exact Nat.le_of_ble_eq_true rfl | omega)
local macro_rules | `(tactic| walk_at "new") => `(tactic| (intro p np; generalize hE : upd _ p _ = H2; have s2 := new_same np hE; have h2 := new_at hE; clear hE))
local macro_rules | `(tactic| walk_at "newx") => `(tactic| (intro e d na nd hda; generalize hE : upd (upd _ d _) e _ = H2; have s2 := newx_same na nd hE; have h2 := newx_at hE; have h3 := newx_d hda hE; clear hE))
local macro_rules | `(tactic| walk_at "s1") => `(tactic| first
  | with_reducible refine s_seq ?_
  | with_reducible refine s_asg ?_
  | with_reducible refine s_name ?_
  | with_reducible refine s_ret ?_
  | with_reducible refine s_c ?_
  | ((with_reducible refine' s_var ?hv ?_); (case hv => rfl))
  | with_reducible refine s_op ?_
  | with_reducible refine s_un ?_
  | with_reducible refine s_ifS ?_
  | with_reducible refine s_cb ?_
  | with_reducible refine s_cons ?_
  | with_reducible refine s_nil ?_
  | with_reducible refine s_call ?_
  | with_reducible refine s_test ?_
  | with_reducible refine s_tB ?_
  | with_reducible refine s_bl ?_
  | with_reducible refine s_and ?_
  | with_reducible refine s_or ?_
  | with_reducible refine s_not ?_
  | with_reducible refine s_andV ?_
  | with_reducible refine s_orV ?_
  | with_reducible refine s_notV ?_
  | with_reducible refine s_blV ?_
  | with_reducible refine s_if ?_
  | with_reducible refine s_tup ?_
  | with_reducible refine s_lst ?_
  | with_reducible refine s_drop ?_
  | with_reducible refine s_next ?_
  | with_reducible refine s_sub ?_
  | with_reducible refine s_bm ?_
  | with_reducible refine s_callK ?_
  | with_reducible refine s_brk ?_
  | with_reducible refine s_cont ?_
  | with_reducible refine r_I0 ?_
  | with_reducible refine r_U ?_
  | with_reducible refine r_eqI ?_
  | with_reducible refine r_neI ?_
  | with_reducible refine r_isB ?_
  | with_reducible refine r_notB ?_
  | with_reducible refine i_t ?_
  | with_reducible refine i_f ?_
  | with_reducible refine i_nt ?_
  | with_reducible refine i_nf ?_
  | ((with_reducible refine' r_I ?hc ?_); (case hc => walk_at "cond"))
  | (with_reducible refine .inl ⟨_, rfl, ?_⟩)
  | (with_reducible refine ⟨_, rfl, ?_⟩)
  | ((with_reducible refine' r_ixL ?hx ?ha ?_); (case hx => walk_at "at"); (case ha => rfl))
  | ((with_reducible refine' r_ixT ?hx ?ha ?_); (case hx => walk_at "at"); (case ha => rfl))
  | ((with_reducible refine' r_setL ?hx ?ha ?_); (case hx => walk_at "at"); (case ha => rfl); intro H2 k2 h2; (try dsimp only [List.set, Int.toNat] at h2))
  | ((with_reducible refine' r_app ?hx ?hl ?_); (case hx => walk_at "at"); (case hl => first | exact Nat.lt_of_ble_eq_true rfl | omega); intro H2 k2 h2)
  | ((with_reducible refine' ty_list ?hx ?_); (case hx => walk_at "at"))
  | (refine And.intro (by (with_reducible show _ ≤ sizeLine); walk_at "sz") ?_; walk_at "new")
  | with_reducible refine s_exv ?_
  | walk_at "newx")
local macro_rules | `(tactic| walk_at "sx") => `(tactic| repeat (walk_at "s1"))
local macro_rules | `(tactic| walk_at "s2") => `(tactic| first
  | ((with_reducible refine' r_ixG ?hx ?hn ?_); (case hx => walk_at "at"); (case hn => omega))
  | ((with_reducible refine' r_ixGT ?hx ?hn ?_); (case hx => walk_at "at"); (case hn => omega))
  | (with_reducible refine ig_cons (fun hix => ?_) (fun hix => ?_))
  | ((with_reducible refine ig_nil ?_); omega)
  | ((with_reducible refine' i_T ?hc ?_); (case hc => omega))
  | ((with_reducible refine' i_F ?hc ?_); (case hc => omega))
  | (with_reducible refine i_2 (fun hc => ?_) (fun hc => ?_))
  | (with_reducible refine i_n2 (fun hc => ?_) (fun hc => ?_)))
local macro_rules | `(tactic| walk_at "go") => `(tactic| repeat' (first | walk_at "s1" | walk_at "s2"))

local macro_rules | `(tactic| walk_at "s1") => `(tactic| first
  | with_reducible refine s_chain ?_
  | with_reducible refine s_fldS ?_
  | with_reducible refine s_fld ?_
  | with_reducible refine s_dIn ?_
  | with_reducible refine s_dNotIn ?_
  | with_reducible refine s_sl ?_
  | with_reducible refine s_noPart ?_
  | with_reducible refine s_part ?_
  | with_reducible refine s_meth ?_
  | with_reducible refine s_make ?_)

theorem TiesAt.same {H H' : Hp} {t : Addr} {m N : Nat} {i j p : Nat → Nat} (h : TiesAt H t m N i j p) (s : Same H H') : TiesAt H' t m N i j p := by
  obtain ⟨ts, h1, h2, h3⟩ := h
  exact ⟨ts, s _ _ h1, h2, fun k hk => by
    obtain ⟨a, a1, a2, a3, a4, a5⟩ := h3 k hk
    exact ⟨a, a1, s _ _ a2, a3, a4, a5⟩⟩
theorem inside_mul {i j : Nat → Nat} {W : Nat → Int} (c : Int) (ks : List Nat) : ∀ m : Nat, inside m i j (fun k => c * W k) ks = c * inside m i j W ks
  | 0 => (Int.mul_zero c).symm
  | m + 1 => by
    have ih := inside_mul (i := i) (j := j) (W := W) c ks m
    unfold inside at ih ⊢
    rw [sumN_succ, sumN_succ, ih, Int.mul_add]
    congr 1
    by_cases h : i m ∈ ks ∧ j m ∈ ks
    · rw [if_pos h, if_pos h]
    · rw [if_neg h, if_neg h, Int.mul_zero]
theorem inside_top {m N : Nat} {i j : Nat → Nat} {W : Nat → Int} (h : ∀ k, k < m → 0 ≤ W k) (ij : ∀ k, k < m → i k < N ∧ j k < N) (ks : List Nat) : inside m i j W ks ≤ inside m i j W (List.range N) := sumN_le fun k hk => by
  have a : i k ∈ List.range N ∧ j k ∈ List.range N := ⟨List.mem_range.mpr (ij k hk).1, List.mem_range.mpr (ij k hk).2⟩
  show (if i k ∈ ks ∧ j k ∈ ks then W k else 0) ≤ if i k ∈ List.range N ∧ j k ∈ List.range N then W k else 0
  rw [if_pos a]
  have := h k hk
  split <;> omega
theorem asc_nodup {ks : List Nat} (h : ks.Pairwise (· < ·)) : ks.Nodup := h.imp fun h => Nat.ne_of_lt h
theorem asc_len {ks : List Nat} {N : Nat} (h : ks.Pairwise (· < ·)) (l : ∀ r ∈ ks, r < N) : ks.length ≤ N := by
  have z := L2.nat_nodup_len ks (List.range N) (asc_nodup h) fun r hr => List.mem_range.mpr (l r hr)
  rwa [List.length_range] at z
theorem c_init {C : Addr} {H : Hp} {Q : VK} {E : XK} {t u : Addr} {N m : Nat} {i j p : Nat → Nat} {W : Nat → Int} (tie : TiesAt H t m N i j p) (hu : H u = some (.lst (intsN m W))) (n64 : N ≤ 64) (m1 : m ≤ 1000)
    (q : ∀ x la ra H', Same H H' → H la = none → H ra = none → SpAt C H' x la ra N m i j (R0 W) (fun r => carry m i j (R0 W) r) → Q (.ref x) H') :
    ∀ x dx, H x = none → H dx = none → dx ≠ x → spInit C (.ref x :: ([.int N, .ref t, .ref u] ++ [])) (upd (upd H dx (.own x)) x (.ins C dx [])) (fun v H2 => v = .non ∧ Q (.ref x) H2) E := by
  intro x dx nx nd hd
  have s := newx_same (H := H) (a := x) (d := dx) (o := .ins C dx []) (u := .own x) nx nd rfl
  exact ⟨x, dx, t, u, N, m, i, j, p, W, rfl, upd_same, tie.same s, s _ _ hu, n64, m1, fun la ra H' n1 n2 kp S => ⟨rfl, q x la ra H' (Keep.toSame s nx kp) (Same.free s n1) (Same.free s n2) S⟩⟩
theorem s_tr {te : TE} {σ : L2.St} {H : Hp} {Q : VK} (h : te σ H fun x H1 => ∃ n, x = .int n ∧ RgOk 0 n ∧ ∀ q, H1 q = none → Q (.ref q) (upd H1 q (.tup (rgV 0 n)))) : tTupRg (tRg1 te) σ H Q := h
theorem rg_nums (pp : Nat) : rgV 0 (pp : Int) = (List.range pp).map nv := by
  unfold rgV
  rw [Int.sub_zero, Int.toNat_natCast]
  refine List.map_congr_left fun i _ => ?_
  rw [Int.zero_add]
theorem intsN_succ (q : Nat) (f : Nat → Int) : intsN (q + 1) f = intsN q f ++ [.int (f q)] := by
  unfold intsN
  rw [List.range_succ, List.map_append]
  rfl
/-- a share in lowest terms, none of nought -/
def prt (a b : Int) : List V := if b = 0 then [.int 0, .int 1] else [.int ((a.toNat / Nat.gcd a.toNat b.toNat : Nat) : Int), .int ((b.toNat / Nat.gcd a.toNat b.toNat : Nat) : Int)]
/-- shares as they stand -/
def ShAt (H : Hp) (pr : Addr) (m : Nat) (f g : Nat → Int) : Prop := ∃ cs : List Addr, H pr = some (.tup (cs.map .ref)) ∧ cs.length = m ∧ ∀ k, k < m → ∃ c, cs[k]? = some c ∧ H c = some (.tup (prt (f k) (g k)))
/-- the weights shared out: no rule carries more than a of b, and a part weighs so much -/
structure Dn (m N : Nat) (i j : Nat → Nat) (W : Nat → Int) (ks : List Nat) (a b : Nat) (R : Nat → Int) : Prop where
  asc : ks.Pairwise (· < ·)
  ne : ks ≠ []
  lt : ∀ r ∈ ks, r < N
  am : Am m (fun k => (b : Int) * W k) R
  le : ∀ r, r < N → carry m i j R r ≤ a
  pos : 0 < b
  few : b ≤ N
  co : Nat.gcd a b = 1
  eq : (a : Int) * ks.length = b * inside m i j W ks
section
variable {P : Program} {w : World} {K : PySem.W.Frag} {mg : Str → Option Value} {base : Heap} {A : Ad}
def spDens : Sp := fun vs H Q _ => ∃ (t u : Addr) (N m : Nat) (i j p : Nat → Nat) (W : Nat → Int), vs = [.int N, .ref t, .ref u] ∧ TiesAt H t m N i j p ∧ H u = some (.lst (intsN m W)) ∧ (∀ k, k < m → 0 ≤ W k ∧ W k ≤ 15000) ∧ 0 < N ∧ N ≤ 64 ∧ m ≤ 1000 ∧
  ∀ (q pd pp pr : Addr) (ks : List Nat) (a b : Nat) (R : Nat → Int) H', Same H H' → H' q = some (.tup [.ref pd, .ref pp, .ref pr]) → H' pd = some (.tup [.int a, .int b]) → H' pp = some (.tup (ks.map nv)) → ShAt H' pr m (fun k => R (2 * k)) (fun k => (b : Int) * W k) → Dn m N i j W ks a b R → Dfin m N i j W ks a b R → Q (.ref q) H'
theorem ok_dens (T : Txt P K mg A) : FnOk P w K mg base CX0 3 A.a_densest A.d_densest ["many", "ties", "weights"] spDens := by
  refine T.F_densest.ok sc_densest (fun vs H Q E h => ?_) (fun cdv A' outer s H vs Q E hr h => ?_)
  · obtain ⟨t, u, N, m, i, j, p, W, rfl, _⟩ := h
    rfl
  · obtain ⟨t, u, N, m, i, j, p, W, rfl, tie, hu0, Wb, N0, n64, m1, k⟩ := h
    have G_density := ok_density (w := w) (base := base) T
    have G_portion := ok_portion (w := w) (base := base) T
    have G_Spread____init__ := ok_init (w := w) (base := base) T
    have G_Spread__settle := ok_settle (w := w) (base := base) T
    have G_Spread__first_amounts := ok_first (w := w) (base := base) T
    have hu : True → H u = _ := fun _ => hu0
    clear hu0
    have W0 : ∀ k, k < m → 0 ≤ W k := fun k hk => (Wb k hk).1
    have ij : ∀ k, k < m → i k < N ∧ j k < N := fun k hk => by
      obtain ⟨_, _, _, h3⟩ := tie
      obtain ⟨_, _, _, h4, h5, _⟩ := h3 k hk
      exact ⟨h4, h5⟩
    obtain ⟨TT, eTT⟩ := Int.eq_ofNat_of_zero_le (inside_nonneg (i := i) (j := j) W0 (List.range N))
    refine ⟨_, (pss_cons (ps_set (i := 3) sc_densest.nd rfl (Or.inl rfl) (pe_tupRg rfl (by rfl) T.n_tuple (prg_1 (by rfl) T.n_range (pv 0))))
  (pss_cons (ps_set (i := 4) sc_densest.nd rfl (Or.inl rfl) (pv 3))
  (pss_cons (ps_while PassesOwn.never (pt_cmpR op_gt (pe_callB call_len (by rfl) T.n_len (by decide +kernel) (pa_cons (pv 4) pa_nil)) pe_int (nomark _))
  (pss_cons (ps_set (i := 3) sc_densest.nd rfl (Or.inl rfl) (pv 4))
  (pss_cons (ps_asg (pe_call G_density (hr.mono (by decide)) rfl T.g_density T.F_density.kp (B_density T) .nil pass0 (pa_cons (pv 1) (pa_cons (pv 2) (pa_cons (pv 3) pa_nil)))) (pg_tup rfl (pgs_cons (pg_name (i := 5) sc_densest.nd rfl (Or.inl rfl)) (pgs_cons (pg_name (i := 6) sc_densest.nd rfl (Or.inr rfl)) pgs_nil))))
  (pss_cons (ps_setLc (i := 7) (own := [("weight", 11)]) (g := (gName 11)) (by rfl) sc_densest.nd rfl rfl (sw_true rfl rfl rfl (by decide +kernel)) (pi_list (pv 2)) (blkOk_by (own := [("weight", 11)]) (N := ["many", "ties", "weights", "part", "denser", "limit", "scale", "scaled", "spread", "portions", "amount", "weight"]) (sc := defScope s_densest) (by decide +kernel)) (fun _ _ _ _ _ => (pg_name (i := 11) sc_densest.nd rfl (Or.inl rfl))) (fun _ _ _ _ _ => pts_nil) (fun _ _ _ _ _ => (pe_op op_mul (pv 6) (pv 11))))
  (pss_cons (ps_set (i := 8) sc_densest.nd rfl (Or.inl rfl) (pe_make T.mk_Spread G_Spread____init__ (hr.mono (by decide)) rfl T.g_Spread (B_Spread____init__ T) .nil pass0 (pa_cons (pv 0) (pa_cons (pv 1) (pa_cons (pv 7) pa_nil)))))
  (pss_one (ps_set (i := 4) sc_densest.nd rfl (Or.inl rfl) (pe_meth (pv 8) T.cl_Spread T.me_Spread_settle G_Spread__settle (hr.mono (by decide)) (B_Spread__settle T) .nil pass0 (pa_cons (pv 5) pa_nil)))))))))
  (pss_cons (ps_setLc (i := 9) (own := [("amount", 10), ("weight", 11)]) (g := (gTup K 2 (gCons (gName 10) (gCons (gName 11) gNil)))) (by rfl) sc_densest.nd rfl rfl (sw_true rfl rfl rfl (by decide +kernel)) (pi_zipA (by rfl) T.n_zip (pa_cons (pe_meth0 (pv 8) T.cl_Spread T.me_Spread_first_amounts G_Spread__first_amounts (hr.mono (by decide)) (B_Spread__first_amounts T) .nil pass0) (pa_cons (pv 7) pa_nil))) (blkOk_by (own := [("amount", 10), ("weight", 11)]) (N := ["many", "ties", "weights", "part", "denser", "limit", "scale", "scaled", "spread", "portions", "amount", "weight"]) (sc := defScope s_densest) (by decide +kernel)) (fun _ _ _ _ _ => (pg_tup rfl (pgs_cons (pg_name (i := 10) sc_densest.nd rfl (Or.inl rfl)) (pgs_cons (pg_name (i := 11) sc_densest.nd rfl (Or.inl rfl)) pgs_nil)))) (fun _ _ _ _ _ => pts_nil) (fun _ _ _ _ _ => (pe_call G_portion (hr.mono (by decide)) rfl T.g_portion T.F_portion.kp (B_portion T) .nil pass0 (pa_cons (pv 10) (pa_cons (pv 11) pa_nil)))))
  (pss_one (ps_ret (pe_tup (pa_cons (pe_tup (pa_cons (pv 5) (pa_cons (pv 6) pa_nil))) (pa_cons (pv 3) (pa_cons (pe_callTy call_tuple_of (by rfl) T.n_tuple (by decide +kernel) (pa_cons (pv 9) pa_nil)) pa_nil)))))))))), ?_⟩
    walk_at "s1"
    walk_at "s1"
    refine s_tr (s_var rfl ⟨N, rfl, .of_le (Int.le_refl _) (by omega) (by decide) (by omega), fun q0 nq0 => ?_⟩)
    generalize hE : upd H q0 _ = H0
    have s0 := new_same nq0 hE
    have h00 := new_at hE
    clear hE
    rw [rg_nums] at h00
    have h0 : True → H0 q0 = _ := fun _ => h00
    clear h00
    walk_at "sx"
    obtain ⟨WW, eW⟩ : ∃ WW : Nat → L2.St → Hp → Prop, WW = fun mm σ G => Same H G ∧ ∃ (dn : Addr) (ks : List Nat) (v3 v5 v6 v7 v8 : Option V), (True → G dn = some (.tup (ks.map nv))) ∧ ks.Pairwise (· < ·) ∧ (∀ r ∈ ks, r < N) ∧
      ((ks ≠ [] ∧ inside m i j W (List.range N) * ks.length ≤ inside m i j W ks * N ∧ mm = 1 + above TT N (inside m i j W ks) ks.length ∧ Dway m N i j W ks) ∨
        (ks = [] ∧ mm = 0 ∧ ∃ (pp sc x la ra : Addr) (ks' : List Nat) (a b : Nat) (R L : Nat → Int), v3 = some (.ref pp) ∧ v5 = some (.int a) ∧ v6 = some (.int b) ∧ v7 = some (.ref sc) ∧ v8 = some (.ref x) ∧ (True → G pp = some (.tup (ks'.map nv))) ∧ (True → G sc = some (.lst (intsN m fun k => (b : Int) * W k))) ∧ SpAt A.c_Spread G x la ra N m i j R L ∧ Dn m N i j W ks' a b R ∧ Dfin m N i j W ks' a b R)) ∧
      σ = [some (.int N), some (.ref t), some (.ref u), v3, some (.ref dn), v5, v6, v7, v8, none, none, none] := ⟨_, rfl⟩
    refine s_while (m := 1 + above TT N (inside m i j W (List.range N)) (List.range N).length) (W := WW) ?_ ?_
    · rw [eW]
      refine ⟨s0, q0, List.range N, _, _, _, _, _, h0, List.pairwise_lt_range, fun r hr => List.mem_range.mp hr, .inl ⟨fun e => ?_, ?_, rfl, .first⟩, rfl⟩
      · have := congrArg List.length e
        rw [List.length_range] at this
        simp at this
        omega
      · rw [List.length_range]
        exact Int.le_refl _
    intro mm σ G hW
    rw [eW] at hW
    obtain ⟨sG, dn, ks, v3, v5, v6, v7, v8, hdn, asc, lt, alt, rfl⟩ := hW
    walk_at "sx"
    refine ⟨_, _, rfl, .inr ⟨_, SqT.of (hdn trivial), rfl⟩, ?_⟩
    rw [List.length_map]
    walk_at "sx"
    refine i_2 (fun c => ?_) (fun c => ?_)
    · have ne : ks ≠ [] := fun e => by
        rw [e] at c
        simp at c
      obtain ⟨_, tot, emm, dway⟩ := alt.resolve_right fun z => ne z.1
      clear alt
      have kN := asc_len asc lt
      have kp : 0 < ks.length := List.length_pos_iff.mpr ne
      refine ⟨fun σ' G => ∃ m', m' < mm ∧ WW m' σ' G, fun _ _ h => h, ?_⟩
      walk_at "sx"
      refine ⟨t, u, dn, m, N, i, j, p, W, ks, rfl, tie.same sG, m1, sG _ _ (hu trivial), W0, hdn trivial, asc_nodup asc, ne, by omega, fun T0 p3 H3 eT s3 h3 => ?_⟩
      obtain ⟨g, eg⟩ : ∃ g, g = Nat.gcd T0 ks.length := ⟨_, rfl⟩
      have g0 : 0 < g := by rw [eg]; exact Nat.gcd_pos_of_pos_right _ kp
      rw [← eg] at h3
      obtain ⟨a, ea⟩ : ∃ a, a = T0 / g := ⟨_, rfl⟩
      obtain ⟨b, eb⟩ : ∃ b, b = ks.length / g := ⟨_, rfl⟩
      rw [← ea, ← eb] at h3
      have ag : a * g = T0 := by rw [ea, eg]; exact Nat.div_mul_cancel (Nat.gcd_dvd_left _ _)
      have bg : b * g = ks.length := by rw [eb, eg]; exact Nat.div_mul_cancel (Nat.gcd_dvd_right _ _)
      have b0 : 0 < b := Nat.pos_of_ne_zero fun z => by
        rw [z, Nat.zero_mul] at bg
        omega
      have bN : b ≤ N := Nat.le_trans (Nat.le_trans (Nat.le_mul_of_pos_right b g0) (Nat.le_of_eq bg)) kN
      have co : Nat.gcd a b = 1 := by
        rw [ea, eb, eg]
        exact Nat.gcd_div_gcd_div_gcd_of_pos_right kp
      have eT' : (inside m i j W ks).toNat = T0 := by omega
      have fa' : a = (inside m i j W ks).toNat / Nat.gcd (inside m i j W ks).toNat ks.length := by rw [eT', ea, eg]
      have fb' : b = ks.length / Nat.gcd (inside m i j W ks).toNat ks.length := by rw [eT', eb, eg]
      clear ea eb
      have s03 := sG.trans s3
      refine ⟨p3, _, rfl, SqT.of h3, rfl, _, _, rfl, s_name ⟨_, _, rfl, s_name ⟨rfl, ?_⟩⟩⟩
      clear h3
      have hd3 : True → H3 dn = _ := fun _ => s3 _ _ (hdn trivial)
      clear hdn
      have hu3 : True → H3 u = _ := fun _ => s03 _ _ (hu trivial)
      walk_at "s1"
      walk_at "s1"
      unfold tLc iList
      refine s_var rfl ⟨u, rfl, ⟨_, SqL.of (hu3 trivial)⟩, fun D hD => lc_list (K := K) (a := u) (xs := intsN m W) (fun q G' => Same H3 G' ∧ G' D = some (.lst (intsN q fun k => (b : Int) * W k))) ⟨Same.new hD, upd_same⟩ (fun q G' _ h => SqL.of (h.1 _ _ (hu3 trivial))) ?_ ?_⟩
      · rintro q y G' hy ⟨s', hD'⟩
        have ql : q < m := by
          have := (List.getElem?_eq_some_iff.mp hy).1
          rwa [intsN_len] at this
        rw [intsN_at ql] at hy
        cases hy
        refine s_name ⟨rfl, ?_⟩
        refine s_yes (i_t ?_)
        refine s_op (s_var rfl (s_var rfl (r_I (c_mul_l (by omega) (by omega)) ?_)))
        refine ⟨_, hD', by rw [intsN_len, sizeLine_eq]; omega, Sx.Same.put s' hD, ?_⟩
        rw [upd_same, intsN_succ]
      rintro H4 ⟨s4, h40⟩
      rw [intsN_len] at h40
      have h4 : True → H4 D = _ := fun _ => h40
      clear h40
      have s04 := s03.trans s4
      refine s_name ?_
      refine s_seq (s_asg (s_make (s_cons (s_var rfl (s_cons (s_var rfl (s_cons (s_var rfl (s_nil ?_)))))))))
      refine c_init (Q := fun v H2 => gName 8 v _ H2 _) (tie.same s04) (h4 trivial) n64 m1 fun x la ra H5 s5 nla nra S5 => ?_
      refine s_name ?_
      obtain ⟨dx, aa, ea', as_, hx5, _⟩ := S5.obj
      walk_at "sx"
      refine ⟨x, dx, _, rfl, hx5, rfl, ?_⟩
      walk_at "sx"
      have bW : ∀ k, k < m → 0 ≤ (b : Int) * W k := fun k hk => Int.mul_nonneg (Int.natCast_nonneg _) (W0 k hk)
      have gi : (0 : Int) < g := by omega
      have agi : (a : Int) * g = T0 := by rw [← ag]; exact (Int.natCast_mul _ _).symm
      have bgi : (b : Int) * g = ks.length := by rw [← bg]; exact (Int.natCast_mul _ _).symm
      have totb : (b : Int) * inside m i j W (List.range N) ≤ a * N := by
        refine Int.le_of_mul_le_mul_right (a := (g : Int)) ?_ gi
        calc (b : Int) * inside m i j W (List.range N) * g = inside m i j W (List.range N) * (b * g) := by rw [Int.mul_comm (b : Int), Int.mul_assoc]
          _ = inside m i j W (List.range N) * ks.length := by rw [bgi]
          _ ≤ inside m i j W ks * N := tot
          _ = a * g * N := by rw [← eT, agi]
          _ = a * N * g := by rw [Int.mul_assoc, Int.mul_comm (g : Int), ← Int.mul_assoc]
      refine ⟨x, la, ra, N, m, i, j, (fun k => (b : Int) * W k), _, _, (a : Int), rfl, S5, n64, m1, R0_am bW, fun _ _ => rfl, by rw [inside_mul]; exact totb, fun p6 ks2 R' L' H6 k6 S6 AM LC h6 asc2 lt2 low up stl => ?_⟩
      have den : Den m N i j W ks a b R' L' ks2 := ⟨fa', fb', stl⟩
      have H4la : H4 la = none := nla
      have s06 : Same H H6 := fun c o hc => k6 c o (ne_of_none (s04 _ _ hc) nla) (ne_of_none (s04 _ _ hc) nra) (s5 _ _ (s04 _ _ hc))
      have s46 : Same H4 H6 := fun c o hc => k6 c o (ne_of_none hc nla) (ne_of_none hc nra) (s5 _ _ hc)
      refine s_name ?_
      by_cases c2 : ks2 = []
      · refine ⟨0, by omega, ?_⟩
        rw [eW]
        refine ⟨s06, p6, ks2, _, _, _, _, _, fun _ => h6, asc2, lt2, .inr ⟨c2, rfl, dn, D, x, la, ra, ks, a, b, R', L', rfl, rfl, rfl, rfl, rfl, fun _ => s46 _ _ (s4 _ _ (hd3 trivial)), fun _ => s46 _ _ (h4 trivial), S6, ⟨asc, ne, lt, AM, fun r hr => ?_, b0, bN, co, ?_⟩, ⟨dway, L', by rw [← c2]; exact den⟩⟩, rfl⟩
        · rw [← LC r hr]
          exact low c2 r hr
        · rw [← eT, ← agi, ← bgi, ← Int.mul_assoc, ← Int.mul_assoc, Int.mul_comm (a : Int)]
      · obtain ⟨T2, e2⟩ := Int.eq_ofNat_of_zero_le (inside_nonneg (i := i) (j := j) W0 ks2)
        have up2 := up c2
        rw [inside_mul, e2] at up2
        have k2p : 0 < ks2.length := List.length_pos_iff.mpr c2
        have T2T : T2 ≤ TT := by
          have z := inside_top W0 ij ks2
          rw [e2, eTT] at z
          omega
        have less : above TT N (inside m i j W ks2) ks2.length < above TT N (inside m i j W ks) ks.length := by
          rw [e2]
          refine above_less T2T (asc_len asc2 lt2) k2p (by omega) ?_
          calc inside m i j W ks * ks2.length = a * ks2.length * g := by rw [← eT, ← agi, Int.mul_assoc, Int.mul_comm (g : Int), ← Int.mul_assoc]
            _ < b * T2 * g := Int.mul_lt_mul_of_pos_right up2 gi
            _ = T2 * ks.length := by rw [← bgi, ← Int.mul_assoc, Int.mul_comm (T2 : Int)]
        refine ⟨1 + above TT N (inside m i j W ks2) ks2.length, by omega, ?_⟩
        rw [eW]
        refine ⟨s06, p6, ks2, _, _, _, _, _, fun _ => h6, asc2, lt2, .inl ⟨c2, ?_, rfl, .tail dway ⟨c2, a, b, R', L', den⟩⟩, rfl⟩
        refine Int.le_of_mul_le_mul_right (a := (b : Int)) ?_ (by omega)
        calc inside m i j W (List.range N) * ks2.length * b = b * inside m i j W (List.range N) * ks2.length := by rw [Int.mul_comm, ← Int.mul_assoc]
          _ ≤ a * N * ks2.length := Int.mul_le_mul_of_nonneg_right totb (by omega)
          _ = a * ks2.length * N := by rw [Int.mul_assoc, Int.mul_comm (N : Int), ← Int.mul_assoc]
          _ ≤ b * T2 * N := Int.mul_le_mul_of_nonneg_right (Int.le_of_lt up2) (by omega)
          _ = inside m i j W ks2 * N * b := by rw [e2, Int.mul_comm (b : Int), Int.mul_assoc, Int.mul_assoc, Int.mul_comm (b : Int)]
    · have nil : ks = [] := by
        cases ks with
        | nil => rfl
        | cons a l => exact absurd (by rw [List.length_cons]; omega) c
      obtain ⟨_, _, pp, sc, x, la, ra, ks', a, b, R, L, rfl, rfl, rfl, rfl, rfl, hpp, hsc, S, D0, dfin⟩ := alt.resolve_left fun z => z.1 nil
      clear alt hdn
      have b0 := D0.pos
      have bN := D0.few
      obtain ⟨dx, aa, ea', as_, hx, _⟩ := S.obj
      walk_at "s1"
      walk_at "s1"
      unfold tLc iZipA
      walk_at "sx"
      refine ⟨x, dx, _, rfl, hx, rfl, ?_⟩
      walk_at "sx"
      refine ⟨x, la, ra, N, m, i, j, R, L, rfl, S, fun p6 H6 s6 h60 => ?_⟩
      have h6 : True → H6 p6 = _ := fun _ => h60
      clear h60
      have hs6 : True → H6 sc = _ := fun _ => s6 _ _ (hsc trivial)
      walk_at "sx"
      refine ⟨p6, sc, _, _, rfl, .inl ⟨SqL.of (h6 trivial), SqL.of (hs6 trivial), fun D hD => lc_it (walk_zip (K := K) (a := p6) (b := sc) (xs := intsN m fun k => R (2 * k)) (ys := intsN m fun k => (b : Int) * W k) (n := m) (by rw [intsN_len, intsN_len, Nat.min_self]))
        (fun q G' => Same H6 G' ∧ ∃ cs : List Addr, (True → G' D = some (.lst (cs.map .ref))) ∧ cs.length = q ∧ ∀ k, k < q → ∃ c, cs[k]? = some c ∧ c ≠ D ∧ G' c = some (.tup (prt (R (2 * k)) ((b : Int) * W k)))) ⟨Same.new hD, [], fun _ => upd_same, rfl, fun _ h => absurd h (Nat.not_lt_zero _)⟩ (fun q G' _ h => ⟨SqL.of (h.1 _ _ (h6 trivial)), SqL.of (h.1 _ _ (hs6 trivial))⟩) ?_ ?_⟩⟩
      · rintro q y G1 G2 hq ⟨s', cs, hD', lc, each⟩ ⟨T1, u1, v1, rfl, nT, rfl, eu, ev⟩
        have eu' : (intsN m fun k => R (2 * k))[q]? = some u1 := eu
        have ev' : (intsN m fun k => (b : Int) * W k)[q]? = some v1 := ev
        rw [intsN_at hq] at eu' ev'
        cases eu'
        cases ev'
        generalize hE : upd G1 T1 _ = G3
        have s3 := new_same nT hE
        have g3 := new_at hE
        clear hE
        have hD3 : True → G3 D = _ := fun _ => s3 _ _ (hD' trivial)
        refine ⟨T1, _, rfl, SqT.of g3, rfl, _, _, rfl, s_name ⟨_, _, rfl, s_name ⟨rfl, rfl, s_yes (i_t ?_)⟩⟩⟩
        obtain ⟨r, er⟩ := Int.eq_ofNat_of_zero_le (D0.am.pos (2 * q) (by omega))
        obtain ⟨wq, ew⟩ := Int.eq_ofNat_of_zero_le (Int.mul_nonneg (Int.natCast_nonneg b) (W0 q hq))
        have wb : wq ≤ 1000000 := by
          have z := Int.mul_le_mul_of_nonneg_left (Wb q hq).2 (Int.natCast_nonneg b)
          rw [ew] at z
          omega
        walk_at "sx"
        refine ⟨r, wq, by rw [er, ew]; rfl, wb, fun p7 G7 s7 h7 => ?_⟩
        have s37 := s3.trans s7
        have hD7 : G7 D = _ := s37 _ _ (hD' trivial)
        have ph : p7 ≠ D := fun e => by
          rw [e, hD7] at h7
          cases h7
        refine ⟨_, hD7, by rw [List.length_map, sizeLine_eq]; omega, Sx.Same.put (s'.trans s37) hD, cs ++ [p7], fun _ => by rw [upd_same, List.map_append]; rfl, by rw [List.length_append, lc]; rfl, fun k hk => ?_⟩
        rcases Nat.lt_or_ge k q with l | l
        · obtain ⟨c, c1, c2, c3⟩ := each k l
          exact ⟨c, by rw [List.getElem?_append_left (by omega)]; exact c1, c2, by rw [upd_ne c2]; exact s37 _ _ c3⟩
        · have e : k = q := by omega
          subst e
          refine ⟨p7, by rw [List.getElem?_append_right (by omega), lc, Nat.sub_self]; rfl, ph, ?_⟩
          rw [upd_ne ph, h7]
          unfold prt
          rw [er, ew]
          by_cases z : wq = 0
          · rw [if_pos z, if_pos (by omega)]
          · rw [if_neg z, if_neg (by omega)]
            rfl
      rintro G8 ⟨s8, cs, hD8, lc, each⟩
      have s68 := s6.trans s8
      have hp8 : True → G8 pp = _ := fun _ => s68 _ _ (hpp trivial)
      walk_at "sx"
      rename_i p9 np9 H9 s9 h90
      have h9 : True → H9 p9 = _ := fun _ => h90
      clear h90
      refine ⟨D, _, rfl, .inl ⟨SqL.of (s9 _ _ (hD8 trivial)), fun l nl => ?_⟩⟩
      generalize hE : upd H9 l _ = H10
      have s10 := new_same nl hE
      have h10 := new_at hE
      clear hE
      refine s_nil ⟨Nat.le_of_ble_eq_true rfl, fun p11 n11 => ?_⟩
      generalize hE : upd H10 p11 _ = H11
      have s11 := new_same n11 hE
      have h11 := new_at hE
      clear hE
      have s8b := s9.trans (s10.trans s11)
      refine k p11 p9 pp l ks' a b R H11 (sG.trans (s68.trans s8b)) h11 ((s10.trans s11) _ _ (h9 trivial)) (s8b _ _ (hp8 trivial)) ⟨cs, s11 _ _ h10, lc, fun k hk => ?_⟩ D0 dfin
      obtain ⟨c, c1, c2, c3⟩ := each k hk
      exact ⟨c, c1, s8b _ _ c3⟩
end
end K37

set_option Elab.async false
set_option linter.all false
set_option maxRecDepth 100000
set_option maxHeartbeats 2000000
namespace K37
open PySem L2 Sx
local macro_rules | `(tactic| walk_at "cond") => `(tactic| first
  | assumption
  | decide
  | exact c_mul_r (by first | decide | omega) (by first | decide | omega)
  | exact c_mul_l (by first | decide | omega) (by first | decide | omega)
  | exact c_div (by first | decide | omega) (by first | decide | omega)
  | exact c_pow (by first | decide | omega) (by first | decide | omega) (by first | decide | omega)
  | omega)
local macro_rules | `(tactic| walk_at "ne") => `(tactic| first
  | assumption
  | (refine Ne.symm ?_; assumption)
  | (refine' Flow.ne ?nh ?nn; (case nn => assumption); (case nh => walk_at "fl"))
  | (refine Ne.symm ?_; refine' Flow.ne ?nh ?nn; (case nn => assumption); (case nh => walk_at "fl"))
  | (refine' ne_of_none ?nh ?nn; (case nn => assumption); (case nh => walk_at "at"))
  | (refine Ne.symm ?_; refine' ne_of_none ?nh ?nn; (case nn => assumption); (case nh => walk_at "at")))
local macro_rules | `(tactic| walk_at "at") => `(tactic| first
  | assumption
  | (refine Same.up (by assumption) ?_; walk_at "at")
  | (refine Keep.up (by assumption) (by walk_at "ne") ?_; walk_at "at"))
local macro_rules | `(tactic| walk_at "fl") => `(tactic| first
  | assumption
  | (refine Flow.same (by assumption) ?_; walk_at "fl")
  | (refine Flow.keep (by assumption) (by walk_at "ne") ?_; walk_at "fl"))
local macro_rules | `(tactic| walk_at "fr") => `(tactic| first
  | assumption
  | (refine same_free (by assumption) ?_; walk_at "fr")
  | (refine Keep.free (by assumption) (by walk_at "ne") ?_; walk_at "fr"))
local macro_rules | `(tactic| walk_at "kp") => `(tactic| first
  | assumption
  | exact Keep.refl _ _
  | (refine Keep.trans ?_ (by assumption); walk_at "kp")
  | (refine Keep.trans ?_ (Keep.same (by assumption)); walk_at "kp"))
local macro_rules | `(tactic| walk_at "sm") => `(tactic| first
  | assumption
  | exact L2.Same.refl _
  | (refine L2.Same.trans ?_ (by assumption); walk_at "sm"))
local macro_rules | `(tactic| walk_at "sz") => `(tactic| first | exact Nat.le_of_ble_eq_true rfl | omega)
local macro_rules | `(tactic| walk_at "new") => `(tactic| (intro p np; generalize hE : upd _ p _ = H2; have s2 := new_same np hE; have h2 := new_at hE; clear hE))
local macro_rules | `(tactic| walk_at "newx") => `(tactic| (intro e d na nd hda; generalize hE : upd (upd _ d _) e _ = H2; have s2 := newx_same na nd hE; have h2 := newx_at hE; have h3 := newx_d hda hE; clear hE))
local macro_rules | `(tactic| walk_at "s1") => `(tactic| first
  | with_reducible refine s_seq ?_
  | with_reducible refine s_asg ?_
  | with_reducible refine s_name ?_
  | with_reducible refine s_ret ?_
  | with_reducible refine s_c ?_
  | ((with_reducible refine' s_var ?hv ?_); (case hv => rfl))
  | with_reducible refine s_op ?_
  | with_reducible refine s_un ?_
  | with_reducible refine s_ifS ?_
  | with_reducible refine s_cb ?_
  | with_reducible refine s_cons ?_
  | with_reducible refine s_nil ?_
  | with_reducible refine s_call ?_
  | with_reducible refine s_test ?_
  | with_reducible refine s_tB ?_
  | with_reducible refine s_bl ?_
  | with_reducible refine s_and ?_
  | with_reducible refine s_or ?_
  | with_reducible refine s_not ?_
  | with_reducible refine s_andV ?_
  | with_reducible refine s_orV ?_
  | with_reducible refine s_notV ?_
  | with_reducible refine s_blV ?_
  | with_reducible refine s_if ?_
  | with_reducible refine s_tup ?_
  | with_reducible refine s_lst ?_
  | with_reducible refine s_drop ?_
  | with_reducible refine s_next ?_
  | with_reducible refine s_sub ?_
  | with_reducible refine s_bm ?_
  | with_reducible refine s_callK ?_
  | with_reducible refine s_brk ?_
  | with_reducible refine s_cont ?_
  | with_reducible refine r_I0 ?_
  | with_reducible refine r_U ?_
  | with_reducible refine r_eqI ?_
  | with_reducible refine r_neI ?_
  | with_reducible refine r_isB ?_
  | with_reducible refine r_notB ?_
  | with_reducible refine i_t ?_
  | with_reducible refine i_f ?_
  | with_reducible refine i_nt ?_
  | with_reducible refine i_nf ?_
  | ((with_reducible refine' r_I ?hc ?_); (case hc => walk_at "cond"))
  | (with_reducible refine .inl ⟨_, rfl, ?_⟩)
  | (with_reducible refine ⟨_, rfl, ?_⟩)
  | ((with_reducible refine' r_ixL ?hx ?ha ?_); (case hx => walk_at "at"); (case ha => rfl))
  | ((with_reducible refine' r_ixT ?hx ?ha ?_); (case hx => walk_at "at"); (case ha => rfl))
  | ((with_reducible refine' r_setL ?hx ?ha ?_); (case hx => walk_at "at"); (case ha => rfl); intro H2 k2 h2; (try dsimp only [List.set, Int.toNat] at h2))
  | ((with_reducible refine' r_app ?hx ?hl ?_); (case hx => walk_at "at"); (case hl => first | exact Nat.lt_of_ble_eq_true rfl | omega); intro H2 k2 h2)
  | ((with_reducible refine' ty_list ?hx ?_); (case hx => walk_at "at"))
  | (refine And.intro (by (with_reducible show _ ≤ sizeLine); walk_at "sz") ?_; walk_at "new")
  | with_reducible refine s_exv ?_
  | walk_at "newx")
local macro_rules | `(tactic| walk_at "sx") => `(tactic| repeat (walk_at "s1"))
local macro_rules | `(tactic| walk_at "s2") => `(tactic| first
  | ((with_reducible refine' r_ixG ?hx ?hn ?_); (case hx => walk_at "at"); (case hn => omega))
  | ((with_reducible refine' r_ixGT ?hx ?hn ?_); (case hx => walk_at "at"); (case hn => omega))
  | (with_reducible refine ig_cons (fun hix => ?_) (fun hix => ?_))
  | ((with_reducible refine ig_nil ?_); omega)
  | ((with_reducible refine' i_T ?hc ?_); (case hc => omega))
  | ((with_reducible refine' i_F ?hc ?_); (case hc => omega))
  | (with_reducible refine i_2 (fun hc => ?_) (fun hc => ?_))
  | (with_reducible refine i_n2 (fun hc => ?_) (fun hc => ?_)))
local macro_rules | `(tactic| walk_at "go") => `(tactic| repeat' (first | walk_at "s1" | walk_at "s2"))

local macro_rules | `(tactic| walk_at "s1") => `(tactic| first
  | with_reducible refine s_chain ?_
  | with_reducible refine s_fldS ?_
  | with_reducible refine s_fld ?_
  | with_reducible refine s_dIn ?_
  | with_reducible refine s_dNotIn ?_
  | with_reducible refine s_sl ?_
  | with_reducible refine s_noPart ?_
  | with_reducible refine s_part ?_
  | with_reducible refine s_meth ?_
  | with_reducible refine s_make ?_)

section
variable {P : Program} {w : World} {K : PySem.W.Frag} {mg : Str → Option Value} {base : Heap} {A : Ad}
/-- a test of one value -/
def spT1 (K : PySem.W.Frag) (f : V → Bool) : Sp := fun vs H Q _ => ∃ v, vs = [v] ∧ NI K H v ∧ Q (.bl (f v)) H
theorem c_t1 {H : Hp} {Q : VK} {E : XK} {f : V → Bool} {v : V} (n : NI K H v) (q : Q (.bl (f v)) H) : spT1 K f ([v] ++ []) H Q E := ⟨v, rfl, n, q⟩
theorem i_cases (v : V) : (∃ i, v = .int i) ∨ isI v = false := by cases v <;> simp [isI]
theorem num_no {f : Int → Bool} {v : V} (h : isI v = false) : num? f v = false := by cases v <;> first | rfl | cases h
theorem ok_isi (T : Txt P K mg A) : FnOk P w K mg base CX0 1 A.a_is_an_integer A.d_is_an_integer ["value"] (spT1 K isI) := by
  refine T.F_is_an_integer.ok sc_is_an_integer (fun vs H Q E h => ?_) (fun cdv A' outer s H vs Q E hr h => ?_)
  · obtain ⟨v, rfl, _⟩ := h
    rfl
  · obtain ⟨v, rfl, ⟨b, c, hb, hc, e⟩, k⟩ := h
    refine ⟨_, (pss_one (ps_ret (pe_and (pe_callB (id := "isinstance") (r := rIsiV K) call_isiV (by rfl) T.n_isinstance (by decide +kernel) (pa_cons (pv 0) (pa_cons (pe_bltn (v := .ty "int") (u := .type "int") (by rfl) T.n_int (by decide +kernel) rfl) pa_nil))) (pe_one (pe_not (pe_callB (id := "isinstance") (r := rIsiV K) call_isiV (by rfl) T.n_isinstance (by decide +kernel) (pa_cons (pv 0) (pa_cons (pe_bltn (v := .ty "bool") (u := .type "bool") (by rfl) T.n_bool (by decide +kernel) rfl) pa_nil)))))))), ?_⟩
    rw [← e] at k
    walk_at "sx"
    refine isi_in hb ?_
    cases b
    · walk_at "sx"
      exact k
    · walk_at "sx"
      refine isi_in hc ?_
      walk_at "sx"
      exact k
abbrev isN : V → Bool := num? fun i => decide (0 ≤ i)
theorem ok_isn (T : Txt P K mg A) : FnOk P w K mg base CX0 2 A.a_is_number A.d_is_number ["value"] (spT1 K isN) := by
  refine T.F_is_number.ok sc_is_number (fun vs H Q E h => ?_) (fun cdv A' outer s H vs Q E hr h => ?_)
  · obtain ⟨v, rfl, _⟩ := h
    rfl
  · obtain ⟨v, rfl, n, k⟩ := h
    have G_is_an_integer := ok_isi (w := w) (base := base) T
    refine ⟨_, (pss_one (ps_ret (pe_and (pe_call G_is_an_integer (hr.mono (by decide)) rfl T.g_is_an_integer T.F_is_an_integer.kp (B_is_an_integer T) .nil pass0 (pa_cons (pv 0) pa_nil)) (pe_one (pe_cmpR op_ge (pv 0) pe_int (nomark _)))))), ?_⟩
    walk_at "sx"
    refine c_t1 n ?_
    rcases i_cases v with ⟨i, rfl⟩ | h
    · walk_at "sx"
      refine iteT ?_
      walk_at "sx"
      exact k
    · have e : isN v = false := num_no h
      rw [e] at k
      rw [h]
      walk_at "sx"
      exact k
theorem ok_isv (T : Txt P K mg A) : FnOk P w K mg base CX0 2 A.a_is_value A.d_is_value ["value"] (spT1 K isBit) := by
  refine T.F_is_value.ok sc_is_value (fun vs H Q E h => ?_) (fun cdv A' outer s H vs Q E hr h => ?_)
  · obtain ⟨v, rfl, _⟩ := h
    rfl
  · obtain ⟨v, rfl, n, k⟩ := h
    have G_is_an_integer := ok_isi (w := w) (base := base) T
    refine ⟨_, (pss_one (ps_ret (pe_and (pe_call G_is_an_integer (hr.mono (by decide)) rfl T.g_is_an_integer T.F_is_an_integer.kp (B_is_an_integer T) .nil pass0 (pa_cons (pv 0) pa_nil)) (pe_one (pe_chain op_le op_le pe_int (pv 0) pe_int))))), ?_⟩
    walk_at "sx"
    refine c_t1 n ?_
    rcases i_cases v with ⟨i, rfl⟩ | h
    · walk_at "sx"
      refine iteT ?_
      have e : isBit (.int i) = (decide (0 ≤ i) && decide (i ≤ 1)) := rfl
      rw [e] at k
      walk_at "sx"
      refine i_2 (fun hc => ?_) (fun hc => ?_)
      · rw [decide_eq_true hc] at k
        walk_at "sx"
        exact k
      · rw [decide_eq_false hc] at k
        exact k
    · have e : isBit v = false := num_no h
      rw [e] at k
      rw [h]
      walk_at "sx"
      exact k
/-- is_row -/
def spRow (K : PySem.W.Frag) : Sp := fun vs H Q _ => ∃ v n, vs = [v, .int n] ∧ ((IsIn K H v "tuple" false ∧ Q (.bl false) H) ∨
  ∃ p xs, v = .ref p ∧ H p = some (.tup xs) ∧ (∀ x ∈ xs, NI K H x) ∧ xs.length < 1000 ∧ ∀ H', Same H H' → Q (.bl (decide ((xs.length : Int) = n) && xs.all isBit)) H')
theorem ok_row (T : Txt P K mg A) : FnOk P w K mg base CX0 3 A.a_is_row A.d_is_row ["value", "size"] (spRow K) := by
  refine T.F_is_row.ok sc_is_row (fun vs H Q E h => ?_) (fun cdv A' outer s H vs Q E hr h => ?_)
  · obtain ⟨v, m, rfl, _⟩ := h
    rfl
  · obtain ⟨v, m, rfl, h⟩ := h
    have G_is_value := ok_isv (w := w) (base := base) T
    refine ⟨_, (pss_one (ps_ret (pe_and (pe_callB (id := "isinstance") (r := rIsiV K) call_isiV (by rfl) T.n_isinstance (by decide +kernel) (pa_cons (pv 0) (pa_cons (pe_bltn (v := .ty "tuple") (u := .type "tuple") (by rfl) T.n_tuple (by decide +kernel) rfl) pa_nil))) (pe_and (pe_cmpR op_eq (pe_callB call_len (by rfl) T.n_len (by decide +kernel) (pa_cons (pv 0) pa_nil)) (pv 1) (nomark _)) (pe_one (pe_callB (cr_all rfl) (by rfl) T.n_all (by decide +kernel) (pa_cons (pe_lc (own := [("member", 2)]) (g := (gName 2)) (by rfl) sc_is_row.nd (pi_tup (pv 0)) (blkOk_by (own := [("member", 2)]) (N := ["value", "size", "member"]) (sc := defScope s_is_row) (by decide +kernel)) (fun _ _ _ _ _ => (pg_name (i := 2) sc_is_row.nd rfl (Or.inl rfl))) (fun _ _ _ _ _ => pts_nil) (fun _ _ _ _ _ => (pe_call G_is_value (hr.mono (by decide)) rfl T.g_is_value T.F_is_value.kp (B_is_value T) .nil pass0 (pa_cons (pv 2) pa_nil)))) pa_nil))))))), ?_⟩
    walk_at "sx"
    rcases h with ⟨no, k⟩ | ⟨p, xs, rfl, hp, mem, sz, k⟩
    · refine isi_in no ?_
      walk_at "sx"
      exact k
    · refine isi_in (in_tup hp) ?_
      walk_at "sx"
      refine ⟨_, _, rfl, .inr ⟨xs, SqT.of hp, rfl⟩, ?_⟩
      walk_at "sx"
      refine i_2 (fun hc => ?_) (fun hc => ?_)
      · rw [decide_eq_true hc] at k
        walk_at "sx"
        refine ⟨_, rfl, p, rfl, ⟨_, SqT.of hp⟩, fun D hD => lc_tup (K := K) (a := p) (xs := xs) (fun i H' => Same H H' ∧ H' D = some (.lst ((xs.take i).map fun x => V.bl (isBit x)))) ⟨Same.new hD, upd_same⟩ (fun i H' _ ⟨s, _⟩ => SqT.of (s _ _ hp)) ?_ ?_⟩
        · rintro i x H' hx ⟨s', hD'⟩
          refine s_name ⟨rfl, ?_⟩
          refine s_yes (i_t ?_)
          walk_at "sx"
          refine c_t1 (ni_same s' (mem x (List.mem_of_getElem? hx))) ?_
          refine ⟨_, hD', ?_, Sx.Same.put s' hD, ?_⟩
          · rw [List.length_map, List.length_take]
            exact Nat.lt_of_le_of_lt (Nat.min_le_right _ _) (by show xs.length < 16777216; omega)
          · rw [upd_same, List.take_succ, hx]
            simp
        · rintro H' ⟨s', hD'⟩
          rw [List.take_length] at hD'
          have e : (xs.map fun x => V.bl (isBit x)) = (xs.map isBit).map V.bl := by
            rw [List.map_map]
            rfl
          rw [e] at hD'
          have k' := k H' s'
          rw [Bool.true_and, show xs.all isBit = (xs.map isBit).all id by rw [List.all_map]; rfl] at k'
          walk_at "sx"
          exact r_all hD' k'
      · rw [decide_eq_false hc] at k
        exact k H (L2.Same.refl _)
end
end K37

set_option Elab.async false
set_option linter.all false
set_option maxRecDepth 100000
set_option maxHeartbeats 2000000
namespace K37
open PySem L2 Sx
local macro_rules | `(tactic| walk_at "cond") => `(tactic| first
  | assumption
  | decide
  | exact c_mul_r (by first | decide | omega) (by first | decide | omega)
  | exact c_mul_l (by first | decide | omega) (by first | decide | omega)
  | exact c_div (by first | decide | omega) (by first | decide | omega)
  | exact c_pow (by first | decide | omega) (by first | decide | omega) (by first | decide | omega)
  | omega)
local macro_rules | `(tactic| walk_at "ne") => `(tactic| first
  | assumption
  | (refine Ne.symm ?_; assumption)
  | (refine' Flow.ne ?nh ?nn; (case nn => assumption); (case nh => walk_at "fl"))
  | (refine Ne.symm ?_; refine' Flow.ne ?nh ?nn; (case nn => assumption); (case nh => walk_at "fl"))
  | (refine' ne_of_none ?nh ?nn; (case nn => assumption); (case nh => walk_at "at"))
  | (refine Ne.symm ?_; refine' ne_of_none ?nh ?nn; (case nn => assumption); (case nh => walk_at "at")))
local macro_rules | `(tactic| walk_at "at") => `(tactic| first
  | assumption
  | (refine Same.up (by assumption) ?_; walk_at "at")
  | (refine Keep.up (by assumption) (by walk_at "ne") ?_; walk_at "at"))
local macro_rules | `(tactic| walk_at "fl") => `(tactic| first
  | assumption
  | (refine Flow.same (by assumption) ?_; walk_at "fl")
  | (refine Flow.keep (by assumption) (by walk_at "ne") ?_; walk_at "fl"))
local macro_rules | `(tactic| walk_at "fr") => `(tactic| first
  | assumption
  | (refine same_free (by assumption) ?_; walk_at "fr")
  | (refine Keep.free (by assumption) (by walk_at "ne") ?_; walk_at "fr"))
local macro_rules | `(tactic| walk_at "kp") => `(tactic| first
  | assumption
  | exact Keep.refl _ _
  | (refine Keep.trans ?_ (by assumption); walk_at "kp")
  | (refine Keep.trans ?_ (Keep.same (by assumption)); walk_at "kp"))
local macro_rules | `(tactic| walk_at "sm") => `(tactic| first
  | assumption
  | exact L2.Same.refl _
  | (refine L2.Same.trans ?_ (by assumption); walk_at "sm"))
local macro_rules | `(tactic| walk_at "sz") => `(tactic| first | exact Nat.le_of_ble_eq_true rfl | omega)
local macro_rules | `(tactic| walk_at "new") => `(tactic| (intro p np; generalize hE : upd _ p _ = H2; have s2 := new_same np hE; have h2 := new_at hE; clear hE))
local macro_rules | `(tactic| walk_at "newx") => `(tactic| (intro e d na nd hda; generalize hE : upd (upd _ d _) e _ = H2; have s2 := newx_same na nd hE; have h2 := newx_at hE; have h3 := newx_d hda hE; clear hE))
local macro_rules | `(tactic| walk_at "s1") => `(tactic| first
  | with_reducible refine s_seq ?_
  | with_reducible refine s_asg ?_
  | with_reducible refine s_name ?_
  | with_reducible refine s_ret ?_
  | with_reducible refine s_c ?_
  | ((with_reducible refine' s_var ?hv ?_); (case hv => rfl))
  | with_reducible refine s_op ?_
  | with_reducible refine s_un ?_
  | with_reducible refine s_ifS ?_
  | with_reducible refine s_cb ?_
  | with_reducible refine s_cons ?_
  | with_reducible refine s_nil ?_
  | with_reducible refine s_call ?_
  | with_reducible refine s_test ?_
  | with_reducible refine s_tB ?_
  | with_reducible refine s_bl ?_
  | with_reducible refine s_and ?_
  | with_reducible refine s_or ?_
  | with_reducible refine s_not ?_
  | with_reducible refine s_andV ?_
  | with_reducible refine s_orV ?_
  | with_reducible refine s_notV ?_
  | with_reducible refine s_blV ?_
  | with_reducible refine s_if ?_
  | with_reducible refine s_tup ?_
  | with_reducible refine s_lst ?_
  | with_reducible refine s_drop ?_
  | with_reducible refine s_next ?_
  | with_reducible refine s_sub ?_
  | with_reducible refine s_bm ?_
  | with_reducible refine s_callK ?_
  | with_reducible refine s_brk ?_
  | with_reducible refine s_cont ?_
  | with_reducible refine r_I0 ?_
  | with_reducible refine r_U ?_
  | with_reducible refine r_eqI ?_
  | with_reducible refine r_neI ?_
  | with_reducible refine r_isB ?_
  | with_reducible refine r_notB ?_
  | with_reducible refine i_t ?_
  | with_reducible refine i_f ?_
  | with_reducible refine i_nt ?_
  | with_reducible refine i_nf ?_
  | ((with_reducible refine' r_I ?hc ?_); (case hc => walk_at "cond"))
  | (with_reducible refine .inl ⟨_, rfl, ?_⟩)
  | (with_reducible refine ⟨_, rfl, ?_⟩)
  | ((with_reducible refine' r_ixL ?hx ?ha ?_); (case hx => walk_at "at"); (case ha => rfl))
  | ((with_reducible refine' r_ixT ?hx ?ha ?_); (case hx => walk_at "at"); (case ha => rfl))
  | ((with_reducible refine' r_setL ?hx ?ha ?_); (case hx => walk_at "at"); (case ha => rfl); intro H2 k2 h2; (try dsimp only [List.set, Int.toNat] at h2))
  | ((with_reducible refine' r_app ?hx ?hl ?_); (case hx => walk_at "at"); (case hl => first | exact Nat.lt_of_ble_eq_true rfl | omega); intro H2 k2 h2)
  | ((with_reducible refine' ty_list ?hx ?_); (case hx => walk_at "at"))
  | (refine And.intro (by (with_reducible show _ ≤ sizeLine); walk_at "sz") ?_; walk_at "new")
  | with_reducible refine s_exv ?_
  | walk_at "newx")
local macro_rules | `(tactic| walk_at "sx") => `(tactic| repeat (walk_at "s1"))
local macro_rules | `(tactic| walk_at "s2") => `(tactic| first
  | ((with_reducible refine' r_ixG ?hx ?hn ?_); (case hx => walk_at "at"); (case hn => omega))
  | ((with_reducible refine' r_ixGT ?hx ?hn ?_); (case hx => walk_at "at"); (case hn => omega))
  | (with_reducible refine ig_cons (fun hix => ?_) (fun hix => ?_))
  | ((with_reducible refine ig_nil ?_); omega)
  | ((with_reducible refine' i_T ?hc ?_); (case hc => omega))
  | ((with_reducible refine' i_F ?hc ?_); (case hc => omega))
  | (with_reducible refine i_2 (fun hc => ?_) (fun hc => ?_))
  | (with_reducible refine i_n2 (fun hc => ?_) (fun hc => ?_)))
local macro_rules | `(tactic| walk_at "go") => `(tactic| repeat' (first | walk_at "s1" | walk_at "s2"))

local macro_rules | `(tactic| walk_at "s1") => `(tactic| first
  | with_reducible refine s_chain ?_
  | with_reducible refine s_fldS ?_
  | with_reducible refine s_fld ?_
  | with_reducible refine s_dIn ?_
  | with_reducible refine s_dNotIn ?_
  | with_reducible refine s_sl ?_
  | with_reducible refine s_noPart ?_
  | with_reducible refine s_part ?_
  | with_reducible refine s_meth ?_
  | with_reducible refine s_make ?_)

section
variable {P : Program} {w : World} {K : PySem.W.Frag} {mg : Str → Option Value} {base : Heap} {A : Ad}
/-- bits -/
def Bits (n : Nat) (r : List Int) : Prop := r.length = n ∧ ∀ x ∈ r, x = 0 ∨ x = 1
abbrev rf (p : Addr × List Int) : V := .ref p.1
/-- rows of n bits that stand each at its place -/
def RowsAt (H : Hp) (n : Nat) (ks : List (Addr × List Int)) : Prop := ∀ p ∈ ks, H p.1 = some (.tup (p.2.map V.int)) ∧ Bits n p.2
theorem RowsAt.same {H H' : Hp} {n : Nat} {ks : List (Addr × List Int)} (e : Same H H') (h : RowsAt H n ks) : RowsAt H' n ks := fun p hp => ⟨e _ _ (h p hp).1, (h p hp).2⟩
theorem bit_all {n : Nat} {r : List Int} (h : Bits n r) : ((r.map V.int).all isBit) = true := by
  rw [List.all_eq_true]
  intro x hx
  obtain ⟨i, hi, rfl⟩ := List.mem_map.mp hx
  rcases h.2 i hi with rfl | rfl <;> rfl
theorem ints_ni {H : Hp} {r : List Int} : ∀ x ∈ r.map V.int, NI K H x := fun x hx => by
  obtain ⟨i, hi, rfl⟩ := List.mem_map.mp hx
  exact ni_int i
theorem c_row {H : Hp} {Q : VK} {E : XK} {p : Addr} {r : List Int} {n m : Nat} (hp : H p = some (.tup (r.map V.int))) (b : Bits m r) (sm : m < 1000) (q : ∀ H', Same H H' → Q (.bl (decide ((m : Int) = n))) H') : spRow K ([.ref p, .int n] ++ []) H Q E :=
  ⟨_, _, rfl, .inr ⟨p, _, rfl, hp, ints_ni, by rw [List.length_map, b.1]; exact sm, fun H' s => by
    rw [bit_all b, Bool.and_true, List.length_map, b.1]
    exact q H' s⟩⟩
theorem kit_any_l : PySem.W.kitAny K (.type "list") [.type "list", .type "tuple"] = some true := kitAny_cons (b := true) (kit_ty (by decide +kernel)) (fun z => nomatch z) (fun _ => rfl)
/-- are_rows of what are rows -/
def spAre : Sp := fun vs H Q _ => ∃ (l : Addr) (n : Nat) (ks : List (Addr × List Int)), vs = [.ref l, .int n] ∧ H l = some (.lst (ks.map rf)) ∧ ks ≠ [] ∧ ks.length < 1000 ∧ n < 1000 ∧ RowsAt H n ks ∧ ∀ H', Same H H' → Q (.bl true) H'
theorem ok_are (T : Txt P K mg A) : FnOk P w K mg base CX0 4 A.a_are_rows A.d_are_rows ["rows", "size"] spAre := by
  refine T.F_are_rows.ok sc_are_rows (fun vs H Q E h => ?_) (fun cdv A' outer s H vs Q E hr h => ?_)
  · obtain ⟨l, n, ks, rfl, _⟩ := h
    rfl
  · obtain ⟨l, n, ks, rfl, hl, ne, sz, sn, rows, k⟩ := h
    have G_is_row := ok_row (w := w) (base := base) T
    refine ⟨_, (pss_cons (ps_if (PW.pt (pw_or (pt_not (pt_val (pe_callB (id := "isinstance") (r := rIsiT K) call_isiT (by rfl) T.n_isinstance (by decide +kernel) (pa_cons (pv 0) (pa_cons (pe_tup (pa_cons (pe_bltn (v := .ty "list") (u := .type "list") (by rfl) T.n_list (by decide +kernel) rfl) (pa_cons (pe_bltn (v := .ty "tuple") (u := .type "tuple") (by rfl) T.n_tuple (by decide +kernel) rfl) pa_nil))) pa_nil))))) (pw_or1 (pt_cmpR op_eq (pe_callB call_len (by rfl) T.n_len (by decide +kernel) (pa_cons (pv 0) pa_nil)) pe_int (nomark _))))) (pss_one (ps_ret pe_bl)) pss_nil)
  (pss_one (ps_ret (pe_callB (cr_all rfl) (by rfl) T.n_all (by decide +kernel) (pa_cons (pe_lc (own := [("row", 2)]) (g := (gName 2)) (by rfl) sc_are_rows.nd (pi_list (pv 0)) (blkOk_by (own := [("row", 2)]) (N := ["rows", "size", "row"]) (sc := defScope s_are_rows) (by decide +kernel)) (fun _ _ _ _ _ => (pg_name (i := 2) sc_are_rows.nd rfl (Or.inl rfl))) (fun _ _ _ _ _ => pts_nil) (fun _ _ _ _ _ => (pe_call G_is_row (hr.mono (by decide)) rfl T.g_is_row T.F_is_row.kp (B_is_row T) .nil pass0 (pa_cons (pv 2) (pa_cons (pv 1) pa_nil))))) pa_nil))))), ?_⟩
    walk_at "sx"
    rename_i pt nt H1 s1 ht
    refine ⟨.ref l, pt, _, _, [.type "list", .type "tuple"], true, rfl, ht, .cons (.ty _) (.cons (.ty _) .nil), .base (.lst (s1 _ _ hl)), kit_any_l, ?_⟩
    walk_at "sx"
    refine ⟨_, _, rfl, .inl ⟨_, SqL.of (s1 _ _ hl), rfl⟩, ?_⟩
    walk_at "sx"
    have hn : ¬ (((ks.map rf).length : Int) = 0) := by
      rw [List.length_map]
      cases ks with
      | nil => exact absurd rfl ne
      | cons a b => simp; omega
    refine i_F hn ?_
    walk_at "sx"
    refine ⟨_, rfl, l, rfl, ⟨_, SqL.of (s1 _ _ hl)⟩, fun D hD => lc_list (K := K) (a := l) (xs := ks.map rf) (fun i H' => Same H1 H' ∧ H' D = some (.lst ((ks.take i).map fun _ => V.bl true))) ⟨Same.new hD, upd_same⟩ (fun i H' _ ⟨s, _⟩ => SqL.of (s _ _ (s1 _ _ hl))) ?_ ?_⟩
    · rintro i x H' hx ⟨s', hD'⟩
      obtain ⟨p, hp, rfl⟩ : ∃ p, ks[i]? = some p ∧ rf p = x := by
        rw [List.getElem?_map] at hx
        exact Option.map_eq_some_iff.mp hx
      obtain ⟨at', b⟩ := rows.same s1 p (List.mem_of_getElem? hp)
      refine s_name ⟨rfl, ?_⟩
      refine s_yes (i_t ?_)
      walk_at "sx"
      refine c_row (s' _ _ at') b sn fun H3 s3 => ?_
      rw [decide_eq_true rfl]
      refine ⟨_, s3 _ _ hD', ?_, Sx.Same.put (s'.trans s3) hD, ?_⟩
      · rw [List.length_map, List.length_take]
        exact Nat.lt_of_le_of_lt (Nat.min_le_right _ _) (by show ks.length < 16777216; omega)
      · rw [upd_same, List.take_succ, hp]
        simp
    · rintro H' ⟨s', hD'⟩
      rw [List.length_map, List.take_length] at hD'
      have e : (ks.map fun _ => V.bl true) = (ks.map fun _ => true).map V.bl := by
        rw [List.map_map]
        rfl
      rw [e] at hD'
      walk_at "sx"
      refine r_all hD' ?_
      have z : ((ks.map fun _ => true).all id) = true := by
        rw [List.all_eq_true]
        intro x hx
        obtain ⟨_, _, rfl⟩ := List.mem_map.mp hx
        rfl
      rw [z]
      exact k _ (s1.trans s')
end
end K37

set_option Elab.async false
set_option linter.all false
set_option maxRecDepth 100000
set_option maxHeartbeats 4000000
namespace K37
open PySem L2 Sx
local macro_rules | `(tactic| walk_at "cond") => `(tactic| first
  | assumption
  | decide
  | exact c_mul_r (by first | decide | omega) (by first | decide | omega)
  | exact c_mul_l (by first | decide | omega) (by first | decide | omega)
  | exact c_div (by first | decide | omega) (by first | decide | omega)
  | exact c_pow (by first | decide | omega) (by first | decide | omega) (by first | decide | omega)
  | omega)
local macro_rules | `(tactic| walk_at "ne") => `(tactic| first
  | assumption
  | (refine Ne.symm ?_; assumption)
  | (refine' Flow.ne ?nh ?nn; (case nn => assumption); (case nh => walk_at "fl"))
  | (refine Ne.symm ?_; refine' Flow.ne ?nh ?nn; (case nn => assumption); (case nh => walk_at "fl"))
  | (refine' ne_of_none ?nh ?nn; (case nn => assumption); (case nh => walk_at "at"))
  | (refine Ne.symm ?_; refine' ne_of_none ?nh ?nn; (case nn => assumption); (case nh => walk_at "at")))
local macro_rules | `(tactic| walk_at "at") => `(tactic| first
  | assumption
  | (refine Same.up (by assumption) ?_; walk_at "at")
  | (refine Keep.up (by assumption) (by walk_at "ne") ?_; walk_at "at"))
local macro_rules | `(tactic| walk_at "fl") => `(tactic| first
  | assumption
  | (refine Flow.same (by assumption) ?_; walk_at "fl")
  | (refine Flow.keep (by assumption) (by walk_at "ne") ?_; walk_at "fl"))
local macro_rules | `(tactic| walk_at "fr") => `(tactic| first
  | assumption
  | (refine same_free (by assumption) ?_; walk_at "fr")
  | (refine Keep.free (by assumption) (by walk_at "ne") ?_; walk_at "fr"))
local macro_rules | `(tactic| walk_at "kp") => `(tactic| first
  | assumption
  | exact Keep.refl _ _
  | (refine Keep.trans ?_ (by assumption); walk_at "kp")
  | (refine Keep.trans ?_ (Keep.same (by assumption)); walk_at "kp"))
local macro_rules | `(tactic| walk_at "sm") => `(tactic| first
  | assumption
  | exact L2.Same.refl _
  | (refine L2.Same.trans ?_ (by assumption); walk_at "sm"))
local macro_rules | `(tactic| walk_at "sz") => `(tactic| first | exact Nat.le_of_ble_eq_true rfl | omega)
local macro_rules | `(tactic| walk_at "new") => `(tactic| (intro p np; generalize hE : upd _ p _ = H2; have s2 := new_same np hE; have h2 := new_at hE; clear hE))
local macro_rules | `(tactic| walk_at "newx") => `(tactic| (intro e d na nd hda; generalize hE : upd (upd _ d _) e _ = H2; have s2 := newx_same na nd hE; have h2 := newx_at hE; have h3 := newx_d hda hE; clear hE))
local macro_rules | `(tactic| walk_at "s1") => `(tactic| first
  | with_reducible refine s_seq ?_
  | with_reducible refine s_asg ?_
  | with_reducible refine s_name ?_
  | with_reducible refine s_ret ?_
  | with_reducible refine s_c ?_
  | ((with_reducible refine' s_var ?hv ?_); (case hv => rfl))
  | with_reducible refine s_op ?_
  | with_reducible refine s_un ?_
  | with_reducible refine s_ifS ?_
  | with_reducible refine s_cb ?_
  | with_reducible refine s_cons ?_
  | with_reducible refine s_nil ?_
  | with_reducible refine s_call ?_
  | with_reducible refine s_test ?_
  | with_reducible refine s_tB ?_
  | with_reducible refine s_bl ?_
  | with_reducible refine s_and ?_
  | with_reducible refine s_or ?_
  | with_reducible refine s_not ?_
  | with_reducible refine s_andV ?_
  | with_reducible refine s_orV ?_
  | with_reducible refine s_notV ?_
  | with_reducible refine s_blV ?_
  | with_reducible refine s_if ?_
  | with_reducible refine s_tup ?_
  | with_reducible refine s_lst ?_
  | with_reducible refine s_drop ?_
  | with_reducible refine s_next ?_
  | with_reducible refine s_sub ?_
  | with_reducible refine s_bm ?_
  | with_reducible refine s_callK ?_
  | with_reducible refine s_brk ?_
  | with_reducible refine s_cont ?_
  | with_reducible refine r_I0 ?_
  | with_reducible refine r_U ?_
  | with_reducible refine r_eqI ?_
  | with_reducible refine r_neI ?_
  | with_reducible refine r_isB ?_
  | with_reducible refine r_notB ?_
  | with_reducible refine i_t ?_
  | with_reducible refine i_f ?_
  | with_reducible refine i_nt ?_
  | with_reducible refine i_nf ?_
  | ((with_reducible refine' r_I ?hc ?_); (case hc => walk_at "cond"))
  | (with_reducible refine .inl ⟨_, rfl, ?_⟩)
  | (with_reducible refine ⟨_, rfl, ?_⟩)
  | ((with_reducible refine' r_ixL ?hx ?ha ?_); (case hx => walk_at "at"); (case ha => rfl))
  | ((with_reducible refine' r_ixT ?hx ?ha ?_); (case hx => walk_at "at"); (case ha => rfl))
  | ((with_reducible refine' r_setL ?hx ?ha ?_); (case hx => walk_at "at"); (case ha => rfl); intro H2 k2 h2; (try dsimp only [List.set, Int.toNat] at h2))
  | ((with_reducible refine' r_app ?hx ?hl ?_); (case hx => walk_at "at"); (case hl => first | exact Nat.lt_of_ble_eq_true rfl | omega); intro H2 k2 h2)
  | ((with_reducible refine' ty_list ?hx ?_); (case hx => walk_at "at"))
  | (refine And.intro (by (with_reducible show _ ≤ sizeLine); walk_at "sz") ?_; walk_at "new")
  | with_reducible refine s_exv ?_
  | walk_at "newx")
local macro_rules | `(tactic| walk_at "sx") => `(tactic| repeat (walk_at "s1"))
local macro_rules | `(tactic| walk_at "s2") => `(tactic| first
  | ((with_reducible refine' r_ixG ?hx ?hn ?_); (case hx => walk_at "at"); (case hn => omega))
  | ((with_reducible refine' r_ixGT ?hx ?hn ?_); (case hx => walk_at "at"); (case hn => omega))
  | (with_reducible refine ig_cons (fun hix => ?_) (fun hix => ?_))
  | ((with_reducible refine ig_nil ?_); omega)
  | ((with_reducible refine' i_T ?hc ?_); (case hc => omega))
  | ((with_reducible refine' i_F ?hc ?_); (case hc => omega))
  | (with_reducible refine i_2 (fun hc => ?_) (fun hc => ?_))
  | (with_reducible refine i_n2 (fun hc => ?_) (fun hc => ?_)))
local macro_rules | `(tactic| walk_at "go") => `(tactic| repeat' (first | walk_at "s1" | walk_at "s2"))

local macro_rules | `(tactic| walk_at "s1") => `(tactic| first
  | with_reducible refine s_chain ?_
  | with_reducible refine s_fldS ?_
  | with_reducible refine s_fld ?_
  | with_reducible refine s_dIn ?_
  | with_reducible refine s_dNotIn ?_
  | with_reducible refine s_sl ?_
  | with_reducible refine s_noPart ?_
  | with_reducible refine s_part ?_
  | with_reducible refine s_meth ?_
  | with_reducible refine s_make ?_)

section
variable {P : Program} {w : World} {K : PySem.W.Frag} {mg : Str → Option Value} {base : Heap} {A : Ad}
abbrev rkey (p : Addr × List Int) : List L2.Key × V := (p.2.map Sum.inl, .bl true)
/-- the rows ascending, each once -/
def Asc (ks : List (Addr × List Int)) : Prop := (ks.map (·.2)).Nodup ∧ ks.Pairwise (fun q r => TS.code 2 q.2 ≤ TS.code 2 r.2)
/-- a list of rules stands at x: its rows ks, each at its place -/
def RuAt (C : Addr) (H : Hp) (x : Addr) (n : Nat) (ks : List (Addr × List Int)) : Prop := ∃ dx t kn, H x = some (.ins C dx [("size", .int n), ("rows", .ref t), ("_known", .ref kn)]) ∧ H t = some (.tup (ks.map rf)) ∧ H kn = some (.dT (ks.map rkey)) ∧
  RowsAt H n ks ∧ Asc ks ∧ ks ≠ [] ∧ ks.length ≤ 64
theorem RuAt.same {C : Addr} {H H' : Hp} {x : Addr} {n : Nat} {ks : List (Addr × List Int)} (e : Same H H') (h : RuAt C H x n ks) : RuAt C H' x n ks := by
  obtain ⟨dx, t, kn, h1, h2, h3, h4, h5⟩ := h
  exact ⟨dx, t, kn, e _ _ h1, e _ _ h2, e _ _ h3, h4.same e, h5⟩
theorem bits_bd {n : Nat} {r : List Int} (h : Bits n r) : TS.Bd 2 r := fun m hm => by
  rcases h.2 m hm with rfl | rfl <;> decide
theorem rf_sq {H : Hp} {n : Nat} {ks : List (Addr × List Int)} (h : RowsAt H n ks) : ∀ p ∈ ks, SqT K H p.1 (p.2.map V.int) := fun p hp => SqT.of (h p hp).1
/-- what is made of the rows of a sequence: the same rows, ascending, each once -/
def Of (ks ks' : List (Addr × List Int)) : Prop := (∀ p ∈ ks', p ∈ ks) ∧ (∀ p ∈ ks, p.2 ∈ ks'.map (·.2)) ∧ Asc ks' ∧ ks' ≠ [] ∧ ks'.length ≤ 64
theorem one_pw {α : Type} {R : α → α → Prop} : ∀ {L : List α}, L.length ≤ 1 → L.Pairwise R
  | [], _ => .nil
  | [_], _ => List.pairwise_singleton _ _
theorem of_ne {ks L : List (Addr × List Int)} (ne : ks ≠ []) (all : ∀ p ∈ ks, p.2 ∈ L.map (·.2)) : L ≠ [] := fun e => by
  subst e
  cases ks with
  | nil => exact ne rfl
  | cons q r => exact nomatch all q List.mem_cons_self
theorem inl_inj : ∀ {r r' : List Int}, (r.map Sum.inl : List L2.Key) = r'.map Sum.inl → r = r'
  | [], [], _ => rfl
  | a :: r, b :: r', e => by
    rw [List.map_cons, List.map_cons] at e
    obtain ⟨h1, h2⟩ := List.cons.inj e
    rw [Sum.inl.inj h1, inl_inj h2]
theorem valV_none {κ : Type} [DecidableEq κ] {k : κ} : ∀ {kvs : List (κ × V)}, (∀ p ∈ kvs, p.1 ≠ k) → valV kvs k = none
  | [], _ => rfl
  | p :: r, h => by
    rw [valV_neg (h p List.mem_cons_self)]
    exact valV_none fun q hq => h q (List.mem_cons_of_mem _ hq)
theorem rkeys_next {L : List (Addr × List Int)} (nd : (L.map (·.2)).Nodup) {i : Nat} {q : Addr × List Int} (hq : L[i]? = some q) : putK ((L.take i).map rkey) (q.2.map Sum.inl) (.bl true) = (L.take (i + 1)).map rkey := by
  rw [List.take_succ, hq, putK_new]
  · simp
  · refine valV_none fun p hp e => ?_
    obtain ⟨z, hz, rfl⟩ := List.mem_map.mp hp
    have e2 : z.2 = q.2 := inl_inj e
    obtain ⟨j, hj, hjz⟩ := List.getElem_of_mem hz
    rw [List.length_take] at hj
    have hji : j < i := by omega
    have hjl : j < L.length := by omega
    rw [List.getElem_take] at hjz
    have hil : i < L.length := (List.getElem?_eq_some_iff.mp hq).1
    have hqi : L[i] = q := (List.getElem?_eq_some_iff.mp hq).2
    have z1 := List.pairwise_iff_getElem.mp nd j i (by rw [List.length_map]; exact hjl) (by rw [List.length_map]; exact hil) hji
    apply z1
    rw [List.getElem_map, List.getElem_map, hjz, hqi]
    exact e2
def spMake (C : Addr) : Sp := fun vs H Q _ => ∃ (x dx l : Addr) (n : Nat) (ks : List (Addr × List Int)), vs = [.ref x, .int n, .ref l] ∧ H x = some (.ins C dx []) ∧ H l = some (.lst (ks.map rf)) ∧ ks ≠ [] ∧ ks.length ≤ 64 ∧ n < 1000 ∧ RowsAt H n ks ∧
  (∀ p ∈ ks, p.1 ≠ x) ∧ ∀ H' ks', Keep x H H' → Of ks ks' → RuAt C H' x n ks' → Q .non H'
theorem ok_make (T : Txt P K mg A) : FnOk P w K mg base CX0 5 A.a_Rules____init__ A.d_Rules____init__ ["self", "size", "rows"] (spMake A.c_Rules) := by
  refine T.F_Rules____init__.ok sc_Rules____init__ (fun vs H Q E h => ?_) (fun cdv A' outer s H vs Q E hr h => ?_)
  · obtain ⟨x, dx, l, n, ks, rfl, _⟩ := h
    rfl
  · obtain ⟨x, dx, l, n, ks, rfl, hx, hl, ne, sz, sn, rows, nx, k⟩ := h
    have G_is_number := ok_isn (w := w) (base := base) T
    have G_are_rows := ok_are (w := w) (base := base) T
    have en : isN (.int (n : Int)) = true := decide_eq_true (Int.natCast_nonneg n)
    have lx : l ≠ x := ne_of hl hx fun z => nomatch z
    refine ⟨_, (pss_cons (ps_if (PW.pt (pw_or (pt_not (pt_val (pe_call G_is_number (hr.mono (by decide)) rfl T.g_is_number T.F_is_number.kp (B_is_number T) .nil pass0 (pa_cons (pv 1) pa_nil)))) (pw_or1 (pt_not (pt_val (pe_call G_are_rows (hr.mono (by decide)) rfl T.g_are_rows T.F_are_rows.kp (B_are_rows T) .nil pass0 (pa_cons (pv 2) (pa_cons (pv 1) pa_nil)))))))) (pss_one ps_never) pss_nil)
  (pss_cons (ps_fld (pv 0) (pv 1) (by rfl))
  (pss_cons (ps_fld (pv 0) (pe_callTy call_tuple_of (by rfl) T.n_tuple (by decide +kernel) (pa_cons (pe_callB (cr_sortedB rfl) (by rfl) T.n_sorted (by decide +kernel) (pa_cons (pe_callTy (cr_setB rfl hr.units) (by rfl) T.n_set (by decide +kernel) (pa_cons (pv 2) pa_nil)) pa_nil)) pa_nil)) (by rfl))
  (pss_one (ps_fld (pv 0) (pe_dcP (u0 := .dT []) (own := [("row", 3)]) (g := (gName 3)) (.inr rfl) hr.units0 rfl sc_Rules____init__.nd (pi_tup (pe_fld (pv 0) rfl)) (blkOk_by (own := [("row", 3)]) (N := ["self", "size", "rows", "row"]) (sc := defScope s_Rules____init__) (by decide +kernel)) ⟨fun _ _ _ _ _ => (pg_name (i := 3) sc_Rules____init__.nd rfl (Or.inl rfl)), fun _ _ _ _ _ => pts_nil, fun _ _ _ _ _ => (pv 3), fun _ _ _ _ _ => pe_bl⟩) (by rfl)))))), ?_⟩
    walk_at "sx"
    refine c_t1 (ni_int _) ?_
    rw [en]
    walk_at "sx"
    refine ⟨l, n, ks, rfl, hl, ne, by omega, sn, rows, fun H1 s1 => ?_⟩
    walk_at "sx"
    refine r_put rfl (s1 _ _ hx) T.cl_Rules T.no_Rules_size (by decide) (fun H2 k2 h2 => ?_)
    walk_at "sx"
    refine ⟨l, ks, rfl, SqL.of (k2 _ _ lx (s1 _ _ hl)), fun p hp => SqT.of (k2 _ _ (nx p hp) (s1 _ _ (rows p hp).1)), sz, fun a L na sub all => ?_⟩
    generalize hE3 : upd H2 a _ = H3
    have s3 := new_same na hE3
    have h3 := new_at hE3
    walk_at "sx"
    refine ⟨a, L, n, 2, rfl, h3, fun p hp => SqT.of (s3 _ _ (k2 _ _ (nx p (sub p hp)) (s1 _ _ (rows p (sub p hp)).1))), fun p hp => ⟨(rows p (sub p hp)).2.1, bits_bd (rows p (sub p hp)).2⟩, fun L' p pm nd len pw np => ?_⟩
    have of' : Of ks L' := ⟨fun q hq => sub q (pm.mem_iff.mp hq), fun q hq => (pm.map (·.2)).mem_iff.mpr (all q hq), ⟨nd, pw⟩, fun e => of_ne ne all (by rw [e] at pm; exact pm.symm.eq_nil), len⟩
    generalize hE4 : upd H3 p _ = H4
    have s4 := new_same np hE4
    have h4 := new_at hE4
    walk_at "sx"
    refine ⟨p, _, rfl, .inl ⟨SqL.of h4, fun t nt => ?_⟩⟩
    generalize hE5 : upd H4 t _ = H5
    have s5 := new_same nt hE5
    have h5 := new_at hE5
    have hx4 := s4 _ _ (s3 _ _ h2)
    have tx : t ≠ x := fun e => by rw [e, hx4] at nt; cases nt
    walk_at "sx"
    refine r_put rfl (s5 _ _ hx4) T.cl_Rules T.no_Rules_rows (Nat.le_of_ble_eq_true rfl) (fun H6 k6 h6 => ?_)
    have rows6 : RowsAt H6 n L' := fun q hq => ⟨k6 _ _ (nx q (of'.1 q hq)) (s5 _ _ (s4 _ _ (s3 _ _ (k2 _ _ (nx q (of'.1 q hq)) (s1 _ _ (rows q (of'.1 q hq)).1))))), (rows q (of'.1 q hq)).2⟩
    walk_at "sx"
    refine ⟨_, rfl, _, _, _, _, _, rfl, h6, T.cl_Rules, T.no_Rules_rows, rfl, t, rfl, ⟨_, SqT.of (k6 _ _ tx h5)⟩, fun D hD => dcp_tup (K := K) (a := t) (xs := L'.map rf) (fun i H' => Same H6 H' ∧ H' D = some (.dT ((L'.take i).map rkey))) ⟨Same.new hD, upd_same⟩ (fun i H' _ ⟨s, _⟩ => SqT.of (s _ _ (k6 _ _ tx h5))) ?_ ?_⟩
    · rintro i y H' hy ⟨s', hD'⟩
      obtain ⟨q, hq, rfl⟩ : ∃ q, L'[i]? = some q ∧ rf q = y := by
        rw [List.getElem?_map] at hy
        exact Option.map_eq_some_iff.mp hy
      have hm := List.mem_of_getElem? hq
      refine s_name ⟨rfl, ?_⟩
      refine s_yes (i_t ?_)
      walk_at "sx"
      refine ⟨_, DPut.t (k := q.2.map Sum.inl) hD' ?_ ?_, Sx.Same.put s' hD, ?_⟩
      · rw [List.map_map]
        exact s' _ _ (rows6 q hm).1
      · rw [List.length_map, List.length_take]
        exact Nat.lt_of_le_of_lt (Nat.min_le_right _ _) (by show L'.length < 16777216; have := of'.2.2.2.2; omega)
      · rw [upd_same, rkeys_next of'.2.2.1.1 hq]
    · rintro H' ⟨s', hD'⟩
      rw [List.length_map, List.take_length] at hD'
      have dx' : D ≠ x := fun e => by rw [e, h6] at hD; cases hD
      walk_at "sx"
      refine r_put rfl (s' _ _ h6) T.cl_Rules T.no_Rules__known (Nat.le_of_ble_eq_true rfl) (fun H7 k7 h7 => ?_)
      walk_at "sx"
      refine k H7 L' ?_ of' ⟨dx, t, D, h7, k7 _ _ tx (s' _ _ (k6 _ _ tx h5)), k7 _ _ dx' hD', fun q hq => ⟨k7 _ _ (nx q (of'.1 q hq)) (s' _ _ (rows6 q hq).1), (rows6 q hq).2⟩, of'.2.2.1, of'.2.2.2.1, of'.2.2.2.2⟩
      exact (Keep.same s1).trans (k2.trans ((Keep.same s3).trans ((Keep.same s4).trans ((Keep.same s5).trans (k6.trans ((Keep.same s').trans k7))))))
end
end K37

set_option Elab.async false
set_option linter.all false
set_option maxRecDepth 100000
set_option maxHeartbeats 4000000
namespace K37
open PySem L2 Sx
local macro_rules | `(tactic| walk_at "cond") => `(tactic| first
  | assumption
  | decide
  | exact c_mul_r (by first | decide | omega) (by first | decide | omega)
  | exact c_mul_l (by first | decide | omega) (by first | decide | omega)
  | exact c_div (by first | decide | omega) (by first | decide | omega)
  | exact c_pow (by first | decide | omega) (by first | decide | omega) (by first | decide | omega)
  | omega)
local macro_rules | `(tactic| walk_at "ne") => `(tactic| first
  | assumption
  | (refine Ne.symm ?_; assumption)
  | (refine' Flow.ne ?nh ?nn; (case nn => assumption); (case nh => walk_at "fl"))
  | (refine Ne.symm ?_; refine' Flow.ne ?nh ?nn; (case nn => assumption); (case nh => walk_at "fl"))
  | (refine' ne_of_none ?nh ?nn; (case nn => assumption); (case nh => walk_at "at"))
  | (refine Ne.symm ?_; refine' ne_of_none ?nh ?nn; (case nn => assumption); (case nh => walk_at "at")))
local macro_rules | `(tactic| walk_at "at") => `(tactic| first
  | assumption
  | (refine Same.up (by assumption) ?_; walk_at "at")
  | (refine Keep.up (by assumption) (by walk_at "ne") ?_; walk_at "at"))
local macro_rules | `(tactic| walk_at "fl") => `(tactic| first
  | assumption
  | (refine Flow.same (by assumption) ?_; walk_at "fl")
  | (refine Flow.keep (by assumption) (by walk_at "ne") ?_; walk_at "fl"))
local macro_rules | `(tactic| walk_at "fr") => `(tactic| first
  | assumption
  | (refine same_free (by assumption) ?_; walk_at "fr")
  | (refine Keep.free (by assumption) (by walk_at "ne") ?_; walk_at "fr"))
local macro_rules | `(tactic| walk_at "kp") => `(tactic| first
  | assumption
  | exact Keep.refl _ _
  | (refine Keep.trans ?_ (by assumption); walk_at "kp")
  | (refine Keep.trans ?_ (Keep.same (by assumption)); walk_at "kp"))
local macro_rules | `(tactic| walk_at "sm") => `(tactic| first
  | assumption
  | exact L2.Same.refl _
  | (refine L2.Same.trans ?_ (by assumption); walk_at "sm"))
local macro_rules | `(tactic| walk_at "sz") => `(tactic| first | exact Nat.le_of_ble_eq_true rfl | omega)
local macro_rules | `(tactic| walk_at "new") => `(tactic| (intro p np; generalize hE : upd _ p _ = H2; have s2 := new_same np hE; have h2 := new_at hE; clear hE))
local macro_rules | `(tactic| walk_at "newx") => `(tactic| (intro e d na nd hda; generalize hE : upd (upd _ d _) e _ = H2; have s2 := newx_same na nd hE; have h2 := newx_at hE; have h3 := newx_d hda hE; clear hE))
local macro_rules | `(tactic| walk_at "s1") => `(tactic| first
  | with_reducible refine s_seq ?_
  | with_reducible refine s_asg ?_
  | with_reducible refine s_name ?_
  | with_reducible refine s_ret ?_
  | with_reducible refine s_c ?_
  | ((with_reducible refine' s_var ?hv ?_); (case hv => rfl))
  | with_reducible refine s_op ?_
  | with_reducible refine s_un ?_
  | with_reducible refine s_ifS ?_
  | with_reducible refine s_cb ?_
  | with_reducible refine s_cons ?_
  | with_reducible refine s_nil ?_
  | with_reducible refine s_call ?_
  | with_reducible refine s_test ?_
  | with_reducible refine s_tB ?_
  | with_reducible refine s_bl ?_
  | with_reducible refine s_and ?_
  | with_reducible refine s_or ?_
  | with_reducible refine s_not ?_
  | with_reducible refine s_andV ?_
  | with_reducible refine s_orV ?_
  | with_reducible refine s_notV ?_
  | with_reducible refine s_blV ?_
  | with_reducible refine s_if ?_
  | with_reducible refine s_tup ?_
  | with_reducible refine s_lst ?_
  | with_reducible refine s_drop ?_
  | with_reducible refine s_next ?_
  | with_reducible refine s_sub ?_
  | with_reducible refine s_bm ?_
  | with_reducible refine s_callK ?_
  | with_reducible refine s_brk ?_
  | with_reducible refine s_cont ?_
  | with_reducible refine r_I0 ?_
  | with_reducible refine r_U ?_
  | with_reducible refine r_eqI ?_
  | with_reducible refine r_neI ?_
  | with_reducible refine r_isB ?_
  | with_reducible refine r_notB ?_
  | with_reducible refine i_t ?_
  | with_reducible refine i_f ?_
  | with_reducible refine i_nt ?_
  | with_reducible refine i_nf ?_
  | ((with_reducible refine' r_I ?hc ?_); (case hc => walk_at "cond"))
  | (with_reducible refine .inl ⟨_, rfl, ?_⟩)
  | (with_reducible refine ⟨_, rfl, ?_⟩)
  | ((with_reducible refine' r_ixL ?hx ?ha ?_); (case hx => walk_at "at"); (case ha => rfl))
  | ((with_reducible refine' r_ixT ?hx ?ha ?_); (case hx => walk_at "at"); (case ha => rfl))
  | ((with_reducible refine' r_setL ?hx ?ha ?_); (case hx => walk_at "at"); (case ha => rfl); intro H2 k2 h2; (try dsimp only [List.set, Int.toNat] at h2))
  | ((with_reducible refine' r_app ?hx ?hl ?_); (case hx => walk_at "at"); (case hl => first | exact Nat.lt_of_ble_eq_true rfl | omega); intro H2 k2 h2)
  | ((with_reducible refine' ty_list ?hx ?_); (case hx => walk_at "at"))
  | (refine And.intro (by (with_reducible show _ ≤ sizeLine); walk_at "sz") ?_; walk_at "new")
  | with_reducible refine s_exv ?_
  | walk_at "newx")
local macro_rules | `(tactic| walk_at "sx") => `(tactic| repeat (walk_at "s1"))
local macro_rules | `(tactic| walk_at "s2") => `(tactic| first
  | ((with_reducible refine' r_ixG ?hx ?hn ?_); (case hx => walk_at "at"); (case hn => omega))
  | ((with_reducible refine' r_ixGT ?hx ?hn ?_); (case hx => walk_at "at"); (case hn => omega))
  | (with_reducible refine ig_cons (fun hix => ?_) (fun hix => ?_))
  | ((with_reducible refine ig_nil ?_); omega)
  | ((with_reducible refine' i_T ?hc ?_); (case hc => omega))
  | ((with_reducible refine' i_F ?hc ?_); (case hc => omega))
  | (with_reducible refine i_2 (fun hc => ?_) (fun hc => ?_))
  | (with_reducible refine i_n2 (fun hc => ?_) (fun hc => ?_)))
local macro_rules | `(tactic| walk_at "go") => `(tactic| repeat' (first | walk_at "s1" | walk_at "s2"))

local macro_rules | `(tactic| walk_at "s1") => `(tactic| first
  | with_reducible refine s_chain ?_
  | with_reducible refine s_fldS ?_
  | with_reducible refine s_fld ?_
  | with_reducible refine s_dIn ?_
  | with_reducible refine s_dNotIn ?_
  | with_reducible refine s_sl ?_
  | with_reducible refine s_noPart ?_
  | with_reducible refine s_part ?_
  | with_reducible refine s_meth ?_
  | with_reducible refine s_make ?_)

section
variable {P : Program} {w : World} {K : PySem.W.Frag} {mg : Str → Option Value} {base : Heap} {A : Ad}
/-- row with another value at a place -/
def spWith (K : PySem.W.Frag) : Sp := fun vs H Q _ => ∃ (p : Addr) (xs : List V) (k : Nat) (v : V), vs = [.ref p, .int k, v] ∧ H p = some (.tup xs) ∧ k < xs.length ∧ xs.length < 1000 ∧ ∀ q H', Same H H' → H' q = some (.tup (xs.set k v)) → Q (.ref q) H'
theorem ok_with (T : Txt P K mg A) : FnOk P w K mg base CX0 1 A.a_with_value A.d_with_value ["row", "point", "value"] (spWith K) := by
  refine T.F_with_value.ok sc_with_value (fun vs H Q E h => ?_) (fun cdv A' outer s H vs Q E hr h => ?_)
  · obtain ⟨p, xs, k, v, rfl, _⟩ := h
    rfl
  · obtain ⟨p, xs, j, v, rfl, hp, lt, sz, k⟩ := h
    refine ⟨_, (pss_one (ps_ret (pe_op op_catA (pe_op op_catA (pe_slice sl_tupA (pv 0) po_none (po_some (pv 1))) (pe_tup (pa_cons (pv 2) pa_nil))) (pe_slice sl_tupA (pv 0) (po_some (pe_op op_add (pv 1) pe_int)) po_none)))), ?_⟩
    walk_at "sx"
    refine r_take hp lt fun p1 H1 n1 s1 h1 => ?_
    walk_at "sx"
    rename_i p2 n2 H2 s2 h2
    refine r_cat (s2 _ _ h1) h2 (by rw [List.length_take, sizeLine_eq]; simp; omega) fun p3 H3 s3 h3 => ?_
    walk_at "sx"
    refine r_drop (s3 _ _ (s2 _ _ (s1 _ _ hp))) lt fun p4 H4 n4 s4 h4 => ?_
    refine r_cat (s4 _ _ h3) h4 (by rw [List.length_append, List.length_take, List.length_drop, sizeLine_eq]; simp; omega) fun p5 H5 s5 h5 => ?_
    refine k p5 H5 (s1.trans (s2.trans (s3.trans (s4.trans s5)))) ?_
    rw [h5, List.set_eq_take_append_cons_drop, if_pos lt, List.append_assoc]
    rfl
/-! own len and == -/
def spLen (C : Addr) : Sp := fun vs H Q _ => ∃ (x : Addr) (n : Nat) (ks : List (Addr × List Int)), vs = [.ref x] ∧ RuAt C H x n ks ∧ Q (.int ks.length) H
theorem ok_len (T : Txt P K mg A) : FnOk P w K mg base CX0 1 A.a_Rules____len__ A.d_Rules____len__ ["self"] (spLen A.c_Rules) := by
  refine T.F_Rules____len__.ok sc_Rules____len__ (fun vs H Q E h => ?_) (fun cdv A' outer s H vs Q E hr h => ?_)
  · obtain ⟨x, n, ks, rfl, _⟩ := h
    rfl
  · obtain ⟨x, n, ks, rfl, ⟨dx, t, kn, h1, h2, h3, rows, asc, ne, sz⟩, k⟩ := h
    refine ⟨_, (pss_one (ps_ret (pe_callB call_len (by rfl) T.n_len (by decide +kernel) (pa_cons (pe_fld (pv 0) rfl) pa_nil)))), ?_⟩
    walk_at "sx"
    refine r_get rfl h1 T.cl_Rules T.no_Rules_rows rfl ?_
    walk_at "sx"
    refine ⟨_, _, rfl, .inr ⟨_, SqT.of h2, rfl⟩, ?_⟩
    rw [List.length_map]
    exact k
end
end K37

set_option Elab.async false
set_option linter.all false
set_option maxRecDepth 100000
set_option maxHeartbeats 4000000
namespace K37
open PySem L2 Sx
local macro_rules | `(tactic| walk_at "cond") => `(tactic| first
  | assumption
  | decide
  | exact c_mul_r (by first | decide | omega) (by first | decide | omega)
  | exact c_mul_l (by first | decide | omega) (by first | decide | omega)
  | exact c_div (by first | decide | omega) (by first | decide | omega)
  | exact c_pow (by first | decide | omega) (by first | decide | omega) (by first | decide | omega)
  | omega)
local macro_rules | `(tactic| walk_at "ne") => `(tactic| first
  | assumption
  | (refine Ne.symm ?_; assumption)
  | (refine' Flow.ne ?nh ?nn; (case nn => assumption); (case nh => walk_at "fl"))
  | (refine Ne.symm ?_; refine' Flow.ne ?nh ?nn; (case nn => assumption); (case nh => walk_at "fl"))
  | (refine' ne_of_none ?nh ?nn; (case nn => assumption); (case nh => walk_at "at"))
  | (refine Ne.symm ?_; refine' ne_of_none ?nh ?nn; (case nn => assumption); (case nh => walk_at "at")))
local macro_rules | `(tactic| walk_at "at") => `(tactic| first
  | assumption
  | (refine Same.up (by assumption) ?_; walk_at "at")
  | (refine Keep.up (by assumption) (by walk_at "ne") ?_; walk_at "at"))
local macro_rules | `(tactic| walk_at "fl") => `(tactic| first
  | assumption
  | (refine Flow.same (by assumption) ?_; walk_at "fl")
  | (refine Flow.keep (by assumption) (by walk_at "ne") ?_; walk_at "fl"))
local macro_rules | `(tactic| walk_at "fr") => `(tactic| first
  | assumption
  | (refine same_free (by assumption) ?_; walk_at "fr")
  | (refine Keep.free (by assumption) (by walk_at "ne") ?_; walk_at "fr"))
local macro_rules | `(tactic| walk_at "kp") => `(tactic| first
  | assumption
  | exact Keep.refl _ _
  | (refine Keep.trans ?_ (by assumption); walk_at "kp")
  | (refine Keep.trans ?_ (Keep.same (by assumption)); walk_at "kp"))
local macro_rules | `(tactic| walk_at "sm") => `(tactic| first
  | assumption
  | exact L2.Same.refl _
  | (refine L2.Same.trans ?_ (by assumption); walk_at "sm"))
local macro_rules | `(tactic| walk_at "sz") => `(tactic| first | exact Nat.le_of_ble_eq_true rfl | omega)
local macro_rules | `(tactic| walk_at "new") => `(tactic| (intro p np; generalize hE : upd _ p _ = H2; have s2 := new_same np hE; have h2 := new_at hE; clear hE))
local macro_rules | `(tactic| walk_at "newx") => `(tactic| (intro e d na nd hda; generalize hE : upd (upd _ d _) e _ = H2; have s2 := newx_same na nd hE; have h2 := newx_at hE; have h3 := newx_d hda hE; clear hE))
local macro_rules | `(tactic| walk_at "s1") => `(tactic| first
  | with_reducible refine s_seq ?_
  | with_reducible refine s_asg ?_
  | with_reducible refine s_name ?_
  | with_reducible refine s_ret ?_
  | with_reducible refine s_c ?_
  | ((with_reducible refine' s_var ?hv ?_); (case hv => rfl))
  | with_reducible refine s_op ?_
  | with_reducible refine s_un ?_
  | with_reducible refine s_ifS ?_
  | with_reducible refine s_cb ?_
  | with_reducible refine s_cons ?_
  | with_reducible refine s_nil ?_
  | with_reducible refine s_call ?_
  | with_reducible refine s_test ?_
  | with_reducible refine s_tB ?_
  | with_reducible refine s_bl ?_
  | with_reducible refine s_and ?_
  | with_reducible refine s_or ?_
  | with_reducible refine s_not ?_
  | with_reducible refine s_andV ?_
  | with_reducible refine s_orV ?_
  | with_reducible refine s_notV ?_
  | with_reducible refine s_blV ?_
  | with_reducible refine s_if ?_
  | with_reducible refine s_tup ?_
  | with_reducible refine s_lst ?_
  | with_reducible refine s_drop ?_
  | with_reducible refine s_next ?_
  | with_reducible refine s_sub ?_
  | with_reducible refine s_bm ?_
  | with_reducible refine s_callK ?_
  | with_reducible refine s_brk ?_
  | with_reducible refine s_cont ?_
  | with_reducible refine r_I0 ?_
  | with_reducible refine r_U ?_
  | with_reducible refine r_eqI ?_
  | with_reducible refine r_neI ?_
  | with_reducible refine r_isB ?_
  | with_reducible refine r_notB ?_
  | with_reducible refine i_t ?_
  | with_reducible refine i_f ?_
  | with_reducible refine i_nt ?_
  | with_reducible refine i_nf ?_
  | ((with_reducible refine' r_I ?hc ?_); (case hc => walk_at "cond"))
  | (with_reducible refine .inl ⟨_, rfl, ?_⟩)
  | (with_reducible refine ⟨_, rfl, ?_⟩)
  | ((with_reducible refine' r_ixL ?hx ?ha ?_); (case hx => walk_at "at"); (case ha => rfl))
  | ((with_reducible refine' r_ixT ?hx ?ha ?_); (case hx => walk_at "at"); (case ha => rfl))
  | ((with_reducible refine' r_setL ?hx ?ha ?_); (case hx => walk_at "at"); (case ha => rfl); intro H2 k2 h2; (try dsimp only [List.set, Int.toNat] at h2))
  | ((with_reducible refine' r_app ?hx ?hl ?_); (case hx => walk_at "at"); (case hl => first | exact Nat.lt_of_ble_eq_true rfl | omega); intro H2 k2 h2)
  | ((with_reducible refine' ty_list ?hx ?_); (case hx => walk_at "at"))
  | (refine And.intro (by (with_reducible show _ ≤ sizeLine); walk_at "sz") ?_; walk_at "new")
  | with_reducible refine s_exv ?_
  | walk_at "newx")
local macro_rules | `(tactic| walk_at "sx") => `(tactic| repeat (walk_at "s1"))
local macro_rules | `(tactic| walk_at "s2") => `(tactic| first
  | ((with_reducible refine' r_ixG ?hx ?hn ?_); (case hx => walk_at "at"); (case hn => omega))
  | ((with_reducible refine' r_ixGT ?hx ?hn ?_); (case hx => walk_at "at"); (case hn => omega))
  | (with_reducible refine ig_cons (fun hix => ?_) (fun hix => ?_))
  | ((with_reducible refine ig_nil ?_); omega)
  | ((with_reducible refine' i_T ?hc ?_); (case hc => omega))
  | ((with_reducible refine' i_F ?hc ?_); (case hc => omega))
  | (with_reducible refine i_2 (fun hc => ?_) (fun hc => ?_))
  | (with_reducible refine i_n2 (fun hc => ?_) (fun hc => ?_)))
local macro_rules | `(tactic| walk_at "go") => `(tactic| repeat' (first | walk_at "s1" | walk_at "s2"))

local macro_rules | `(tactic| walk_at "s1") => `(tactic| first
  | with_reducible refine s_chain ?_
  | with_reducible refine s_fldS ?_
  | with_reducible refine s_fld ?_
  | with_reducible refine s_dIn ?_
  | with_reducible refine s_dNotIn ?_
  | with_reducible refine s_sl ?_
  | with_reducible refine s_noPart ?_
  | with_reducible refine s_part ?_
  | with_reducible refine s_meth ?_
  | with_reducible refine s_make ?_)

section
variable {P : Program} {w : World} {K : PySem.W.Frag} {mg : Str → Option Value} {base : Heap} {A : Ad}
/-! numbers and their rows -/
/-- the n lowest bits of m, the highest first -/
def bitsOf : Nat → Nat → List Int
  | 0, _ => []
  | n + 1, m => bitsOf n (m / 2) ++ [((m % 2 : Nat) : Int)]
theorem bitsOf_bits : ∀ n m, Bits n (bitsOf n m)
  | 0, _ => ⟨rfl, fun x h => nomatch h⟩
  | n + 1, m => by
    obtain ⟨h1, h2⟩ := bitsOf_bits n (m / 2)
    refine ⟨by simp [bitsOf, h1], fun x hx => ?_⟩
    rcases List.mem_append.mp hx with z | z
    · exact h2 x z
    · rw [List.mem_singleton.mp z]
      omega
/-- what is left of the row behind i turns -/
theorem bitsOf_add : ∀ i n m, bitsOf (n + i) m = bitsOf n (m / 2 ^ i) ++ bitsOf i m
  | 0, n, m => by simp [bitsOf]
  | i + 1, n, m => by
    show bitsOf (n + i) (m / 2) ++ [((m % 2 : Nat) : Int)] = _
    rw [bitsOf_add i n (m / 2), List.append_assoc, Nat.div_div_eq_div_mul, ← Nat.pow_succ', bitsOf]
theorem bitsOf_next (i m : Nat) : bitsOf (i + 1) m = [((m / 2 ^ i % 2 : Nat) : Int)] ++ bitsOf i m := by
  rw [Nat.add_comm i 1, bitsOf_add i 1 m]
  rfl
def spRowOf : Sp := fun vs H Q _ => ∃ (m n : Nat), vs = [.int m, .int n] ∧ n < 1000 ∧ ∀ q H', Same H H' → H' q = some (.tup ((bitsOf n m).map V.int)) → Q (.ref q) H'
theorem ok_rowOf (T : Txt P K mg A) : FnOk P w K mg base CX0 1 A.a__law_row A.d__law_row ["number", "size"] spRowOf := by
  refine T.F__law_row.ok sc__law_row (fun vs H Q E h => ?_) (fun cdv A' outer s H vs Q E hr h => ?_)
  · obtain ⟨m, n, rfl, _⟩ := h
    rfl
  · obtain ⟨m, n, rfl, sn, k⟩ := h
    refine ⟨_, (pss_cons (ps_set (i := 2) sc__law_row.nd rfl (Or.inl rfl) (pe_tup pa_nil))
  (pss_cons (ps_for PassesOwn.never rfl (pi_range1 rfl T.n_range (pa_cons (pv 1) pa_nil)) (pg_name (i := 3) sc__law_row.nd rfl (Or.inl rfl))
  (pss_cons (ps_set (i := 2) sc__law_row.nd rfl (Or.inl rfl) (pe_op op_catA (pe_tup (pa_cons (pe_op op_mod (pe_callTy call_int1 (by rfl) T.n_int (by decide +kernel) (pa_cons (pv 0) pa_nil)) pe_int) pa_nil)) (pv 2)))
  (pss_one (ps_set (i := 0) sc__law_row.nd rfl (Or.inl rfl) (pe_op op_fdiv (pv 0) pe_int)))))
  (pss_one (ps_ret (pv 2))))), ?_⟩
    walk_at "sx"
    rename_i p0 np0 H1 s1 h1
    refine ⟨_, rfl, _, rfl, by omega, by omega, for_range (lo := 0) (n := n) (fun i σ H' => Same H H' ∧ ∃ (q : Addr) (v : Option V), σ = [some (.int (m / 2 ^ i : Nat)), some (.int n), some (.ref q), v] ∧ H' q = some (.tup ((bitsOf i m).map V.int))) ?_ ?_ ?_⟩
    · refine ⟨s1, p0, none, ?_, h1⟩
      rw [Nat.pow_zero, Nat.div_one]
      rfl
    · rintro i σ H' hi ⟨s', q, v, rfl, hq⟩
      walk_at "sx"
      rename_i p2 np2 H2 s2 h2
      have hb := (bitsOf_bits i m).1
      refine r_cat h2 (s2 _ _ hq) (by rw [List.length_map, hb, sizeLine_eq]; simp; omega) fun p3 H3 s3 h3 => ?_
      walk_at "sx"
      refine ⟨s'.trans (s2.trans s3), p3, some (.int (0 + (i : Int))), ?_, ?_⟩
      · have e : ((m / 2 ^ i : Nat) : Int) / 2 = ((m / 2 ^ (i + 1) : Nat) : Int) := by
          rw [Nat.pow_succ, ← Nat.div_div_eq_div_mul]
          omega
        rw [e]
        rfl
      · have e : (((m / 2 ^ i : Nat) : Int) % 2) = ((m / 2 ^ i % 2 : Nat) : Int) := by omega
        rw [h3, bitsOf_next, List.map_append, e]
        rfl
    · rintro σ H' ⟨s', q, v, rfl, hq⟩
      walk_at "sx"
      exact k q H' s' hq
theorem code_snoc (x : Int) : ∀ r : List Int, TS.code 2 (r ++ [x]) = TS.code 2 r * 2 + x
  | [] => by
    show x * 2 ^ 0 + 0 = 0 * 2 + x
    rw [Int.pow_zero]
    omega
  | d :: r => by
    show d * 2 ^ (r ++ [x]).length + TS.code 2 (r ++ [x]) = (d * 2 ^ r.length + TS.code 2 r) * 2 + x
    rw [code_snoc x r, List.length_append, List.length_singleton, Int.pow_succ, Int.add_mul, ← Int.mul_assoc]
    omega
theorem code_bits : ∀ n m, m < 2 ^ n → TS.code 2 (bitsOf n m) = (m : Int)
  | 0, m, h => by
    have : m = 0 := by simpa using h
    subst this
    rfl
  | n + 1, m, h => by
    rw [bitsOf, code_snoc, code_bits n (m / 2) (by rw [Nat.pow_succ] at h; omega)]
    omega
theorem bits_inj {n a b : Nat} (ha : a < 2 ^ n) (hb : b < 2 ^ n) (e : bitsOf n a = bitsOf n b) : a = b := by
  have z := congrArg (TS.code 2) e
  rw [code_bits n a ha, code_bits n b hb] at z
  omega
/-- numbers of rules: ascending, below 2 ^ n -/
structure Nums (n : Nat) (ns : List Nat) : Prop where
  asc : ns.Pairwise (· < ·)
  lt : ∀ m ∈ ns, m < 2 ^ n
  ne : ns ≠ []
  few : ns.length ≤ 64
/-- one row more in the list at D -/
theorem rows_step {H1 H' H2 : Hp} {D p : Addr} {n : Nat} {ls : List (Addr × List Int)} {r : List Int} {rs : List (List Int)} (hD : H1 D = none) (hD' : H' D = some (.lst (ls.map rf))) (s' : Same H1 H') (s2 : Same H' H2) (rl : RowsAt H' n ls) (hp : H2 p = some (.tup (r.map V.int))) (b : Bits n r)
    (sz : ls.length < 1000) (e : ls.map (·.2) ++ [r] = rs) :
    ∃ acc, H2 D = some (.lst acc) ∧ acc.length < sizeLine ∧ Same H1 (upd H2 D (.lst (acc ++ [V.ref p]))) ∧ ∃ ls' : List (Addr × List Int), (upd H2 D (.lst (acc ++ [V.ref p]))) D = some (.lst (ls'.map rf)) ∧ RowsAt (upd H2 D (.lst (acc ++ [V.ref p]))) n ls' ∧ ls'.map (·.2) = rs := by
  have hD2 := s2 _ _ hD'
  refine ⟨_, hD2, ?_, Sx.Same.put (s'.trans s2) hD, ls ++ [(p, r)], ?_, fun z hz => ?_, ?_⟩
  · rw [List.length_map]
    show ls.length < 16777216
    omega
  · rw [upd_same, List.map_append]
    rfl
  · have tu : H2 z.1 = some (.tup (z.2.map V.int)) ∧ Bits n z.2 := by
      rcases List.mem_append.mp hz with m | m
      · exact ⟨s2 _ _ (rl z m).1, (rl z m).2⟩
      · rw [List.mem_singleton.mp m]
        exact ⟨hp, b⟩
    refine ⟨?_, tu.2⟩
    rw [upd_ne (ne_of tu.1 hD2 fun e => nomatch e)]
    exact tu.1
  · rw [List.map_append]
    exact e
theorem rows_nil {H : Hp} {n : Nat} : RowsAt H n [] := fun _ h => nomatch h
/-- a list made of the rows of numbers has just these, in order -/
theorem of_nums {n : Nat} {ns : List Nat} {ls ks : List (Addr × List Int)} (N : Nums n ns) (e : ∀ r, r ∈ ls.map (·.2) ↔ r ∈ ns.map (bitsOf n)) (o : Of ls ks) : ks.map (·.2) = ns.map (bitsOf n) := by
  have ndr : (ns.map (bitsOf n)).Nodup := List.pairwise_map.mpr (List.Pairwise.imp_of_mem (fun {a b} ha hb hlt h => Nat.ne_of_lt hlt (bits_inj (N.lt a ha) (N.lt b hb) h)) N.asc)
  have mem : ∀ r, r ∈ ks.map (·.2) ↔ r ∈ ns.map (bitsOf n) := fun r => by
    rw [← e r]
    exact ⟨fun h => (List.mem_map.mp h).elim fun p hp => List.mem_map.mpr ⟨p, o.1 p hp.1, hp.2⟩, fun h => (List.mem_map.mp h).elim fun p hp => hp.2 ▸ o.2.1 p hp.1⟩
  have perm := (List.perm_ext_iff_of_nodup o.2.2.1.1 ndr).mpr mem
  refine List.Perm.eq_of_pairwise (le := fun a b => TS.code 2 a ≤ TS.code 2 b) (fun a b ha hb h1 h2 => ?_) (List.pairwise_map.mpr o.2.2.1.2) (List.pairwise_map.mpr (List.Pairwise.imp_of_mem (fun {a b} ha hb h => ?_) N.asc)) perm
  · obtain ⟨c, hc, rfl⟩ := List.mem_map.mp ((mem a).mp ha)
    obtain ⟨d, hd, rfl⟩ := List.mem_map.mp hb
    rw [code_bits n c (N.lt c hc), code_bits n d (N.lt d hd)] at h1 h2
    have : c = d := by omega
    rw [this]
  · show TS.code 2 (bitsOf n a) ≤ TS.code 2 (bitsOf n b)
    rw [code_bits n a (N.lt a ha), code_bits n b (N.lt b hb)]
    omega
/-- 1, 2, 4 .. -/
def spFull : Sp := fun vs H Q _ => ∃ n : Nat, vs = [.int n] ∧ n ≤ 6 ∧ ∀ H', Same H H' → Q (.int (2 ^ n : Nat)) H'
theorem ok_full (T : Txt P K mg A) : FnOk P w K mg base CX0 1 A.a__law_full A.d__law_full ["size"] spFull := by
  refine T.F__law_full.ok sc__law_full (fun vs H Q E h => ?_) (fun cdv A' outer s H vs Q E hr h => ?_)
  · obtain ⟨n, rfl, _⟩ := h
    rfl
  · obtain ⟨n, rfl, sn, k⟩ := h
    refine ⟨_, (pss_one (ps_ret (pe_ix ix_seq (pe_lst (pa_cons pe_int (pa_cons pe_int (pa_cons pe_int (pa_cons pe_int (pa_cons pe_int (pa_cons pe_int (pa_cons pe_int pa_nil)))))))) (pv 0) (fun _ _ => rfl)))), ?_⟩
    walk_at "sx"
    rename_i p0 np0 H1 s1 h1
    have hn : n = 0 ∨ n = 1 ∨ n = 2 ∨ n = 3 ∨ n = 4 ∨ n = 5 ∨ n = 6 := by omega
    rcases hn with rfl | rfl | rfl | rfl | rfl | rfl | rfl
    all_goals
      refine r_ixL h1 (by rfl) ?_
      exact k _ s1
end
end K37

set_option Elab.async false
set_option linter.all false
/-! how many pairs of numbers differ at one bit alone -/
namespace Ct
/-- from a one step up at the p-th of n bits (0 the highest) -/
abbrev Up (n : Nat) (S : List Nat) (a p : Nat) : Prop := a / 2 ^ (n - 1 - p) % 2 = 0 ∧ a + 2 ^ (n - 1 - p) ∈ S
def cnt (n : Nat) (S : List Nat) (a : Nat) : Nat := ((List.range n).filter fun p => decide (Up n S a p)).length
def edges (n : Nat) (S : List Nat) : Nat := (S.map (cnt n S)).sum
def ones : Nat → Nat
  | 0 => 0
  | k + 1 => ones ((k + 1) / 2) + (k + 1) % 2
decreasing_by omega
def pops : List Nat := [0,1,1,2,1,2,2,3,1,2,2,3,2,3,3,4,1,2,2,3,2,3,3,4,2,3,3,4,3,4,4,5]
/-- the most pairs among m numbers -/
def F (m : Nat) : Nat := (pops.take m).sum
theorem F_split : ∀ a, a ≤ 32 → ∀ b, b ≤ 32 → a + b ≤ 32 → F a + F b + min a b ≤ F (a + b) := by
  have z : ((List.range 33).all fun a => (List.range 33).all fun b => !decide (a + b ≤ 32) || decide (F a + F b + min a b ≤ F (a + b))) = true := by decide +kernel
  intro a ha b hb h
  have z1 := List.all_eq_true.mp z a (List.mem_range.mpr (by omega))
  have z2 := List.all_eq_true.mp z1 b (List.mem_range.mpr (by omega))
  simpa [h] using z2
theorem sum_split (f : Nat → Nat) (t : Nat) : ∀ S : List Nat, (S.map f).sum = ((S.filter fun a => decide (a < t)).map f).sum + ((S.filter fun a => decide (t ≤ a)).map f).sum
  | [] => rfl
  | a :: S => by
    have ih := sum_split f t S
    rw [List.map_cons, List.sum_cons, ih]
    by_cases h : a < t
    · rw [List.filter_cons_of_pos (by simpa using h), List.filter_cons_of_neg (by simp; omega), List.map_cons, List.sum_cons]
      omega
    · rw [List.filter_cons_of_neg (by simpa using h), List.filter_cons_of_pos (by simp; omega), List.map_cons, List.sum_cons]
      omega
theorem len_split (t : Nat) : ∀ S : List Nat, S.length = (S.filter fun a => decide (a < t)).length + (S.filter fun a => decide (t ≤ a)).length
  | [] => rfl
  | a :: S => by
    have ih := len_split t S
    rw [List.length_cons, ih]
    by_cases h : a < t
    · rw [List.filter_cons_of_pos (by simpa using h), List.filter_cons_of_neg (by simp; omega), List.length_cons]
      omega
    · rw [List.filter_cons_of_neg (by simpa using h), List.filter_cons_of_pos (by simp; omega), List.length_cons]
      omega
/-- one more at a place that was 0 stays below -/
theorem up_lt {n k a : Nat} (hk : k < n) (ha : a < 2 ^ n) (b : a / 2 ^ k % 2 = 0) : a + 2 ^ k < 2 ^ n := by
  obtain ⟨m, rfl⟩ : ∃ m, n = k + 1 + m := ⟨n - (k + 1), by omega⟩
  have p0 : 0 < 2 ^ k := Nat.pow_pos (by decide)
  have e : 2 ^ (k + 1 + m) = 2 ^ k * (2 * 2 ^ m) := by rw [Nat.pow_add, Nat.pow_succ, Nat.mul_assoc]
  rw [e] at ha ⊢
  have q : a / 2 ^ k < 2 * 2 ^ m := Nat.div_lt_of_lt_mul ha
  have q2 : a / 2 ^ k + 2 ≤ 2 * 2 ^ m := by omega
  have r := Nat.div_add_mod a (2 ^ k)
  have s := Nat.mod_lt a p0
  have t := Nat.mul_le_mul_left (2 ^ k) q2
  rw [Nat.mul_add] at t
  omega
theorem bit_low {n k a : Nat} (hk : k < n) (ha : 2 ^ n ≤ a) : (a - 2 ^ n) / 2 ^ k % 2 = a / 2 ^ k % 2 := by
  obtain ⟨m, rfl⟩ : ∃ m, n = k + 1 + m := ⟨n - (k + 1), by omega⟩
  have p0 : 0 < 2 ^ k := Nat.pow_pos (by decide)
  have e : 2 ^ (k + 1 + m) = 2 ^ k * (2 * 2 ^ m) := by rw [Nat.pow_add, Nat.pow_succ, Nat.mul_assoc]
  rw [e] at ha ⊢
  obtain ⟨b, rfl⟩ : ∃ b, a = b + 2 ^ k * (2 * 2 ^ m) := ⟨a - 2 ^ k * (2 * 2 ^ m), by omega⟩
  rw [Nat.add_sub_cancel, Nat.add_mul_div_left _ _ p0]
  omega
theorem cnt_succ (n : Nat) (S : List Nat) (a : Nat) : cnt (n + 1) S a = (if a / 2 ^ n % 2 = 0 ∧ a + 2 ^ n ∈ S then 1 else 0) + ((List.range n).filter fun p => decide (a / 2 ^ (n - 1 - p) % 2 = 0 ∧ a + 2 ^ (n - 1 - p) ∈ S)).length := by
  unfold cnt
  have ef : (fun p => decide (Up (n + 1) S a p)) ∘ Nat.succ = fun p => decide (a / 2 ^ (n - 1 - p) % 2 = 0 ∧ a + 2 ^ (n - 1 - p) ∈ S) := funext fun p => by
    have e : n + 1 - 1 - (p + 1) = n - 1 - p := by omega
    show decide (a / 2 ^ (n + 1 - 1 - (p + 1)) % 2 = 0 ∧ a + 2 ^ (n + 1 - 1 - (p + 1)) ∈ S) = _
    rw [e]
  rw [List.range_succ_eq_map, List.filter_cons, List.filter_map, ef]
  by_cases h : a / 2 ^ n % 2 = 0 ∧ a + 2 ^ n ∈ S
  · have h0 : decide (Up (n + 1) S a 0) = true := decide_eq_true h
    rw [if_pos h0, if_pos h, List.length_cons, List.length_map, Nat.add_comm]
  · have h0 : ¬ decide (Up (n + 1) S a 0) = true := fun z => h (of_decide_eq_true z)
    rw [if_neg h0, if_neg h, List.length_map, Nat.zero_add]
theorem ind_sum (p : Nat → Bool) : ∀ L : List Nat, (L.map fun a => if p a = true then 1 else 0).sum = (L.filter p).length
  | [] => rfl
  | a :: L => by
    rw [List.map_cons, List.sum_cons, ind_sum p L, List.filter_cons]
    split
    · rw [List.length_cons]
      omega
    · omega
theorem sum_add (f g : Nat → Nat) : ∀ L : List Nat, (L.map fun a => f a + g a).sum = (L.map f).sum + (L.map g).sum
  | [] => rfl
  | a :: L => by
    rw [List.map_cons, List.sum_cons, sum_add f g L, List.map_cons, List.map_cons, List.sum_cons, List.sum_cons]
    omega
theorem edges_le : ∀ (n : Nat) (S : List Nat), S.Nodup → (∀ a ∈ S, a < 2 ^ n) → S.length ≤ 32 → edges n S ≤ F S.length
  | 0, S, _, _, _ => by
    have e : ∀ a, cnt 0 S a = 0 := fun a => rfl
    have z : ∀ L : List Nat, (L.map (cnt 0 S)).sum = 0 := fun L => by
      induction L with
      | nil => rfl
      | cons a L ih => rw [List.map_cons, List.sum_cons, ih, e]
    show (S.map (cnt 0 S)).sum ≤ _
    rw [z]
    exact Nat.zero_le _
  | n + 1, S, nd, lt, sz => by
    obtain ⟨S0, e0⟩ : ∃ S0, S0 = S.filter fun a => decide (a < 2 ^ n) := ⟨_, rfl⟩
    obtain ⟨Sg, eg⟩ : ∃ Sg, Sg = S.filter fun a => decide (2 ^ n ≤ a) := ⟨_, rfl⟩
    obtain ⟨S1, e1⟩ : ∃ S1, S1 = Sg.map fun a => a - 2 ^ n := ⟨_, rfl⟩
    have m0 : ∀ a, a ∈ S0 ↔ a ∈ S ∧ a < 2 ^ n := fun a => by rw [e0, List.mem_filter]; simp
    have mg : ∀ a, a ∈ Sg ↔ a ∈ S ∧ 2 ^ n ≤ a := fun a => by rw [eg, List.mem_filter]; simp
    have m1 : ∀ a, a ∈ S1 ↔ a + 2 ^ n ∈ S := fun a => by
      rw [e1, List.mem_map]
      constructor
      · rintro ⟨b, hb, rfl⟩
        have := (mg b).mp hb
        rw [Nat.sub_add_cancel this.2]
        exact this.1
      · intro h
        exact ⟨a + 2 ^ n, (mg _).mpr ⟨h, Nat.le_add_left _ _⟩, by omega⟩
    have nd0 : S0.Nodup := by rw [e0]; exact nd.filter _
    have ndg : Sg.Nodup := by rw [eg]; exact nd.filter _
    have nd1 : S1.Nodup := by
      rw [e1]
      refine List.pairwise_map.mpr (List.Pairwise.imp_of_mem (fun {a b} ha hb hne h => hne ?_) ndg)
      have := (mg a).mp ha
      have := (mg b).mp hb
      omega
    have l0 := len_split (2 ^ n) S
    rw [← e0, ← eg] at l0
    have l1 : S1.length = Sg.length := by rw [e1, List.length_map]
    have i0 := edges_le n S0 nd0 (fun a h => ((m0 a).mp h).2) (by omega)
    have i1 := edges_le n S1 nd1 (fun a h => by
      have := lt _ ((m1 a).mp h)
      rw [Nat.pow_succ] at this
      omega) (by omega)
    have low : ∀ a ∈ S0, ((List.range n).filter fun p => decide (a / 2 ^ (n - 1 - p) % 2 = 0 ∧ a + 2 ^ (n - 1 - p) ∈ S)).length = cnt n S0 a := fun a ha => by
      unfold cnt
      congr 1
      refine List.filter_congr fun p hp => ?_
      have hp' := List.mem_range.mp hp
      refine decide_eq_decide.mpr ⟨fun h => ⟨h.1, (m0 _).mpr ⟨h.2, up_lt (by omega) ((m0 a).mp ha).2 h.1⟩⟩, fun h => ⟨h.1, ((m0 _).mp h.2).1⟩⟩
    have high : ∀ a ∈ Sg, ((List.range n).filter fun p => decide (a / 2 ^ (n - 1 - p) % 2 = 0 ∧ a + 2 ^ (n - 1 - p) ∈ S)).length = cnt n S1 (a - 2 ^ n) := fun a ha => by
      unfold cnt
      congr 1
      refine List.filter_congr fun p hp => ?_
      have hp' := List.mem_range.mp hp
      have ha' := (mg a).mp ha
      refine decide_eq_decide.mpr ?_
      show _ ↔ (a - 2 ^ n) / 2 ^ (n - 1 - p) % 2 = 0 ∧ (a - 2 ^ n) + 2 ^ (n - 1 - p) ∈ S1
      rw [bit_low (show n - 1 - p < n by omega) ha'.2, m1, show a - 2 ^ n + 2 ^ (n - 1 - p) + 2 ^ n = a + 2 ^ (n - 1 - p) by omega]
    have none : ∀ a ∈ Sg, ¬ (a / 2 ^ n % 2 = 0 ∧ a + 2 ^ n ∈ S) := fun a ha h => by
      have := lt _ h.2
      have := ((mg a).mp ha).2
      rw [Nat.pow_succ] at *
      omega
    have tot : edges (n + 1) S = (S0.filter fun a => decide (a ∈ S1)).length + edges n S0 + edges n S1 := by
      unfold edges
      rw [sum_split _ (2 ^ n) S, ← e0, ← eg]
      have p0 : (S0.map (cnt (n + 1) S)).sum = (S0.map fun a => (if decide (a ∈ S1) = true then 1 else 0) + cnt n S0 a).sum := by
        congr 1
        refine List.map_congr_left fun a ha => ?_
        rw [cnt_succ, low a ha]
        have h0 : a / 2 ^ n % 2 = 0 := by rw [Nat.div_eq_of_lt ((m0 a).mp ha).2]
        congr 1
        by_cases h : a + 2 ^ n ∈ S
        · rw [if_pos ⟨h0, h⟩, if_pos (decide_eq_true ((m1 a).mpr h))]
        · rw [if_neg fun z => h z.2, if_neg fun z => h ((m1 a).mp (of_decide_eq_true z))]
      have pg : (Sg.map (cnt (n + 1) S)).sum = (S1.map (cnt n S1)).sum := by
        rw [e1, List.map_map]
        congr 1
        refine List.map_congr_left fun a ha => ?_
        rw [cnt_succ, high a ha, if_neg (none a ha), Nat.zero_add, ← e1]
        rfl
      rw [p0, pg, sum_add, ind_sum]
    have c0 : (S0.filter fun a => decide (a ∈ S1)).length ≤ S0.length := List.length_filter_le _ _
    have c1 : (S0.filter fun a => decide (a ∈ S1)).length ≤ S1.length := L2.nat_nodup_len _ _ (nd0.filter _) fun x hx => by simpa using (List.mem_filter.mp hx).2
    have f := F_split S0.length (by omega) S1.length (by omega) (by omega)
    rw [tot, l0, ← l1]
    omega
end Ct

set_option Elab.async false
set_option linter.all false
set_option maxRecDepth 100000
set_option maxHeartbeats 4000000
namespace K37
open PySem L2 Sx Ct
local macro_rules | `(tactic| walk_at "cond") => `(tactic| first
  | assumption
  | decide
  | exact c_mul_r (by first | decide | omega) (by first | decide | omega)
  | exact c_mul_l (by first | decide | omega) (by first | decide | omega)
  | exact c_div (by first | decide | omega) (by first | decide | omega)
  | exact c_pow (by first | decide | omega) (by first | decide | omega) (by first | decide | omega)
  | omega)
local macro_rules | `(tactic| walk_at "ne") => `(tactic| first
  | assumption
  | (refine Ne.symm ?_; assumption)
  | (refine' Flow.ne ?nh ?nn; (case nn => assumption); (case nh => walk_at "fl"))
  | (refine Ne.symm ?_; refine' Flow.ne ?nh ?nn; (case nn => assumption); (case nh => walk_at "fl"))
  | (refine' ne_of_none ?nh ?nn; (case nn => assumption); (case nh => walk_at "at"))
  | (refine Ne.symm ?_; refine' ne_of_none ?nh ?nn; (case nn => assumption); (case nh => walk_at "at")))
local macro_rules | `(tactic| walk_at "at") => `(tactic| first
  | assumption
  | (refine Same.up (by assumption) ?_; walk_at "at")
  | (refine Keep.up (by assumption) (by walk_at "ne") ?_; walk_at "at"))
local macro_rules | `(tactic| walk_at "fl") => `(tactic| first
  | assumption
  | (refine Flow.same (by assumption) ?_; walk_at "fl")
  | (refine Flow.keep (by assumption) (by walk_at "ne") ?_; walk_at "fl"))
local macro_rules | `(tactic| walk_at "fr") => `(tactic| first
  | assumption
  | (refine same_free (by assumption) ?_; walk_at "fr")
  | (refine Keep.free (by assumption) (by walk_at "ne") ?_; walk_at "fr"))
local macro_rules | `(tactic| walk_at "kp") => `(tactic| first
  | assumption
  | exact Keep.refl _ _
  | (refine Keep.trans ?_ (by assumption); walk_at "kp")
  | (refine Keep.trans ?_ (Keep.same (by assumption)); walk_at "kp"))
local macro_rules | `(tactic| walk_at "sm") => `(tactic| first
  | assumption
  | exact L2.Same.refl _
  | (refine L2.Same.trans ?_ (by assumption); walk_at "sm"))
local macro_rules | `(tactic| walk_at "sz") => `(tactic| first | exact Nat.le_of_ble_eq_true rfl | omega)
local macro_rules | `(tactic| walk_at "new") => `(tactic| (intro p np; generalize hE : upd _ p _ = H2; have s2 := new_same np hE; have h2 := new_at hE; clear hE))
local macro_rules | `(tactic| walk_at "newx") => `(tactic| (intro e d na nd hda; generalize hE : upd (upd _ d _) e _ = H2; have s2 := newx_same na nd hE; have h2 := newx_at hE; have h3 := newx_d hda hE; clear hE))
local macro_rules | `(tactic| walk_at "s1") => `(tactic| first
  | with_reducible refine s_seq ?_
  | with_reducible refine s_asg ?_
  | with_reducible refine s_name ?_
  | with_reducible refine s_ret ?_
  | with_reducible refine s_c ?_
  | ((with_reducible refine' s_var ?hv ?_); (case hv => rfl))
  | with_reducible refine s_op ?_
  | with_reducible refine s_un ?_
  | with_reducible refine s_ifS ?_
  | with_reducible refine s_cb ?_
  | with_reducible refine s_cons ?_
  | with_reducible refine s_nil ?_
  | with_reducible refine s_call ?_
  | with_reducible refine s_test ?_
  | with_reducible refine s_tB ?_
  | with_reducible refine s_bl ?_
  | with_reducible refine s_and ?_
  | with_reducible refine s_or ?_
  | with_reducible refine s_not ?_
  | with_reducible refine s_andV ?_
  | with_reducible refine s_orV ?_
  | with_reducible refine s_notV ?_
  | with_reducible refine s_blV ?_
  | with_reducible refine s_if ?_
  | with_reducible refine s_tup ?_
  | with_reducible refine s_lst ?_
  | with_reducible refine s_drop ?_
  | with_reducible refine s_next ?_
  | with_reducible refine s_sub ?_
  | with_reducible refine s_bm ?_
  | with_reducible refine s_callK ?_
  | with_reducible refine s_brk ?_
  | with_reducible refine s_cont ?_
  | with_reducible refine r_I0 ?_
  | with_reducible refine r_U ?_
  | with_reducible refine r_eqI ?_
  | with_reducible refine r_neI ?_
  | with_reducible refine r_isB ?_
  | with_reducible refine r_notB ?_
  | with_reducible refine i_t ?_
  | with_reducible refine i_f ?_
  | with_reducible refine i_nt ?_
  | with_reducible refine i_nf ?_
  | ((with_reducible refine' r_I ?hc ?_); (case hc => walk_at "cond"))
  | (with_reducible refine .inl ⟨_, rfl, ?_⟩)
  | (with_reducible refine ⟨_, rfl, ?_⟩)
  | ((with_reducible refine' r_ixL ?hx ?ha ?_); (case hx => walk_at "at"); (case ha => rfl))
  | ((with_reducible refine' r_ixT ?hx ?ha ?_); (case hx => walk_at "at"); (case ha => rfl))
  | ((with_reducible refine' r_setL ?hx ?ha ?_); (case hx => walk_at "at"); (case ha => rfl); intro H2 k2 h2; (try dsimp only [List.set, Int.toNat] at h2))
  | ((with_reducible refine' r_app ?hx ?hl ?_); (case hx => walk_at "at"); (case hl => first | exact Nat.lt_of_ble_eq_true rfl | omega); intro H2 k2 h2)
  | ((with_reducible refine' ty_list ?hx ?_); (case hx => walk_at "at"))
  | (refine And.intro (by (with_reducible show _ ≤ sizeLine); walk_at "sz") ?_; walk_at "new")
  | with_reducible refine s_exv ?_
  | walk_at "newx")
local macro_rules | `(tactic| walk_at "sx") => `(tactic| repeat (walk_at "s1"))
local macro_rules | `(tactic| walk_at "s2") => `(tactic| first
  | ((with_reducible refine' r_ixG ?hx ?hn ?_); (case hx => walk_at "at"); (case hn => omega))
  | ((with_reducible refine' r_ixGT ?hx ?hn ?_); (case hx => walk_at "at"); (case hn => omega))
  | (with_reducible refine ig_cons (fun hix => ?_) (fun hix => ?_))
  | ((with_reducible refine ig_nil ?_); omega)
  | ((with_reducible refine' i_T ?hc ?_); (case hc => omega))
  | ((with_reducible refine' i_F ?hc ?_); (case hc => omega))
  | (with_reducible refine i_2 (fun hc => ?_) (fun hc => ?_))
  | (with_reducible refine i_n2 (fun hc => ?_) (fun hc => ?_)))
local macro_rules | `(tactic| walk_at "go") => `(tactic| repeat' (first | walk_at "s1" | walk_at "s2"))

local macro_rules | `(tactic| walk_at "s1") => `(tactic| first
  | with_reducible refine s_chain ?_
  | with_reducible refine s_fldS ?_
  | with_reducible refine s_fld ?_
  | with_reducible refine s_dIn ?_
  | with_reducible refine s_dNotIn ?_
  | with_reducible refine s_sl ?_
  | with_reducible refine s_noPart ?_
  | with_reducible refine s_part ?_
  | with_reducible refine s_meth ?_
  | with_reducible refine s_make ?_)

/-! ties as lists of three numbers -/
theorem get_bits : ∀ (n m p : Nat), p < n → (bitsOf n m)[p]? = some ((m / 2 ^ (n - 1 - p) % 2 : Nat) : Int)
  | 0, _, _, h => absurd h (Nat.not_lt_zero _)
  | n + 1, m, p, h => by
    have hb := (bitsOf_bits n (m / 2)).1
    rcases Nat.lt_or_eq_of_le (Nat.le_of_lt_succ h) with l | rfl
    · have e : n + 1 - 1 - p = (n - 1 - p) + 1 := by omega
      rw [e, bitsOf, List.getElem?_append_left (by rw [hb]; exact l), get_bits n (m / 2) p l, Nat.div_div_eq_div_mul, ← Nat.pow_succ']
    · have e : p + 1 - 1 - p = 0 := by omega
      rw [e, Nat.pow_zero, Nat.div_one, bitsOf, List.getElem?_append_right (by rw [hb]; exact Nat.le_refl _), hb, Nat.sub_self]
      rfl
theorem set_one : ∀ n m p, p < n → m / 2 ^ (n - 1 - p) % 2 = 0 → (bitsOf n m).set p 1 = bitsOf n (m + 2 ^ (n - 1 - p))
  | 0, _, _, h, _ => absurd h (Nat.not_lt_zero _)
  | n + 1, m, p, h, b => by
    have hb := (bitsOf_bits n (m / 2)).1
    rcases Nat.lt_or_eq_of_le (Nat.le_of_lt_succ h) with l | rfl
    · have e : n + 1 - 1 - p = (n - 1 - p) + 1 := by omega
      rw [e, Nat.pow_succ'] at b
      rw [← Nat.div_div_eq_div_mul] at b
      rw [e, bitsOf, List.set_append_left _ _ (by rw [hb]; exact l), set_one n (m / 2) p l b, Nat.pow_succ', bitsOf]
      have e3 : (m + 2 * 2 ^ (n - 1 - p)) / 2 = m / 2 + 2 ^ (n - 1 - p) := by omega
      have e4 : (m + 2 * 2 ^ (n - 1 - p)) % 2 = m % 2 := by omega
      rw [e3, e4]
    · have e : p + 1 - 1 - p = 0 := by omega
      rw [e, Nat.pow_zero, Nat.div_one] at b
      rw [e, Nat.pow_zero, bitsOf, List.set_append_right _ _ (by rw [hb]; exact Nat.le_refl _), hb, Nat.sub_self, bitsOf]
      have e3 : (m + 1) / 2 = m / 2 := by omega
      have e4 : (m + 1) % 2 = 1 := by omega
      rw [e3, e4]
      rfl
def tri (ns : List Nat) (n i m p : Nat) : List Int := [(i : Int), ((ns.idxOf (m + 2 ^ (n - 1 - p)) : Nat) : Int), (p : Int)]
/-- the ties of the i-th rule m at the first j points -/
def rowT (n : Nat) (ns : List Nat) (i m j : Nat) : List (List Int) := ((List.range j).filter fun p => decide (Up n ns m p)).map (tri ns n i m)
def rawT (n : Nat) (ns : List Nat) (i : Nat) : List (List Int) := (List.range i).flatMap fun k => rowT n ns k (ns.getD k 0) n
theorem rowT_succ (n : Nat) (ns : List Nat) (i m j : Nat) : rowT n ns i m (j + 1) = rowT n ns i m j ++ (if Up n ns m j then [tri ns n i m j] else []) := by
  unfold rowT
  rw [List.range_succ, List.filter_append, List.map_append]
  congr 1
  by_cases h : Up n ns m j
  · simp [h]
  · simp [h]
theorem rawT_succ (n : Nat) (ns : List Nat) (i : Nat) : rawT n ns (i + 1) = rawT n ns i ++ rowT n ns i (ns.getD i 0) n := by
  unfold rawT
  rw [List.range_succ, List.flatMap_append]
  simp
theorem rawT_len (n : Nat) (ns : List Nat) : (rawT n ns ns.length).length = edges n ns := by
  have z : ∀ i, i ≤ ns.length → (rawT n ns i).length = ((ns.take i).map (cnt n ns)).sum := fun i => by
    induction i with
    | zero => intro _; rfl
    | succ i ih =>
      intro h
      have hx : ns[i]? = some ns[i] := List.getElem?_eq_getElem (by omega)
      have g : ns.getD i 0 = ns[i] := by simp [show i < ns.length by omega]
      rw [rawT_succ, List.length_append, ih (by omega), List.take_succ, hx, List.map_append, List.sum_append, g]
      unfold rowT cnt
      simp
  rw [z _ (Nat.le_refl _), List.take_length]
  rfl
/-- what a tie is -/
def Tie (n : Nat) (ns : List Nat) (t : List Int) : Prop := ∃ (i j p a : Nat), t = [(i : Int), (j : Int), (p : Int)] ∧ p < n ∧ ns[i]? = some a ∧ a / 2 ^ (n - 1 - p) % 2 = 0 ∧ ns[j]? = some (a + 2 ^ (n - 1 - p))
theorem idx_get {ns : List Nat} (nd : ns.Nodup) {j x : Nat} (h : ns[j]? = some x) : ns.idxOf x = j := by
  obtain ⟨l, e⟩ := List.getElem?_eq_some_iff.mp h
  rw [← e]
  exact nd.idxOf_getElem j l
theorem get_idx {ns : List Nat} {x : Nat} (h : x ∈ ns) : ns[ns.idxOf x]? = some x := by
  have l := List.idxOf_lt_length_of_mem h
  rw [List.getElem?_eq_getElem l]
  simp
theorem raw_mem {n : Nat} {ns : List Nat} (nd : ns.Nodup) (t : List Int) : t ∈ rawT n ns ns.length ↔ Tie n ns t := by
  unfold rawT
  rw [List.mem_flatMap]
  constructor
  · rintro ⟨i, hi, ht⟩
    obtain ⟨p, hp, rfl⟩ := List.mem_map.mp ht
    obtain ⟨hp1, hp2⟩ := List.mem_filter.mp hp
    have li := List.mem_range.mp hi
    have hx : ns[i]? = some ns[i] := List.getElem?_eq_getElem li
    have g : ns.getD i 0 = ns[i] := by simp [li]
    have up := of_decide_eq_true hp2
    rw [g] at up ⊢
    exact ⟨i, _, p, ns[i], rfl, List.mem_range.mp hp1, hx, up.1, get_idx up.2⟩
  · rintro ⟨i, j, p, a, rfl, hp, hi, b, hj⟩
    have li := (List.getElem?_eq_some_iff.mp hi).1
    have g : ns.getD i 0 = a := by simp [hi]
    refine ⟨i, List.mem_range.mpr li, List.mem_map.mpr ⟨p, List.mem_filter.mpr ⟨List.mem_range.mpr hp, decide_eq_true ?_⟩, ?_⟩⟩
    · rw [g]
      exact ⟨b, List.mem_of_getElem? hj⟩
    · unfold tri
      rw [g, idx_get nd hj]
theorem raw_nodup (n : Nat) (ns : List Nat) (k : Nat) : (rawT n ns k).Nodup := by
  unfold rawT List.Nodup
  rw [List.pairwise_flatMap]
  refine ⟨fun i _ => ?_, ?_⟩
  · unfold rowT
    refine List.pairwise_map.mpr ?_
    refine List.Pairwise.imp ?_ (List.Pairwise.filter _ List.nodup_range)
    intro a b hne e
    simp [tri] at e
    exact hne (by omega)
  · refine List.Pairwise.imp ?_ List.nodup_range
    intro a b hne x hx y hy e
    obtain ⟨p, _, rfl⟩ := List.mem_map.mp hx
    obtain ⟨q, _, rfl⟩ := List.mem_map.mp hy
    simp [tri] at e
    exact hne (by omega)
/-- the ties of a list of rules, ascending -/
structure Ties (n : Nat) (ns : List Nat) (L : List (List Int)) : Prop where
  nd : L.Nodup
  mem : ∀ t, t ∈ L ↔ Tie n ns t
  asc : L.Pairwise fun a b => TS.code 64 a ≤ TS.code 64 b
theorem code3 (i j p : Int) : TS.code 64 [i, j, p] = i * 4096 + (j * 64 + p) := by
  show i * 64 ^ 2 + (j * 64 ^ 1 + (p * 64 ^ 0 + 0)) = _
  omega
theorem tie_bd {n : Nat} {ns : List Nat} (few : ns.length ≤ 64) (sn : n ≤ 8) {t : List Int} (h : Tie n ns t) : ∃ i j p : Nat, t = [(i : Int), (j : Int), (p : Int)] ∧ i < 64 ∧ j < 64 ∧ p < 8 := by
  obtain ⟨i, j, p, a, rfl, hp, hi, _, hj⟩ := h
  have := (List.getElem?_eq_some_iff.mp hi).1
  have := (List.getElem?_eq_some_iff.mp hj).1
  exact ⟨i, j, p, rfl, by omega, by omega, by omega⟩
theorem Ties.eq {n : Nat} {ns : List Nat} {L M : List (List Int)} (few : ns.length ≤ 64) (sn : n ≤ 8) (a : Ties n ns L) (b : Ties n ns M) : L = M := by
  have pm := (List.perm_ext_iff_of_nodup a.nd b.nd).mpr fun t => (a.mem t).trans (b.mem t).symm
  refine List.Perm.eq_of_pairwise (le := fun a b => TS.code 64 a ≤ TS.code 64 b) (fun s t hs ht h1 h2 => ?_) a.asc b.asc pm
  obtain ⟨i, j, p, rfl, b1, b2, b3⟩ := tie_bd few sn ((a.mem s).mp hs)
  obtain ⟨i', j', p', rfl, c1, c2, c3⟩ := tie_bd few sn ((b.mem t).mp ht)
  rw [code3, code3] at h1 h2
  have : i = i' := by omega
  have : j = j' := by omega
  have : p = p' := by omega
  simp [*]
theorem raw_few (n : Nat) (ns : List Nat) : ∀ k, (rawT n ns k).length ≤ n * k
  | 0 => Nat.le_refl _
  | k + 1 => by
    rw [rawT_succ, List.length_append, Nat.mul_succ]
    have := raw_few n ns k
    have r : (rowT n ns k (ns.getD k 0) n).length ≤ n := by
      unfold rowT
      rw [List.length_map]
      exact Nat.le_trans (List.length_filter_le _ _) (by rw [List.length_range]; exact Nat.le_refl _)
    omega
theorem perm_map {α β : Type} {f : α → β} {ys zs : List β} (h : ys.Perm zs) : ∀ qs : List α, zs = qs.map f → ∃ qs' : List α, qs'.Perm qs ∧ ys = qs'.map f := by
  induction h with
  | nil =>
    intro qs e
    cases qs with
    | nil => exact ⟨[], .nil, rfl⟩
    | cons _ _ => cases e
  | cons x h ih =>
    intro qs e
    cases qs with
    | nil => cases e
    | cons q r =>
      rw [List.map_cons] at e
      obtain ⟨e1, e2⟩ := List.cons.inj e
      obtain ⟨r', p, e3⟩ := ih r e2
      exact ⟨q :: r', p.cons q, by rw [List.map_cons, e1, e3]⟩
  | swap x y l =>
    intro qs e
    match qs, e with
    | a :: b :: r, e =>
      rw [List.map_cons, List.map_cons] at e
      obtain ⟨e1, e2⟩ := List.cons.inj e
      obtain ⟨e3, e4⟩ := List.cons.inj e2
      exact ⟨b :: a :: r, .swap a b r, by rw [List.map_cons, List.map_cons, e1, e3, e4]⟩
  | trans h1 h2 ih1 ih2 =>
    intro qs e
    obtain ⟨q1, p1, e1⟩ := ih2 qs e
    obtain ⟨q2, p2, e2⟩ := ih1 q1 e1
    exact ⟨q2, p2.trans p1, e2⟩
/-- the rows' numbers, kept by row -/
def dk (n : Nat) (ns : List Nat) (s : Nat) : List (List Key × V) := (ns.zipIdx s).map fun q => ((bitsOf n q.1).map Sum.inl, V.int (q.2 : Nat))
theorem inl_inj' : ∀ {r r' : List Int}, (r.map Sum.inl : List L2.Key) = r'.map Sum.inl → r = r' := inl_inj
theorem dk_get {n : Nat} : ∀ (ns : List Nat) (s x : Nat), (∀ m ∈ ns, m < 2 ^ n) → x < 2 ^ n → valV (dk n ns s) ((bitsOf n x).map Sum.inl) = if x ∈ ns then some (V.int ((s + ns.idxOf x : Nat) : Int)) else none
  | [], s, x, _, _ => by simp [dk, valV_nil]
  | m :: ns, s, x, lt, hx => by
    have ih := dk_get ns (s + 1) x (fun y hy => lt y (List.mem_cons_of_mem _ hy)) hx
    unfold dk at ih ⊢
    rw [List.zipIdx_cons, List.map_cons]
    by_cases h : m = x
    · subst h
      rw [valV_pos rfl, if_pos List.mem_cons_self]
      simp
    · rw [valV_neg (fun e => h (bits_inj (lt m List.mem_cons_self) hx (inl_inj e))), ih]
      by_cases hm : x ∈ ns
      · rw [if_pos hm, if_pos (List.mem_cons_of_mem _ hm), List.idxOf_cons]
        have : (m == x) = false := by simpa using h
        rw [this]
        simp
        omega
      · rw [if_neg hm, if_neg]
        simp
        exact ⟨fun e => h e.symm, hm⟩
theorem dk_snoc (n : Nat) (ns : List Nat) {i m : Nat} (h : ns[i]? = some m) : dk n (ns.take (i + 1)) 0 = dk n (ns.take i) 0 ++ [((bitsOf n m).map Sum.inl, V.int (i : Nat))] := by
  unfold dk
  have l := (List.getElem?_eq_some_iff.mp h).1
  rw [List.take_succ, h, Option.toList_some, List.zipIdx_append, List.map_append]
  simp [Nat.min_eq_left (Nat.le_of_lt l)]
end K37

set_option Elab.async false
set_option linter.all false
set_option maxRecDepth 100000
set_option maxHeartbeats 4000000
namespace K37
open PySem L2 Sx Ct
local macro_rules | `(tactic| walk_at "cond") => `(tactic| first
  | assumption
  | decide
  | exact c_mul_r (by first | decide | omega) (by first | decide | omega)
  | exact c_mul_l (by first | decide | omega) (by first | decide | omega)
  | exact c_div (by first | decide | omega) (by first | decide | omega)
  | exact c_pow (by first | decide | omega) (by first | decide | omega) (by first | decide | omega)
  | omega)
local macro_rules | `(tactic| walk_at "ne") => `(tactic| first
  | assumption
  | (refine Ne.symm ?_; assumption)
  | (refine' Flow.ne ?nh ?nn; (case nn => assumption); (case nh => walk_at "fl"))
  | (refine Ne.symm ?_; refine' Flow.ne ?nh ?nn; (case nn => assumption); (case nh => walk_at "fl"))
  | (refine' ne_of_none ?nh ?nn; (case nn => assumption); (case nh => walk_at "at"))
  | (refine Ne.symm ?_; refine' ne_of_none ?nh ?nn; (case nn => assumption); (case nh => walk_at "at")))
local macro_rules | `(tactic| walk_at "at") => `(tactic| first
  | assumption
  | (refine Same.up (by assumption) ?_; walk_at "at")
  | (refine Keep.up (by assumption) (by walk_at "ne") ?_; walk_at "at"))
local macro_rules | `(tactic| walk_at "fl") => `(tactic| first
  | assumption
  | (refine Flow.same (by assumption) ?_; walk_at "fl")
  | (refine Flow.keep (by assumption) (by walk_at "ne") ?_; walk_at "fl"))
local macro_rules | `(tactic| walk_at "fr") => `(tactic| first
  | assumption
  | (refine same_free (by assumption) ?_; walk_at "fr")
  | (refine Keep.free (by assumption) (by walk_at "ne") ?_; walk_at "fr"))
local macro_rules | `(tactic| walk_at "kp") => `(tactic| first
  | assumption
  | exact Keep.refl _ _
  | (refine Keep.trans ?_ (by assumption); walk_at "kp")
  | (refine Keep.trans ?_ (Keep.same (by assumption)); walk_at "kp"))
local macro_rules | `(tactic| walk_at "sm") => `(tactic| first
  | assumption
  | exact L2.Same.refl _
  | (refine L2.Same.trans ?_ (by assumption); walk_at "sm"))
local macro_rules | `(tactic| walk_at "sz") => `(tactic| first | exact Nat.le_of_ble_eq_true rfl | omega)
local macro_rules | `(tactic| walk_at "new") => `(tactic| (intro p np; generalize hE : upd _ p _ = H2; have s2 := new_same np hE; have h2 := new_at hE; clear hE))
local macro_rules | `(tactic| walk_at "newx") => `(tactic| (intro e d na nd hda; generalize hE : upd (upd _ d _) e _ = H2; have s2 := newx_same na nd hE; have h2 := newx_at hE; have h3 := newx_d hda hE; clear hE))
local macro_rules | `(tactic| walk_at "s1") => `(tactic| first
  | with_reducible refine s_seq ?_
  | with_reducible refine s_asg ?_
  | with_reducible refine s_name ?_
  | with_reducible refine s_ret ?_
  | with_reducible refine s_c ?_
  | ((with_reducible refine' s_var ?hv ?_); (case hv => rfl))
  | with_reducible refine s_op ?_
  | with_reducible refine s_un ?_
  | with_reducible refine s_ifS ?_
  | with_reducible refine s_cb ?_
  | with_reducible refine s_cons ?_
  | with_reducible refine s_nil ?_
  | with_reducible refine s_call ?_
  | with_reducible refine s_test ?_
  | with_reducible refine s_tB ?_
  | with_reducible refine s_bl ?_
  | with_reducible refine s_and ?_
  | with_reducible refine s_or ?_
  | with_reducible refine s_not ?_
  | with_reducible refine s_andV ?_
  | with_reducible refine s_orV ?_
  | with_reducible refine s_notV ?_
  | with_reducible refine s_blV ?_
  | with_reducible refine s_if ?_
  | with_reducible refine s_tup ?_
  | with_reducible refine s_lst ?_
  | with_reducible refine s_drop ?_
  | with_reducible refine s_next ?_
  | with_reducible refine s_sub ?_
  | with_reducible refine s_bm ?_
  | with_reducible refine s_callK ?_
  | with_reducible refine s_brk ?_
  | with_reducible refine s_cont ?_
  | with_reducible refine r_I0 ?_
  | with_reducible refine r_U ?_
  | with_reducible refine r_eqI ?_
  | with_reducible refine r_neI ?_
  | with_reducible refine r_isB ?_
  | with_reducible refine r_notB ?_
  | with_reducible refine i_t ?_
  | with_reducible refine i_f ?_
  | with_reducible refine i_nt ?_
  | with_reducible refine i_nf ?_
  | ((with_reducible refine' r_I ?hc ?_); (case hc => walk_at "cond"))
  | (with_reducible refine .inl ⟨_, rfl, ?_⟩)
  | (with_reducible refine ⟨_, rfl, ?_⟩)
  | ((with_reducible refine' r_ixL ?hx ?ha ?_); (case hx => walk_at "at"); (case ha => rfl))
  | ((with_reducible refine' r_ixT ?hx ?ha ?_); (case hx => walk_at "at"); (case ha => rfl))
  | ((with_reducible refine' r_setL ?hx ?ha ?_); (case hx => walk_at "at"); (case ha => rfl); intro H2 k2 h2; (try dsimp only [List.set, Int.toNat] at h2))
  | ((with_reducible refine' r_app ?hx ?hl ?_); (case hx => walk_at "at"); (case hl => first | exact Nat.lt_of_ble_eq_true rfl | omega); intro H2 k2 h2)
  | ((with_reducible refine' ty_list ?hx ?_); (case hx => walk_at "at"))
  | (refine And.intro (by (with_reducible show _ ≤ sizeLine); walk_at "sz") ?_; walk_at "new")
  | with_reducible refine s_exv ?_
  | walk_at "newx")
local macro_rules | `(tactic| walk_at "sx") => `(tactic| repeat (walk_at "s1"))
local macro_rules | `(tactic| walk_at "s2") => `(tactic| first
  | ((with_reducible refine' r_ixG ?hx ?hn ?_); (case hx => walk_at "at"); (case hn => omega))
  | ((with_reducible refine' r_ixGT ?hx ?hn ?_); (case hx => walk_at "at"); (case hn => omega))
  | (with_reducible refine ig_cons (fun hix => ?_) (fun hix => ?_))
  | ((with_reducible refine ig_nil ?_); omega)
  | ((with_reducible refine' i_T ?hc ?_); (case hc => omega))
  | ((with_reducible refine' i_F ?hc ?_); (case hc => omega))
  | (with_reducible refine i_2 (fun hc => ?_) (fun hc => ?_))
  | (with_reducible refine i_n2 (fun hc => ?_) (fun hc => ?_)))
local macro_rules | `(tactic| walk_at "go") => `(tactic| repeat' (first | walk_at "s1" | walk_at "s2"))

local macro_rules | `(tactic| walk_at "s1") => `(tactic| first
  | with_reducible refine s_chain ?_
  | with_reducible refine s_fldS ?_
  | with_reducible refine s_fld ?_
  | with_reducible refine s_dIn ?_
  | with_reducible refine s_dNotIn ?_
  | with_reducible refine s_sl ?_
  | with_reducible refine s_noPart ?_
  | with_reducible refine s_part ?_
  | with_reducible refine s_meth ?_
  | with_reducible refine s_make ?_)

section
variable {P : Program} {w : World} {K : PySem.W.Frag} {mg : Str → Option Value} {base : Heap} {A : Ad}
/-- a list of rules of these numbers -/
def Rn (C : Addr) (H : Hp) (x : Addr) (n : Nat) (ns : List Nat) : Prop := ∃ ks, RuAt C H x n ks ∧ ks.map (·.2) = ns.map (bitsOf n)
theorem Rn.same {C : Addr} {H H' : Hp} {x : Addr} {n : Nat} {ns : List Nat} (e : Same H H') (h : Rn C H x n ns) : Rn C H' x n ns := by
  obtain ⟨ks, h1, h2⟩ := h
  exact ⟨ks, h1.same e, h2⟩
/-- tuples of numbers, each at its place -/
def TupsAt (H : Hp) (qs : List (Addr × List Int)) : Prop := ∀ q ∈ qs, H q.1 = some (.tup (q.2.map V.int))
theorem TupsAt.same {H H' : Hp} {qs : List (Addr × List Int)} (e : Same H H') (h : TupsAt H qs) : TupsAt H' qs := fun q hq => e _ _ (h q hq)
def spTies (C : Addr) : Sp := fun vs H Q _ => ∃ (x : Addr) (n : Nat) (ns : List Nat), vs = [.ref x] ∧ Rn C H x n ns ∧ Nums n ns ∧ ns.length ≤ 64 ∧ n ≤ 8 ∧
  ∀ (t : Addr) (qs : List (Addr × List Int)) H', Same H H' → H' t = some (.tup (qs.map rf)) → TupsAt H' qs → Ties n ns (qs.map (·.2)) → Q (.ref t) H'
theorem raw_le (n : Nat) (ns : List Nat) (few : ns.length ≤ 64) (sn : n ≤ 8) (i m j : Nat) (hi : i < ns.length) (hj : j < n) : (rawT n ns i).length + (rowT n ns i m j).length < 1000 := by
  have r : (rowT n ns i m j).length ≤ j := by
    unfold rowT
    rw [List.length_map]
    exact Nat.le_trans (List.length_filter_le _ _) (by rw [List.length_range]; exact Nat.le_refl _)
  have b := raw_few n ns i
  have c := Nat.mul_le_mul sn (show i ≤ 64 by omega)
  omega
theorem ok_ties (T : Txt P K mg A) : FnOk P w K mg base CX0 2 A.a_ties_of A.d_ties_of ["rules"] (spTies A.c_Rules) := by
  refine T.F_ties_of.ok sc_ties_of (fun vs H Q E h => ?_) (fun cdv A' outer s H vs Q E hr h => ?_)
  · obtain ⟨x, n, ns, rfl, _⟩ := h
    rfl
  · obtain ⟨x, n, ns, rfl, ⟨ks, ru, ek⟩, N, few, sn, k⟩ := h
    have G_with_value := ok_with (w := w) (base := base) T
    refine ⟨_, (pss_cons (ps_setDc (i := 2) (u0 := .dT []) (own := [("number", 7), ("row", 1)]) (g := (gTup K 2 (gCons (gName 7) (gCons (gName 1) gNil)))) (.inr rfl) hr.units0 rfl sc_ties_of.nd rfl rfl (swd_true rfl rfl rfl (by decide +kernel)) (pi_enumT (by rfl) T.n_enumerate (pa_cons (pe_fld (pv 0) rfl) pa_nil)) (blkOk_by (own := [("number", 7), ("row", 1)]) (N := ["rules", "row", "numbers", "ties", "i", "point", "higher", "number"]) (sc := defScope s_ties_of) (by decide +kernel)) ⟨fun _ _ _ _ _ => (pg_tup rfl (pgs_cons (pg_name (i := 7) sc_ties_of.nd rfl (Or.inl rfl)) (pgs_cons (pg_name (i := 1) sc_ties_of.nd rfl (Or.inl rfl)) pgs_nil))), fun _ _ _ _ _ => pts_nil, fun _ _ _ _ _ => (pv 1), fun _ _ _ _ _ => (pv 7)⟩)
  (pss_cons (ps_set (i := 3) sc_ties_of.nd rfl (Or.inl rfl) (pe_lst pa_nil))
  (pss_cons (ps_for PassesOwn.never rfl (pi_enumT (by rfl) T.n_enumerate (pa_cons (pe_fld (pv 0) rfl) pa_nil)) (pg_tup rfl (pgs_cons (pg_name (i := 4) sc_ties_of.nd rfl (Or.inl rfl)) (pgs_cons (pg_name (i := 1) sc_ties_of.nd rfl (Or.inl rfl)) pgs_nil)))
  (pss_one (ps_for PassesOwn.never rfl (pi_range1 rfl T.n_range (pa_cons (pe_fld (pv 0) rfl) pa_nil)) (pg_name (i := 5) sc_ties_of.nd rfl (Or.inl rfl))
  (pss_cons (ps_set (i := 6) sc_ties_of.nd rfl (Or.inl rfl) (pe_call G_with_value (hr.mono (by decide)) rfl T.g_with_value T.F_with_value.kp (B_with_value T) .nil pass0 (pa_cons (pv 1) (pa_cons (pv 5) (pa_cons pe_int pa_nil)))))
  (pss_one (ps_if (PW.pt (pw_and (pt_cmpR op_eq (pe_ix ix_seq (pv 1) (pv 5) (fun _ _ => rfl)) pe_int (nomark _)) (pw_and1 (pt_cmp (pc_din (u1 hr) (pv 6) (pv 2)))))) (pss_one (ps_expr (pe_bm PySem.F.plainAttrs_list PySem.F.slot_list_append PySem.F.type_list_append mt_append (pv 3) (pa_cons (pe_tup (pa_cons (pv 4) (pa_cons (pe_dget (u1 hr) (pv 2) (pv 6) (fun _ _ => rfl)) (pa_cons (pv 5) pa_nil)))) pa_nil)))) pss_nil))))))
  (pss_one (ps_ret (pe_callTy call_tuple_of (by rfl) T.n_tuple (by decide +kernel) (pa_cons (pe_callB cr_sortN (by rfl) T.n_sorted (by decide +kernel) (pa_cons (pv 3) pa_nil)) pa_nil))))))), ?_⟩
    obtain ⟨dx, t, kn, h1, h2, h3, rows, asc, ne, sz⟩ := id ru
    have nd : ns.Nodup := N.asc.imp fun h => Nat.ne_of_lt h
    have lk : ks.length = ns.length := by simpa using congrArg List.length ek
    have row_i : ∀ {i : Nat} {y : V}, (ks.map rf)[i]? = some y → ∃ (q : Addr × List Int) (m : Nat), y = .ref q.1 ∧ ns[i]? = some m ∧ q.2 = bitsOf n m ∧ H q.1 = some (.tup (q.2.map V.int)) ∧ m < 2 ^ n := by
      intro i y hy
      rw [List.getElem?_map] at hy
      obtain ⟨q, hq, rfl⟩ := Option.map_eq_some_iff.mp hy
      have e := congrArg (fun l => l[i]?) ek
      simp only [List.getElem?_map, hq, Option.map_some] at e
      obtain ⟨m, hm, em⟩ := Option.map_eq_some_iff.mp e.symm
      exact ⟨q, m, rfl, hm, em.symm, (rows q (List.mem_of_getElem? hq)).1, N.lt m (List.mem_of_getElem? hm)⟩
    have h2' : True → H t = some (.tup (ks.map rf)) := fun _ => h2
    clear h2
    walk_at "sx"
    refine ⟨_, rfl, _, _, _, _, _, rfl, h1, T.cl_Rules, T.no_Rules_rows, rfl, t, _, rfl, SqT.of (h2' trivial), fun D hD => dcp_it (walk_enumT (K := K) (a := t) (xs := ks.map rf)) (fun i H' => Same H H' ∧ H' D = some (.dT (dk n (ns.take i) 0))) ⟨Same.new hD, by rw [upd_same]; rfl⟩ (fun i H' _ h => SqT.of (h.1 _ _ (h2' trivial))) ?_ ?_⟩
    · rintro i y H' H'' hi ⟨s', hD'⟩ ⟨T1, u, v, rfl, nT, rfl, eu, ev⟩
      cases eu
      obtain ⟨q, m, rfl, hm, eq, hq, ltm⟩ := row_i ev
      generalize hE : upd H' T1 _ = H2
      have s2 := new_same nT hE
      have g2 := new_at hE
      clear hE
      have hD2 := s2 _ _ hD'
      refine ⟨T1, _, rfl, SqT.of g2, rfl, _, _, rfl, s_name ⟨_, _, rfl, s_name ⟨rfl, rfl, s_yes (i_t ?_)⟩⟩⟩
      refine s_var rfl (s_var rfl ?_)
      have li : i < ns.length := by
        have := (List.getElem?_eq_some_iff.mp hm).1
        exact this
      have nx := dk_snoc n ns hm
      have abs : valV (dk n (ns.take i) 0) ((bitsOf n m).map Sum.inl) = none := by
        rw [dk_get (ns.take i) 0 m (fun y hy => N.lt y (List.mem_of_mem_take hy)) ltm, if_neg]
        intro hmem
        obtain ⟨j, hj, ej⟩ := List.getElem_of_mem hmem
        rw [List.length_take] at hj
        rw [List.getElem_take] at ej
        obtain ⟨_, em⟩ := List.getElem?_eq_some_iff.mp hm
        have z := List.pairwise_iff_getElem.mp N.asc j i (by omega) li (by omega)
        rw [ej, em] at z
        exact Nat.lt_irrefl _ z
      refine ⟨_, DPut.t (k := (bitsOf n m).map Sum.inl) hD2 ?_ ?_, Sx.Same.put (s'.trans s2) hD, ?_⟩
      · rw [← eq, List.map_map]
        exact (s'.trans s2) _ _ hq
      · unfold dk
        rw [List.length_map, List.length_zipIdx, List.length_take]
        exact Nat.lt_of_le_of_lt (Nat.min_le_right _ _) (by show ns.length < 16777216; omega)
      · rw [upd_same, nx, putK_new]
        exact abs
    · rintro H' ⟨s', hD'⟩
      rw [List.length_map, lk, List.take_length] at hD'
      walk_at "sx"
      rename_i pt npt H2 s2 hpt
      have hD2 := s2 _ _ hD'
      have s02 := s'.trans s2
      have pt0 : H pt = none := Same.free s' npt
      have ptD : D ≠ pt := ne_of_none hD' npt
      have hpt' : True → H2 pt = some (.lst []) := fun _ => hpt
      clear hpt
      refine ⟨_, rfl, _, _, _, _, _, rfl, s02 _ _ h1, T.cl_Rules, T.no_Rules_rows, rfl, t, _, rfl, SqT.of (s02 _ _ (h2' trivial)), for_it (walk_enumT (K := K) (a := t) (xs := ks.map rf)) (fun i σ H' => Same H H' ∧ H' D = some (.dT (dk n ns 0)) ∧ ∃ (qs : List (Addr × List Int)) (v1 v4 v5 v6 v7 : Option V), (True → H' pt = some (.lst (qs.map rf))) ∧ TupsAt H' qs ∧ qs.map (·.2) = rawT n ns i ∧ σ = [some (.ref x), v1, some (.ref D), some (.ref pt), v4, v5, v6, v7]) ?_ (fun i σ H' _ h => SqT.of (h.1 _ _ (h2' trivial))) ?_ ?_⟩
      · exact ⟨s02, hD2, [], _, _, _, _, _, fun _ => hpt' trivial, fun q hq => (by cases hq), rfl, rfl⟩
      · rintro i y σ H3 H4 hi ⟨s3, hD3, qs, v1, v4, v5, v6, v7, hq3, tq, eq3, rfl⟩ ⟨T1, u, v, rfl, nT, rfl, eu, ev⟩
        cases eu
        obtain ⟨q, m, rfl, hm, eq, hq, ltm⟩ := row_i ev
        generalize hE : upd H3 T1 _ = H5
        have s5 := new_same nT hE
        have g5 := new_at hE
        clear hE
        refine ⟨T1, _, rfl, SqT.of g5, rfl, _, _, rfl, s_name ⟨_, _, rfl, s_name ⟨rfl, ?_⟩⟩⟩
        have s05 := s3.trans s5
        have gd : ns.getD i 0 = m := by simp [hm]
        refine ⟨_, rfl, _, _, _, _, _, rfl, s05 _ _ h1, T.cl_Rules, T.no_Rules_size, rfl, _, rfl, by omega, by omega, for_range (lo := 0) (n := n) (fun j σ H' => Same H H' ∧ H' D = some (.dT (dk n ns 0)) ∧ ∃ (qs : List (Addr × List Int)) (v5 v6 v7 : Option V), (True → H' pt = some (.lst (qs.map rf))) ∧ TupsAt H' qs ∧ qs.map (·.2) = rawT n ns i ++ rowT n ns i m j ∧ σ = [some (.ref x), some (.ref q.1), some (.ref D), some (.ref pt), some (.int (i : Nat)), v5, v6, v7]) ?_ ?_ ?_⟩
        · exact ⟨s05, s5 _ _ hD3, qs, _, _, _, fun _ => s5 _ _ (hq3 trivial), tq.same s5, by rw [eq3]; simp [rowT], rfl⟩
        · rintro j σ H6 hj ⟨s6, hD6, qs6, v5, v6, v7, hq6, tq6, eq6, rfl⟩
          have bq := bitsOf_bits n m
          have li : i < ns.length := (List.getElem?_eq_some_iff.mp hm).1
          have hq' : True → H q.1 = some (.tup ((bitsOf n m).map V.int)) := fun _ => by rw [← eq]; exact hq
          have gj := get_bits n m j hj
          have gk := up_lt (k := n - 1 - j) (n := n) (by omega) ltm
          walk_at "sx"
          refine ⟨q.1, (bitsOf n m).map V.int, j, .int 1, by rw [Int.zero_add]; rfl, s6 _ _ (hq' trivial), by rw [List.length_map, bq.1]; exact hj, by rw [List.length_map, bq.1]; omega, fun p7 H7 s7 h7 => ?_⟩
          have h7' : True → H7 p7 = some (.tup (((bitsOf n m).map V.int).set j (.int 1))) := fun _ => h7
          clear h7
          have s07 := s6.trans s7
          have hD7 := s7 _ _ hD6
          walk_at "sx"
          refine r_ixT (s07 _ _ (hq' trivial)) (v := .int ((m / 2 ^ (n - 1 - j) % 2 : Nat) : Int)) (by rw [Int.zero_add]; exact atI_nat (by rw [List.getElem?_map, gj]; rfl)) ?_
          walk_at "sx"
          refine i_2 (fun c => ?_) (fun c => ?_)
          · have b0 : m / 2 ^ (n - 1 - j) % 2 = 0 := by omega
            have e7 : ((bitsOf n m).map V.int).set j (.int 1) = (bitsOf n (m + 2 ^ (n - 1 - j))).map V.int := by
              rw [← set_one n m j hj b0, List.map_set]
            rw [e7] at h7'
            have lk7 := dk_get ns 0 (m + 2 ^ (n - 1 - j)) N.lt (gk b0)
            rw [Nat.zero_add] at lk7
            walk_at "sx"
            refine ⟨D, _, rfl, DGet.t (k := (bitsOf n (m + 2 ^ (n - 1 - j))).map Sum.inl) hD7 (by rw [List.map_map]; exact h7' trivial), ?_⟩
            rw [lk7]
            by_cases hin : m + 2 ^ (n - 1 - j) ∈ ns
            · rw [if_pos hin] at lk7 ⊢
              have up : Up n ns m j := ⟨b0, hin⟩
              refine ⟨_, rfl, i_t ?_⟩
              refine s_drop (s_bm (s_var rfl ?_))
              refine ty_list (s7 _ _ (hq6 trivial)) ?_
              have dg : DGet H7 D (.ref p7) (some (.int ((ns.idxOf (m + 2 ^ (n - 1 - j)) : Nat) : Int))) := by
                rw [← lk7]
                exact DGet.t (k := (bitsOf n (m + 2 ^ (n - 1 - j))).map Sum.inl) hD7 (by rw [List.map_map]; exact h7' trivial)
              refine s_cons (s_tup (s_cons (s_var rfl (s_cons (s_get (s_var rfl (s_var rfl ⟨D, _, rfl, dg, s_cons (s_var rfl (s_nil ?_))⟩)))))))
              refine ⟨Nat.le_of_ble_eq_true rfl, fun p8 np8 => ?_⟩
              generalize hE : upd H7 p8 _ = H8
              have s8 := new_same np8 hE
              have g8 := new_at hE
              clear hE
              have hpt8 := s8 _ _ (s7 _ _ (hq6 trivial))
              have l6 : qs6.length < 1000 := by
                have z := congrArg List.length eq6
                rw [List.length_map, List.length_append] at z
                have z2 := raw_le n ns few sn i m j li hj
                omega
              refine s_nil (r_app hpt8 (by rw [List.length_map, sizeLine_eq]; omega) fun H9 k9 h9 => ?_)
              refine ⟨Keep.toSame (s07.trans s8) pt0 k9, k9 _ _ ptD (s8 _ _ hD7), qs6 ++ [(p8, tri ns n i m j)], _, _, _, fun _ => by rw [h9, List.map_append]; rfl, fun z hz => ?_, ?_, rfl⟩
              · have tu : H8 z.1 = some (.tup (z.2.map V.int)) := by
                  rcases List.mem_append.mp hz with mz | mz
                  · exact s8 _ _ (s7 _ _ (tq6 z mz))
                  · rw [List.mem_singleton.mp mz, g8]
                    simp [tri]
                exact k9 _ _ (ne_of tu hpt8 fun e => nomatch e) tu
              · rw [List.map_append, eq6, rowT_succ, if_pos up, ← List.append_assoc]
                rfl
            · rw [if_neg hin] at lk7 ⊢
              have up : ¬ Up n ns m j := fun z => hin z.2
              refine ⟨_, rfl, i_f ?_⟩
              exact ⟨s07, hD7, qs6, _, _, _, fun _ => s7 _ _ (hq6 trivial), tq6.same s7, by rw [eq6, rowT_succ, if_neg up, List.append_nil], rfl⟩
          · have up : ¬ Up n ns m j := fun z => c (by have := z.1; omega)
            walk_at "sx"
            exact ⟨s07, hD7, qs6, _, _, _, fun _ => s7 _ _ (hq6 trivial), tq6.same s7, by rw [eq6, rowT_succ, if_neg up, List.append_nil], rfl⟩
        · rintro σ H6 ⟨s6, hD6, qs6, v5, v6, v7, hq6, tq6, eq6, rfl⟩
          exact ⟨s6, hD6, qs6, _, _, _, _, _, hq6, tq6, by rw [eq6, rawT_succ, gd], rfl⟩
      · rintro σ H3 ⟨s3, hD3, qs, v1, v4, v5, v6, v7, hq3, tq, eq3, rfl⟩
        rw [List.length_map, lk] at eq3
        walk_at "sx"
        have tie3 : ∀ q ∈ qs, Tie n ns q.2 := fun q hq => (raw_mem nd q.2).mp (by rw [← eq3]; exact List.mem_map.mpr ⟨q, hq, rfl⟩)
        refine ⟨pt, _, 3, 64, rfl, SqL.of (hq3 trivial), (fun e => nomatch e), fun y hy => ?_, fun ys p pm pw np => ?_⟩
        · obtain ⟨q, hq, rfl⟩ := List.mem_map.mp hy
          obtain ⟨i, j, p, e, b1, b2, b3⟩ := tie_bd (by omega) sn (tie3 q hq)
          refine ⟨q.2, ⟨q.1, rfl, SqT.of (tq q hq)⟩, by rw [e]; rfl, fun z hz => ?_⟩
          rw [e] at hz
          simp at hz
          rcases hz with rfl | rfl | rfl <;> omega
        obtain ⟨qs', pm', rfl⟩ := perm_map pm qs rfl
        generalize hE : upd H3 p _ = H4
        have s4 := new_same np hE
        have g4 := new_at hE
        clear hE
        have sub : ∀ q ∈ qs', q ∈ qs := fun q hq => pm'.mem_iff.mp hq
        refine s_nil ⟨p, _, rfl, .inl ⟨SqL.of g4, fun t' nt => ?_⟩⟩
        generalize hE : upd H4 t' _ = H5
        have s5 := new_same nt hE
        have g5 := new_at hE
        refine k t' qs' H5 (s3.trans (s4.trans s5)) g5 (fun q hq => (s4.trans s5) _ _ (tq q (sub q hq))) ⟨?_, fun z => ?_, ?_⟩
        · refine (pm'.map (·.2)).nodup_iff.mpr ?_
          rw [eq3]
          exact raw_nodup n ns _
        · rw [(pm'.map (·.2)).mem_iff, eq3]
          exact raw_mem nd z
        · refine List.pairwise_map.mpr ?_
          have z := List.pairwise_map.mp pw
          refine List.Pairwise.imp_of_mem (fun {a b} ha hb h => h a.2 b.2 ⟨a.1, rfl, SqT.of ?_⟩ ⟨b.1, rfl, SqT.of ?_⟩) z
          · exact tq a (sub a ha)
          · exact tq b (sub b hb)
end
end K37

set_option Elab.async false
set_option linter.all false
set_option maxHeartbeats 1000000
/-! parts told by masks: how many rules, how many ties within -/
namespace Fl
theorem sumN_count {c : Nat → Prop} [DecidablePred c] : ∀ m : Nat, sumN m (fun k => if c k then 1 else 0) = (((List.range m).filter fun k => decide (c k)).length : Int)
  | 0 => rfl
  | m + 1 => by
    rw [sumN_succ, sumN_count m, List.range_succ, List.filter_append, List.length_append, List.filter_cons, List.filter_nil]
    by_cases h : c m <;> simp [h]
/-- ones of a mask -/
def pop (n m : Nat) : Int := sumN n fun k => if m.testBit k = true then 1 else 0
/-- pairs within a mask -/
def dens (e : Nat → Nat → Bool) (n m : Nat) : Int := sumN n fun x => if m.testBit x = true then sumN x fun y => if m.testBit y = true ∧ e y x = true then 1 else 0 else 0
theorem bit_up {i low k : Nat} (h : low < 2 ^ i) (hk : i ≤ k) : low.testBit k = false := Nat.testBit_lt_two_pow (Nat.lt_of_lt_of_le h (Nat.pow_le_pow_right (by decide) hk))
theorem sumN_cut {f : Nat → Int} {i : Nat} : ∀ {n : Nat}, i ≤ n → (∀ k, i ≤ k → f k = 0) → sumN n f = sumN i f
  | 0, h, _ => by rw [show i = 0 by omega]
  | n + 1, h, z => by
    by_cases e : i = n + 1
    · rw [e]
    · rw [sumN_succ, z n (by omega), sumN_cut (n := n) (by omega) z, Int.add_zero]
theorem pop_cut {i n low : Nat} (hi : i ≤ n) (h : low < 2 ^ i) : pop n low = pop i low := sumN_cut hi fun k hk => by
  rw [bit_up h hk]
  rfl
theorem dens_cut {e : Nat → Nat → Bool} {i n low : Nat} (hi : i ≤ n) (h : low < 2 ^ i) : dens e n low = dens e i low := sumN_cut hi fun k hk => by
  rw [bit_up h hk]
  rfl
theorem bit_low {i low k : Nat} (hk : k < i) : (2 ^ i + low).testBit k = low.testBit k := Nat.testBit_two_pow_add_gt hk low
theorem bit_top {i low : Nat} (h : low < 2 ^ i) : (2 ^ i + low).testBit i = true := by
  rw [Nat.testBit_two_pow_add_eq, Nat.testBit_lt_two_pow h]
  rfl
theorem top_lt {i low : Nat} (h : low < 2 ^ i) : 2 ^ i + low < 2 ^ (i + 1) := by
  rw [Nat.pow_succ]
  omega
theorem pop_step {i n low : Nat} (hi : i < n) (h : low < 2 ^ i) : pop n (2 ^ i + low) = pop n low + 1 := by
  rw [pop_cut (Nat.succ_le_of_lt hi) (top_lt h), pop_cut (Nat.le_of_lt hi) h]
  unfold pop
  rw [sumN_succ, bit_top h, if_pos rfl]
  congr 1
  exact sumN_congr fun k hk => by rw [bit_low hk]
theorem dens_step {e : Nat → Nat → Bool} {i n low msk : Nat} (hi : i < n) (h : low < 2 ^ i) (hm : msk < 2 ^ i) (he : ∀ y, y < i → msk.testBit y = e y i) : dens e n (2 ^ i + low) = dens e n low + pop n (low &&& msk) := by
  have a : low &&& msk < 2 ^ i := Nat.lt_of_le_of_lt Nat.and_le_left h
  rw [dens_cut (Nat.succ_le_of_lt hi) (top_lt h), dens_cut (Nat.le_of_lt hi) h, pop_cut (Nat.le_of_lt hi) a]
  unfold dens
  rw [sumN_succ, bit_top h, if_pos rfl]
  congr 1
  · refine sumN_congr fun x hx => ?_
    rw [bit_low hx]
    by_cases c : low.testBit x = true
    · rw [if_pos c, if_pos c]
      exact sumN_congr fun y hy => by rw [bit_low (show y < i by omega)]
    · rw [if_neg c, if_neg c]
  · unfold pop
    refine sumN_congr fun y hy => ?_
    rw [bit_low hy, Nat.testBit_and, he y hy]
    by_cases a : low.testBit y = true <;> by_cases b : e y i = true <;> simp [a, b]
/-- the best share found: of a mask below t, or nought -/
structure Bst (e : Nat → Nat → Bool) (n t : Nat) (b0 b1 : Int) : Prop where
  pos : 0 < b1
  nn : 0 ≤ b0
  is : (b0 = 0 ∧ b1 = 1) ∨ ∃ m, m < t ∧ m ≠ 0 ∧ dens e n m = b0 ∧ pop n m = b1
  all : ∀ m, m < t → m ≠ 0 → dens e n m * b1 ≤ b0 * pop n m
theorem pop_pos {n m : Nat} (h : m < 2 ^ n) (h0 : m ≠ 0) : 0 < pop n m := by
  obtain ⟨k, hk⟩ := Nat.exists_testBit_of_ne_zero h0
  have kn : k < n := by
    rcases Nat.lt_or_ge k n with l | l
    · exact l
    · rw [bit_up h l] at hk
      cases hk
  have z := sumN_one (m := n) (f := fun _ => 0) (g := fun q => if q = k then 1 else 0) (k0 := k) kn fun q _ ne => if_neg ne
  rw [sumN_zero, if_pos rfl] at z
  have le : sumN n (fun q => if q = k then 1 else 0) ≤ pop n m := sumN_le fun q _ => by
    by_cases e : q = k
    · subst e
      rw [if_pos rfl, if_pos hk]
      exact Int.le_refl _
    · rw [if_neg e]
      split <;> omega
  omega
theorem dens_nn (e : Nat → Nat → Bool) (n m : Nat) : 0 ≤ dens e n m := sumN_nonneg fun x _ => by
  show 0 ≤ if m.testBit x = true then sumN x fun y => if m.testBit y = true ∧ e y x = true then 1 else 0 else 0
  split
  · exact sumN_nonneg fun y _ => by
      show 0 ≤ if m.testBit y = true ∧ e y x = true then (1 : Int) else 0
      split <;> omega
  · exact Int.le_refl _
theorem Bst.start (e : Nat → Nat → Bool) (n : Nat) : Bst e n 1 0 1 := ⟨by omega, Int.le_refl _, .inl ⟨rfl, rfl⟩, fun m h h0 => absurd (by omega) h0⟩
theorem Bst.skip {e : Nat → Nat → Bool} {n t : Nat} {b0 b1 : Int} (B : Bst e n t b0 b1) (h : dens e n t * b1 ≤ b0 * pop n t) : Bst e n (t + 1) b0 b1 :=
  ⟨B.pos, B.nn, B.is.imp id fun ⟨m, h1, h2⟩ => ⟨m, by omega, h2⟩, fun m hm h0 => by
    by_cases z : m = t
    · subst z
      exact h
    · exact B.all m (by omega) h0⟩
theorem Bst.take {e : Nat → Nat → Bool} {n t : Nat} {b0 b1 : Int} (B : Bst e n t b0 b1) (t0 : t ≠ 0) (tn : t < 2 ^ n) (h : b0 * pop n t < dens e n t * b1) : Bst e n (t + 1) (dens e n t) (pop n t) := by
  have p := pop_pos tn t0
  refine ⟨p, dens_nn e n t, .inr ⟨t, by omega, t0, rfl, rfl⟩, fun m hm h0 => ?_⟩
  by_cases z : m = t
  · subst z
    exact Int.le_refl _
  · have q := B.all m (by omega) h0
    have mp : 0 < pop n m := pop_pos (by omega) h0
    have a := Int.mul_le_mul_of_nonneg_right q (Int.le_of_lt p)
    have b := Int.mul_lt_mul_of_pos_right h mp
    have c : dens e n m * pop n t * b1 < dens e n t * pop n m * b1 := by
      calc dens e n m * pop n t * b1 = dens e n m * b1 * pop n t := by rw [Int.mul_assoc, Int.mul_comm (pop n t), ← Int.mul_assoc]
        _ ≤ b0 * pop n m * pop n t := a
        _ = b0 * pop n t * pop n m := by rw [Int.mul_assoc, Int.mul_comm (pop n m), ← Int.mul_assoc]
        _ < dens e n t * b1 * pop n m := b
        _ = dens e n t * pop n m * b1 := by rw [Int.mul_assoc, Int.mul_comm b1, ← Int.mul_assoc]
    exact Int.le_of_lt (Int.lt_of_mul_lt_mul_right c (Int.le_of_lt B.pos))
/-- the mask of a list of rules -/
theorem mask_of (P : List Nat) : ∀ n : Nat, ∃ m, m < 2 ^ n ∧ ∀ k, k < n → (m.testBit k = true ↔ k ∈ P)
  | 0 => ⟨0, by decide, fun _ h => absurd h (Nat.not_lt_zero _)⟩
  | n + 1 => by
    obtain ⟨m, lt, h⟩ := mask_of P n
    by_cases c : n ∈ P
    · refine ⟨2 ^ n + m, top_lt lt, fun k hk => ?_⟩
      by_cases z : k = n
      · subst z
        rw [bit_top lt]
        exact ⟨fun _ => c, fun _ => rfl⟩
      · rw [bit_low (show k < n by omega)]
        exact h k (by omega)
    · refine ⟨m, Nat.lt_of_lt_of_le lt (Nat.pow_le_pow_right (by decide) (Nat.le_succ n)), fun k hk => ?_⟩
      by_cases z : k = n
      · subst z
        rw [Nat.testBit_lt_two_pow lt]
        exact ⟨(fun q => nomatch q), fun q => absurd q c⟩
      · exact h k (by omega)
/-- the rules of a mask -/
def bitsL (n m : Nat) : List Nat := (List.range n).filter fun k => m.testBit k
theorem bitsL_asc (n m : Nat) : (bitsL n m).Pairwise (· < ·) := List.Pairwise.filter _ List.pairwise_lt_range
theorem bitsL_mem {n m k : Nat} : k ∈ bitsL n m ↔ k < n ∧ m.testBit k = true := by
  unfold bitsL
  rw [List.mem_filter, List.mem_range]
theorem bitsL_len (n m : Nat) : ((bitsL n m).length : Int) = pop n m := by
  unfold bitsL pop
  rw [sumN_count]
  congr 2
  exact List.filter_congr fun k _ => by simp
/-- pairs with a tie -/
def prs (e : Nat → Nat → Bool) (n : Nat) : List (Nat × Nat) := (List.range n).flatMap fun x => ((List.range x).filter fun y => e y x).map fun y => (y, x)
theorem mem_prs {e : Nat → Nat → Bool} {n : Nat} {q : Nat × Nat} : q ∈ prs e n ↔ q.2 < n ∧ q.1 < q.2 ∧ e q.1 q.2 = true := by
  unfold prs
  rw [List.mem_flatMap]
  constructor
  · rintro ⟨x, hx, h⟩
    obtain ⟨y, hy, rfl⟩ := List.mem_map.mp h
    obtain ⟨h1, h2⟩ := List.mem_filter.mp hy
    exact ⟨List.mem_range.mp hx, List.mem_range.mp h1, h2⟩
  · rintro ⟨h1, h2, h3⟩
    exact ⟨q.2, List.mem_range.mpr h1, List.mem_map.mpr ⟨q.1, List.mem_filter.mpr ⟨List.mem_range.mpr h2, h3⟩, rfl⟩⟩
theorem prs_nodup (e : Nat → Nat → Bool) (n : Nat) : (prs e n).Nodup := by
  unfold prs List.Nodup
  rw [List.pairwise_flatMap]
  refine ⟨fun x _ => ?_, ?_⟩
  · refine List.pairwise_map.mpr ?_
    exact (List.Pairwise.filter _ List.nodup_range).imp fun h z => h (by cases z; rfl)
  · exact List.nodup_range.imp fun h a ha b hb z => by
      obtain ⟨_, _, rfl⟩ := List.mem_map.mp ha
      obtain ⟨_, _, rfl⟩ := List.mem_map.mp hb
      cases z
      exact h rfl
theorem prs_count {e : Nat → Nat → Bool} {m : Nat} : ∀ n : Nat, (((prs e n).filter fun q => m.testBit q.1 && m.testBit q.2).length : Int) = dens e n m
  | 0 => rfl
  | n + 1 => by
    have ih := prs_count (e := e) (m := m) n
    unfold dens at ih ⊢
    rw [sumN_succ, ← ih]
    unfold prs
    rw [List.range_succ, List.flatMap_append, List.filter_append, List.length_append, Int.natCast_add]
    congr 1
    rw [show List.flatMap (fun x => ((List.range x).filter fun y => e y x).map fun y => (y, x)) [n] = ((List.range n).filter fun y => e y n).map fun y => (y, n) by simp, List.filter_map, List.length_map]
    by_cases c : m.testBit n = true
    · rw [if_pos c, sumN_count, List.filter_filter]
      congr 2
      exact List.filter_congr fun y _ => by
        simp [c]
    · rw [if_neg c]
      have : ((List.range n).filter fun y => e y n).filter ((fun q => m.testBit q.1 && m.testBit q.2) ∘ fun y => (y, n)) = [] := by
        refine List.filter_eq_nil_iff.mpr fun y _ => ?_
        simp [c]
      rw [this]
      rfl
/-- ties by their places and pairs by a mask count alike -/
theorem inside_dens {m N : Nat} {i j : Nat → Nat} {e : Nat → Nat → Bool} {P : List Nat} {msk : Nat} (hp : ((List.range m).map fun k => (i k, j k)).Perm (prs e N)) (hm : ∀ k, k < N → (msk.testBit k = true ↔ k ∈ P)) :
    inside m i j (fun _ => 1) P = dens e N msk := by
  have z : inside m i j (fun _ => 1) P = (((List.range m).filter fun k => decide (i k ∈ P ∧ j k ∈ P)).length : Int) := sumN_count (c := fun k => i k ∈ P ∧ j k ∈ P) m
  rw [z, ← prs_count]
  congr 1
  have q := (hp.filter fun q => msk.testBit q.1 && msk.testBit q.2).length_eq
  rw [← q, List.filter_map, List.length_map]
  congr 1
  refine List.filter_congr fun k hk => ?_
  have mk : (i k, j k) ∈ prs e N := hp.mem_iff.mp (List.mem_map.mpr ⟨k, hk, rfl⟩)
  obtain ⟨h1, h2, _⟩ := mem_prs.mp mk
  have a := hm (j k) h1
  have b := hm (i k) (Nat.lt_trans h2 h1)
  show decide (i k ∈ P ∧ j k ∈ P) = (msk.testBit (i k) && msk.testBit (j k))
  by_cases c : i k ∈ P <;> by_cases d : j k ∈ P <;> simp [c, d] at a b ⊢ <;> simp [a, b]
end Fl

set_option Elab.async false
set_option linter.all false
set_option maxRecDepth 100000
set_option maxHeartbeats 4000000
namespace K37
open PySem L2 Sx Fl Ct
local macro_rules | `(tactic| walk_at "cond") => `(tactic| first
  | assumption
  | decide
  | exact c_mul_r (by first | decide | omega) (by first | decide | omega)
  | exact c_mul_l (by first | decide | omega) (by first | decide | omega)
  | exact c_div (by first | decide | omega) (by first | decide | omega)
  | exact c_pow (by first | decide | omega) (by first | decide | omega) (by first | decide | omega)
  | omega)
local macro_rules | `(tactic| walk_at "ne") => `(tactic| first
  | assumption
  | (refine Ne.symm ?_; assumption)
  | (refine' Flow.ne ?nh ?nn; (case nn => assumption); (case nh => walk_at "fl"))
  | (refine Ne.symm ?_; refine' Flow.ne ?nh ?nn; (case nn => assumption); (case nh => walk_at "fl"))
  | (refine' ne_of_none ?nh ?nn; (case nn => assumption); (case nh => walk_at "at"))
  | (refine Ne.symm ?_; refine' ne_of_none ?nh ?nn; (case nn => assumption); (case nh => walk_at "at")))
local macro_rules | `(tactic| walk_at "at") => `(tactic| first
  | assumption
  | (refine Same.up (by assumption) ?_; walk_at "at")
  | (refine Keep.up (by assumption) (by walk_at "ne") ?_; walk_at "at"))
local macro_rules | `(tactic| walk_at "fl") => `(tactic| first
  | assumption
  | (refine Flow.same (by assumption) ?_; walk_at "fl")
  | (refine Flow.keep (by assumption) (by walk_at "ne") ?_; walk_at "fl"))
local macro_rules | `(tactic| walk_at "fr") => `(tactic| first
  | assumption
  | (refine same_free (by assumption) ?_; walk_at "fr")
  | (refine Keep.free (by assumption) (by walk_at "ne") ?_; walk_at "fr"))
local macro_rules | `(tactic| walk_at "kp") => `(tactic| first
  | assumption
  | exact Keep.refl _ _
  | (refine Keep.trans ?_ (by assumption); walk_at "kp")
  | (refine Keep.trans ?_ (Keep.same (by assumption)); walk_at "kp"))
local macro_rules | `(tactic| walk_at "sm") => `(tactic| first
  | assumption
  | exact L2.Same.refl _
  | (refine L2.Same.trans ?_ (by assumption); walk_at "sm"))
local macro_rules | `(tactic| walk_at "sz") => `(tactic| first | exact Nat.le_of_ble_eq_true rfl | omega)
local macro_rules | `(tactic| walk_at "new") => `(tactic| (intro p np; generalize hE : upd _ p _ = H2; have s2 := new_same np hE; have h2 := new_at hE; clear hE))
local macro_rules | `(tactic| walk_at "newx") => `(tactic| (intro e d na nd hda; generalize hE : upd (upd _ d _) e _ = H2; have s2 := newx_same na nd hE; have h2 := newx_at hE; have h3 := newx_d hda hE; clear hE))
local macro_rules | `(tactic| walk_at "s1") => `(tactic| first
  | with_reducible refine s_seq ?_
  | with_reducible refine s_asg ?_
  | with_reducible refine s_name ?_
  | with_reducible refine s_ret ?_
  | with_reducible refine s_c ?_
  | ((with_reducible refine' s_var ?hv ?_); (case hv => rfl))
  | with_reducible refine s_op ?_
  | with_reducible refine s_un ?_
  | with_reducible refine s_ifS ?_
  | with_reducible refine s_cb ?_
  | with_reducible refine s_cons ?_
  | with_reducible refine s_nil ?_
  | with_reducible refine s_call ?_
  | with_reducible refine s_test ?_
  | with_reducible refine s_tB ?_
  | with_reducible refine s_bl ?_
  | with_reducible refine s_and ?_
  | with_reducible refine s_or ?_
  | with_reducible refine s_not ?_
  | with_reducible refine s_andV ?_
  | with_reducible refine s_orV ?_
  | with_reducible refine s_notV ?_
  | with_reducible refine s_blV ?_
  | with_reducible refine s_if ?_
  | with_reducible refine s_tup ?_
  | with_reducible refine s_lst ?_
  | with_reducible refine s_drop ?_
  | with_reducible refine s_next ?_
  | with_reducible refine s_sub ?_
  | with_reducible refine s_bm ?_
  | with_reducible refine s_callK ?_
  | with_reducible refine s_brk ?_
  | with_reducible refine s_cont ?_
  | with_reducible refine r_I0 ?_
  | with_reducible refine r_U ?_
  | with_reducible refine r_eqI ?_
  | with_reducible refine r_neI ?_
  | with_reducible refine r_isB ?_
  | with_reducible refine r_notB ?_
  | with_reducible refine i_t ?_
  | with_reducible refine i_f ?_
  | with_reducible refine i_nt ?_
  | with_reducible refine i_nf ?_
  | ((with_reducible refine' r_I ?hc ?_); (case hc => walk_at "cond"))
  | (with_reducible refine .inl ⟨_, rfl, ?_⟩)
  | (with_reducible refine ⟨_, rfl, ?_⟩)
  | ((with_reducible refine' r_ixL ?hx ?ha ?_); (case hx => walk_at "at"); (case ha => rfl))
  | ((with_reducible refine' r_ixT ?hx ?ha ?_); (case hx => walk_at "at"); (case ha => rfl))
  | ((with_reducible refine' r_setL ?hx ?ha ?_); (case hx => walk_at "at"); (case ha => rfl); intro H2 k2 h2; (try dsimp only [List.set, Int.toNat] at h2))
  | ((with_reducible refine' r_app ?hx ?hl ?_); (case hx => walk_at "at"); (case hl => first | exact Nat.lt_of_ble_eq_true rfl | omega); intro H2 k2 h2)
  | ((with_reducible refine' ty_list ?hx ?_); (case hx => walk_at "at"))
  | (refine And.intro (by (with_reducible show _ ≤ sizeLine); walk_at "sz") ?_; walk_at "new")
  | with_reducible refine s_exv ?_
  | walk_at "newx")
local macro_rules | `(tactic| walk_at "sx") => `(tactic| repeat (walk_at "s1"))
local macro_rules | `(tactic| walk_at "s2") => `(tactic| first
  | ((with_reducible refine' r_ixG ?hx ?hn ?_); (case hx => walk_at "at"); (case hn => omega))
  | ((with_reducible refine' r_ixGT ?hx ?hn ?_); (case hx => walk_at "at"); (case hn => omega))
  | (with_reducible refine ig_cons (fun hix => ?_) (fun hix => ?_))
  | ((with_reducible refine ig_nil ?_); omega)
  | ((with_reducible refine' i_T ?hc ?_); (case hc => omega))
  | ((with_reducible refine' i_F ?hc ?_); (case hc => omega))
  | (with_reducible refine i_2 (fun hc => ?_) (fun hc => ?_))
  | (with_reducible refine i_n2 (fun hc => ?_) (fun hc => ?_)))
local macro_rules | `(tactic| walk_at "go") => `(tactic| repeat' (first | walk_at "s1" | walk_at "s2"))

local macro_rules | `(tactic| walk_at "s1") => `(tactic| first
  | with_reducible refine s_chain ?_
  | with_reducible refine s_fldS ?_
  | with_reducible refine s_fld ?_
  | with_reducible refine s_dIn ?_
  | with_reducible refine s_dNotIn ?_
  | with_reducible refine s_sl ?_
  | with_reducible refine s_noPart ?_
  | with_reducible refine s_part ?_
  | with_reducible refine s_meth ?_
  | with_reducible refine s_make ?_)

/-- rules that differ at one point alone -/
def eT (n : Nat) (ns : List Nat) (y x : Nat) : Bool := decide ((ns.getD x 0 ^^^ ns.getD y 0) ∈ (List.range n).map fun k => 2 ^ k)
theorem bitX : ((List.range 256).all fun a => (List.range 8).all fun k => (a / 2 ^ k % 2 != 0 || (a + 2 ^ k) ^^^ a == 2 ^ k) && (decide (a ^^^ 2 ^ k < a) || (a / 2 ^ k % 2 == 0 && a ^^^ 2 ^ k == a + 2 ^ k))) = true := by decide +kernel
theorem bit_on {a k : Nat} (ha : a < 256) (hk : k < 8) (h : a / 2 ^ k % 2 = 0) : (a + 2 ^ k) ^^^ a = 2 ^ k := by
  have z := List.all_eq_true.mp (List.all_eq_true.mp bitX a (List.mem_range.mpr ha)) k (List.mem_range.mpr hk)
  rw [Bool.and_eq_true, Bool.or_eq_true, beq_iff_eq] at z
  refine z.1.resolve_left fun q => ?_
  rw [bne_iff_ne] at q
  exact q h
theorem bit_of {a b k : Nat} (ha : a < 256) (hk : k < 8) (lt : a < b) (h : b ^^^ a = 2 ^ k) : a / 2 ^ k % 2 = 0 ∧ b = a + 2 ^ k := by
  have e : b = a ^^^ 2 ^ k := by rw [← h, Nat.xor_comm b a, ← Nat.xor_assoc, Nat.xor_self, Nat.zero_xor]
  have z := List.all_eq_true.mp (List.all_eq_true.mp bitX a (List.mem_range.mpr ha)) k (List.mem_range.mpr hk)
  rw [Bool.and_eq_true, Bool.or_eq_true (decide _), ← e, decide_eq_true_eq, Bool.and_eq_true, beq_iff_eq, beq_iff_eq] at z
  exact z.2.resolve_left (by omega)
theorem get_D {ns : List Nat} {i a : Nat} (h : ns[i]? = some a) : ns.getD i 0 = a := by simp [h]
theorem pow_in {n k : Nat} (h : k < n) : 2 ^ k ∈ (List.range n).map fun k => 2 ^ k := List.mem_map.mpr ⟨k, List.mem_range.mpr h, rfl⟩
theorem asc_get {ns : List Nat} (h : ns.Pairwise (· < ·)) {i j a b : Nat} (hi : ns[i]? = some a) (hj : ns[j]? = some b) : i < j ↔ a < b := by
  obtain ⟨li, ei⟩ := List.getElem?_eq_some_iff.mp hi
  obtain ⟨lj, ej⟩ := List.getElem?_eq_some_iff.mp hj
  have z := List.pairwise_iff_getElem.mp h
  constructor
  · intro l
    have := z i j li lj l
    omega
  · intro l
    rcases Nat.lt_trichotomy i j with c | c | c
    · exact c
    · subst c
      omega
    · have := z j i lj li c
      omega
theorem tie_pair {n : Nat} {ns : List Nat} (N : Nums n ns) (sn : n ≤ 8) {i j p a : Nat} (hp : p < n) (hi : ns[i]? = some a) (b : a / 2 ^ (n - 1 - p) % 2 = 0) (hj : ns[j]? = some (a + 2 ^ (n - 1 - p))) : i < j ∧ j < ns.length ∧ eT n ns i j = true := by
  have p0 : 0 < 2 ^ (n - 1 - p) := Nat.pow_pos (by decide)
  have la := N.lt a (List.mem_of_getElem? hi)
  have l8 : 2 ^ n ≤ 2 ^ 8 := Nat.pow_le_pow_right (by decide) sn
  refine ⟨(asc_get N.asc hi hj).mpr (by omega), (List.getElem?_eq_some_iff.mp hj).1, decide_eq_true ?_⟩
  rw [get_D hi, get_D hj, bit_on (by omega) (by omega) b]
  exact pow_in (by omega)
theorem pair_tie {n : Nat} {ns : List Nat} (N : Nums n ns) (sn : n ≤ 8) {i j : Nat} (h : i < j) (hj : j < ns.length) (e : eT n ns i j = true) : ∃ p a, p < n ∧ ns[i]? = some a ∧ a / 2 ^ (n - 1 - p) % 2 = 0 ∧ ns[j]? = some (a + 2 ^ (n - 1 - p)) := by
  have hi : ns[i]? = some ns[i] := List.getElem?_eq_getElem (by omega)
  have hj' : ns[j]? = some ns[j] := List.getElem?_eq_getElem hj
  have e' := of_decide_eq_true e
  rw [get_D hi, get_D hj'] at e'
  obtain ⟨k, hk, ek⟩ := List.mem_map.mp e'
  have hk := List.mem_range.mp hk
  have la := N.lt _ (List.mem_of_getElem? hi)
  have l8 : 2 ^ n ≤ 2 ^ 8 := Nat.pow_le_pow_right (by decide) sn
  obtain ⟨b1, b2⟩ := bit_of (a := ns[i]) (b := ns[j]) (by omega) (by omega) ((asc_get N.asc hi hj').mp h) ek.symm
  refine ⟨n - 1 - k, ns[i], by omega, hi, ?_, ?_⟩
  · rw [show n - 1 - (n - 1 - k) = k by omega]
    exact b1
  · rw [show n - 1 - (n - 1 - k) = k by omega, hj', b2]
def fst (t : List Int) : Nat := (t.getD 0 0).toNat
def snd (t : List Int) : Nat := (t.getD 1 0).toNat
def thd (t : List Int) : Nat := (t.getD 2 0).toNat
theorem ties_pairs {n : Nat} {ns : List Nat} {L : List (List Int)} (ti : Ties n ns L) (N : Nums n ns) (sn : n ≤ 8) : (L.map fun t => (fst t, snd t)).Perm (prs (eT n ns) ns.length) := by
  refine (List.perm_ext_iff_of_nodup ?_ (prs_nodup _ _)).mpr fun q => ?_
  · refine List.pairwise_map.mpr (ti.nd.imp_of_mem fun {s t} hs ht ne e => ne ?_)
    obtain ⟨i, j, p, a, rfl, hp, hi, b, hj⟩ := (ti.mem s).mp hs
    obtain ⟨i', j', p', a', rfl, hp', hi', b', hj'⟩ := (ti.mem t).mp ht
    simp only [fst, snd, Prod.mk.injEq] at e
    have e1 : i = i' := by simpa using e.1
    have e2 : j = j' := by simpa using e.2
    subst e1
    subst e2
    rw [hi] at hi'
    cases hi'
    rw [hj] at hj'
    have e3 := Option.some.inj hj'
    have e4 : n - 1 - p = n - 1 - p' := (Nat.pow_right_inj (a := 2) (by decide)).mp (by omega)
    rw [show p = p' by omega]
  · rw [mem_prs, List.mem_map]
    constructor
    · rintro ⟨t, ht, rfl⟩
      obtain ⟨i, j, p, a, rfl, hp, hi, b, hj⟩ := (ti.mem t).mp ht
      obtain ⟨h1, h2, h3⟩ := tie_pair N sn hp hi b hj
      exact ⟨by simpa [snd] using h2, by simpa [fst, snd] using h1, by simpa [fst, snd] using h3⟩
    · rintro ⟨h1, h2, h3⟩
      obtain ⟨p, a, hp, hi, b, hj⟩ := pair_tie N sn h2 h1 h3
      exact ⟨_, (ti.mem _).mpr ⟨q.1, q.2, p, a, rfl, hp, hi, b, hj⟩, by simp [fst, snd]⟩
def iT (L : List (List Int)) (k : Nat) : Nat := fst (L.getD k [])
def jT (L : List (List Int)) (k : Nat) : Nat := snd (L.getD k [])
def pT (L : List (List Int)) (k : Nat) : Nat := thd (L.getD k [])
theorem ties_at {H : Hp} {t : Addr} {qs : List (Addr × List Int)} {n : Nat} {ns : List Nat} {L : List (List Int)} (eL : qs.map (·.2) = L) (h : H t = some (.tup (qs.map rf))) (ta : TupsAt H qs) (ti : Ties n ns L) (N : Nums n ns) (sn : n ≤ 8) :
    TiesAt H t L.length ns.length (iT L) (jT L) (pT L) ∧ ((List.range L.length).map fun k => (iT L k, jT L k)).Perm (prs (eT n ns) ns.length) := by
  subst eL
  have ll : (qs.map (·.2)).length = qs.length := List.length_map ..
  rw [ll]
  refine ⟨⟨qs.map (·.1), by rw [h, List.map_map]; rfl, List.length_map .., fun k hk => ?_⟩, ?_⟩
  · have e : qs[k]? = some qs[k] := List.getElem?_eq_getElem hk
    have e2 : (qs.map (·.2)).getD k [] = qs[k].2 := by simp [hk]
    have m := List.getElem_mem hk
    obtain ⟨i, j, p, a, et, hp, hi, b, hj⟩ := (ti.mem qs[k].2).mp (List.mem_map.mpr ⟨_, m, rfl⟩)
    obtain ⟨h1, h2, h3⟩ := tie_pair N sn hp hi b hj
    unfold iT jT pT
    refine ⟨qs[k].1, by rw [List.getElem?_map, e]; rfl, ?_, ?_⟩
    · rw [ta _ m]
      simp only [e2, et]
      rfl
    · simp only [e2, et]
      refine ⟨?_, ?_, ?_⟩
      · show i < _
        omega
      · exact h2
      · show i ≠ j
        omega
  · have e : (List.range qs.length).map (fun k => (iT (qs.map (·.2)) k, jT (qs.map (·.2)) k)) = (qs.map (·.2)).map fun t => (fst t, snd t) := by
      apply List.ext_getElem?
      intro k
      unfold iT jT
      rw [List.getElem?_map, List.getElem?_map, List.getElem?_map]
      rcases Nat.lt_or_ge k qs.length with l | l
      · rw [List.getElem?_range l, List.getElem?_eq_getElem l]
        simp [l]
      · rw [List.getElem?_eq_none (by rw [List.length_range]; exact l), List.getElem?_eq_none l]
        rfl
    rw [e]
    exact ties_pairs ti N sn
theorem ties_few {n : Nat} {ns : List Nat} {L : List (List Int)} (ti : Ties n ns L) (N : Nums n ns) (sn : n ≤ 8) : L.length ≤ 512 := by
  have nd : ns.Nodup := N.asc.imp fun h => Nat.ne_of_lt h
  have p := (List.perm_ext_iff_of_nodup ti.nd (raw_nodup n ns ns.length)).mpr fun t => (ti.mem t).trans (raw_mem nd t).symm
  rw [p.length_eq]
  exact Nat.le_trans (raw_few n ns ns.length) (Nat.mul_le_mul sn N.few)
/-- no part has more than a of b ties a rule, and one has so many -/
structure Most (n : Nat) (ns : List Nat) (a b : Nat) (ks : List Nat) : Prop where
  asc : ks.Pairwise (· < ·)
  ne : ks ≠ []
  lt : ∀ r ∈ ks, r < ns.length
  pos : 0 < b
  few : b ≤ ns.length
  co : Nat.gcd a b = 1
  eq : ∀ msk, (∀ k, k < ns.length → (msk.testBit k = true ↔ k ∈ ks)) → (a : Int) * ks.length = b * dens (eT n ns) ns.length msk
  le : ∀ msk, (b : Int) * dens (eT n ns) ns.length msk ≤ a * pop ns.length msk
theorem most_of {m : Nat} {n : Nat} {ns : List Nat} {i j : Nat → Nat} {ks : List Nat} {a b : Nat} {R : Nat → Int} (hp : ((List.range m).map fun k => (i k, j k)).Perm (prs (eT n ns) ns.length)) (D : Dn m ns.length i j (fun _ => 1) ks a b R) : Most n ns a b ks := by
  refine ⟨D.asc, D.ne, D.lt, D.pos, D.few, D.co, fun msk hm => ?_, fun msk => ?_⟩
  · rw [← inside_dens hp hm]
    exact D.eq
  · have hm : ∀ k, k < ns.length → (msk.testBit k = true ↔ k ∈ bitsL ns.length msk) := fun k hk => by
      rw [bitsL_mem]
      exact ⟨fun h => ⟨hk, h⟩, fun h => h.2⟩
    have z := part_le (i := i) (j := j) D.am (P := bitsL ns.length msk) (asc_nodup (bitsL_asc _ _)) (c := a) fun r hr => D.le r (bitsL_mem.mp hr).1
    rw [inside_mul (W := fun _ => 1), inside_dens hp hm, bitsL_len] at z
    exact z
/-- the greatest share is found by masks too -/
theorem most_bst {n : Nat} {ns : List Nat} {a b : Nat} {ks : List Nat} {b0 b1 : Int} (M : Most n ns a b ks) (B : Bst (eT n ns) ns.length (2 ^ ns.length) b0 b1) : (a : Int) * b1 = b0 * b := by
  have kp : (0 : Int) < ks.length := by
    have := List.length_pos_iff.mpr M.ne
    omega
  have bp : (0 : Int) < b := by have := M.pos; omega
  apply Int.le_antisymm
  · obtain ⟨msk, lt, hm⟩ := mask_of ks ns.length
    have e := M.eq msk hm
    have lp : pop ns.length msk = ks.length := by
      rw [← bitsL_len]
      congr 1
      refine List.Perm.length_eq ((List.perm_ext_iff_of_nodup (asc_nodup (bitsL_asc _ _)) (asc_nodup M.asc)).mpr fun r => ?_)
      rw [bitsL_mem]
      exact ⟨fun h => (hm r h.1).mp h.2, fun h => ⟨M.lt r h, (hm r (M.lt r h)).mpr h⟩⟩
    have n0 : msk ≠ 0 := fun z => by
      subst z
      have : pop ns.length 0 = 0 := by
        unfold pop
        rw [sumN_congr (g := fun _ => 0) fun k _ => by simp, sumN_zero]
      omega
    have q := B.all msk lt n0
    rw [lp] at q
    have q2 := Int.mul_le_mul_of_nonneg_right q (Int.le_of_lt bp)
    have c : (a : Int) * b1 * ks.length ≤ b0 * b * ks.length := by
      calc (a : Int) * b1 * ks.length = a * ks.length * b1 := by rw [Int.mul_assoc, Int.mul_comm b1, ← Int.mul_assoc]
        _ = b * dens (eT n ns) ns.length msk * b1 := by rw [e]
        _ = dens (eT n ns) ns.length msk * b1 * b := by rw [Int.mul_assoc, Int.mul_comm]
        _ ≤ b0 * ks.length * b := q2
        _ = b0 * b * ks.length := by rw [Int.mul_assoc, Int.mul_comm (ks.length : Int), ← Int.mul_assoc]
    exact Int.le_of_mul_le_mul_right c kp
  · rcases B.is with ⟨rfl, rfl⟩ | ⟨m, lt, h0, rfl, rfl⟩
    · rw [Int.zero_mul]
      exact Int.mul_nonneg (Int.natCast_nonneg _) (by omega)
    · rw [Int.mul_comm]
      exact M.le m
theorem up_eq {a b : Nat} {b0 b1 : Int} (bp : 0 < b) (b1p : 0 < b1) (h : (a : Int) * b1 = b0 * b) : -(-(a : Int) / b) = -(-b0 / b1) := by
  have bp' : (0 : Int) < b := by omega
  rw [← Int.mul_ediv_mul_of_pos_left (-(a : Int)) b b1p, ← Int.mul_ediv_mul_of_pos_left (-b0) b1 bp', Int.neg_mul, Int.neg_mul, h, Int.mul_comm (b : Int) b1]
section
variable {P : Program} {w : World} {K : PySem.W.Frag} {mg : Str → Option Value} {base : Heap} {A : Ad}
theorem rep_one (m : Nat) : (List.replicate m [V.int 1]).flatten = intsN m fun _ => 1 := by
  have z : ∀ m : Nat, (List.replicate m [V.int 1]).flatten = List.replicate m (V.int 1) := fun m => by
    induction m with
    | zero => rfl
    | succ m ih => rw [List.replicate_succ, List.flatten_cons, ih, List.replicate_succ]; rfl
  rw [z]
  unfold intsN
  rw [List.map_const', List.length_range]
/-- the least mean, a part that comes to it, and how the ties are shared out -/
def spEv (C : Addr) : Sp := fun vs H Q _ => ∃ (x : Addr) (n : Nat) (ns : List Nat), vs = [.ref x] ∧ Rn C H x n ns ∧ Nums n ns ∧ n ≤ 8 ∧
  ∀ (q pd pp pr : Addr) (a b : Nat) (ks : List Nat) (L : List (List Int)) (R : Nat → Int) H', Same H H' → H' q = some (.tup [.ref pd, .ref pp, .ref pr]) → H' pd = some (.tup [.int a, .int b]) → H' pp = some (.tup (ks.map nv)) → ShAt H' pr L.length (fun k => R (2 * k)) (fun _ => (b : Int)) → Ties n ns L → Dn L.length ns.length (iT L) (jT L) (fun _ => 1) ks a b R → Most n ns a b ks → Dfin L.length ns.length (iT L) (jT L) (fun _ => 1) ks a b R → Q (.ref q) H'
theorem ok_Ev (T : Txt P K mg A) : FnOk P w K mg base CX0 4 A.a_evenest A.d_evenest ["rules"] (spEv A.c_Rules) := by
  refine T.F_evenest.ok sc_evenest (fun vs H Q E h => ?_) (fun cdv A' outer s H vs Q E hr h => ?_)
  · obtain ⟨x, n, ns, rfl, _⟩ := h
    rfl
  · obtain ⟨x, n, ns, rfl, rn, N, sn, k⟩ := h
    have G_ties_of := ok_ties (w := w) (base := base) T
    have G_densest := ok_dens (w := w) (base := base) T
    have G_Rules____len__ := ok_len (w := w) (base := base) T
    refine ⟨_, (pss_cons (ps_set (i := 1) sc_evenest.nd rfl (Or.inl rfl) (pe_call G_ties_of (hr.mono (by decide)) rfl T.g_ties_of T.F_ties_of.kp (B_ties_of T) .nil pass0 (pa_cons (pv 0) pa_nil)))
  (pss_one (ps_ret (pe_call G_densest (hr.mono (by decide)) rfl T.g_densest T.F_densest.kp (B_densest T) .nil pass0 (pa_cons (pe_callB (call_lenO G_Rules____len__ (hr.mono (by decide)) T.sp_Rules___len__.1 T.sp_Rules___len__.2 (B_Rules____len__ T) pass0) (by rfl) T.n_len (by decide +kernel) (pa_cons (pv 0) pa_nil)) (pa_cons (pv 1) (pa_cons (pe_op op_rep (pe_lst (pa_cons pe_int pa_nil)) (pe_callB call_len (by rfl) T.n_len (by decide +kernel) (pa_cons (pv 1) pa_nil))) pa_nil))))))), ?_⟩
    walk_at "sx"
    refine ⟨x, n, ns, rfl, rn, N, N.few, sn, fun t qs H1 s1 ht tq tt => ?_⟩
    obtain ⟨L, eL⟩ : ∃ L, L = qs.map (·.2) := ⟨_, rfl⟩
    rw [← eL] at tt
    obtain ⟨tie, perm⟩ := ties_at eL.symm ht tq tt N sn
    have lq : qs.length = L.length := by rw [eL, List.length_map]
    have m1 : L.length ≤ 1000 := by
      have := ties_few tt N sn
      omega
    have ht1 : True → H1 t = _ := fun _ => ht
    clear ht
    have rn1 := rn.same s1
    obtain ⟨ks, ru, ek⟩ := id rn1
    have lk : ks.length = ns.length := by simpa using congrArg List.length ek
    obtain ⟨dx, t', kn, h1, h2, h3, rows, asc, ne, sz⟩ := id ru
    clear h2 h3
    have N0 : 0 < ns.length := List.length_pos_iff.mpr N.ne
    have n64 := N.few
    walk_at "sx"
    refine ⟨x, _, _, rfl, h1, x, n, ks, rfl, ru, ks.length, rfl, by omega, ?_⟩
    rw [lk]
    walk_at "sx"
    rename_i p2 np2 H2 s2 h2
    refine ⟨_, _, rfl, .inr ⟨_, SqT.of (s2 _ _ (ht1 trivial)), rfl⟩, ?_⟩
    rw [List.length_map, lq]
    refine ⟨p2, L.length, _, rfl, rfl, h2, by omega, by omega, by rw [sizeLine_eq]; simp; omega, fun l nl => ?_⟩
    generalize hE : upd H2 l _ = H3
    have s3 := new_same nl hE
    have h3 : H3 l = some (.lst (intsN L.length fun _ => 1)) := by
      rw [new_at hE, Int.toNat_natCast, rep_one]
    clear hE h2
    refine s_nil ⟨t, l, ns.length, L.length, iT L, jT L, pT L, fun _ => 1, rfl, tie.same (s2.trans s3), h3, fun _ _ => ⟨(by decide : (0 : Int) ≤ 1), (by decide : (1 : Int) ≤ 15000)⟩, N0, N.few, m1, fun q pd pp pr ks' a b R H4 s4 hq hpd hpp sh D dfin => ?_⟩
    have e1 : (fun k : Nat => (b : Int) * (fun _ : Nat => (1 : Int)) k) = fun _ => (b : Int) := funext fun _ => Int.mul_one _
    rw [e1] at sh
    exact k q pd pp pr a b ks' L R H4 (s1.trans (s2.trans (s3.trans s4))) hq hpd hpp sh tt D (most_of perm D) dfin
end
end K37

set_option Elab.async false
set_option linter.all false
set_option maxRecDepth 100000
set_option maxHeartbeats 4000000
namespace K37
open PySem L2 Sx Fl Ct
local macro_rules | `(tactic| walk_at "cond") => `(tactic| first
  | assumption
  | decide
  | exact c_mul_r (by first | decide | omega) (by first | decide | omega)
  | exact c_mul_l (by first | decide | omega) (by first | decide | omega)
  | exact c_div (by first | decide | omega) (by first | decide | omega)
  | exact c_pow (by first | decide | omega) (by first | decide | omega) (by first | decide | omega)
  | omega)
local macro_rules | `(tactic| walk_at "ne") => `(tactic| first
  | assumption
  | (refine Ne.symm ?_; assumption)
  | (refine' Flow.ne ?nh ?nn; (case nn => assumption); (case nh => walk_at "fl"))
  | (refine Ne.symm ?_; refine' Flow.ne ?nh ?nn; (case nn => assumption); (case nh => walk_at "fl"))
  | (refine' ne_of_none ?nh ?nn; (case nn => assumption); (case nh => walk_at "at"))
  | (refine Ne.symm ?_; refine' ne_of_none ?nh ?nn; (case nn => assumption); (case nh => walk_at "at")))
local macro_rules | `(tactic| walk_at "at") => `(tactic| first
  | assumption
  | (refine Same.up (by assumption) ?_; walk_at "at")
  | (refine Keep.up (by assumption) (by walk_at "ne") ?_; walk_at "at"))
local macro_rules | `(tactic| walk_at "fl") => `(tactic| first
  | assumption
  | (refine Flow.same (by assumption) ?_; walk_at "fl")
  | (refine Flow.keep (by assumption) (by walk_at "ne") ?_; walk_at "fl"))
local macro_rules | `(tactic| walk_at "fr") => `(tactic| first
  | assumption
  | (refine same_free (by assumption) ?_; walk_at "fr")
  | (refine Keep.free (by assumption) (by walk_at "ne") ?_; walk_at "fr"))
local macro_rules | `(tactic| walk_at "kp") => `(tactic| first
  | assumption
  | exact Keep.refl _ _
  | (refine Keep.trans ?_ (by assumption); walk_at "kp")
  | (refine Keep.trans ?_ (Keep.same (by assumption)); walk_at "kp"))
local macro_rules | `(tactic| walk_at "sm") => `(tactic| first
  | assumption
  | exact L2.Same.refl _
  | (refine L2.Same.trans ?_ (by assumption); walk_at "sm"))
local macro_rules | `(tactic| walk_at "sz") => `(tactic| first | exact Nat.le_of_ble_eq_true rfl | omega)
local macro_rules | `(tactic| walk_at "new") => `(tactic| (intro p np; generalize hE : upd _ p _ = H2; have s2 := new_same np hE; have h2 := new_at hE; clear hE))
local macro_rules | `(tactic| walk_at "newx") => `(tactic| (intro e d na nd hda; generalize hE : upd (upd _ d _) e _ = H2; have s2 := newx_same na nd hE; have h2 := newx_at hE; have h3 := newx_d hda hE; clear hE))
local macro_rules | `(tactic| walk_at "s1") => `(tactic| first
  | with_reducible refine s_seq ?_
  | with_reducible refine s_asg ?_
  | with_reducible refine s_name ?_
  | with_reducible refine s_ret ?_
  | with_reducible refine s_c ?_
  | ((with_reducible refine' s_var ?hv ?_); (case hv => rfl))
  | with_reducible refine s_op ?_
  | with_reducible refine s_un ?_
  | with_reducible refine s_ifS ?_
  | with_reducible refine s_cb ?_
  | with_reducible refine s_cons ?_
  | with_reducible refine s_nil ?_
  | with_reducible refine s_call ?_
  | with_reducible refine s_test ?_
  | with_reducible refine s_tB ?_
  | with_reducible refine s_bl ?_
  | with_reducible refine s_and ?_
  | with_reducible refine s_or ?_
  | with_reducible refine s_not ?_
  | with_reducible refine s_andV ?_
  | with_reducible refine s_orV ?_
  | with_reducible refine s_notV ?_
  | with_reducible refine s_blV ?_
  | with_reducible refine s_if ?_
  | with_reducible refine s_tup ?_
  | with_reducible refine s_lst ?_
  | with_reducible refine s_drop ?_
  | with_reducible refine s_next ?_
  | with_reducible refine s_sub ?_
  | with_reducible refine s_bm ?_
  | with_reducible refine s_callK ?_
  | with_reducible refine s_brk ?_
  | with_reducible refine s_cont ?_
  | with_reducible refine r_I0 ?_
  | with_reducible refine r_U ?_
  | with_reducible refine r_eqI ?_
  | with_reducible refine r_neI ?_
  | with_reducible refine r_isB ?_
  | with_reducible refine r_notB ?_
  | with_reducible refine i_t ?_
  | with_reducible refine i_f ?_
  | with_reducible refine i_nt ?_
  | with_reducible refine i_nf ?_
  | ((with_reducible refine' r_I ?hc ?_); (case hc => walk_at "cond"))
  | (with_reducible refine .inl ⟨_, rfl, ?_⟩)
  | (with_reducible refine ⟨_, rfl, ?_⟩)
  | ((with_reducible refine' r_ixL ?hx ?ha ?_); (case hx => walk_at "at"); (case ha => rfl))
  | ((with_reducible refine' r_ixT ?hx ?ha ?_); (case hx => walk_at "at"); (case ha => rfl))
  | ((with_reducible refine' r_setL ?hx ?ha ?_); (case hx => walk_at "at"); (case ha => rfl); intro H2 k2 h2; (try dsimp only [List.set, Int.toNat] at h2))
  | ((with_reducible refine' r_app ?hx ?hl ?_); (case hx => walk_at "at"); (case hl => first | exact Nat.lt_of_ble_eq_true rfl | omega); intro H2 k2 h2)
  | ((with_reducible refine' ty_list ?hx ?_); (case hx => walk_at "at"))
  | (refine And.intro (by (with_reducible show _ ≤ sizeLine); walk_at "sz") ?_; walk_at "new")
  | with_reducible refine s_exv ?_
  | walk_at "newx")
local macro_rules | `(tactic| walk_at "sx") => `(tactic| repeat (walk_at "s1"))
local macro_rules | `(tactic| walk_at "s2") => `(tactic| first
  | ((with_reducible refine' r_ixG ?hx ?hn ?_); (case hx => walk_at "at"); (case hn => omega))
  | ((with_reducible refine' r_ixGT ?hx ?hn ?_); (case hx => walk_at "at"); (case hn => omega))
  | (with_reducible refine ig_cons (fun hix => ?_) (fun hix => ?_))
  | ((with_reducible refine ig_nil ?_); omega)
  | ((with_reducible refine' i_T ?hc ?_); (case hc => omega))
  | ((with_reducible refine' i_F ?hc ?_); (case hc => omega))
  | (with_reducible refine i_2 (fun hc => ?_) (fun hc => ?_))
  | (with_reducible refine i_n2 (fun hc => ?_) (fun hc => ?_)))
local macro_rules | `(tactic| walk_at "go") => `(tactic| repeat' (first | walk_at "s1" | walk_at "s2"))

local macro_rules | `(tactic| walk_at "s1") => `(tactic| first
  | with_reducible refine s_chain ?_
  | with_reducible refine s_fldS ?_
  | with_reducible refine s_fld ?_
  | with_reducible refine s_dIn ?_
  | with_reducible refine s_dNotIn ?_
  | with_reducible refine s_sl ?_
  | with_reducible refine s_noPart ?_
  | with_reducible refine s_part ?_
  | with_reducible refine s_meth ?_
  | with_reducible refine s_make ?_)

theorem in_nums (m : Nat) : ∀ fs : List Nat, inV (nv m) (fs.map nv) = decide (m ∈ fs)
  | [] => rfl
  | f :: fs => by
    have ih := in_nums m fs
    unfold inV at ih ⊢
    rw [List.map_cons, List.any_cons, ih]
    have e : eqV (nv f) (nv m) = decide (m = f) := by
      show ((f : Int) == (m : Int)) = _
      by_cases h : m = f
      · subst h
        simp
      · rw [decide_eq_false h]
        simp
        omega
    rw [e, ← Bool.decide_or]
    exact decide_eq_decide.mpr (by rw [List.mem_cons])
theorem flat_nums (fs : List Nat) : (fs.map nv).all flatV = true := by
  rw [List.all_eq_true]
  intro x hx
  obtain ⟨m, _, rfl⟩ := List.mem_map.mp hx
  rfl
theorem bxor_n (a b : Nat) : Builtin.bitXor (a : Int) (b : Int) = ((a ^^^ b : Nat) : Int) := by
  rw [Bits.bitXor_pp (Int.natCast_nonneg _) (Int.natCast_nonneg _), Int.toNat_natCast, Int.toNat_natCast]
theorem band_n (a b : Nat) : Builtin.bitAnd (a : Int) (b : Int) = ((a &&& b : Nat) : Int) := by
  unfold Builtin.bitAnd
  rw [decide_eq_true (Int.natCast_nonneg a), decide_eq_true (Int.natCast_nonneg b)]
  rfl
theorem pop_le (n m : Nat) : pop n m ≤ n := by
  unfold pop
  rw [sumN_count]
  have := List.length_filter_le (fun k => decide (m.testBit k = true)) (List.range n)
  rw [List.length_range] at this
  omega
theorem dens_le (e : Nat → Nat → Bool) (n m : Nat) : dens e n m ≤ n * n := by
  have a : ∀ x, x < n → (if m.testBit x = true then sumN x fun y => if m.testBit y = true ∧ e y x = true then (1 : Int) else 0 else 0) ≤ n := fun x hx => by
    have c : (sumN x fun y => if m.testBit y = true ∧ e y x = true then (1 : Int) else 0) ≤ x := by
      rw [sumN_count]
      have := List.length_filter_le (fun y => decide (m.testBit y = true ∧ e y x = true)) (List.range x)
      rw [List.length_range] at this
      omega
    split <;> omega
  have b : ∀ k, k ≤ n → (sumN k fun x => if m.testBit x = true then sumN x fun y => if m.testBit y = true ∧ e y x = true then (1 : Int) else 0 else 0) ≤ k * n := fun k => by
    induction k with
    | zero => intro _; rw [show ((0 : Nat) : Int) * n = 0 by simp]; exact Int.le_refl _
    | succ k ih =>
      intro hk
      rw [sumN_succ, Int.natCast_add, Int.add_mul]
      have := ih (by omega)
      have := a k (by omega)
      omega
  exact b n (Nat.le_refl n)
theorem pop_zero (n : Nat) : pop n 0 = 0 := by
  unfold pop
  rw [sumN_congr (g := fun _ => 0) fun k _ => by simp, sumN_zero]
theorem dens_zero (e : Nat → Nat → Bool) (n : Nat) : dens e n 0 = 0 := by
  unfold dens
  rw [sumN_congr (g := fun _ => 0) fun k _ => by simp, sumN_zero]
theorem num_at {ns : List Nat} {i : Nat} (h : i < ns.length) : (ns.map nv)[i]? = some (nv (ns.getD i 0)) := by
  rw [List.getElem?_map, List.getElem?_eq_getElem h]
  simp [h]
section
variable {P : Program} {w : World} {K : PySem.W.Frag} {mg : Str → Option Value} {base : Heap} {A : Ad}
def spLD : Sp := fun vs H Q _ => ∃ (n : Nat) (l : Addr) (ns : List Nat), vs = [.int n, .ref l] ∧ H l = some (.lst (ns.map nv)) ∧ ns.length ≤ 9 ∧ n ≤ 6 ∧
  ∀ (q : Addr) (b0 b1 : Int) H', Same H H' → H' q = some (.lst [.int b0, .int b1]) → Bst (eT n ns) ns.length (2 ^ ns.length) b0 b1 → Q (.ref q) H'
theorem ok_LD (T : Txt P K mg A) : FnOk P w K mg base CX0 2 A.a__law_densest A.d__law_densest ["size", "numbers"] spLD := by
  refine T.F__law_densest.ok sc__law_densest (fun vs H Q E h => ?_) (fun cdv A' outer s H vs Q E hr h => ?_)
  · obtain ⟨n, l, ns, rfl, _⟩ := h
    rfl
  · obtain ⟨n, l, ns, rfl, hl0, few, sn, k⟩ := h
    have G__law_full := ok_full (w := w) (base := base) T
    have hl : True → H l = _ := fun _ => hl0
    clear hl0
    obtain ⟨N, eN⟩ : ∃ N, N = ns.length := ⟨_, rfl⟩
    obtain ⟨e, ee⟩ : ∃ e, e = eT n ns := ⟨_, rfl⟩
    rw [← eN, ← ee] at k
    refine ⟨_, (pss_cons (ps_setLc (i := 2) (own := [("k", 14)]) (g := (gName 14)) (by rfl) sc__law_densest.nd rfl rfl (sw_true rfl rfl rfl (by decide +kernel)) (pi_range1 rfl T.n_range (pa_cons (pv 0) pa_nil)) (blkOk_by (own := [("k", 14)]) (N := ["size", "numbers", "bits", "ties", "many", "best", "power", "i", "mask", "bit", "j", "low", "within", "rules_there", "k"]) (sc := defScope s__law_densest) (by decide +kernel)) (fun _ _ _ _ _ => (pg_name (i := 14) sc__law_densest.nd rfl (Or.inl rfl))) (fun _ _ _ _ _ => pts_nil) (fun _ _ _ _ _ => (pe_call G__law_full (hr.mono (by decide)) rfl T.g__law_full T.F__law_full.kp (B__law_full T) .nil pass0 (pa_cons (pv 14) pa_nil))))
  (pss_cons (ps_set (i := 3) sc__law_densest.nd rfl (Or.inl rfl) (pe_lst (pa_cons pe_int pa_nil)))
  (pss_cons (ps_set (i := 4) sc__law_densest.nd rfl (Or.inl rfl) (pe_lst (pa_cons pe_int pa_nil)))
  (pss_cons (ps_set (i := 5) sc__law_densest.nd rfl (Or.inl rfl) (pe_lst (pa_cons pe_int (pa_cons pe_int pa_nil))))
  (pss_cons (ps_set (i := 6) sc__law_densest.nd rfl (Or.inl rfl) pe_int)
  (pss_cons (ps_for PassesOwn.never rfl (pi_range1 rfl T.n_range (pa_cons (pe_callB call_len (by rfl) T.n_len (by decide +kernel) (pa_cons (pv 1) pa_nil)) pa_nil)) (pg_name (i := 7) sc__law_densest.nd rfl (Or.inl rfl))
  (pss_cons (ps_set (i := 8) sc__law_densest.nd rfl (Or.inl rfl) pe_int)
  (pss_cons (ps_set (i := 9) sc__law_densest.nd rfl (Or.inl rfl) pe_int)
  (pss_cons (ps_for PassesOwn.never rfl (pi_range1 rfl T.n_range (pa_cons (pv 7) pa_nil)) (pg_name (i := 10) sc__law_densest.nd rfl (Or.inl rfl))
  (pss_cons (ps_if (pt_cmpR op_in_seq (pe_op op_xor (pe_ix ix_seq (pv 1) (pv 7) (fun _ _ => rfl)) (pe_ix ix_seq (pv 1) (pv 10) (fun _ _ => rfl))) (pv 2) rfl) (pss_one (ps_set (i := 8) sc__law_densest.nd rfl (Or.inl rfl) (pe_op op_add (pv 8) (pv 9)))) pss_nil)
  (pss_one (ps_set (i := 9) sc__law_densest.nd rfl (Or.inl rfl) (pe_op op_mul (pv 9) pe_int)))))
  (pss_cons (ps_for PassesOwn.never rfl (pi_range1 rfl T.n_range (pa_cons (pv 6) pa_nil)) (pg_name (i := 11) sc__law_densest.nd rfl (Or.inl rfl))
  (pss_cons (ps_set (i := 12) sc__law_densest.nd rfl (Or.inl rfl) (pe_op op_add (pe_ix ix_seq (pv 3) (pv 11) (fun _ _ => rfl)) (pe_ix ix_seq (pv 4) (pe_op op_and (pv 11) (pv 8)) (fun _ _ => rfl))))
  (pss_cons (ps_set (i := 13) sc__law_densest.nd rfl (Or.inl rfl) (pe_op op_add (pe_ix ix_seq (pv 4) (pv 11) (fun _ _ => rfl)) pe_int))
  (pss_cons (ps_expr (pe_bm PySem.F.plainAttrs_list PySem.F.slot_list_append PySem.F.type_list_append mt_append (pv 3) (pa_cons (pv 12) pa_nil)))
  (pss_cons (ps_expr (pe_bm PySem.F.plainAttrs_list PySem.F.slot_list_append PySem.F.type_list_append mt_append (pv 4) (pa_cons (pv 13) pa_nil)))
  (pss_one (ps_if (pt_cmpR op_gt (pe_op op_mul (pv 12) (pe_ix ix_seq (pv 5) pe_int (fun _ _ => rfl))) (pe_op op_mul (pe_ix ix_seq (pv 5) pe_int (fun _ _ => rfl)) (pv 13)) (nomark _)) (pss_one (ps_set (i := 5) sc__law_densest.nd rfl (Or.inl rfl) (pe_lst (pa_cons (pv 12) (pa_cons (pv 13) pa_nil))))) pss_nil)))))))
  (pss_one (ps_set (i := 6) sc__law_densest.nd rfl (Or.inl rfl) (pe_op op_mul (pv 6) pe_int))))))))
  (pss_one (ps_ret (pv 5))))))))), ?_⟩
    walk_at "sx"
    refine ⟨_, rfl, _, rfl, by omega, by omega, fun D hD => lc_range (lo := 0) (n := n) (fun t G => Same H G ∧ (True → G D = some (.lst (((List.range t).map fun k => 2 ^ k).map nv)))) ⟨Same.new hD, fun _ => upd_same⟩ ?_ ?_⟩
    · rintro t G ht ⟨s', hD'⟩
      refine s_name ⟨rfl, ?_⟩
      refine s_yes (i_t ?_)
      walk_at "sx"
      refine ⟨t, by rw [Int.zero_add]; rfl, by omega, fun G2 s2 => ⟨_, s2 _ _ (hD' trivial), by rw [List.length_map, List.length_map, List.length_range, sizeLine_eq]; omega, Sx.Same.put (s'.trans s2) hD, fun _ => ?_⟩⟩
      rw [upd_same, List.range_succ, List.map_append, List.map_append]
      rfl
    rintro H1 ⟨s1, hD1⟩
    walk_at "sx"
    rename_i pt npt H2 s2 h2 pm npm H3 s3 h3 pb0 npb H4 s4 h40
    have ptm : pt ≠ pm := ne_of_none h2 npm
    have ptb : pt ≠ pb0 := ne_of_none (s3 _ _ h2) npb
    have pmb : pm ≠ pb0 := ne_of_none h3 npb
    have Hpt : H pt = none := Same.free s1 npt
    have Hpm : H pm = none := Same.free (s1.trans s2) npm
    have HD : H D = none := hD
    have ht4 : True → H4 pt = some (.lst (intsN (2 ^ 0) (dens e N))) := fun _ => by
      rw [s4 _ _ (s3 _ _ h2)]
      show _ = some (HO.lst [.int (dens e N 0)])
      rw [dens_zero]
    have hm4 : True → H4 pm = some (.lst (intsN (2 ^ 0) (pop N))) := fun _ => by
      rw [s4 _ _ h3]
      show _ = some (HO.lst [.int (pop N 0)])
      rw [pop_zero]
    have hb4 : True → H4 pb0 = some (.lst [.int 0, .int 1]) := fun _ => h40
    have s04 := s1.trans (s2.trans (s3.trans s4))
    have Dpt : D ≠ pt := ne_of_none (hD1 trivial) npt
    have Dpm : D ≠ pm := ne_of_none (s2 _ _ (hD1 trivial)) npm
    have hD4 : True → H4 D = _ := fun _ => (s2.trans (s3.trans s4)) _ _ (hD1 trivial)
    clear h2 h3 h40 hD1
    have lne : ∀ {q : Addr}, H q = none → l ≠ q := fun h => ne_of_none (hl trivial) h
    unfold tFor iRng1
    walk_at "sx"
    refine ⟨_, _, rfl, .inl ⟨_, SqL.of (s04 _ _ (hl trivial)), rfl⟩, ?_⟩
    rw [List.length_map, ← eN]
    refine s_nil ⟨_, rfl, by omega, by omega, for_range (lo := 0) (n := N) (fun i σ G => Same H G ∧ (True → G D = some (.lst (((List.range n).map fun k => 2 ^ k).map nv))) ∧ ∃ (pb : Addr) (b0 b1 : Int) (v7 v8 v9 v10 v11 v12 v13 : Option V), (True → G pt = some (.lst (intsN (2 ^ i) (dens e N)))) ∧ (True → G pm = some (.lst (intsN (2 ^ i) (pop N)))) ∧ (True → G pb = some (.lst [.int b0, .int b1])) ∧ pb ≠ pt ∧ pb ≠ pm ∧ Bst e N (2 ^ i) b0 b1 ∧
      σ = [some (.int n), some (.ref l), some (.ref D), some (.ref pt), some (.ref pm), some (.ref pb), some (.int (2 ^ i : Nat)), v7, v8, v9, v10, v11, v12, v13, none]) ?_ ?_ ?_⟩
    · exact ⟨s04, hD4, pb0, 0, 1, _, _, _, _, _, _, _, ht4, hm4, hb4, ptb.symm, pmb.symm, Bst.start e N, rfl⟩
    · rintro i σ G hi ⟨sG, hDG, pb, b0, b1, v7, v8, v9, v10, v11, v12, v13, htG, hmG, hbG, pbt, pbm, B, rfl⟩
      rw [Int.zero_add]
      have p9 : 2 ^ i ≤ 512 := Nat.le_trans (Nat.pow_le_pow_right (by decide) (show i ≤ 9 by omega)) (by decide)
      have hlG : True → G l = _ := fun _ => sG _ _ (hl trivial)
      walk_at "sx"
      refine ⟨by omega, by omega, for_range (lo := 0) (n := i) (fun j σ G' => G' = G ∧ ∃ (msk : Nat) (v10 : Option V), msk < 2 ^ j ∧ (∀ y, y < j → msk.testBit y = e y i) ∧
        σ = [some (.int n), some (.ref l), some (.ref D), some (.ref pt), some (.ref pm), some (.ref pb), some (.int (2 ^ i : Nat)), some (.int (i : Nat)), some (.int (msk : Nat)), some (.int (2 ^ j : Nat)), v10, v11, v12, v13, none]) ?_ ?_ ?_⟩
      · exact ⟨rfl, 0, _, by decide, (fun _ h => absurd h (Nat.not_lt_zero _)), rfl⟩
      · rintro j σ G' hj ⟨rfl, msk, v10, mlt, mb, rfl⟩
        rw [Int.zero_add]
        walk_at "s1"
        walk_at "s1"
        walk_at "s1"
        walk_at "s1"
        refine s_op (s_op (s_var rfl (s_var rfl (r_ixL (hlG trivial) (atI_nat (num_at (by omega))) (s_op (s_var rfl (s_var rfl (r_ixL (hlG trivial) (atI_nat (num_at (by omega))) (r_I0 ?_)))))))))
        rw [bxor_n]
        refine s_var rfl ⟨D, _, rfl, .inl (SqL.of (hDG trivial)), rfl, flat_nums _, ?_⟩
        rw [if_neg (by decide), in_nums]
        have ej : decide ((ns.getD i 0 ^^^ ns.getD j 0) ∈ (List.range n).map fun k => 2 ^ k) = e j i := by rw [ee]; rfl
        rw [ej]
        refine ⟨_, rfl, ?_⟩
        have pj : (2 ^ j : Nat) * 2 = 2 ^ (j + 1) := (Nat.pow_succ 2 j).symm
        by_cases c : e j i = true
        · rw [c]
          walk_at "sx"
          refine ⟨rfl, 2 ^ j + msk, some (.int (j : Nat)), top_lt mlt, fun y hy => ?_, ?_⟩
          · by_cases z : y = j
            · subst z
              rw [bit_top mlt, c]
            · rw [Fl.bit_low (show y < j by omega)]
              exact mb y (by omega)
          · rw [← pj, show ((msk : Nat) : Int) + ((2 ^ j : Nat) : Int) = ((2 ^ j + msk : Nat) : Int) by omega, show ((2 ^ j : Nat) : Int) * 2 = ((2 ^ j * 2 : Nat) : Int) by omega]
            rfl
        · rw [Bool.eq_false_iff.mpr c]
          walk_at "sx"
          refine ⟨rfl, msk, some (.int (j : Nat)), by omega, fun y hy => ?_, ?_⟩
          · by_cases z : y = j
            · subst z
              rw [Nat.testBit_lt_two_pow mlt, Bool.eq_false_iff.mpr c]
            · exact mb y (by omega)
          · rw [← pj, show ((2 ^ j : Nat) : Int) * 2 = ((2 ^ j * 2 : Nat) : Int) by omega]
            rfl
      rintro σ G' ⟨rfl, msk, v10, mlt, mb, rfl⟩
      walk_at "sx"
      refine ⟨by omega, by omega, for_range (lo := 0) (n := 2 ^ i) (fun low σ G' => Same H G' ∧ (True → G' D = some (.lst (((List.range n).map fun k => 2 ^ k).map nv))) ∧ ∃ (pb : Addr) (b0 b1 : Int) (v11 v12 v13 : Option V), (True → G' pt = some (.lst (intsN (2 ^ i + low) (dens e N)))) ∧ (True → G' pm = some (.lst (intsN (2 ^ i + low) (pop N)))) ∧ (True → G' pb = some (.lst [.int b0, .int b1])) ∧ pb ≠ pt ∧ pb ≠ pm ∧ Bst e N (2 ^ i + low) b0 b1 ∧
        σ = [some (.int n), some (.ref l), some (.ref D), some (.ref pt), some (.ref pm), some (.ref pb), some (.int (2 ^ i : Nat)), some (.int (i : Nat)), some (.int (msk : Nat)), some (.int (2 ^ i : Nat)), v10, v11, v12, v13, none]) ?_ ?_ ?_⟩
      · exact ⟨sG, hDG, pb, b0, b1, _, _, _, htG, hmG, hbG, pbt, pbm, B, rfl⟩
      · rintro low σ G2 hlow ⟨s2, hD2, pb, b0, b1, v11, v12, v13, ht2, hm2, hb2, pbt, pbm, B, rfl⟩
        rw [Int.zero_add]
        have al : low &&& msk < 2 ^ i + low := Nat.lt_of_le_of_lt Nat.and_le_left (by omega)
        have pN := pop_le N low
        have b1l : b1 ≤ 9 := by
          rcases B.is with ⟨_, z⟩ | ⟨m, _, _, _, z⟩
          · omega
          · have := pop_le N m
            omega
        walk_at "s1"
        walk_at "s1"
        refine s_op (s_op (s_var rfl (s_var rfl (r_ixL (ht2 trivial) (atI_nat (intsN_at (by omega))) (s_op (s_var rfl (s_op (s_var rfl (s_var rfl (r_I0 ?_))))))))))
        rw [band_n]
        refine r_ixL (hm2 trivial) (atI_nat (intsN_at al)) (r_I0 ?_)
        rw [← dens_step hi hlow mlt mb]
        refine s_name ?_
        walk_at "s1"
        walk_at "s1"
        refine s_op (s_op (s_var rfl (s_var rfl (r_ixL (hm2 trivial) (atI_nat (intsN_at (by omega))) (s_c (r_I0 ?_))))))
        rw [← pop_step hi hlow]
        refine s_name ?_
        walk_at "sx"
        have sz : 2 ^ i + low < 2000 := by omega
        refine ty_list (ht2 trivial) (s_cons (s_var rfl (s_nil (r_app (ht2 trivial) (by rw [intsN_len, sizeLine_eq]; omega) fun G3 k3 h30 => ?_))))
        have h3t : True → G3 pt = some (.lst (intsN (2 ^ i + (low + 1)) (dens e N))) := fun _ => by rw [h30, ← Nat.add_assoc, intsN_succ]
        clear h30
        have h3m : True → G3 pm = _ := fun _ => k3 _ _ ptm.symm (hm2 trivial)
        have h3b : True → G3 pb = _ := fun _ => k3 _ _ pbt (hb2 trivial)
        have h3D : True → G3 D = _ := fun _ => k3 _ _ Dpt (hD2 trivial)
        have s3 : Same H G3 := Keep.toSame s2 Hpt k3
        walk_at "sx"
        refine ty_list (h3m trivial) (s_cons (s_var rfl (s_nil (r_app (h3m trivial) (by rw [intsN_len, sizeLine_eq]; omega) fun G4 k4 h40 => ?_))))
        have h4m : True → G4 pm = some (.lst (intsN (2 ^ i + (low + 1)) (pop N))) := fun _ => by rw [h40, ← Nat.add_assoc, intsN_succ]
        clear h40
        have h4t : True → G4 pt = _ := fun _ => k4 _ _ ptm (h3t trivial)
        have h4b : True → G4 pb = _ := fun _ => k4 _ _ pbm (h3b trivial)
        have h4D : True → G4 D = _ := fun _ => k4 _ _ Dpm (h3D trivial)
        have s4 : Same H G4 := Keep.toSame s3 Hpm k4
        have pN2 := pop_le N (2 ^ i + low)
        have pp2 : 0 ≤ pop N (2 ^ i + low) := by
          rw [pop_step hi hlow]
          have : 0 ≤ pop N low := by rw [← bitsL_len]; exact Int.natCast_nonneg _
          omega
        have b1p := B.pos
        have p1 := Nat.pow_pos (n := i) (show 0 < 2 by decide)
        have tN : 2 ^ i + low < 2 ^ N := Nat.lt_of_lt_of_le (top_lt hlow) (Nat.pow_le_pow_right (by decide) hi)
        walk_at "s1"
        walk_at "s1"
        refine s_op (s_op (s_var rfl (s_op (s_var rfl (s_c (r_ixL (h4b trivial) (v := .int b1) rfl (r_I (c_mul_r (by omega) (by omega)) ?_)))))))
        refine s_op (s_op (s_var rfl (s_c (r_ixL (h4b trivial) (v := .int b0) rfl (s_var rfl (r_I (c_mul_r (by omega) (by omega)) (r_I0 ?_)))))))
        refine ⟨_, rfl, ?_⟩
        refine i_2 (fun c => ?_) (fun c => ?_)
        · walk_at "sx"
          rename_i p5 np5 G5 s5 h5
          have p5t : p5 ≠ pt := (ne_of_none (h4t trivial) np5).symm
          have p5m : p5 ≠ pm := (ne_of_none (h4m trivial) np5).symm
          exact ⟨s4.trans s5, fun _ => s5 _ _ (h4D trivial), p5, _, _, _, _, _, fun _ => s5 _ _ (h4t trivial), fun _ => s5 _ _ (h4m trivial), fun _ => h5, p5t, p5m, B.take (by omega) tN c, rfl⟩
        · walk_at "sx"
          exact ⟨s4, h4D, pb, b0, b1, _, _, _, h4t, h4m, h4b, pbt, pbm, B.skip (by omega), rfl⟩
      · rintro σ G2 ⟨s2, hD2, pb, b0, b1, v11, v12, v13, ht2, hm2, hb2, pbt, pbm, B, rfl⟩
        have p2 : 2 ^ i + 2 ^ i = 2 ^ (i + 1) := by rw [Nat.pow_succ]; omega
        rw [p2] at ht2 hm2 B
        walk_at "sx"
        refine ⟨s2, hD2, pb, b0, b1, some (.int (i : Nat)), some (.int (msk : Nat)), some (.int (2 ^ i : Nat)), v10, v11, v12, v13, ht2, hm2, hb2, pbt, pbm, B, ?_⟩
        rw [show ((2 ^ i : Nat) : Int) * 2 = ((2 ^ (i + 1) : Nat) : Int) by rw [← p2]; omega]
        rfl
    · rintro σ G ⟨sG, _, pb, b0, b1, v7, v8, v9, v10, v11, v12, v13, htG, hmG, hbG, pbt, pbm, B, rfl⟩
      walk_at "sx"
      exact k pb b0 b1 G sG (hbG trivial) B
end
end K37

set_option Elab.async false
set_option linter.all false
set_option maxRecDepth 100000
set_option maxHeartbeats 4000000
namespace K37
open PySem L2 Sx Fl
local macro_rules | `(tactic| walk_at "cond") => `(tactic| first
  | assumption
  | decide
  | exact c_mul_r (by first | decide | omega) (by first | decide | omega)
  | exact c_mul_l (by first | decide | omega) (by first | decide | omega)
  | exact c_div (by first | decide | omega) (by first | decide | omega)
  | exact c_pow (by first | decide | omega) (by first | decide | omega) (by first | decide | omega)
  | omega)
local macro_rules | `(tactic| walk_at "ne") => `(tactic| first
  | assumption
  | (refine Ne.symm ?_; assumption)
  | (refine' Flow.ne ?nh ?nn; (case nn => assumption); (case nh => walk_at "fl"))
  | (refine Ne.symm ?_; refine' Flow.ne ?nh ?nn; (case nn => assumption); (case nh => walk_at "fl"))
  | (refine' ne_of_none ?nh ?nn; (case nn => assumption); (case nh => walk_at "at"))
  | (refine Ne.symm ?_; refine' ne_of_none ?nh ?nn; (case nn => assumption); (case nh => walk_at "at")))
local macro_rules | `(tactic| walk_at "at") => `(tactic| first
  | assumption
  | (refine Same.up (by assumption) ?_; walk_at "at")
  | (refine Keep.up (by assumption) (by walk_at "ne") ?_; walk_at "at"))
local macro_rules | `(tactic| walk_at "fl") => `(tactic| first
  | assumption
  | (refine Flow.same (by assumption) ?_; walk_at "fl")
  | (refine Flow.keep (by assumption) (by walk_at "ne") ?_; walk_at "fl"))
local macro_rules | `(tactic| walk_at "fr") => `(tactic| first
  | assumption
  | (refine same_free (by assumption) ?_; walk_at "fr")
  | (refine Keep.free (by assumption) (by walk_at "ne") ?_; walk_at "fr"))
local macro_rules | `(tactic| walk_at "kp") => `(tactic| first
  | assumption
  | exact Keep.refl _ _
  | (refine Keep.trans ?_ (by assumption); walk_at "kp")
  | (refine Keep.trans ?_ (Keep.same (by assumption)); walk_at "kp"))
local macro_rules | `(tactic| walk_at "sm") => `(tactic| first
  | assumption
  | exact L2.Same.refl _
  | (refine L2.Same.trans ?_ (by assumption); walk_at "sm"))
local macro_rules | `(tactic| walk_at "sz") => `(tactic| first | exact Nat.le_of_ble_eq_true rfl | omega)
local macro_rules | `(tactic| walk_at "new") => `(tactic| (intro p np; generalize hE : upd _ p _ = H2; have s2 := new_same np hE; have h2 := new_at hE; clear hE))
local macro_rules | `(tactic| walk_at "newx") => `(tactic| (intro e d na nd hda; generalize hE : upd (upd _ d _) e _ = H2; have s2 := newx_same na nd hE; have h2 := newx_at hE; have h3 := newx_d hda hE; clear hE))
local macro_rules | `(tactic| walk_at "s1") => `(tactic| first
  | with_reducible refine s_seq ?_
  | with_reducible refine s_asg ?_
  | with_reducible refine s_name ?_
  | with_reducible refine s_ret ?_
  | with_reducible refine s_c ?_
  | ((with_reducible refine' s_var ?hv ?_); (case hv => rfl))
  | with_reducible refine s_op ?_
  | with_reducible refine s_un ?_
  | with_reducible refine s_ifS ?_
  | with_reducible refine s_cb ?_
  | with_reducible refine s_cons ?_
  | with_reducible refine s_nil ?_
  | with_reducible refine s_call ?_
  | with_reducible refine s_test ?_
  | with_reducible refine s_tB ?_
  | with_reducible refine s_bl ?_
  | with_reducible refine s_and ?_
  | with_reducible refine s_or ?_
  | with_reducible refine s_not ?_
  | with_reducible refine s_andV ?_
  | with_reducible refine s_orV ?_
  | with_reducible refine s_notV ?_
  | with_reducible refine s_blV ?_
  | with_reducible refine s_if ?_
  | with_reducible refine s_tup ?_
  | with_reducible refine s_lst ?_
  | with_reducible refine s_drop ?_
  | with_reducible refine s_next ?_
  | with_reducible refine s_sub ?_
  | with_reducible refine s_bm ?_
  | with_reducible refine s_callK ?_
  | with_reducible refine s_brk ?_
  | with_reducible refine s_cont ?_
  | with_reducible refine r_I0 ?_
  | with_reducible refine r_U ?_
  | with_reducible refine r_eqI ?_
  | with_reducible refine r_neI ?_
  | with_reducible refine r_isB ?_
  | with_reducible refine r_notB ?_
  | with_reducible refine i_t ?_
  | with_reducible refine i_f ?_
  | with_reducible refine i_nt ?_
  | with_reducible refine i_nf ?_
  | ((with_reducible refine' r_I ?hc ?_); (case hc => walk_at "cond"))
  | (with_reducible refine .inl ⟨_, rfl, ?_⟩)
  | (with_reducible refine ⟨_, rfl, ?_⟩)
  | ((with_reducible refine' r_ixL ?hx ?ha ?_); (case hx => walk_at "at"); (case ha => rfl))
  | ((with_reducible refine' r_ixT ?hx ?ha ?_); (case hx => walk_at "at"); (case ha => rfl))
  | ((with_reducible refine' r_setL ?hx ?ha ?_); (case hx => walk_at "at"); (case ha => rfl); intro H2 k2 h2; (try dsimp only [List.set, Int.toNat] at h2))
  | ((with_reducible refine' r_app ?hx ?hl ?_); (case hx => walk_at "at"); (case hl => first | exact Nat.lt_of_ble_eq_true rfl | omega); intro H2 k2 h2)
  | ((with_reducible refine' ty_list ?hx ?_); (case hx => walk_at "at"))
  | (refine And.intro (by (with_reducible show _ ≤ sizeLine); walk_at "sz") ?_; walk_at "new")
  | with_reducible refine s_exv ?_
  | walk_at "newx")
local macro_rules | `(tactic| walk_at "sx") => `(tactic| repeat (walk_at "s1"))
local macro_rules | `(tactic| walk_at "s2") => `(tactic| first
  | ((with_reducible refine' r_ixG ?hx ?hn ?_); (case hx => walk_at "at"); (case hn => omega))
  | ((with_reducible refine' r_ixGT ?hx ?hn ?_); (case hx => walk_at "at"); (case hn => omega))
  | (with_reducible refine ig_cons (fun hix => ?_) (fun hix => ?_))
  | ((with_reducible refine ig_nil ?_); omega)
  | ((with_reducible refine' i_T ?hc ?_); (case hc => omega))
  | ((with_reducible refine' i_F ?hc ?_); (case hc => omega))
  | (with_reducible refine i_2 (fun hc => ?_) (fun hc => ?_))
  | (with_reducible refine i_n2 (fun hc => ?_) (fun hc => ?_)))
local macro_rules | `(tactic| walk_at "go") => `(tactic| repeat' (first | walk_at "s1" | walk_at "s2"))

local macro_rules | `(tactic| walk_at "s1") => `(tactic| first
  | with_reducible refine s_chain ?_
  | with_reducible refine s_fldS ?_
  | with_reducible refine s_fld ?_
  | with_reducible refine s_dIn ?_
  | with_reducible refine s_dNotIn ?_
  | with_reducible refine s_sl ?_
  | with_reducible refine s_noPart ?_
  | with_reducible refine s_part ?_
  | with_reducible refine s_meth ?_
  | with_reducible refine s_make ?_)

section
variable {P : Program} {w : World} {K : PySem.W.Frag} {mg : Str → Option Value} {base : Heap} {A : Ad}
theorem ix10 {d : Int} (l : 0 ≤ d) (u : d < 10) : ∃ s : Nat, s ≤ 4 ∧ atI [V.int 4, .int 3, .int 2, .int 4, .int 3, .int 1, .int 4, .int 3, .int 2, .int 0] d = some (.int s) := by
  have h : d = 0 ∨ d = 1 ∨ d = 2 ∨ d = 3 ∨ d = 4 ∨ d = 5 ∨ d = 6 ∨ d = 7 ∨ d = 8 ∨ d = 9 := by omega
  rcases h with rfl | rfl | rfl | rfl | rfl | rfl | rfl | rfl | rfl | rfl
  · exact ⟨4, by decide, rfl⟩
  · exact ⟨3, by decide, rfl⟩
  · exact ⟨2, by decide, rfl⟩
  · exact ⟨4, by decide, rfl⟩
  · exact ⟨3, by decide, rfl⟩
  · exact ⟨1, by decide, rfl⟩
  · exact ⟨4, by decide, rfl⟩
  · exact ⟨3, by decide, rfl⟩
  · exact ⟨2, by decide, rfl⟩
  · exact ⟨0, by decide, rfl⟩
theorem ix10b {d : Int} (l : 0 ≤ d) (u : d < 10) : ∃ s : Nat, s ≤ 6 ∧ atI [V.int 5, .int 4, .int 3, .int 6, .int 4, .int 5, .int 2, .int 3, .int 1, .int 0] d = some (.int s) := by
  have h : d = 0 ∨ d = 1 ∨ d = 2 ∨ d = 3 ∨ d = 4 ∨ d = 5 ∨ d = 6 ∨ d = 7 ∨ d = 8 ∨ d = 9 := by omega
  rcases h with rfl | rfl | rfl | rfl | rfl | rfl | rfl | rfl | rfl | rfl
  · exact ⟨5, by decide, rfl⟩
  · exact ⟨4, by decide, rfl⟩
  · exact ⟨3, by decide, rfl⟩
  · exact ⟨6, by decide, rfl⟩
  · exact ⟨4, by decide, rfl⟩
  · exact ⟨5, by decide, rfl⟩
  · exact ⟨2, by decide, rfl⟩
  · exact ⟨3, by decide, rfl⟩
  · exact ⟨1, by decide, rfl⟩
  · exact ⟨0, by decide, rfl⟩
/-- numbers drawn, none twice -/
structure Fd (n mst : Nat) (fs : List Nat) : Prop where
  nd : fs.Nodup
  lt : ∀ m ∈ fs, m < 2 ^ n
  ne : fs ≠ []
  few : fs.length ≤ mst
def spWalk : Sp := fun vs H Q _ => ∃ (a : Addr) (n mst : Nat), vs = [.ref a, .int n, .int mst] ∧ Flow H a ∧ n ≤ 6 ∧ 0 < mst ∧ mst ≤ 24 ∧ ∀ (p : Addr) (ns : List Nat) H', Flow H' a → Keep a H H' → H' p = some (.lst (ns.map nv)) → Nums n ns → ns.length ≤ mst → Q (.ref p) H'
theorem ok_walk (T : Txt P K mg A) : FnOk P w K mg base CX0 2 A.a__law_walk A.d__law_walk ["flow", "size", "most"] spWalk := by
  refine T.F__law_walk.ok sc__law_walk (fun vs H Q E h => ?_) (fun cdv A' outer s H vs Q E hr h => ?_)
  · obtain ⟨a, n, mst, rfl, _⟩ := h
    rfl
  · obtain ⟨a, n, mst, rfl, hF, sn, mst0, mst24, k⟩ := h
    have G__law_take := ok_take (w := w) (base := base) T
    have G__law_full := ok_full (w := w) (base := base) T
    refine ⟨_, (pss_cons (ps_set (i := 3) sc__law_walk.nd rfl (Or.inl rfl) (pe_call G__law_full (hr.mono (by decide)) rfl T.g__law_full T.F__law_full.kp (B__law_full T) .nil pass0 (pa_cons (pv 1) pa_nil)))
  (pss_cons (ps_set (i := 4) sc__law_walk.nd rfl (Or.inl rfl) (pe_lst (pa_cons (pe_call G__law_take (hr.mono (by decide)) rfl T.g__law_take T.F__law_take.kp (B__law_take T) .nil pass0 (pa_cons (pv 0) (pa_cons (pv 3) pa_nil))) pa_nil)))
  (pss_cons (ps_set (i := 5) sc__law_walk.nd rfl (Or.inl rfl) (pv 2))
  (pss_cons (ps_if (pt_cmpR op_eq (pe_call G__law_take (hr.mono (by decide)) rfl T.g__law_take T.F__law_take.kp (B__law_take T) .nil pass0 (pa_cons (pv 0) (pa_cons pe_int pa_nil))) pe_int (nomark _)) (pss_one (ps_set (i := 5) sc__law_walk.nd rfl (Or.inl rfl) (pe_op op_add pe_int (pe_call G__law_take (hr.mono (by decide)) rfl T.g__law_take T.F__law_take.kp (B__law_take T) .nil pass0 (pa_cons (pv 0) (pa_cons (pv 2) pa_nil)))))) pss_nil)
  (pss_cons (ps_for PassesOwn.never rfl (pi_range1 rfl T.n_range (pa_cons (pe_op op_mul pe_int (pv 2)) pa_nil)) (pg_name (i := 6) sc__law_walk.nd rfl (Or.inl rfl))
  (pss_one (ps_if (pt_cmpR op_lt (pe_callB call_len (by rfl) T.n_len (by decide +kernel) (pa_cons (pv 4) pa_nil)) (pv 5) (nomark _)) (pss_cons (ps_set (i := 7) sc__law_walk.nd rfl (Or.inl rfl) (pe_ix ix_seq (pv 4) (pe_call G__law_take (hr.mono (by decide)) rfl T.g__law_take T.F__law_take.kp (B__law_take T) .nil pass0 (pa_cons (pv 0) (pa_cons (pe_callB call_len (by rfl) T.n_len (by decide +kernel) (pa_cons (pv 4) pa_nil)) pa_nil))) (fun _ _ => rfl)))
  (pss_cons (ps_set (i := 8) sc__law_walk.nd rfl (Or.inl rfl) (pe_call G__law_take (hr.mono (by decide)) rfl T.g__law_take T.F__law_take.kp (B__law_take T) .nil pass0 (pa_cons (pv 0) (pa_cons pe_int pa_nil))))
  (pss_cons (ps_if (pt_cmpR op_eq (pv 8) pe_int (nomark _)) (pss_one (ps_set (i := 7) sc__law_walk.nd rfl (Or.inl rfl) (pe_call G__law_take (hr.mono (by decide)) rfl T.g__law_take T.F__law_take.kp (B__law_take T) .nil pass0 (pa_cons (pv 0) (pa_cons (pv 3) pa_nil))))) (pss_one (ps_if (pt_cmpR op_lt (pv 8) pe_int (nomark _)) (pss_one (ps_set (i := 7) sc__law_walk.nd rfl (Or.inl rfl) (pe_op op_xor (pe_op op_xor (pv 7) (pe_ix ix_seq (pv 4) (pe_call G__law_take (hr.mono (by decide)) rfl T.g__law_take T.F__law_take.kp (B__law_take T) .nil pass0 (pa_cons (pv 0) (pa_cons (pe_callB call_len (by rfl) T.n_len (by decide +kernel) (pa_cons (pv 4) pa_nil)) pa_nil))) (fun _ _ => rfl))) (pe_ix ix_seq (pv 4) (pe_call G__law_take (hr.mono (by decide)) rfl T.g__law_take T.F__law_take.kp (B__law_take T) .nil pass0 (pa_cons (pv 0) (pa_cons (pe_callB call_len (by rfl) T.n_len (by decide +kernel) (pa_cons (pv 4) pa_nil)) pa_nil))) (fun _ _ => rfl))))) (pss_one (ps_if (pt_cmpR op_gt (pv 1) pe_int (nomark _)) (pss_one (ps_set (i := 7) sc__law_walk.nd rfl (Or.inl rfl) (pe_op op_xor (pv 7) (pe_call G__law_full (hr.mono (by decide)) rfl T.g__law_full T.F__law_full.kp (B__law_full T) .nil pass0 (pa_cons (pe_call G__law_take (hr.mono (by decide)) rfl T.g__law_take T.F__law_take.kp (B__law_take T) .nil pass0 (pa_cons (pv 0) (pa_cons (pv 1) pa_nil))) pa_nil))))) pss_nil)))))
  (pss_one (ps_if (pt_cmpR op_notIn_seq (pv 7) (pv 4) rfl) (pss_one (ps_expr (pe_bm PySem.F.plainAttrs_list PySem.F.slot_list_append PySem.F.type_list_append mt_append (pv 4) (pa_cons (pv 7) pa_nil)))) pss_nil))))) pss_nil)))
  (pss_one (ps_ret (pe_callB cr_sortedI (by rfl) T.n_sorted (by decide +kernel) (pa_cons (pv 4) pa_nil))))))))), ?_⟩
    obtain ⟨pp, epp⟩ : ∃ pp, pp = 2 ^ n := ⟨_, rfl⟩
    have p1 : 0 < pp := by rw [epp]; exact Nat.pow_pos (by decide)
    have p8 : pp ≤ 64 := by rw [epp]; exact (show 2 ^ n ≤ 2 ^ 6 from Nat.pow_le_pow_right (by decide) sn)
    walk_at "sx"
    refine ⟨n, rfl, sn, fun H1 s1 => ?_⟩
    rw [← epp]
    walk_at "sx"
    refine c_take (hF.same s1) (by omega) (by omega) (fun d1 H2 l1 u1 F2 K2 => ?_)
    obtain ⟨m1, rfl⟩ := Int.eq_ofNat_of_zero_le l1
    walk_at "sx"
    rename_i pf npf H3 s3 h3
    have hf3 : True → H3 pf = some (.lst ([m1].map nv)) := fun _ => h3
    clear h3
    have K3 : Keep a H H3 := (Keep.same s1).trans (K2.trans (Keep.same s3))
    have F3 := F2.same s3
    have hfa : a ≠ pf := F2.ne npf
    have hf0 : H pf = none := Keep.free ((Keep.same s1).trans K2) hfa.symm npf
    refine c_take F3 (by decide) (by decide) (fun d2 H4 l2 u2 F4 K4 => ?_)
    walk_at "sx"
    refine i_2 (fun c0 => ?_) (fun c0 => ?_)
    · walk_at "sx"
      refine c_take F4 (by omega) (by omega) (fun d5 H5 l5 u5 F5 K5 => ?_)
      walk_at "sx"
      obtain ⟨du, edu⟩ : ∃ du, du = 1 + d5 := ⟨_, rfl⟩
      have ldu : du ≤ (mst : Int) := by omega
      rw [← edu]
      have FZ := F5
      have KZ : Keep a H H5 := K3.trans (K4.trans K5)
      have hfZ : True → H5 pf = some (.lst ([m1].map nv)) := fun _ => K5 _ _ hfa.symm (K4 _ _ hfa.symm (hf3 trivial))
      have fd0 : Fd n mst [m1] := ⟨by simp, fun m hm => by rw [List.mem_singleton.mp hm, ← epp]; omega, by simp, by rw [List.length_singleton]; omega⟩
      refine ⟨_, rfl, 2, mst, rfl, rfl, .inl ⟨by decide, by decide⟩, ((2 * mst : Nat) : Int), by rw [Int.natCast_mul]; rfl, by omega, by omega, for_range (lo := 0) (n := 2 * mst) (fun i σ H' => Flow H' a ∧ Keep a H H' ∧ (∃ fs : List Nat, (True → H' pf = some (.lst (fs.map nv))) ∧ Fd n mst fs) ∧ ∃ v6 v7 v8 : Option V, σ = [some (.ref a), some (.int n), some (.int mst), some (.int pp), some (.ref pf), some (.int du), v6, v7, v8]) ?_ ?_ ?_⟩
      · exact ⟨FZ, KZ, ⟨_, hfZ, fd0⟩, _, _, _, rfl⟩
      · rintro i σ H' hi ⟨F', K', ⟨fs, hf, fd⟩, v6, v7, v8, rfl⟩
        have lf := fd.few
        have lf0 : 0 < fs.length := List.length_pos_iff.mpr fd.ne
        have at_ : ∀ {d : Int}, 0 ≤ d → d < ((fs.map nv).length : Int) → ∃ m, m ∈ fs ∧ atI (fs.map nv) d = some (.int (m : Nat)) := fun {d} h0 h1 => by
          obtain ⟨j, rfl⟩ := Int.eq_ofNat_of_zero_le h0
          rw [List.length_map] at h1
          have lj : j < fs.length := by omega
          exact ⟨fs[j], List.getElem_mem _, atI_nat (by rw [List.getElem?_map, List.getElem?_eq_getElem lj]; rfl)⟩
        have fin : ∀ (m : Nat) (H6 : Hp) (v6 v8 : Option V) (D : Ends), m < 2 ^ n → fs.length < mst → Flow H6 a → Keep a H H6 → (True → H6 pf = some (.lst (fs.map nv))) →
            (∀ H7 fs', Flow H7 a → Keep a H H7 → (True → H7 pf = some (.lst (fs'.map nv))) → Fd n mst fs' → D.nx [some (.ref a), some (.int n), some (.int mst), some (.int pp), some (.ref pf), some (.int du), v6, some (.int m), v8] H7) →
            tIfS (tTest (tOp (rIn K true) (tVar 7) (tVar 4))) (tDrop (tBM K "list" rAppend (tVar 4) (tCons (tVar 7) tNil))) tNext D [some (.ref a), some (.int n), some (.int mst), some (.int pp), some (.ref pf), some (.int du), v6, some (.int m), v8] H6 := by
          intro m H6 v6 v8 D lm l24 F6 K6 hf6 kD
          refine s_ifS (s_test (s_op (s_var rfl (s_var rfl ⟨pf, _, rfl, .inl (SqL.of (hf6 trivial)), rfl, flat_nums fs, ?_⟩))))
          rw [if_pos rfl, in_nums]
          refine ⟨_, rfl, ?_⟩
          refine i_n2 (fun c => ?_) (fun c => ?_)
          · refine s_drop (s_bm (s_var rfl (ty_list (hf6 trivial) (s_cons (s_var rfl (s_nil (r_app (hf6 trivial) (by rw [List.length_map, sizeLine_eq]; omega) fun H7 k7 h7 => ?_)))))))
            refine kD H7 (fs ++ [m]) (F6.keep k7 hfa) (keep_new K6 hf0 k7) (fun _ => by rw [h7, List.map_append]; rfl) ⟨?_, fun x hx => ?_, by simp, by simp; omega⟩
            · rw [List.nodup_append]
              refine ⟨fd.nd, by simp, fun x hx y hy e => ?_⟩
              rw [List.mem_singleton.mp hy] at e
              exact c (e ▸ hx)
            · rcases List.mem_append.mp hx with h | h
              · exact fd.lt x h
              · rw [List.mem_singleton.mp h]
                exact lm
          · exact kD H6 fs F6 K6 hf6 fd
        walk_at "sx"
        refine ⟨_, _, rfl, .inl ⟨_, SqL.of (hf trivial), rfl⟩, ?_⟩
        walk_at "sx"
        refine i_2 (fun c => ?_) (fun c => ?_)
        · have l24 : fs.length < mst := by
            rw [List.length_map] at c
            omega
          walk_at "sx"
          refine ⟨_, _, rfl, .inl ⟨_, SqL.of (hf trivial), rfl⟩, ?_⟩
          walk_at "sx"
          refine c_take F' (by rw [List.length_map]; omega) (by rw [List.length_map]; omega) (fun d6 H6 l6 u6 F6 K6 => ?_)
          have hf6 : True → H6 pf = some (.lst (fs.map nv)) := fun _ => K6 _ _ hfa.symm (hf trivial)
          obtain ⟨m6, in6, at6⟩ := at_ l6 u6
          refine r_ixL (hf6 trivial) at6 ?_
          walk_at "sx"
          refine c_take F6 (by decide) (by decide) (fun d7 H7 l7 u7 F7 K7 => ?_)
          have hf7 : True → H7 pf = some (.lst (fs.map nv)) := fun _ => K7 _ _ hfa.symm (hf6 trivial)
          have K07 : Keep a H H7 := K'.trans (K6.trans K7)
          walk_at "sx"
          refine i_2 (fun c0 => ?_) (fun c0 => ?_)
          · walk_at "sx"
            refine c_take F7 (by omega) (by omega) (fun d8 H8 l8 u8 F8 K8 => ?_)
            obtain ⟨m8, rfl⟩ := Int.eq_ofNat_of_zero_le l8
            refine s_name ?_
            exact fin m8 H8 _ _ _ (by rw [← epp]; omega) l24 F8 (K07.trans K8) (fun _ => K8 _ _ hfa.symm (hf7 trivial)) (fun H9 fs' F9 K9 h9 fd9 => ⟨F9, K9, ⟨fs', h9, fd9⟩, _, _, _, rfl⟩)
          · walk_at "sx"
            refine i_2 (fun c1 => ?_) (fun c1 => ?_)
            · walk_at "sx"
              refine ⟨_, _, rfl, .inl ⟨_, SqL.of (hf7 trivial), rfl⟩, ?_⟩
              walk_at "sx"
              refine c_take F7 (by rw [List.length_map]; omega) (by rw [List.length_map]; omega) (fun d8 H8 l8 u8 F8 K8 => ?_)
              have hf8 : True → H8 pf = some (.lst (fs.map nv)) := fun _ => K8 _ _ hfa.symm (hf7 trivial)
              obtain ⟨m8, in8, at8⟩ := at_ l8 u8
              refine r_ixL (hf8 trivial) at8 ?_
              refine r_I0 ?_
              rw [bxor_n]
              walk_at "sx"
              refine ⟨_, _, rfl, .inl ⟨_, SqL.of (hf8 trivial), rfl⟩, ?_⟩
              walk_at "sx"
              refine c_take F8 (by rw [List.length_map]; omega) (by rw [List.length_map]; omega) (fun d9 H9 l9 u9 F9 K9 => ?_)
              have hf9 : True → H9 pf = some (.lst (fs.map nv)) := fun _ => K9 _ _ hfa.symm (hf8 trivial)
              obtain ⟨m9, in9, at9⟩ := at_ l9 u9
              refine r_ixL (hf9 trivial) at9 ?_
              refine r_I0 ?_
              rw [bxor_n]
              refine s_name ?_
              exact fin _ H9 _ _ _ (Nat.xor_lt_two_pow (Nat.xor_lt_two_pow (fd.lt _ in6) (fd.lt _ in8)) (fd.lt _ in9)) l24 F9 (K07.trans (K8.trans K9)) hf9 (fun H9 fs' F9 K9 h9 fd9 => ⟨F9, K9, ⟨fs', h9, fd9⟩, _, _, _, rfl⟩)
            · walk_at "sx"
              refine i_2 (fun c2 => ?_) (fun c2 => ?_)
              · walk_at "sx"
                refine c_take F7 (by omega) (by omega) (fun d8 H8 l8 u8 F8 K8 => ?_)
                obtain ⟨m8, rfl⟩ := Int.eq_ofNat_of_zero_le l8
                walk_at "sx"
                refine ⟨m8, rfl, by omega, fun H9 s9 => ?_⟩
                refine r_I0 ?_
                rw [bxor_n]
                refine s_name ?_
                refine fin _ H9 _ _ _ (Nat.xor_lt_two_pow (fd.lt _ in6) ?_) l24 (F8.same s9) (K07.trans (K8.trans (Keep.same s9))) (fun _ => s9 _ _ (K8 _ _ hfa.symm (hf7 trivial))) (fun H9 fs' F9 K9 h9 fd9 => ⟨F9, K9, ⟨fs', h9, fd9⟩, _, _, _, rfl⟩)
                exact Nat.pow_lt_pow_right (by decide) (by omega)
              · walk_at "s1"
                exact fin m6 H7 _ _ _ (fd.lt _ in6) l24 F7 K07 hf7 (fun H9 fs' F9 K9 h9 fd9 => ⟨F9, K9, ⟨fs', h9, fd9⟩, _, _, _, rfl⟩)
        · walk_at "sx"
          exact ⟨F', K', ⟨fs, hf, fd⟩, _, _, _, rfl⟩
      · rintro σ H' ⟨F', K', ⟨fs, hf, fd⟩, v6, v7, v8, rfl⟩
        walk_at "sx"
        refine ⟨pf, fs.map fun m : Nat => (m : Int), rfl, SqL.of (by rw [List.map_map]; exact hf trivial), fun ns' q pm pw nq => ?_⟩
        obtain ⟨ms, rfl, pms⟩ := nat_perm pm
        generalize hE : upd H' q _ = H6
        have s6 := new_same nq hE
        have g6 := new_at hE
        rw [List.map_map] at g6
        have few := fd.few
        refine k q ms H6 (F'.same s6) (K'.trans (Keep.same s6)) g6 ⟨?_, fun m hm => fd.lt m (pms.mem_iff.mp hm), fun e => fd.ne (by rw [e] at pms; exact pms.symm.eq_nil), by rw [pms.length_eq]; omega⟩ (by rw [pms.length_eq]; omega)
        have nd2 : ms.Nodup := pms.nodup_iff.mpr fd.nd
        have pw2 := List.pairwise_map.mp pw
        exact (List.pairwise_and_iff.mpr ⟨pw2, nd2⟩).imp fun {x y} h => by
          have h1 := h.1
          have h2 := h.2
          omega
    · walk_at "sx"
      have FZ := F4
      have KZ : Keep a H H4 := K3.trans K4
      have hfZ : True → H4 pf = some (.lst ([m1].map nv)) := fun _ => K4 _ _ hfa.symm (hf3 trivial)
      have fd0 : Fd n mst [m1] := ⟨by simp, fun m hm => by rw [List.mem_singleton.mp hm, ← epp]; omega, by simp, by rw [List.length_singleton]; omega⟩
      refine ⟨_, rfl, 2, mst, rfl, rfl, .inl ⟨by decide, by decide⟩, ((2 * mst : Nat) : Int), by rw [Int.natCast_mul]; rfl, by omega, by omega, for_range (lo := 0) (n := 2 * mst) (fun i σ H' => Flow H' a ∧ Keep a H H' ∧ (∃ fs : List Nat, (True → H' pf = some (.lst (fs.map nv))) ∧ Fd n mst fs) ∧ ∃ v6 v7 v8 : Option V, σ = [some (.ref a), some (.int n), some (.int mst), some (.int pp), some (.ref pf), some (.int mst), v6, v7, v8]) ?_ ?_ ?_⟩
      · exact ⟨FZ, KZ, ⟨_, hfZ, fd0⟩, _, _, _, rfl⟩
      · rintro i σ H' hi ⟨F', K', ⟨fs, hf, fd⟩, v6, v7, v8, rfl⟩
        have lf := fd.few
        have lf0 : 0 < fs.length := List.length_pos_iff.mpr fd.ne
        have at_ : ∀ {d : Int}, 0 ≤ d → d < ((fs.map nv).length : Int) → ∃ m, m ∈ fs ∧ atI (fs.map nv) d = some (.int (m : Nat)) := fun {d} h0 h1 => by
          obtain ⟨j, rfl⟩ := Int.eq_ofNat_of_zero_le h0
          rw [List.length_map] at h1
          have lj : j < fs.length := by omega
          exact ⟨fs[j], List.getElem_mem _, atI_nat (by rw [List.getElem?_map, List.getElem?_eq_getElem lj]; rfl)⟩
        have fin : ∀ (m : Nat) (H6 : Hp) (v6 v8 : Option V) (D : Ends), m < 2 ^ n → fs.length < mst → Flow H6 a → Keep a H H6 → (True → H6 pf = some (.lst (fs.map nv))) →
            (∀ H7 fs', Flow H7 a → Keep a H H7 → (True → H7 pf = some (.lst (fs'.map nv))) → Fd n mst fs' → D.nx [some (.ref a), some (.int n), some (.int mst), some (.int pp), some (.ref pf), some (.int mst), v6, some (.int m), v8] H7) →
            tIfS (tTest (tOp (rIn K true) (tVar 7) (tVar 4))) (tDrop (tBM K "list" rAppend (tVar 4) (tCons (tVar 7) tNil))) tNext D [some (.ref a), some (.int n), some (.int mst), some (.int pp), some (.ref pf), some (.int mst), v6, some (.int m), v8] H6 := by
          intro m H6 v6 v8 D lm l24 F6 K6 hf6 kD
          refine s_ifS (s_test (s_op (s_var rfl (s_var rfl ⟨pf, _, rfl, .inl (SqL.of (hf6 trivial)), rfl, flat_nums fs, ?_⟩))))
          rw [if_pos rfl, in_nums]
          refine ⟨_, rfl, ?_⟩
          refine i_n2 (fun c => ?_) (fun c => ?_)
          · refine s_drop (s_bm (s_var rfl (ty_list (hf6 trivial) (s_cons (s_var rfl (s_nil (r_app (hf6 trivial) (by rw [List.length_map, sizeLine_eq]; omega) fun H7 k7 h7 => ?_)))))))
            refine kD H7 (fs ++ [m]) (F6.keep k7 hfa) (keep_new K6 hf0 k7) (fun _ => by rw [h7, List.map_append]; rfl) ⟨?_, fun x hx => ?_, by simp, by simp; omega⟩
            · rw [List.nodup_append]
              refine ⟨fd.nd, by simp, fun x hx y hy e => ?_⟩
              rw [List.mem_singleton.mp hy] at e
              exact c (e ▸ hx)
            · rcases List.mem_append.mp hx with h | h
              · exact fd.lt x h
              · rw [List.mem_singleton.mp h]
                exact lm
          · exact kD H6 fs F6 K6 hf6 fd
        walk_at "sx"
        refine ⟨_, _, rfl, .inl ⟨_, SqL.of (hf trivial), rfl⟩, ?_⟩
        walk_at "sx"
        refine i_2 (fun c => ?_) (fun c => ?_)
        · have l24 : fs.length < mst := by
            rw [List.length_map] at c
            omega
          walk_at "sx"
          refine ⟨_, _, rfl, .inl ⟨_, SqL.of (hf trivial), rfl⟩, ?_⟩
          walk_at "sx"
          refine c_take F' (by rw [List.length_map]; omega) (by rw [List.length_map]; omega) (fun d6 H6 l6 u6 F6 K6 => ?_)
          have hf6 : True → H6 pf = some (.lst (fs.map nv)) := fun _ => K6 _ _ hfa.symm (hf trivial)
          obtain ⟨m6, in6, at6⟩ := at_ l6 u6
          refine r_ixL (hf6 trivial) at6 ?_
          walk_at "sx"
          refine c_take F6 (by decide) (by decide) (fun d7 H7 l7 u7 F7 K7 => ?_)
          have hf7 : True → H7 pf = some (.lst (fs.map nv)) := fun _ => K7 _ _ hfa.symm (hf6 trivial)
          have K07 : Keep a H H7 := K'.trans (K6.trans K7)
          walk_at "sx"
          refine i_2 (fun c0 => ?_) (fun c0 => ?_)
          · walk_at "sx"
            refine c_take F7 (by omega) (by omega) (fun d8 H8 l8 u8 F8 K8 => ?_)
            obtain ⟨m8, rfl⟩ := Int.eq_ofNat_of_zero_le l8
            refine s_name ?_
            exact fin m8 H8 _ _ _ (by rw [← epp]; omega) l24 F8 (K07.trans K8) (fun _ => K8 _ _ hfa.symm (hf7 trivial)) (fun H9 fs' F9 K9 h9 fd9 => ⟨F9, K9, ⟨fs', h9, fd9⟩, _, _, _, rfl⟩)
          · walk_at "sx"
            refine i_2 (fun c1 => ?_) (fun c1 => ?_)
            · walk_at "sx"
              refine ⟨_, _, rfl, .inl ⟨_, SqL.of (hf7 trivial), rfl⟩, ?_⟩
              walk_at "sx"
              refine c_take F7 (by rw [List.length_map]; omega) (by rw [List.length_map]; omega) (fun d8 H8 l8 u8 F8 K8 => ?_)
              have hf8 : True → H8 pf = some (.lst (fs.map nv)) := fun _ => K8 _ _ hfa.symm (hf7 trivial)
              obtain ⟨m8, in8, at8⟩ := at_ l8 u8
              refine r_ixL (hf8 trivial) at8 ?_
              refine r_I0 ?_
              rw [bxor_n]
              walk_at "sx"
              refine ⟨_, _, rfl, .inl ⟨_, SqL.of (hf8 trivial), rfl⟩, ?_⟩
              walk_at "sx"
              refine c_take F8 (by rw [List.length_map]; omega) (by rw [List.length_map]; omega) (fun d9 H9 l9 u9 F9 K9 => ?_)
              have hf9 : True → H9 pf = some (.lst (fs.map nv)) := fun _ => K9 _ _ hfa.symm (hf8 trivial)
              obtain ⟨m9, in9, at9⟩ := at_ l9 u9
              refine r_ixL (hf9 trivial) at9 ?_
              refine r_I0 ?_
              rw [bxor_n]
              refine s_name ?_
              exact fin _ H9 _ _ _ (Nat.xor_lt_two_pow (Nat.xor_lt_two_pow (fd.lt _ in6) (fd.lt _ in8)) (fd.lt _ in9)) l24 F9 (K07.trans (K8.trans K9)) hf9 (fun H9 fs' F9 K9 h9 fd9 => ⟨F9, K9, ⟨fs', h9, fd9⟩, _, _, _, rfl⟩)
            · walk_at "sx"
              refine i_2 (fun c2 => ?_) (fun c2 => ?_)
              · walk_at "sx"
                refine c_take F7 (by omega) (by omega) (fun d8 H8 l8 u8 F8 K8 => ?_)
                obtain ⟨m8, rfl⟩ := Int.eq_ofNat_of_zero_le l8
                walk_at "sx"
                refine ⟨m8, rfl, by omega, fun H9 s9 => ?_⟩
                refine r_I0 ?_
                rw [bxor_n]
                refine s_name ?_
                refine fin _ H9 _ _ _ (Nat.xor_lt_two_pow (fd.lt _ in6) ?_) l24 (F8.same s9) (K07.trans (K8.trans (Keep.same s9))) (fun _ => s9 _ _ (K8 _ _ hfa.symm (hf7 trivial))) (fun H9 fs' F9 K9 h9 fd9 => ⟨F9, K9, ⟨fs', h9, fd9⟩, _, _, _, rfl⟩)
                exact Nat.pow_lt_pow_right (by decide) (by omega)
              · walk_at "s1"
                exact fin m6 H7 _ _ _ (fd.lt _ in6) l24 F7 K07 hf7 (fun H9 fs' F9 K9 h9 fd9 => ⟨F9, K9, ⟨fs', h9, fd9⟩, _, _, _, rfl⟩)
        · walk_at "sx"
          exact ⟨F', K', ⟨fs, hf, fd⟩, _, _, _, rfl⟩
      · rintro σ H' ⟨F', K', ⟨fs, hf, fd⟩, v6, v7, v8, rfl⟩
        walk_at "sx"
        refine ⟨pf, fs.map fun m : Nat => (m : Int), rfl, SqL.of (by rw [List.map_map]; exact hf trivial), fun ns' q pm pw nq => ?_⟩
        obtain ⟨ms, rfl, pms⟩ := nat_perm pm
        generalize hE : upd H' q _ = H6
        have s6 := new_same nq hE
        have g6 := new_at hE
        rw [List.map_map] at g6
        have few := fd.few
        refine k q ms H6 (F'.same s6) (K'.trans (Keep.same s6)) g6 ⟨?_, fun m hm => fd.lt m (pms.mem_iff.mp hm), fun e => fd.ne (by rw [e] at pms; exact pms.symm.eq_nil), by rw [pms.length_eq]; omega⟩ (by rw [pms.length_eq]; omega)
        have nd2 : ms.Nodup := pms.nodup_iff.mpr fd.nd
        have pw2 := List.pairwise_map.mp pw
        exact (List.pairwise_and_iff.mpr ⟨pw2, nd2⟩).imp fun {x y} h => by
          have h1 := h.1
          have h2 := h.2
          omega
end
end K37

set_option Elab.async false
set_option linter.all false
set_option maxRecDepth 100000
set_option maxHeartbeats 4000000
namespace K37
open PySem L2 Sx Fl
local macro_rules | `(tactic| walk_at "cond") => `(tactic| first
  | assumption
  | decide
  | exact c_mul_r (by first | decide | omega) (by first | decide | omega)
  | exact c_mul_l (by first | decide | omega) (by first | decide | omega)
  | exact c_div (by first | decide | omega) (by first | decide | omega)
  | exact c_pow (by first | decide | omega) (by first | decide | omega) (by first | decide | omega)
  | omega)
local macro_rules | `(tactic| walk_at "ne") => `(tactic| first
  | assumption
  | (refine Ne.symm ?_; assumption)
  | (refine' Flow.ne ?nh ?nn; (case nn => assumption); (case nh => walk_at "fl"))
  | (refine Ne.symm ?_; refine' Flow.ne ?nh ?nn; (case nn => assumption); (case nh => walk_at "fl"))
  | (refine' ne_of_none ?nh ?nn; (case nn => assumption); (case nh => walk_at "at"))
  | (refine Ne.symm ?_; refine' ne_of_none ?nh ?nn; (case nn => assumption); (case nh => walk_at "at")))
local macro_rules | `(tactic| walk_at "at") => `(tactic| first
  | assumption
  | (refine Same.up (by assumption) ?_; walk_at "at")
  | (refine Keep.up (by assumption) (by walk_at "ne") ?_; walk_at "at"))
local macro_rules | `(tactic| walk_at "fl") => `(tactic| first
  | assumption
  | (refine Flow.same (by assumption) ?_; walk_at "fl")
  | (refine Flow.keep (by assumption) (by walk_at "ne") ?_; walk_at "fl"))
local macro_rules | `(tactic| walk_at "fr") => `(tactic| first
  | assumption
  | (refine same_free (by assumption) ?_; walk_at "fr")
  | (refine Keep.free (by assumption) (by walk_at "ne") ?_; walk_at "fr"))
local macro_rules | `(tactic| walk_at "kp") => `(tactic| first
  | assumption
  | exact Keep.refl _ _
  | (refine Keep.trans ?_ (by assumption); walk_at "kp")
  | (refine Keep.trans ?_ (Keep.same (by assumption)); walk_at "kp"))
local macro_rules | `(tactic| walk_at "sm") => `(tactic| first
  | assumption
  | exact L2.Same.refl _
  | (refine L2.Same.trans ?_ (by assumption); walk_at "sm"))
local macro_rules | `(tactic| walk_at "sz") => `(tactic| first | exact Nat.le_of_ble_eq_true rfl | omega)
local macro_rules | `(tactic| walk_at "new") => `(tactic| (intro p np; generalize hE : upd _ p _ = H2; have s2 := new_same np hE; have h2 := new_at hE; clear hE))
local macro_rules | `(tactic| walk_at "newx") => `(tactic| (intro e d na nd hda; generalize hE : upd (upd _ d _) e _ = H2; have s2 := newx_same na nd hE; have h2 := newx_at hE; have h3 := newx_d hda hE; clear hE))
local macro_rules | `(tactic| walk_at "s1") => `(tactic| first
  | with_reducible refine s_seq ?_
  | with_reducible refine s_asg ?_
  | with_reducible refine s_name ?_
  | with_reducible refine s_ret ?_
  | with_reducible refine s_c ?_
  | ((with_reducible refine' s_var ?hv ?_); (case hv => rfl))
  | with_reducible refine s_op ?_
  | with_reducible refine s_un ?_
  | with_reducible refine s_ifS ?_
  | with_reducible refine s_cb ?_
  | with_reducible refine s_cons ?_
  | with_reducible refine s_nil ?_
  | with_reducible refine s_call ?_
  | with_reducible refine s_test ?_
  | with_reducible refine s_tB ?_
  | with_reducible refine s_bl ?_
  | with_reducible refine s_and ?_
  | with_reducible refine s_or ?_
  | with_reducible refine s_not ?_
  | with_reducible refine s_andV ?_
  | with_reducible refine s_orV ?_
  | with_reducible refine s_notV ?_
  | with_reducible refine s_blV ?_
  | with_reducible refine s_if ?_
  | with_reducible refine s_tup ?_
  | with_reducible refine s_lst ?_
  | with_reducible refine s_drop ?_
  | with_reducible refine s_next ?_
  | with_reducible refine s_sub ?_
  | with_reducible refine s_bm ?_
  | with_reducible refine s_callK ?_
  | with_reducible refine s_brk ?_
  | with_reducible refine s_cont ?_
  | with_reducible refine r_I0 ?_
  | with_reducible refine r_U ?_
  | with_reducible refine r_eqI ?_
  | with_reducible refine r_neI ?_
  | with_reducible refine r_isB ?_
  | with_reducible refine r_notB ?_
  | with_reducible refine i_t ?_
  | with_reducible refine i_f ?_
  | with_reducible refine i_nt ?_
  | with_reducible refine i_nf ?_
  | ((with_reducible refine' r_I ?hc ?_); (case hc => walk_at "cond"))
  | (with_reducible refine .inl ⟨_, rfl, ?_⟩)
  | (with_reducible refine ⟨_, rfl, ?_⟩)
  | ((with_reducible refine' r_ixL ?hx ?ha ?_); (case hx => walk_at "at"); (case ha => rfl))
  | ((with_reducible refine' r_ixT ?hx ?ha ?_); (case hx => walk_at "at"); (case ha => rfl))
  | ((with_reducible refine' r_setL ?hx ?ha ?_); (case hx => walk_at "at"); (case ha => rfl); intro H2 k2 h2; (try dsimp only [List.set, Int.toNat] at h2))
  | ((with_reducible refine' r_app ?hx ?hl ?_); (case hx => walk_at "at"); (case hl => first | exact Nat.lt_of_ble_eq_true rfl | omega); intro H2 k2 h2)
  | ((with_reducible refine' ty_list ?hx ?_); (case hx => walk_at "at"))
  | (refine And.intro (by (with_reducible show _ ≤ sizeLine); walk_at "sz") ?_; walk_at "new")
  | with_reducible refine s_exv ?_
  | walk_at "newx")
local macro_rules | `(tactic| walk_at "sx") => `(tactic| repeat (walk_at "s1"))
local macro_rules | `(tactic| walk_at "s2") => `(tactic| first
  | ((with_reducible refine' r_ixG ?hx ?hn ?_); (case hx => walk_at "at"); (case hn => omega))
  | ((with_reducible refine' r_ixGT ?hx ?hn ?_); (case hx => walk_at "at"); (case hn => omega))
  | (with_reducible refine ig_cons (fun hix => ?_) (fun hix => ?_))
  | ((with_reducible refine ig_nil ?_); omega)
  | ((with_reducible refine' i_T ?hc ?_); (case hc => omega))
  | ((with_reducible refine' i_F ?hc ?_); (case hc => omega))
  | (with_reducible refine i_2 (fun hc => ?_) (fun hc => ?_))
  | (with_reducible refine i_n2 (fun hc => ?_) (fun hc => ?_)))
local macro_rules | `(tactic| walk_at "go") => `(tactic| repeat' (first | walk_at "s1" | walk_at "s2"))

local macro_rules | `(tactic| walk_at "s1") => `(tactic| first
  | with_reducible refine s_chain ?_
  | with_reducible refine s_fldS ?_
  | with_reducible refine s_fld ?_
  | with_reducible refine s_dIn ?_
  | with_reducible refine s_dNotIn ?_
  | with_reducible refine s_sl ?_
  | with_reducible refine s_noPart ?_
  | with_reducible refine s_part ?_
  | with_reducible refine s_meth ?_
  | with_reducible refine s_make ?_)

section
variable {P : Program} {w : World} {K : PySem.W.Frag} {mg : Str → Option Value} {base : Heap} {A : Ad}
theorem s_lr {te : TE} {σ : L2.St} {H : Hp} {Q : VK} (h : te σ H fun x H1 => ∃ n, x = .int n ∧ RgOk 0 n ∧ ∀ q, H1 q = none → Q (.ref q) (upd H1 q (.lst (rgV 0 n)))) : tLstRg (tRg1 te) σ H Q := h
theorem s_seqP {s rest : TS} {D : L2.Ends} {σ : L2.St} {H : Hp} (P : L2.St → Hp → Prop) (h1 : ∀ X : L2.St → Hp → Prop, (∀ σ' H', P σ' H' → X σ' H') → s { D with nx := X } σ H) (h2 : ∀ σ' H', P σ' H' → rest D σ' H') : tSeq s rest D σ H := h1 _ h2
def spOnes : Sp := fun vs H Q _ => ∃ k : Nat, vs = [.int k] ∧ ∀ z, Q (.int z) H
theorem ok_ones (T : Txt P K mg A) : FnOk P w K mg base CX0 1 A.a__law_ones A.d__law_ones ["number"] spOnes := by
  refine T.F__law_ones.ok sc__law_ones (fun vs H Q E h => ?_) (fun cdv A' outer s H vs Q E hr h => ?_)
  · obtain ⟨k, rfl, _⟩ := h
    rfl
  · obtain ⟨k, rfl, q⟩ := h
    refine ⟨_, (pss_cons (ps_set (i := 1) sc__law_ones.nd rfl (Or.inl rfl) pe_int)
  (pss_cons (ps_for PassesOwn.never rfl (pi_range1 rfl T.n_range (pa_cons pe_int pa_nil)) (pg_name (i := 2) sc__law_ones.nd rfl (Or.inl rfl))
  (pss_cons (ps_set (i := 1) sc__law_ones.nd rfl (Or.inl rfl) (pe_op op_add (pv 1) (pe_op op_mod (pe_callTy call_int1 (by rfl) T.n_int (by decide +kernel) (pa_cons (pv 0) pa_nil)) pe_int)))
  (pss_one (ps_set (i := 0) sc__law_ones.nd rfl (Or.inl rfl) (pe_op op_fdiv (pv 0) pe_int)))))
  (pss_one (ps_ret (pv 1))))), ?_⟩
    walk_at "sx"
    refine ⟨_, rfl, by decide, by decide, for_range (lo := 0) (n := 7) (fun i σ H' => H' = H ∧ ∃ (a b : Int) (v2 : Option V), σ = [some (.int a), some (.int b), v2]) ⟨rfl, _, _, none, rfl⟩ ?_ ?_⟩
    · rintro i σ H' hi ⟨rfl, a, b, v2, rfl⟩
      walk_at "sx"
      exact ⟨rfl, _, _, _, rfl⟩
    · rintro σ H' ⟨rfl, a, b, v2, rfl⟩
      walk_at "sx"
      exact q b
theorem prod_lt {x o n b : Nat} (hx : x < 2 ^ n) (ho : o < 2 ^ b) : x * 2 ^ b + o < 2 ^ (n + b) := by
  rw [Nat.pow_add]
  have z := Nat.mul_le_mul_right (2 ^ b) (show x + 1 ≤ 2 ^ n from hx)
  rw [Nat.add_mul, Nat.one_mul] at z
  omega
theorem prod_inj {x y o p b : Nat} (ho : o < 2 ^ b) (hp : p < 2 ^ b) (h : x * 2 ^ b + o = y * 2 ^ b + p) : x = y ∧ o = p := by
  have p0 : 0 < 2 ^ b := Nat.pow_pos (by decide)
  have e : x = y := by
    rcases Nat.lt_trichotomy x y with c | c | c
    · have z := Nat.mul_le_mul_right (2 ^ b) (show x + 1 ≤ y from c)
      rw [Nat.add_mul, Nat.one_mul] at z
      omega
    · exact c
    · have z := Nat.mul_le_mul_right (2 ^ b) (show y + 1 ≤ x from c)
      rw [Nat.add_mul, Nat.one_mul] at z
      omega
  subst e
  exact ⟨rfl, by omega⟩
def prods (b : Nat) (ns bs : List Nat) : List Nat := ns.flatMap fun x => bs.map fun o => x * 2 ^ b + o
theorem prods_nd {b : Nat} {ns bs : List Nat} (h1 : ns.Nodup) (h2 : bs.Nodup) (hb : ∀ o ∈ bs, o < 2 ^ b) : (prods b ns bs).Nodup := by
  unfold prods List.Nodup
  rw [List.pairwise_flatMap]
  refine ⟨fun x _ => ?_, ?_⟩
  · exact List.pairwise_map.mpr (h2.imp fun h z => h (by omega))
  · refine h1.imp fun h u hu v hv z => ?_
    obtain ⟨o, ho, rfl⟩ := List.mem_map.mp hu
    obtain ⟨q, hq, rfl⟩ := List.mem_map.mp hv
    exact h (prod_inj (hb o ho) (hb q hq) z).1
theorem prods_lt {n b : Nat} {ns bs : List Nat} (h1 : ∀ x ∈ ns, x < 2 ^ n) (h2 : ∀ o ∈ bs, o < 2 ^ b) : ∀ m ∈ prods b ns bs, m < 2 ^ (n + b) := fun m hm => by
  obtain ⟨x, hx, h⟩ := List.mem_flatMap.mp hm
  obtain ⟨o, ho, rfl⟩ := List.mem_map.mp h
  exact prod_lt (h1 x hx) (h2 o ho)
theorem prods_len (b : Nat) (bs : List Nat) : ∀ ns : List Nat, (prods b ns bs).length = ns.length * bs.length
  | [] => by simp [prods]
  | x :: ns => by
    have ih := prods_len b bs ns
    unfold prods at ih ⊢
    rw [List.flatMap_cons, List.length_append, List.length_map, ih, List.length_cons, Nat.add_mul]
    omega
theorem nums_perm {n : Nat} {ms ks : List Nat} (p : ms.Perm ks) (up : (ms.map fun m : Nat => (m : Int)).Pairwise (· ≤ ·)) (nd : ks.Nodup) (lt : ∀ m ∈ ks, m < 2 ^ n) (ne : ks ≠ []) (few : ks.length ≤ 64) : Nums n ms := by
  refine ⟨?_, fun m hm => lt m (p.mem_iff.mp hm), fun e => ne (by rw [e] at p; exact p.symm.eq_nil), by rw [p.length_eq]; exact few⟩
  have nd2 : ms.Nodup := p.nodup_iff.mpr nd
  exact (List.pairwise_and_iff.mpr ⟨List.pairwise_map.mp up, nd2⟩).imp fun {x y} h => by
    have h1 := h.1
    have h2 := h.2
    omega
def spProd : Sp := fun vs H Q _ => ∃ a, vs = [.ref a] ∧ Flow H a ∧ ∀ (q l : Addr) (n : Nat) (ns : List Nat) H', Flow H' a → Keep a H H' → H' q = some (.lst [.int n, .ref l]) → H' l = some (.lst (ns.map nv)) → Nums n ns → ns.length ≤ 9 → n ≤ 6 → Q (.ref q) H'
theorem ok_prod (T : Txt P K mg A) : FnOk P w K mg base CX0 3 A.a__law_product A.d__law_product ["flow"] spProd := by
  refine T.F__law_product.ok sc__law_product (fun vs H Q E h => ?_) (fun cdv A' outer s H vs Q E hr h => ?_)
  · obtain ⟨a, rfl, _⟩ := h
    rfl
  · obtain ⟨a, rfl, hF, k⟩ := h
    have G__law_take := ok_take (w := w) (base := base) T
    have G__law_full := ok_full (w := w) (base := base) T
    have G__law_walk := ok_walk (w := w) (base := base) T
    refine ⟨_, (pss_cons (ps_set (i := 1) sc__law_product.nd rfl (Or.inl rfl) (pe_call G__law_take (hr.mono (by decide)) rfl T.g__law_take T.F__law_take.kp (B__law_take T) .nil pass0 (pa_cons (pv 0) (pa_cons pe_int pa_nil))))
  (pss_cons (ps_set (i := 2) sc__law_product.nd rfl (Or.inr rfl) (pe_call G__law_take (hr.mono (by decide)) rfl T.g__law_take T.F__law_take.kp (B__law_take T) .nil pass0 (pa_cons (pv 0) (pa_cons pe_int pa_nil))))
  (pss_cons (ps_set (i := 3) sc__law_product.nd rfl (Or.inl rfl) (pe_lst pa_nil))
  (pss_cons (ps_set (i := 4) sc__law_product.nd rfl (Or.inl rfl) (pe_call G__law_walk (hr.mono (by decide)) rfl T.g__law_walk T.F__law_walk.kp (B__law_walk T) .nil pass0 (pa_cons (pv 0) (pa_cons (pv 2) (pa_cons pe_int pa_nil)))))
  (pss_cons (ps_for PassesOwn.never rfl (pi_list (pe_call G__law_walk (hr.mono (by decide)) rfl T.g__law_walk T.F__law_walk.kp (B__law_walk T) .nil pass0 (pa_cons (pv 0) (pa_cons (pv 1) (pa_cons pe_int pa_nil))))) (pg_name (i := 5) sc__law_product.nd rfl (Or.inr rfl))
  (pss_one (ps_set (i := 3) sc__law_product.nd rfl (Or.inl rfl) (pe_op op_cat (pv 3) (pe_lc (own := [("other", 6)]) (g := (gName 6)) (by rfl) sc__law_product.nd (pi_list (pv 4)) (blkOk_by (own := [("other", 6)]) (N := ["flow", "size", "back_size", "numbers", "back", "number", "other"]) (sc := defScope s__law_product) (by decide +kernel)) (fun _ _ _ _ _ => (pg_name (i := 6) sc__law_product.nd rfl (Or.inl rfl))) (fun _ _ _ _ _ => pts_nil) (fun _ _ _ _ _ => (pe_op op_add (pe_op op_mul (pv 5) (pe_call G__law_full (hr.mono (by decide)) rfl T.g__law_full T.F__law_full.kp (B__law_full T) .nil pass0 (pa_cons (pv 2) pa_nil))) (pv 6))))))))
  (pss_one (ps_ret (pe_lst (pa_cons (pe_op op_add (pv 1) (pv 2)) (pa_cons (pe_callB cr_sortedI (by rfl) T.n_sorted (by decide +kernel) (pa_cons (pv 3) pa_nil)) pa_nil)))))))))), ?_⟩
    walk_at "sx"
    refine c_take hF (by decide) (by decide) (fun d1 H1 l1 u1 F1 K1 => ?_)
    obtain ⟨n, rfl⟩ := Int.eq_ofNat_of_zero_le l1
    walk_at "sx"
    refine c_take F1 (by decide) (by decide) (fun d2 H2 l2 u2 F2 K2 => ?_)
    obtain ⟨b, rfl⟩ := Int.eq_ofNat_of_zero_le l2
    walk_at "sx"
    rename_i p3 np3 H3 s3 h30
    have K3 : Keep a H H3 := K1.trans (K2.trans (Keep.same s3))
    have F3 := F2.same s3
    have a3 : a ≠ p3 := F2.ne np3
    refine ⟨a, b, 3, rfl, F3, by omega, by decide, by decide, fun pb bs H4 F4 K4 hb40 NB lb => ?_⟩
    have hb4 : True → H4 pb = some (.lst (bs.map nv)) := fun _ => hb40
    have h4 : True → H4 p3 = some (.lst ([].map nv)) := fun _ => K4 _ _ a3.symm h30
    clear h30
    have apb : a ≠ pb := fun e => by
      obtain ⟨_, _, _, _, z⟩ := F4
      rw [e, hb40] at z
      simp only [Option.some.injEq, HO.lst.injEq] at z
      have l := congrArg (fun l : List V => l[2]?) z
      simp only [List.getElem?_map] at l
      cases e2 : bs[2]? with
      | none => rw [e2] at l; cases l
      | some v => rw [e2] at l; cases l
    clear hb40
    walk_at "sx"
    unfold tFor iList
    walk_at "sx"
    refine ⟨a, n, 3, rfl, F4, by omega, by decide, by decide, fun pn ns H5 F5 K5 hn50 NN ln => ?_⟩
    have hn5 : True → H5 pn = some (.lst (ns.map nv)) := fun _ => hn50
    have hb5 : True → H5 pb = some (.lst (bs.map nv)) := fun _ => K5 _ _ apb.symm (hb4 trivial)
    have h5 : True → H5 p3 = some (.lst ([].map nv)) := fun _ => K5 _ _ a3.symm (h4 trivial)
    clear hn50
    have bnd : bs.Nodup := NB.asc.imp fun h => Nat.ne_of_lt h
    have nnd : ns.Nodup := NN.asc.imp fun h => Nat.ne_of_lt h
    refine ⟨pn, rfl, ⟨_, SqL.of (hn5 trivial)⟩, for_list (K := K) (a := pn) (xs := ns.map nv) (fun t σ G => Same H5 G ∧ ∃ (pk : Addr) (v5 : Option V), (True → G pk = some (.lst ((prods b (ns.take t) bs).map nv))) ∧ σ = [some (.ref a), some (.int n), some (.int b), some (.ref pk), some (.ref pb), v5, none]) ?_ ?_ ?_ ?_⟩
    · exact ⟨L2.Same.refl _, p3, _, fun _ => by rw [h5 trivial]; rfl, rfl⟩
    · rintro t σ G _ ⟨sG, _⟩
      exact SqL.of (sG _ _ (hn5 trivial))
    · rintro t y σ G hy ⟨sG, pk, v5, hk, rfl⟩
      obtain ⟨x, hx, rfl⟩ : ∃ x, ns[t]? = some x ∧ nv x = y := by
        rw [List.getElem?_map] at hy
        exact Option.map_eq_some_iff.mp hy
      have tl : t < ns.length := (List.getElem?_eq_some_iff.mp hx).1
      have lk : (prods b (ns.take t) bs).length ≤ 9 := by
        rw [prods_len, List.length_take]
        have := Nat.mul_le_mul (Nat.le_trans (Nat.min_le_right t ns.length) ln) lb
        omega
      have nxt : prods b (ns.take (t + 1)) bs = prods b (ns.take t) bs ++ bs.map fun o => x * 2 ^ b + o := by
        unfold prods
        rw [List.take_succ, hx, List.flatMap_append]
        simp
      refine s_name ?_
      walk_at "s1"
      refine s_op (s_var rfl ?_)
      unfold tLc
      dsimp only
      refine s_var rfl ⟨pb, rfl, ⟨_, SqL.of (sG _ _ (hb5 trivial))⟩, fun D hD => lc_list (K := K) (a := pb) (xs := bs.map nv) (fun u G' => Same G G' ∧ (True → G' D = some (.lst (((bs.take u).map fun o => x * 2 ^ b + o).map nv)))) ⟨Same.new hD, fun _ => upd_same⟩ (fun u G' _ h => SqL.of (h.1 _ _ (sG _ _ (hb5 trivial)))) ?_ ?_⟩
      · rintro u y G' hy ⟨s', hD'⟩
        obtain ⟨o, ho, rfl⟩ : ∃ o, bs[u]? = some o ∧ nv o = y := by
          rw [List.getElem?_map] at hy
          exact Option.map_eq_some_iff.mp hy
        have ul : u < bs.length := (List.getElem?_eq_some_iff.mp ho).1
        refine s_name ⟨rfl, ?_⟩
        refine s_yes (i_t ?_)
        have xl : x < 8 := Nat.lt_of_lt_of_le (NN.lt x (List.mem_of_getElem? hx)) (show 2 ^ n ≤ 2 ^ 3 from Nat.pow_le_pow_right (by decide) (by omega))
        walk_at "sx"
        refine ⟨b, rfl, by omega, fun G2 s2 => ?_⟩
        refine r_I (c_mul_l (by omega) (by omega)) ?_
        walk_at "sx"
        refine ⟨_, s2 _ _ (hD' trivial), by rw [List.length_map, List.length_map, List.length_take, sizeLine_eq]; omega, Sx.Same.put (s'.trans s2) hD, fun _ => ?_⟩
        rw [upd_same, List.take_succ, ho, List.map_append, List.map_append, show ((x : Int) * ((2 ^ b : Nat) : Int) + (o : Int)) = ((x * 2 ^ b + o : Nat) : Int) by rw [Int.natCast_add, Int.natCast_mul]]
        rfl
      rintro G2 ⟨s2, hD2⟩
      rw [List.length_map, List.take_length] at hD2
      refine ⟨pk, D, _, _, rfl, rfl, s2 _ _ (hk trivial), hD2 trivial, by rw [List.length_map, List.length_map, List.length_map, sizeLine_eq]; omega, fun q nq => ?_⟩
      generalize hE : upd G2 q _ = G3
      have s3 := new_same nq hE
      have g3 := new_at hE
      clear hE
      refine s_name ⟨sG.trans (s2.trans s3), q, _, fun _ => ?_, rfl⟩
      rw [g3, nxt, List.map_append]
    · rintro σ G ⟨sG, pk, v5, hk, rfl⟩
      rw [List.length_map, List.take_length] at hk
      have lp : (prods b ns bs).length ≤ 9 := by
        rw [prods_len]
        have := Nat.mul_le_mul ln lb
        omega
      have ne : prods b ns bs ≠ [] := fun e => by
        have z := congrArg List.length e
        rw [prods_len, List.length_nil] at z
        have q := Nat.mul_pos (List.length_pos_iff.mpr NN.ne) (List.length_pos_iff.mpr NB.ne)
        omega
      walk_at "sx"
      refine ⟨pk, (prods b ns bs).map fun m : Nat => (m : Int), rfl, SqL.of (by rw [List.map_map]; exact hk trivial), fun ns' q pm pw nq => ?_⟩
      obtain ⟨ms, rfl, pms⟩ := nat_perm pm
      generalize hE : upd G q _ = H6
      have s6 := new_same nq hE
      have g6 := new_at hE
      rw [List.map_map] at g6
      clear hE
      walk_at "sx"
      rename_i p7 np7 H7 s7 h7
      have KG : Keep a H H7 := K3.trans (K4.trans (K5.trans ((Keep.same sG).trans (Keep.same (s6.trans s7)))))
      refine k p7 q (n + b) ms H7 ((F5.same sG).same (s6.trans s7)) KG ?_ (s7 _ _ g6) (nums_perm pms pw (prods_nd nnd bnd NB.lt) (prods_lt NN.lt NB.lt) ne (by omega)) (by rw [pms.length_eq]; exact lp) (by omega)
      rw [h7, Int.natCast_add]
/-- numbers kept of those below i, in their order -/
def Kp (a D : Addr) (H : Hp) (i : Nat) (H' : Hp) : Prop := Flow H' a ∧ Keep a H H' ∧ ∃ ms : List Nat, (True → H' D = some (.lst (ms.map nv))) ∧ ms.Pairwise (· < ·) ∧ (∀ m ∈ ms, m < i) ∧ ms.length ≤ i
theorem Kp.no {a D : Addr} {H H' : Hp} {i : Nat} (h : Kp a D H i H') : Kp a D H (i + 1) H' := by
  obtain ⟨F, K, ms, h1, h2, h3, h4⟩ := h
  exact ⟨F, K, ms, h1, h2, fun m hm => Nat.lt_succ_of_lt (h3 m hm), by omega⟩
theorem Kp.yes {a D : Addr} {H H' : Hp} {i : Nat} (h : Kp a D H i H') (aD : a ≠ D) (HD : H D = none) (li : i < 1000) : ∃ acc, H' D = some (.lst acc) ∧ acc.length < sizeLine ∧ Kp a D H (i + 1) (upd H' D (.lst (acc ++ [nv i]))) := by
  obtain ⟨F, K, ms, h1, h2, h3, h4⟩ := h
  refine ⟨_, h1 trivial, by rw [List.length_map, sizeLine_eq]; omega, F.keep (put_keep rfl) aD, keep_new K HD (put_keep rfl), ms ++ [i], fun _ => by rw [upd_same, List.map_append]; rfl, ?_, fun m hm => ?_, by rw [List.length_append]; exact Nat.succ_le_succ h4⟩
  · rw [List.pairwise_append]
    refine ⟨h2, List.pairwise_singleton _ _, fun x hx y hy => ?_⟩
    rw [List.mem_singleton.mp hy]
    exact h3 x hx
  · rcases List.mem_append.mp hm with h | h
    · exact Nat.lt_succ_of_lt (h3 m h)
    · rw [List.mem_singleton.mp h]
      exact Nat.lt_succ_self i
theorem Kp.move {a D : Addr} {H H' G : Hp} {i : Nat} (h : Kp a D H i H') (aD : a ≠ D) (F : Flow G a) (K : Keep a H' G) : Kp a D H i G := by
  obtain ⟨_, K', ms, h1, h2⟩ := h
  exact ⟨F, K'.trans K, ms, fun _ => K _ _ aD.symm (h1 trivial), h2⟩
theorem Kp.start {a D : Addr} {H H' : Hp} (F : Flow H' a) (K : Keep a H H') (hD : H' D = none) : Kp a D H 0 (upd H' D (.lst [])) :=
  ⟨F.same (Same.new hD), K.trans (Keep.same (Same.new hD)), [], fun _ => upd_same, .nil, (fun _ h => nomatch h), Nat.le_refl _⟩
theorem cut9 {ms : List Nat} {st : Nat} : cutV (ms.map nv) (some (st : Int)) (some ((st : Int) + 9)) = ((ms.drop (min st ms.length)).take (min (st + 9) ms.length - min st ms.length)).map nv := by
  unfold cutV
  rw [show (st : Int) + 9 = ((st + 9 : Nat) : Int) by omega, HT.sIx_nat, HT.sIx_nat, List.length_map, List.map_take, List.map_drop]
theorem star_nd {n t : Nat} : (t :: (List.range n).map fun k => t ^^^ 2 ^ k).Nodup := by
  have xc : ∀ {a b c : Nat}, a ^^^ b = a ^^^ c → b = c := fun {a b c} h => by
    have z := congrArg (fun x => a ^^^ x) h
    simp only [← Nat.xor_assoc, Nat.xor_self, Nat.zero_xor] at z
    exact z
  refine List.nodup_cons.mpr ⟨fun h => ?_, ?_⟩
  · obtain ⟨k, _, e⟩ := List.mem_map.mp h
    have z := xc (e.trans (Nat.xor_zero t).symm)
    have := Nat.pow_pos (n := k) (show 0 < 2 by decide)
    omega
  · refine List.pairwise_map.mpr (List.nodup_range.imp fun h z => h ?_)
    exact (Nat.pow_right_inj (a := 2) (by decide)).mp (xc z)
theorem star_lt {n t : Nat} (h : t < 2 ^ n) : ∀ m ∈ (t :: (List.range n).map fun k => t ^^^ 2 ^ k), m < 2 ^ n := fun m hm => by
  rcases List.mem_cons.mp hm with z | z
  · rw [z]
    exact h
  · obtain ⟨k, hk, rfl⟩ := List.mem_map.mp z
    exact Nat.xor_lt_two_pow h (Nat.pow_lt_pow_right (by decide) (List.mem_range.mp hk))
def spNums : Sp := fun vs H Q _ => ∃ a, vs = [.ref a] ∧ Flow H a ∧ ∀ (q l : Addr) (n : Nat) (ns : List Nat) H', Flow H' a → Keep a H H' → H' q = some (.lst [.int n, .ref l]) → H' l = some (.lst (ns.map nv)) → Nums n ns → ns.length ≤ 9 → n ≤ 6 → Q (.ref q) H'
theorem ok_nums (T : Txt P K mg A) : FnOk P w K mg base CX0 4 A.a__law_numbers A.d__law_numbers ["flow"] spNums := by
  refine T.F__law_numbers.ok sc__law_numbers (fun vs H Q E h => ?_) (fun cdv A' outer s H vs Q E hr h => ?_)
  · obtain ⟨a, rfl, _⟩ := h
    rfl
  · obtain ⟨a, rfl, hF, k⟩ := h
    have G__law_take := ok_take (w := w) (base := base) T
    have G__law_full := ok_full (w := w) (base := base) T
    have G__law_walk := ok_walk (w := w) (base := base) T
    have G__law_ones := ok_ones (w := w) (base := base) T
    have G__law_product := ok_prod (w := w) (base := base) T
    refine ⟨_, (pss_cons (ps_set (i := 1) sc__law_numbers.nd rfl (Or.inl rfl) (pe_call G__law_take (hr.mono (by decide)) rfl T.g__law_take T.F__law_take.kp (B__law_take T) .nil pass0 (pa_cons (pv 0) (pa_cons pe_int pa_nil))))
  (pss_cons (ps_if (pt_cmpR op_lt (pv 1) pe_int (nomark _)) (pss_cons (ps_set (i := 2) sc__law_numbers.nd rfl (Or.inl rfl) (pe_ix ix_seq (pe_lst (pa_cons pe_int (pa_cons pe_int (pa_cons pe_int (pa_cons pe_int (pa_cons pe_int (pa_cons pe_int (pa_cons pe_int (pa_cons pe_int (pa_cons pe_int (pa_cons pe_int pa_nil))))))))))) (pe_call G__law_take (hr.mono (by decide)) rfl T.g__law_take T.F__law_take.kp (B__law_take T) .nil pass0 (pa_cons (pv 0) (pa_cons pe_int pa_nil))) (fun _ _ => rfl)))
  (pss_one (ps_ret (pe_lst (pa_cons (pv 2) (pa_cons (pe_call G__law_walk (hr.mono (by decide)) rfl T.g__law_walk T.F__law_walk.kp (B__law_walk T) .nil pass0 (pa_cons (pv 0) (pa_cons (pv 2) (pa_cons pe_int pa_nil)))) pa_nil)))))) pss_nil)
  (pss_cons (ps_if (pt_cmpR op_eq (pv 1) pe_int (nomark _)) (pss_one (ps_ret (pe_call G__law_product (hr.mono (by decide)) rfl T.g__law_product T.F__law_product.kp (B__law_product T) .nil pass0 (pa_cons (pv 0) pa_nil)))) pss_nil)
  (pss_cons (ps_if (pt_cmpR op_eq (pv 1) pe_int (nomark _)) (pss_cons (ps_set (i := 2) sc__law_numbers.nd rfl (Or.inl rfl) (pe_ix ix_seq (pe_lst (pa_cons pe_int (pa_cons pe_int (pa_cons pe_int (pa_cons pe_int (pa_cons pe_int (pa_cons pe_int (pa_cons pe_int (pa_cons pe_int (pa_cons pe_int (pa_cons pe_int pa_nil))))))))))) (pe_call G__law_take (hr.mono (by decide)) rfl T.g__law_take T.F__law_take.kp (B__law_take T) .nil pass0 (pa_cons (pv 0) (pa_cons pe_int pa_nil))) (fun _ _ => rfl)))
  (pss_cons (ps_set (i := 3) sc__law_numbers.nd rfl (Or.inr rfl) (pe_call G__law_take (hr.mono (by decide)) rfl T.g__law_take T.F__law_take.kp (B__law_take T) .nil pass0 (pa_cons (pv 0) (pa_cons (pe_call G__law_full (hr.mono (by decide)) rfl T.g__law_full T.F__law_full.kp (B__law_full T) .nil pass0 (pa_cons (pv 2) pa_nil)) pa_nil))))
  (pss_one (ps_ret (pe_lst (pa_cons (pv 2) (pa_cons (pe_callB cr_sortedI (by rfl) T.n_sorted (by decide +kernel) (pa_cons (pe_op op_cat (pe_lst (pa_cons (pv 3) pa_nil)) (pe_lc (own := [("k", 8)]) (g := (gName 8)) (by rfl) sc__law_numbers.nd (pi_range1 rfl T.n_range (pa_cons (pv 2) pa_nil)) (blkOk_by (own := [("k", 8)]) (N := ["flow", "shape", "size", "turn", "full", "odd", "numbers", "start", "k"]) (sc := defScope s__law_numbers) (by decide +kernel)) (fun _ _ _ _ _ => (pg_name (i := 8) sc__law_numbers.nd rfl (Or.inl rfl))) (fun _ _ _ _ _ => pts_nil) (fun _ _ _ _ _ => (pe_op op_xor (pv 3) (pe_call G__law_full (hr.mono (by decide)) rfl T.g__law_full T.F__law_full.kp (B__law_full T) .nil pass0 (pa_cons (pv 8) pa_nil)))))) pa_nil)) pa_nil))))))) pss_nil)
  (pss_cons (ps_if (pt_cmpR op_eq (pv 1) pe_int (nomark _)) (pss_cons (ps_set (i := 2) sc__law_numbers.nd rfl (Or.inl rfl) (pe_call G__law_take (hr.mono (by decide)) rfl T.g__law_take T.F__law_take.kp (B__law_take T) .nil pass0 (pa_cons (pv 0) (pa_cons pe_int pa_nil))))
  (pss_one (ps_ret (pe_lst (pa_cons (pv 2) (pa_cons (pe_listRg rfl (by rfl) T.n_list (prg_1 (by rfl) T.n_range (pe_call G__law_full (hr.mono (by decide)) rfl T.g__law_full T.F__law_full.kp (B__law_full T) .nil pass0 (pa_cons (pv 2) pa_nil)))) pa_nil)))))) pss_nil)
  (pss_cons (ps_set (i := 2) sc__law_numbers.nd rfl (Or.inl rfl) (pe_ix ix_seq (pe_lst (pa_cons pe_int (pa_cons pe_int (pa_cons pe_int (pa_cons pe_int (pa_cons pe_int (pa_cons pe_int (pa_cons pe_int (pa_cons pe_int (pa_cons pe_int (pa_cons pe_int pa_nil))))))))))) (pe_call G__law_take (hr.mono (by decide)) rfl T.g__law_take T.F__law_take.kp (B__law_take T) .nil pass0 (pa_cons (pv 0) (pa_cons pe_int pa_nil))) (fun _ _ => rfl)))
  (pss_cons (ps_set (i := 4) sc__law_numbers.nd rfl (Or.inl rfl) (pe_call G__law_full (hr.mono (by decide)) rfl T.g__law_full T.F__law_full.kp (B__law_full T) .nil pass0 (pa_cons (pv 2) pa_nil)))
  (pss_cons (ps_if (pt_cmpR op_eq (pv 1) pe_int (nomark _)) (pss_cons (ps_set (i := 5) sc__law_numbers.nd rfl (Or.inr rfl) (pe_call G__law_take (hr.mono (by decide)) rfl T.g__law_take T.F__law_take.kp (B__law_take T) .nil pass0 (pa_cons (pv 0) (pa_cons pe_int pa_nil))))
  (pss_one (ps_setLc (i := 6) (own := [("k", 8)]) (g := (gName 8)) (by rfl) sc__law_numbers.nd rfl rfl (sw_true rfl rfl rfl (by decide +kernel)) (pi_range1 rfl T.n_range (pa_cons (pv 4) pa_nil)) (blkOk_by (own := [("k", 8)]) (N := ["flow", "shape", "size", "turn", "full", "odd", "numbers", "start", "k"]) (sc := defScope s__law_numbers) (by decide +kernel)) (fun _ _ _ _ _ => (pg_name (i := 8) sc__law_numbers.nd rfl (Or.inl rfl))) (fun _ _ _ _ _ => pts_one (pt_cmpR op_eq (pe_op op_mod (pe_callTy call_int1 (by rfl) T.n_int (by decide +kernel) (pa_cons (pe_op op_add (pe_call G__law_ones (hr.mono (by decide)) rfl T.g__law_ones T.F__law_ones.kp (B__law_ones T) .nil pass0 (pa_cons (pv 8) pa_nil)) (pv 5)) pa_nil)) pe_int) pe_int (nomark _))) (fun _ _ _ _ _ => (pv 8))))) (pss_one (ps_setLc (i := 6) (own := [("k", 8)]) (g := (gName 8)) (by rfl) sc__law_numbers.nd rfl rfl (sw_true rfl rfl rfl (by decide +kernel)) (pi_range1 rfl T.n_range (pa_cons (pv 4) pa_nil)) (blkOk_by (own := [("k", 8)]) (N := ["flow", "shape", "size", "turn", "full", "odd", "numbers", "start", "k"]) (sc := defScope s__law_numbers) (by decide +kernel)) (fun _ _ _ _ _ => (pg_name (i := 8) sc__law_numbers.nd rfl (Or.inl rfl))) (fun _ _ _ _ _ => pts_one (pt_cmpR op_eq (pe_call G__law_take (hr.mono (by decide)) rfl T.g__law_take T.F__law_take.kp (B__law_take T) .nil pass0 (pa_cons (pv 0) (pa_cons pe_int pa_nil))) pe_int (nomark _))) (fun _ _ _ _ _ => (pv 8)))))
  (pss_cons (ps_if (pt_cmpR op_eq (pe_callB call_len (by rfl) T.n_len (by decide +kernel) (pa_cons (pv 6) pa_nil)) pe_int (nomark _)) (pss_one (ps_set (i := 6) sc__law_numbers.nd rfl (Or.inl rfl) (pe_lst (pa_cons (pe_call G__law_take (hr.mono (by decide)) rfl T.g__law_take T.F__law_take.kp (B__law_take T) .nil pass0 (pa_cons (pv 0) (pa_cons (pv 4) pa_nil))) pa_nil)))) pss_nil)
  (pss_cons (ps_set (i := 7) sc__law_numbers.nd rfl (Or.inl rfl) pe_int)
  (pss_cons (ps_if (pt_cmpR op_gt (pe_callB call_len (by rfl) T.n_len (by decide +kernel) (pa_cons (pv 6) pa_nil)) pe_int (nomark _)) (pss_one (ps_set (i := 7) sc__law_numbers.nd rfl (Or.inl rfl) (pe_call G__law_take (hr.mono (by decide)) rfl T.g__law_take T.F__law_take.kp (B__law_take T) .nil pass0 (pa_cons (pv 0) (pa_cons (pe_op op_sub (pe_callB call_len (by rfl) T.n_len (by decide +kernel) (pa_cons (pv 6) pa_nil)) pe_int) pa_nil))))) pss_nil)
  (pss_one (ps_ret (pe_lst (pa_cons (pv 2) (pa_cons (pe_slice sl_list (pv 6) (po_some (pv 7)) (po_some (pe_op op_add (pv 7) pe_int))) pa_nil)))))))))))))))), ?_⟩
    walk_at "sx"
    refine c_take hF (by decide) (by decide) (fun d1 H1 l1 u1 F1 K1 => ?_)
    walk_at "sx"
    refine i_2 (fun c => ?_) (fun c => ?_)
    · walk_at "sx"
      rename_i p2 np2 H2 s2 h2
      refine c_take (F1.same s2) (by decide) (by decide) (fun d2 H3 l2 u2 F3 K3 => ?_)
      obtain ⟨z, hz, ez⟩ := ix10b l2 u2
      have h3 := K3 p2 _ ((F1.ne np2).symm) h2
      refine r_ixL h3 ez ?_
      have K03 : Keep a H H3 := K1.trans ((Keep.same s2).trans K3)
      clear h2 h3
      walk_at "sx"
      refine ⟨a, z, 9, rfl, F3, hz, by decide, by decide, fun p ns H6 F6 K6 h6 N few => ?_⟩
      walk_at "sx"
      rename_i p7 np7 H7 s7 h7
      exact k p7 p z ns H7 (F6.same s7) (K03.trans (K6.trans (Keep.same s7))) h7 (s7 _ _ h6) N few hz
    · clear c
      walk_at "sx"
      refine i_2 (fun c => ?_) (fun c => ?_)
      · walk_at "sx"
        exact ⟨a, rfl, F1, fun q l n ns H' F' K' h1 h2 N few sn => k q l n ns H' F' (K1.trans K') h1 h2 N few sn⟩
      · clear c
        walk_at "sx"
        refine i_2 (fun c => ?_) (fun c => ?_)
        · walk_at "sx"
          rename_i p2 np2 H2 s2 h2
          refine c_take (F1.same s2) (by decide) (by decide) (fun d2 H3 l2 u2 F3 K3 => ?_)
          obtain ⟨z, hz, ez⟩ := ix10b l2 u2
          have h3 := K3 p2 _ ((F1.ne np2).symm) h2
          refine r_ixL h3 ez ?_
          have K03 : Keep a H H3 := K1.trans ((Keep.same s2).trans K3)
          clear h2 h3
          walk_at "sx"
          refine ⟨z, rfl, hz, fun H4 s4 => ?_⟩
          have z6 : 2 ^ z ≤ 2 ^ 6 := Nat.pow_le_pow_right (by decide) hz
          have z0 : 0 < 2 ^ z := Nat.pow_pos (by decide)
          walk_at "sx"
          refine c_take (F3.same s4) (by omega) (by omega) (fun d5 H5 l5 u5 F5 K5 => ?_)
          obtain ⟨t, rfl⟩ := Int.eq_ofNat_of_zero_le l5
          have tl : t < 2 ^ z := by omega
          walk_at "sx"
          rename_i p6 np6 H6 s6 h6
          have K6 : Keep a H H6 := K03.trans ((Keep.same s4).trans (K5.trans (Keep.same s6)))
          unfold tLc iRng1
          walk_at "sx"
          refine ⟨by omega, by omega, fun D hD => lc_range (lo := 0) (n := z) (fun i G => Same H6 G ∧ (True → G D = some (.lst (((List.range i).map fun k => t ^^^ 2 ^ k).map nv)))) ⟨Same.new hD, fun _ => upd_same⟩ ?_ ?_⟩
          · rintro i G hi ⟨s', hD'⟩
            refine s_name ⟨rfl, ?_⟩
            refine s_yes (i_t ?_)
            walk_at "sx"
            refine ⟨i, by rw [Int.zero_add]; rfl, by omega, fun G2 s2 => ?_⟩
            refine r_I0 ?_
            rw [bxor_n]
            refine ⟨_, s2 _ _ (hD' trivial), by rw [List.length_map, List.length_map, List.length_range, sizeLine_eq]; omega, Sx.Same.put (s'.trans s2) hD, fun _ => ?_⟩
            rw [upd_same, List.range_succ, List.map_append, List.map_append]
            rfl
          rintro H7 ⟨s7, hD7⟩
          refine ⟨p6, D, _, _, rfl, rfl, s7 _ _ h6, hD7 trivial, by rw [List.length_map, List.length_map, List.length_range, sizeLine_eq]; show 1 + z ≤ _; omega, fun p8 np8 => ?_⟩
          generalize hE : upd H7 p8 _ = H8
          have s8 := new_same np8 hE
          have h8 : H8 p8 = some (.lst ((t :: (List.range z).map fun k => t ^^^ 2 ^ k).map nv)) := new_at hE
          clear hE
          refine s_nil ⟨p8, (t :: (List.range z).map fun k => t ^^^ 2 ^ k).map fun m : Nat => (m : Int), rfl, SqL.of (by rw [List.map_map]; exact h8), fun ns' q pm pw nq => ?_⟩
          obtain ⟨ms, rfl, pms⟩ := nat_perm pm
          generalize hE : upd H8 q _ = H9
          have s9 := new_same nq hE
          have g9 := new_at hE
          rw [List.map_map] at g9
          clear hE
          walk_at "sx"
          rename_i pA npA HA sA hA
          have sl := pms.length_eq
          rw [List.length_cons, List.length_map, List.length_range] at sl
          have s6A := s7.trans (s8.trans (s9.trans sA))
          exact k pA q z ms HA (((F5.same s6).same s6A)) (K6.trans (Keep.same s6A)) hA (sA _ _ g9) (nums_perm pms pw star_nd (star_lt tl) (fun e => nomatch e) (by rw [List.length_cons, List.length_map, List.length_range]; omega)) (by omega) hz
        · clear c
          walk_at "sx"
          refine i_2 (fun c => ?_) (fun c => ?_)
          · walk_at "sx"
            refine c_take F1 (by decide) (by decide) (fun d5 H5 l5 u5 F5 K5 => ?_)
            obtain ⟨y, rfl⟩ := Int.eq_ofNat_of_zero_le l5
            have y3 : 2 ^ y ≤ 2 ^ 3 := Nat.pow_le_pow_right (by decide) (by omega)
            have y0 : 0 < 2 ^ y := Nat.pow_pos (by decide)
            walk_at "s1"
            refine s_lst (s_cons (s_var rfl (s_cons (s_lr ?_))))
            walk_at "sx"
            refine ⟨y, rfl, by omega, fun H6 s6 => ⟨((2 ^ y : Nat) : Int), rfl, .of_le (Int.le_refl _) (by omega) (by decide) (by omega), fun q7 nq7 => ?_⟩⟩
            generalize hE : upd H6 q7 _ = H7
            have s7 := new_same nq7 hE
            have g7 := new_at hE
            clear hE
            rw [rg_nums] at g7
            walk_at "sx"
            rename_i p8 np8 H8 s8 h8
            have s58 := s6.trans (s7.trans s8)
            refine k p8 q7 y (List.range (2 ^ y)) H8 (F5.same s58) ((K1).trans (K5.trans (Keep.same s58))) h8 (s8 _ _ g7) ⟨List.pairwise_lt_range, fun m hm => List.mem_range.mp hm, fun e => ?_, by rw [List.length_range]; omega⟩ (by rw [List.length_range]; omega) (by omega)
            have := congrArg List.length e
            rw [List.length_range, List.length_nil] at this
            omega
          · clear c
            walk_at "sx"
            rename_i p2 np2 H2 s2 h2
            refine c_take (F1.same s2) (by decide) (by decide) (fun d2 H3 l2 u2 F3 K3 => ?_)
            obtain ⟨z, hz, ez⟩ := ix10 l2 u2
            have h3 := K3 p2 _ ((F1.ne np2).symm) h2
            refine r_ixL h3 ez ?_
            have K03 : Keep a H H3 := K1.trans ((Keep.same s2).trans K3)
            clear h2 h3
            walk_at "sx"
            refine ⟨z, rfl, by omega, fun H4 s4 => ?_⟩
            have F4 := F3.same s4
            have K4 : Keep a H H4 := K03.trans (Keep.same s4)
            obtain ⟨pp, epp⟩ : ∃ pp, pp = 2 ^ z := ⟨_, rfl⟩
            have p8 : pp ≤ 16 := by
              rw [epp]
              exact (show 2 ^ z ≤ 2 ^ 4 from Nat.pow_le_pow_right (by decide) hz)
            have p1 : 0 < pp := by
              rw [epp]
              exact Nat.pow_pos (by decide)
            rw [← epp]
            walk_at "s1"
            dsimp only
            refine s_seqP (fun σ' H' => Flow H' a ∧ Keep a H H' ∧ ∃ (D : Addr) (ms : List Nat) (v5 v9 : Option V), a ≠ D ∧ (True → H' D = some (.lst (ms.map nv))) ∧ ms.Pairwise (· < ·) ∧ (∀ m ∈ ms, m < pp) ∧ ms.length ≤ pp ∧ σ' = [some (.ref a), some (.int d1), some (.int z), none, some (.int pp), v5, some (.ref D), v9, none]) (fun X hX => ?_) ?_
            · walk_at "sx"
              refine i_2 (fun c => ?_) (fun c => ?_)
              · walk_at "sx"
                refine c_take F4 (by omega) (by omega) (fun d5 H5 l5 u5 F5 K5 => ?_)
                walk_at "sx"
                refine ⟨_, rfl, _, rfl, by omega, by omega, fun D hD => lc_range (lo := 0) (n := pp) (Kp a D H) (Kp.start F5 (K4.trans K5) hD) ?_ ?_⟩
                · rintro i H' hi kp
                  have hDa : a ≠ D := F5.ne hD
                  have hD0 : H D = none := Keep.free (K4.trans K5) hDa.symm hD
                  refine s_name ⟨rfl, ?_⟩
                  walk_at "sx"
                  refine ⟨i, by rw [Int.zero_add]; rfl, fun zz => ?_⟩
                  walk_at "sx"
                  refine i_2 (fun c => ?_) (fun c => ?_)
                  · refine s_var rfl ?_
                    rw [Int.zero_add]
                    exact kp.yes hDa hD0 (by omega)
                  · exact kp.no
                rintro H' ⟨F', K', ms, hm, asc, lt, ln⟩
                refine s_name ?_
                exact hX _ _ ⟨F', K', D, ms, _, _, F5.ne hD, hm, asc, lt, ln, rfl⟩
              · clear c
                walk_at "sx"
                refine ⟨_, rfl, _, rfl, by omega, by omega, fun D hD => lc_range (lo := 0) (n := pp) (Kp a D H) (Kp.start F4 (K4) hD) ?_ ?_⟩
                · rintro i H' hi kp
                  have hDa : a ≠ D := F4.ne hD
                  have hD0 : H D = none := Keep.free (K4) hDa.symm hD
                  refine s_name ⟨rfl, ?_⟩
                  walk_at "sx"
                  refine c_take kp.1 (by decide) (by decide) (fun d7 H7 l7 u7 F7 K7 => ?_)
                  have kp7 := kp.move hDa F7 K7
                  walk_at "sx"
                  refine i_2 (fun c => ?_) (fun c => ?_)
                  · refine s_var rfl ?_
                    rw [Int.zero_add]
                    exact kp7.yes hDa hD0 (by omega)
                  · exact kp7.no
                rintro H' ⟨F', K', ms, hm, asc, lt, ln⟩
                refine s_name ?_
                exact hX _ _ ⟨F', K', D, ms, _, _, F4.ne hD, hm, asc, lt, ln, rfl⟩
            rintro _ H5 ⟨F5, K5, D, ms, v5, v9, hDa, hm, asc, lt, ln, rfl⟩
            refine s_seqP (fun σ' H' => Flow H' a ∧ Keep a H H' ∧ ∃ (D : Addr) (ms : List Nat), a ≠ D ∧ (True → H' D = some (.lst (ms.map nv))) ∧ ms.Pairwise (· < ·) ∧ (∀ m ∈ ms, m < pp) ∧ ms.length ≤ pp ∧ ms ≠ [] ∧ σ' = [some (.ref a), some (.int d1), some (.int z), none, some (.int pp), v5, some (.ref D), v9, none]) (fun X hX => ?_) ?_
            · walk_at "sx"
              refine ⟨_, _, rfl, .inl ⟨_, SqL.of (hm trivial), rfl⟩, ?_⟩
              rw [List.length_map]
              walk_at "sx"
              refine i_2 (fun c => ?_) (fun c => ?_)
              · walk_at "sx"
                refine c_take F5 (by omega) (by omega) (fun d H7 l7 u7 F7 K7 => ?_)
                obtain ⟨m, rfl⟩ := Int.eq_ofNat_of_zero_le l7
                walk_at "sx"
                rename_i p8 np8 H8 s8 h8
                exact hX _ _ ⟨F7.same s8, K5.trans (K7.trans (Keep.same s8)), p8, [m], F7.ne np8, fun _ => h8, List.pairwise_singleton _ _, fun x hx => by rw [List.mem_singleton.mp hx]; omega, p1, by simp, rfl⟩
              · walk_at "sx"
                exact hX _ _ ⟨F5, K5, D, ms, hDa, hm, asc, lt, ln, fun e => c (by rw [e]; rfl), rfl⟩
            clear hm asc lt ln hDa
            clear ms D
            rintro _ H6 ⟨F6, K6, D, ms, hDa, hm, asc, lt, ln, ne, rfl⟩
            have lpos := List.length_pos_iff.mpr ne
            walk_at "s1"
            walk_at "s1"
            walk_at "s1"
            walk_at "s1"
            dsimp only
            refine s_seqP (fun σ' H' => Flow H' a ∧ Keep a H H' ∧ ∃ st : Nat, (True → H' D = some (.lst (ms.map nv))) ∧ st < ms.length ∧ σ' = [some (.ref a), some (.int d1), some (.int z), none, some (.int pp), v5, some (.ref D), some (.int st), none]) (fun X hX => ?_) ?_
            · walk_at "sx"
              refine ⟨_, _, rfl, .inl ⟨_, SqL.of (hm trivial), rfl⟩, ?_⟩
              rw [List.length_map]
              walk_at "sx"
              refine i_2 (fun c => ?_) (fun c => ?_)
              · walk_at "sx"
                refine ⟨_, _, rfl, .inl ⟨_, SqL.of (hm trivial), rfl⟩, ?_⟩
                rw [List.length_map]
                walk_at "sx"
                refine c_take F6 (by omega) (by omega) (fun d H7 l7 u7 F7 K7 => ?_)
                obtain ⟨m, rfl⟩ := Int.eq_ofNat_of_zero_le l7
                refine s_name ?_
                exact hX _ _ ⟨F7, K6.trans K7, m, fun _ => K7 _ _ hDa.symm (hm trivial), by omega, rfl⟩
              · walk_at "sx"
                exact hX _ _ ⟨F6, K6, 0, hm, lpos, rfl⟩
            clear hm
            rintro _ H7 ⟨F7, K7, st, hm, sl, rfl⟩
            walk_at "sx"
            refine ⟨D, _, rfl, SqL.of (hm trivial), fun p8 np8 => ?_⟩
            rw [cut9]
            obtain ⟨ks, eks⟩ : ∃ ks, ks = (ms.drop (min st ms.length)).take (min (st + 9) ms.length - min st ms.length) := ⟨_, rfl⟩
            rw [← eks]
            have lks : ks.length ≤ 9 ∧ 0 < ks.length := by
              rw [eks, List.length_take, List.length_drop]
              omega
            have sub : ks.Sublist ms := by
              rw [eks]
              exact (List.take_sublist _ _).trans (List.drop_sublist _ _)
            generalize hE : upd H7 p8 _ = H8
            have s8 := new_same np8 hE
            have h8 := new_at hE
            clear hE
            walk_at "sx"
            rename_i p9 np9 H9 s9 h9
            exact k p9 p8 z ks H9 (F7.same (s8.trans s9)) (K7.trans (Keep.same (s8.trans s9))) h9 (s9 _ _ h8) ⟨asc.sublist sub, fun x hx => by rw [← epp]; exact lt x (sub.subset hx), fun e => by rw [e] at lks; exact Nat.lt_irrefl _ lks.2, by omega⟩ lks.1 (by omega)
end
end K37

set_option Elab.async false
set_option linter.all false
set_option maxRecDepth 100000
set_option maxHeartbeats 4000000
namespace K37
open PySem L2 Sx Fl
local macro_rules | `(tactic| walk_at "cond") => `(tactic| first
  | assumption
  | decide
  | exact c_mul_r (by first | decide | omega) (by first | decide | omega)
  | exact c_mul_l (by first | decide | omega) (by first | decide | omega)
  | exact c_div (by first | decide | omega) (by first | decide | omega)
  | exact c_pow (by first | decide | omega) (by first | decide | omega) (by first | decide | omega)
  | omega)
local macro_rules | `(tactic| walk_at "ne") => `(tactic| first
  | assumption
  | (refine Ne.symm ?_; assumption)
  | (refine' Flow.ne ?nh ?nn; (case nn => assumption); (case nh => walk_at "fl"))
  | (refine Ne.symm ?_; refine' Flow.ne ?nh ?nn; (case nn => assumption); (case nh => walk_at "fl"))
  | (refine' ne_of_none ?nh ?nn; (case nn => assumption); (case nh => walk_at "at"))
  | (refine Ne.symm ?_; refine' ne_of_none ?nh ?nn; (case nn => assumption); (case nh => walk_at "at")))
local macro_rules | `(tactic| walk_at "at") => `(tactic| first
  | assumption
  | (refine Same.up (by assumption) ?_; walk_at "at")
  | (refine Keep.up (by assumption) (by walk_at "ne") ?_; walk_at "at"))
local macro_rules | `(tactic| walk_at "fl") => `(tactic| first
  | assumption
  | (refine Flow.same (by assumption) ?_; walk_at "fl")
  | (refine Flow.keep (by assumption) (by walk_at "ne") ?_; walk_at "fl"))
local macro_rules | `(tactic| walk_at "fr") => `(tactic| first
  | assumption
  | (refine same_free (by assumption) ?_; walk_at "fr")
  | (refine Keep.free (by assumption) (by walk_at "ne") ?_; walk_at "fr"))
local macro_rules | `(tactic| walk_at "kp") => `(tactic| first
  | assumption
  | exact Keep.refl _ _
  | (refine Keep.trans ?_ (by assumption); walk_at "kp")
  | (refine Keep.trans ?_ (Keep.same (by assumption)); walk_at "kp"))
local macro_rules | `(tactic| walk_at "sm") => `(tactic| first
  | assumption
  | exact L2.Same.refl _
  | (refine L2.Same.trans ?_ (by assumption); walk_at "sm"))
local macro_rules | `(tactic| walk_at "sz") => `(tactic| first | exact Nat.le_of_ble_eq_true rfl | omega)
local macro_rules | `(tactic| walk_at "new") => `(tactic| (intro p np; generalize hE : upd _ p _ = H2; have s2 := new_same np hE; have h2 := new_at hE; clear hE))
local macro_rules | `(tactic| walk_at "newx") => `(tactic| (intro e d na nd hda; generalize hE : upd (upd _ d _) e _ = H2; have s2 := newx_same na nd hE; have h2 := newx_at hE; have h3 := newx_d hda hE; clear hE))
local macro_rules | `(tactic| walk_at "s1") => `(tactic| first
  | with_reducible refine s_seq ?_
  | with_reducible refine s_asg ?_
  | with_reducible refine s_name ?_
  | with_reducible refine s_ret ?_
  | with_reducible refine s_c ?_
  | ((with_reducible refine' s_var ?hv ?_); (case hv => rfl))
  | with_reducible refine s_op ?_
  | with_reducible refine s_un ?_
  | with_reducible refine s_ifS ?_
  | with_reducible refine s_cb ?_
  | with_reducible refine s_cons ?_
  | with_reducible refine s_nil ?_
  | with_reducible refine s_call ?_
  | with_reducible refine s_test ?_
  | with_reducible refine s_tB ?_
  | with_reducible refine s_bl ?_
  | with_reducible refine s_and ?_
  | with_reducible refine s_or ?_
  | with_reducible refine s_not ?_
  | with_reducible refine s_andV ?_
  | with_reducible refine s_orV ?_
  | with_reducible refine s_notV ?_
  | with_reducible refine s_blV ?_
  | with_reducible refine s_if ?_
  | with_reducible refine s_tup ?_
  | with_reducible refine s_lst ?_
  | with_reducible refine s_drop ?_
  | with_reducible refine s_next ?_
  | with_reducible refine s_sub ?_
  | with_reducible refine s_bm ?_
  | with_reducible refine s_callK ?_
  | with_reducible refine s_brk ?_
  | with_reducible refine s_cont ?_
  | with_reducible refine r_I0 ?_
  | with_reducible refine r_U ?_
  | with_reducible refine r_eqI ?_
  | with_reducible refine r_neI ?_
  | with_reducible refine r_isB ?_
  | with_reducible refine r_notB ?_
  | with_reducible refine i_t ?_
  | with_reducible refine i_f ?_
  | with_reducible refine i_nt ?_
  | with_reducible refine i_nf ?_
  | ((with_reducible refine' r_I ?hc ?_); (case hc => walk_at "cond"))
  | (with_reducible refine .inl ⟨_, rfl, ?_⟩)
  | (with_reducible refine ⟨_, rfl, ?_⟩)
  | ((with_reducible refine' r_ixL ?hx ?ha ?_); (case hx => walk_at "at"); (case ha => rfl))
  | ((with_reducible refine' r_ixT ?hx ?ha ?_); (case hx => walk_at "at"); (case ha => rfl))
  | ((with_reducible refine' r_setL ?hx ?ha ?_); (case hx => walk_at "at"); (case ha => rfl); intro H2 k2 h2; (try dsimp only [List.set, Int.toNat] at h2))
  | ((with_reducible refine' r_app ?hx ?hl ?_); (case hx => walk_at "at"); (case hl => first | exact Nat.lt_of_ble_eq_true rfl | omega); intro H2 k2 h2)
  | ((with_reducible refine' ty_list ?hx ?_); (case hx => walk_at "at"))
  | (refine And.intro (by (with_reducible show _ ≤ sizeLine); walk_at "sz") ?_; walk_at "new")
  | with_reducible refine s_exv ?_
  | walk_at "newx")
local macro_rules | `(tactic| walk_at "sx") => `(tactic| repeat (walk_at "s1"))
local macro_rules | `(tactic| walk_at "s2") => `(tactic| first
  | ((with_reducible refine' r_ixG ?hx ?hn ?_); (case hx => walk_at "at"); (case hn => omega))
  | ((with_reducible refine' r_ixGT ?hx ?hn ?_); (case hx => walk_at "at"); (case hn => omega))
  | (with_reducible refine ig_cons (fun hix => ?_) (fun hix => ?_))
  | ((with_reducible refine ig_nil ?_); omega)
  | ((with_reducible refine' i_T ?hc ?_); (case hc => omega))
  | ((with_reducible refine' i_F ?hc ?_); (case hc => omega))
  | (with_reducible refine i_2 (fun hc => ?_) (fun hc => ?_))
  | (with_reducible refine i_n2 (fun hc => ?_) (fun hc => ?_)))
local macro_rules | `(tactic| walk_at "go") => `(tactic| repeat' (first | walk_at "s1" | walk_at "s2"))

local macro_rules | `(tactic| walk_at "s1") => `(tactic| first
  | with_reducible refine s_chain ?_
  | with_reducible refine s_fldS ?_
  | with_reducible refine s_fld ?_
  | with_reducible refine s_dIn ?_
  | with_reducible refine s_dNotIn ?_
  | with_reducible refine s_sl ?_
  | with_reducible refine s_noPart ?_
  | with_reducible refine s_part ?_
  | with_reducible refine s_meth ?_
  | with_reducible refine s_make ?_)

/-- a share, reduced -/
def rdn (a b : Nat) : List V := [.int ((a / Nat.gcd a b : Nat) : Int), .int ((b / Nat.gcd a b : Nat) : Int)]
theorem red_eq {x y u v : Nat} (hy : 0 < y) (hv : 0 < v) (h : x * v = u * y) : rdn x y = rdn u v := by
  have g0 : 0 < Nat.gcd x y := Nat.gcd_pos_of_pos_right _ hy
  have k0 : 0 < Nat.gcd u v := Nat.gcd_pos_of_pos_right _ hv
  obtain ⟨g, eg⟩ : ∃ g, g = Nat.gcd x y := ⟨_, rfl⟩
  obtain ⟨k, ek⟩ : ∃ k, k = Nat.gcd u v := ⟨_, rfl⟩
  obtain ⟨x', ex⟩ : ∃ x', x' = x / g := ⟨_, rfl⟩
  obtain ⟨y', ey⟩ : ∃ y', y' = y / g := ⟨_, rfl⟩
  obtain ⟨u', eu⟩ : ∃ u', u' = u / k := ⟨_, rfl⟩
  obtain ⟨v', ev⟩ : ∃ v', v' = v / k := ⟨_, rfl⟩
  have c1 : Nat.gcd x' y' = 1 := by rw [ex, ey, eg]; exact Nat.gcd_div_gcd_div_gcd_of_pos_right hy
  have c2 : Nat.gcd u' v' = 1 := by rw [eu, ev, ek]; exact Nat.gcd_div_gcd_div_gcd_of_pos_right hv
  have hx' : x' * g = x := by rw [ex, eg]; exact Nat.div_mul_cancel (Nat.gcd_dvd_left _ _)
  have hy' : y' * g = y := by rw [ey, eg]; exact Nat.div_mul_cancel (Nat.gcd_dvd_right _ _)
  have hu' : u' * k = u := by rw [eu, ek]; exact Nat.div_mul_cancel (Nat.gcd_dvd_left _ _)
  have hv' : v' * k = v := by rw [ev, ek]; exact Nat.div_mul_cancel (Nat.gcd_dvd_right _ _)
  have m : x' * v' = u' * y' := by
    rw [← hx', ← hy', ← hu', ← hv'] at h
    have z : (x' * v') * (g * k) = (u' * y') * (g * k) := by
      calc (x' * v') * (g * k) = x' * g * (v' * k) := by simp only [Nat.mul_assoc, Nat.mul_comm, Nat.mul_left_comm]
        _ = u' * k * (y' * g) := h
        _ = (u' * y') * (g * k) := by simp only [Nat.mul_assoc, Nat.mul_comm, Nat.mul_left_comm]
    exact Nat.eq_of_mul_eq_mul_right (Nat.mul_pos (by omega) (by omega)) z
  have d1 : x' ∣ u' := Nat.Coprime.dvd_of_dvd_mul_right c1 ⟨v', m.symm⟩
  have d2 : u' ∣ x' := Nat.Coprime.dvd_of_dvd_mul_right c2 ⟨y', m⟩
  have e1 : x' = u' := Nat.dvd_antisymm d1 d2
  have d3 : y' ∣ v' := Nat.Coprime.dvd_of_dvd_mul_left (k := y') (m := x') (n := v') (by rw [Nat.coprime_comm]; exact c1) ⟨u', by rw [m, Nat.mul_comm]⟩
  have d4 : v' ∣ y' := Nat.Coprime.dvd_of_dvd_mul_left (k := v') (m := u') (n := y') (by rw [Nat.coprime_comm]; exact c2) ⟨x', by rw [← m, Nat.mul_comm]⟩
  have e2 : y' = v' := Nat.dvd_antisymm d3 d4
  unfold rdn
  rw [← eg, ← ek, ← ex, ← ey, ← eu, ← ev, e1, e2]
theorem rd_parts {a b : Nat} (hb : 0 < b) : ∃ g a' b', 0 < g ∧ 0 < b' ∧ a = g * a' ∧ b = g * b' ∧ b' ≤ b ∧ a' ≤ a ∧ rdn a b = [.int (a' : Nat), .int (b' : Nat)] := by
  have g0 : 0 < Nat.gcd a b := Nat.gcd_pos_of_pos_right _ hb
  refine ⟨Nat.gcd a b, a / Nat.gcd a b, b / Nat.gcd a b, g0, Nat.div_pos (Nat.le_of_dvd hb (Nat.gcd_dvd_right _ _)) g0, (Nat.mul_div_cancel' (Nat.gcd_dvd_left _ _)).symm, (Nat.mul_div_cancel' (Nat.gcd_dvd_right _ _)).symm, Nat.div_le_self _ _, Nat.div_le_self _ _, rfl⟩
def Cs (H : Hp) (p : Addr) (m b : Nat) (r : Nat → Nat) : Prop := ∃ cs : List Addr, H p = some (.tup (cs.map .ref)) ∧ cs.length = m ∧ ∀ k, k < m → ∃ c, cs[k]? = some c ∧ H c = some (.tup (rdn (r k) b))
theorem Cs.same {H H' : Hp} {p : Addr} {m b : Nat} {r : Nat → Nat} (s : Same H H') (h : Cs H p m b r) : Cs H' p m b r := by
  obtain ⟨cs, h1, h2, h3⟩ := h
  refine ⟨cs, s _ _ h1, h2, fun k hk => ?_⟩
  obtain ⟨c, e1, e2⟩ := h3 k hk
  exact ⟨c, e1, s _ _ e2⟩
theorem ties_lt {n : Nat} {ns : List Nat} {L : List (List Int)} (ti : Ties n ns L) (N : Nums n ns) (sn : n ≤ 8) {k : Nat} (hk : k < L.length) : iT L k < ns.length ∧ jT L k < ns.length := by
  obtain ⟨i, j, p, a, et, hp, hi, b, hj⟩ := (ti.mem L[k]).mp (List.getElem_mem hk)
  obtain ⟨h1, h2, _⟩ := tie_pair N sn hp hi b hj
  unfold iT jT
  rw [List.getD_eq_getElem?_getD, List.getElem?_eq_getElem hk]
  simp only [Option.getD_some, et]
  refine ⟨?_, h2⟩
  show i < _
  omega
/-- what the first u ties bring rule r, in b-ths -/
def acc (L : List (List Int)) (b : Nat) (f : Nat → Nat) : Nat → Nat → Nat
  | 0, _ => 0
  | u + 1, r => acc L b f u r + (if iT L u = r then f u else 0) + (if jT L u = r then b - f u else 0)
theorem acc_le {L : List (List Int)} {b : Nat} {f : Nat → Nat} (fb : ∀ k, k < L.length → f k ≤ b) : ∀ u r, u ≤ L.length → acc L b f u r ≤ b * u
  | 0, _, _ => Nat.zero_le _
  | u + 1, r, h => by
    have ih := acc_le fb u r (by omega)
    have := fb u (by omega)
    unfold acc
    rw [Nat.mul_succ]
    split <;> split <;> omega
theorem rdn_zero {b : Nat} (hb : 0 < b) : rdn 0 b = [.int 0, .int 1] := by
  unfold rdn
  rw [Nat.gcd_zero_left, Nat.zero_div, Nat.div_self hb]
  rfl
theorem acc_carry {L : List (List Int)} {b : Nat} {R : Nat → Int} (am : Am L.length (fun _ => (b : Int) * 1) R) (r : Nat) : ∀ u, u ≤ L.length → (acc L b (fun k => (R (2 * k)).toNat) u r : Int) = sumN u fun k => (if iT L k = r then R (2 * k) else 0) + (if jT L k = r then R (2 * k + 1) else 0)
  | 0, _ => rfl
  | u + 1, h => by
    have p1 := am.pos (2 * u) (by omega)
    have p2 := am.pos (2 * u + 1) (by omega)
    have s : R (2 * u) + R (2 * u + 1) = (b : Int) * 1 := am.sum u (by omega)
    rw [Int.mul_one] at s
    rw [sumN_succ, ← acc_carry am r u (by omega)]
    conv => lhs; unfold acc
    have e1 : (((R (2 * u)).toNat : Nat) : Int) = R (2 * u) := Int.toNat_of_nonneg p1
    have e2 : ((b - (R (2 * u)).toNat : Nat) : Int) = R (2 * u + 1) := by omega
    rw [Int.natCast_add, Int.natCast_add]
    by_cases h1 : iT L u = r <;> by_cases h2 : jT L u = r <;> simp [h1, h2] <;> omega
/-- chances that bring no rule more than a of b -/
structure Dg (n : Nat) (ns : List Nat) (L : List (List Int)) (a b : Nat) (f : Nat → Nat) : Prop where
  ti : Ties n ns L
  b0 : 0 < b
  b1 : b ≤ 64
  fb : ∀ k, k < L.length → f k ≤ b
  le : ∀ r, r < ns.length → acc L b f L.length r ≤ a
theorem dg_of {n : Nat} {ns : List Nat} {L : List (List Int)} {a b : Nat} {ks : List Nat} {R : Nat → Int} (N : Nums n ns) (ti : Ties n ns L) (D : Dn L.length ns.length (iT L) (jT L) (fun _ => 1) ks a b R) : Dg n ns L a b fun k => (R (2 * k)).toNat := by
  refine ⟨ti, D.pos, Nat.le_trans D.few N.few, fun k hk => ?_, fun r hr => ?_⟩
  · have p1 := D.am.pos (2 * k) (by omega)
    have p2 := D.am.pos (2 * k + 1) (by omega)
    have s : R (2 * k) + R (2 * k + 1) = (b : Int) * 1 := D.am.sum k hk
    omega
  · have z := acc_carry D.am r L.length (Nat.le_refl _)
    have c := D.le r hr
    unfold carry at c
    omega
theorem cs_of {H : Hp} {pr : Addr} {m b : Nat} {R : Nat → Int} (b0 : 0 < b) (h : ShAt H pr m (fun k => R (2 * k)) (fun _ => (b : Int))) : Cs H pr m b fun k => (R (2 * k)).toNat := by
  obtain ⟨cs, h1, h2, h3⟩ := h
  refine ⟨cs, h1, h2, fun k hk => ?_⟩
  obtain ⟨c, e1, e2⟩ := h3 k hk
  refine ⟨c, e1, ?_⟩
  rw [e2]
  unfold prt rdn
  dsimp only
  rw [if_neg (show ¬ (b : Int) = 0 by omega), Int.toNat_natCast]
theorem rdn_co {a b : Nat} (h : Nat.gcd a b = 1) : rdn a b = [.int a, .int b] := by
  unfold rdn
  rw [h, Nat.div_one, Nat.div_one]
theorem eu_gcd (a b : Nat) : Nat.gcd b (a % b) = Nat.gcd a b := by rw [Nat.gcd_comm b, ← Nat.gcd_rec, Nat.gcd_comm]
section
variable {P : Program} {w : World} {K : PySem.W.Frag} {mg : Str → Option Value} {base : Heap} {A : Ad}
def spBD (C : Addr) : Sp := fun vs H Q _ => ∃ (x : Addr) (n : Nat) (ns : List Nat), vs = [.ref x] ∧ Rn C H x n ns ∧ Nums n ns ∧ n ≤ 8 ∧
  ∀ (pr : Addr) (a b : Nat) (ks : List Nat) (L : List (List Int)) (f : Nat → Nat) H', Same H H' → Cs H' pr L.length b f → Dg n ns L a b f → Most n ns a b ks → (∃ R : Nat → Int, f = (fun k => (R (2 * k)).toNat) ∧ Dfin L.length ns.length (iT L) (jT L) (fun _ => 1) ks a b R) → Q (.ref pr) H'
theorem ok_BD (T : Txt P K mg A) : FnOk P w K mg base CX0 5 A.a_best_drawn A.d_best_drawn ["rules"] (spBD A.c_Rules) := by
  refine T.F_best_drawn.ok sc_best_drawn (fun vs H Q E h => ?_) (fun cdv A' outer s H vs Q E hr h => ?_)
  · obtain ⟨x, n, ns, rfl, _⟩ := h
    rfl
  · obtain ⟨x, n, ns, rfl, rn, N, sn, k⟩ := h
    have G_evenest := ok_Ev (w := w) (base := base) T
    refine ⟨_, (pss_one (ps_ret (pe_ix ix_seq (pe_call G_evenest (hr.mono (by decide)) rfl T.g_evenest T.F_evenest.kp (B_evenest T) .nil pass0 (pa_cons (pv 0) pa_nil)) pe_int (fun _ _ => rfl)))), ?_⟩
    walk_at "sx"
    refine ⟨x, n, ns, rfl, rn, N, sn, fun q pd pp pr a b ks L R H1 s1 hq hpd hpp hpr tt D M dfin => ?_⟩
    refine s_c (r_ixT hq rfl ?_)
    exact k pr a b ks L _ H1 s1 (cs_of M.pos hpr) (dg_of N tt D) M ⟨R, rfl, dfin⟩
def spDiv : Sp := fun vs H Q _ => ∃ x y : Nat, vs = [.int x, .int y] ∧ y < 400 ∧ Q (.int (Nat.gcd x y : Nat)) H
theorem ok_div (T : Txt P K mg A) : FnOk P w K mg base CX0 1 A.a__law_divisor A.d__law_divisor ["one", "other"] spDiv := by
  refine T.F__law_divisor.ok sc__law_divisor (fun vs H Q E h => ?_) (fun cdv A' outer s H vs Q E hr h => ?_)
  · obtain ⟨x, y, rfl, _⟩ := h
    rfl
  · obtain ⟨x, y, rfl, hy, k⟩ := h
    refine ⟨_, (pss_cons (ps_for PassesOwn.never rfl (pi_range1 rfl T.n_range (pa_cons pe_int pa_nil)) (pg_name (i := 2) sc__law_divisor.nd rfl (Or.inl rfl))
  (pss_cons (ps_if (pt_cmpR op_eq (pv 1) pe_int (nomark _)) (pss_one ps_break) pss_nil)
  (pss_cons (ps_set (i := 3) sc__law_divisor.nd rfl (Or.inl rfl) (pe_op op_mod (pe_callTy call_int1 (by rfl) T.n_int (by decide +kernel) (pa_cons (pv 0) pa_nil)) (pv 1)))
  (pss_cons (ps_set (i := 0) sc__law_divisor.nd rfl (Or.inl rfl) (pv 1))
  (pss_one (ps_set (i := 1) sc__law_divisor.nd rfl (Or.inl rfl) (pv 3)))))))
  (pss_one (ps_ret (pv 0)))), ?_⟩
    walk_at "sx"
    refine ⟨_, rfl, by decide, by decide, for_range (lo := 0) (n := 400) (fun i σ H' => H' = H ∧ ∃ (a b : Nat) (v1 v2 : Option V), σ = [some (.int a), some (.int b), v1, v2] ∧ Nat.gcd a b = Nat.gcd x y ∧ b + i < 400) ?_ ?_ ?_⟩
    · exact ⟨rfl, x, y, _, _, rfl, rfl, hy⟩
    · rintro i σ H' hi ⟨rfl, a, b, v1, v2, rfl, hg, he⟩
      walk_at "sx"
      refine i_2 (fun hc => ?_) (fun hc => ?_)
      · have hb : b = 0 := by omega
        subst hb
        walk_at "sx"
        rw [Nat.gcd_zero_right] at hg
        rw [hg]
        exact k
      · have hb : 0 < b := by omega
        have lt := Nat.mod_lt a hb
        walk_at "sx"
        exact ⟨rfl, b, a % b, _, _, rfl, by rw [eu_gcd]; exact hg, by omega⟩
    · rintro σ H' ⟨rfl, a, b, v1, v2, rfl, hg, he⟩
      omega
end
end K37

set_option Elab.async false
set_option linter.all false
set_option maxRecDepth 100000
set_option maxHeartbeats 4000000
namespace K37
open PySem L2 Sx Fl
local macro_rules | `(tactic| walk_at "cond") => `(tactic| first
  | assumption
  | decide
  | exact c_mul_r (by first | decide | omega) (by first | decide | omega)
  | exact c_mul_l (by first | decide | omega) (by first | decide | omega)
  | exact c_div (by first | decide | omega) (by first | decide | omega)
  | exact c_pow (by first | decide | omega) (by first | decide | omega) (by first | decide | omega)
  | omega)
local macro_rules | `(tactic| walk_at "ne") => `(tactic| first
  | assumption
  | (refine Ne.symm ?_; assumption)
  | (refine' Flow.ne ?nh ?nn; (case nn => assumption); (case nh => walk_at "fl"))
  | (refine Ne.symm ?_; refine' Flow.ne ?nh ?nn; (case nn => assumption); (case nh => walk_at "fl"))
  | (refine' ne_of_none ?nh ?nn; (case nn => assumption); (case nh => walk_at "at"))
  | (refine Ne.symm ?_; refine' ne_of_none ?nh ?nn; (case nn => assumption); (case nh => walk_at "at")))
local macro_rules | `(tactic| walk_at "at") => `(tactic| first
  | assumption
  | (refine Same.up (by assumption) ?_; walk_at "at")
  | (refine Keep.up (by assumption) (by walk_at "ne") ?_; walk_at "at"))
local macro_rules | `(tactic| walk_at "fl") => `(tactic| first
  | assumption
  | (refine Flow.same (by assumption) ?_; walk_at "fl")
  | (refine Flow.keep (by assumption) (by walk_at "ne") ?_; walk_at "fl"))
local macro_rules | `(tactic| walk_at "fr") => `(tactic| first
  | assumption
  | (refine same_free (by assumption) ?_; walk_at "fr")
  | (refine Keep.free (by assumption) (by walk_at "ne") ?_; walk_at "fr"))
local macro_rules | `(tactic| walk_at "kp") => `(tactic| first
  | assumption
  | exact Keep.refl _ _
  | (refine Keep.trans ?_ (by assumption); walk_at "kp")
  | (refine Keep.trans ?_ (Keep.same (by assumption)); walk_at "kp"))
local macro_rules | `(tactic| walk_at "sm") => `(tactic| first
  | assumption
  | exact L2.Same.refl _
  | (refine L2.Same.trans ?_ (by assumption); walk_at "sm"))
local macro_rules | `(tactic| walk_at "sz") => `(tactic| first | exact Nat.le_of_ble_eq_true rfl | omega)
local macro_rules | `(tactic| walk_at "new") => `(tactic| (intro p np; generalize hE : upd _ p _ = H2; have s2 := new_same np hE; have h2 := new_at hE; clear hE))
local macro_rules | `(tactic| walk_at "newx") => `(tactic| (intro e d na nd hda; generalize hE : upd (upd _ d _) e _ = H2; have s2 := newx_same na nd hE; have h2 := newx_at hE; have h3 := newx_d hda hE; clear hE))
local macro_rules | `(tactic| walk_at "s1") => `(tactic| first
  | with_reducible refine s_seq ?_
  | with_reducible refine s_asg ?_
  | with_reducible refine s_name ?_
  | with_reducible refine s_ret ?_
  | with_reducible refine s_c ?_
  | ((with_reducible refine' s_var ?hv ?_); (case hv => rfl))
  | with_reducible refine s_op ?_
  | with_reducible refine s_un ?_
  | with_reducible refine s_ifS ?_
  | with_reducible refine s_cb ?_
  | with_reducible refine s_cons ?_
  | with_reducible refine s_nil ?_
  | with_reducible refine s_call ?_
  | with_reducible refine s_test ?_
  | with_reducible refine s_tB ?_
  | with_reducible refine s_bl ?_
  | with_reducible refine s_and ?_
  | with_reducible refine s_or ?_
  | with_reducible refine s_not ?_
  | with_reducible refine s_andV ?_
  | with_reducible refine s_orV ?_
  | with_reducible refine s_notV ?_
  | with_reducible refine s_blV ?_
  | with_reducible refine s_if ?_
  | with_reducible refine s_tup ?_
  | with_reducible refine s_lst ?_
  | with_reducible refine s_drop ?_
  | with_reducible refine s_next ?_
  | with_reducible refine s_sub ?_
  | with_reducible refine s_bm ?_
  | with_reducible refine s_callK ?_
  | with_reducible refine s_brk ?_
  | with_reducible refine s_cont ?_
  | with_reducible refine r_I0 ?_
  | with_reducible refine r_U ?_
  | with_reducible refine r_eqI ?_
  | with_reducible refine r_neI ?_
  | with_reducible refine r_isB ?_
  | with_reducible refine r_notB ?_
  | with_reducible refine i_t ?_
  | with_reducible refine i_f ?_
  | with_reducible refine i_nt ?_
  | with_reducible refine i_nf ?_
  | ((with_reducible refine' r_I ?hc ?_); (case hc => walk_at "cond"))
  | (with_reducible refine .inl ⟨_, rfl, ?_⟩)
  | (with_reducible refine ⟨_, rfl, ?_⟩)
  | ((with_reducible refine' r_ixL ?hx ?ha ?_); (case hx => walk_at "at"); (case ha => rfl))
  | ((with_reducible refine' r_ixT ?hx ?ha ?_); (case hx => walk_at "at"); (case ha => rfl))
  | ((with_reducible refine' r_setL ?hx ?ha ?_); (case hx => walk_at "at"); (case ha => rfl); intro H2 k2 h2; (try dsimp only [List.set, Int.toNat] at h2))
  | ((with_reducible refine' r_app ?hx ?hl ?_); (case hx => walk_at "at"); (case hl => first | exact Nat.lt_of_ble_eq_true rfl | omega); intro H2 k2 h2)
  | ((with_reducible refine' ty_list ?hx ?_); (case hx => walk_at "at"))
  | (refine And.intro (by (with_reducible show _ ≤ sizeLine); walk_at "sz") ?_; walk_at "new")
  | with_reducible refine s_exv ?_
  | walk_at "newx")
local macro_rules | `(tactic| walk_at "sx") => `(tactic| repeat (walk_at "s1"))
local macro_rules | `(tactic| walk_at "s2") => `(tactic| first
  | ((with_reducible refine' r_ixG ?hx ?hn ?_); (case hx => walk_at "at"); (case hn => omega))
  | ((with_reducible refine' r_ixGT ?hx ?hn ?_); (case hx => walk_at "at"); (case hn => omega))
  | (with_reducible refine ig_cons (fun hix => ?_) (fun hix => ?_))
  | ((with_reducible refine ig_nil ?_); omega)
  | ((with_reducible refine' i_T ?hc ?_); (case hc => omega))
  | ((with_reducible refine' i_F ?hc ?_); (case hc => omega))
  | (with_reducible refine i_2 (fun hc => ?_) (fun hc => ?_))
  | (with_reducible refine i_n2 (fun hc => ?_) (fun hc => ?_)))
local macro_rules | `(tactic| walk_at "go") => `(tactic| repeat' (first | walk_at "s1" | walk_at "s2"))

local macro_rules | `(tactic| walk_at "s1") => `(tactic| first
  | with_reducible refine s_chain ?_
  | with_reducible refine s_fldS ?_
  | with_reducible refine s_fld ?_
  | with_reducible refine s_dIn ?_
  | with_reducible refine s_dNotIn ?_
  | with_reducible refine s_sl ?_
  | with_reducible refine s_noPart ?_
  | with_reducible refine s_part ?_
  | with_reducible refine s_meth ?_
  | with_reducible refine s_make ?_)

theorem xor_step {n a b p : Nat} (sn : n ≤ 6) (ha : a < 2 ^ n) (hb : b < 2 ^ n) (hp : p < n) (lt : a < b) : a ^^^ b = 2 ^ (n - 1 - p) ↔ a / 2 ^ (n - 1 - p) % 2 = 0 ∧ b = a + 2 ^ (n - 1 - p) := by
  have z : ((List.range 64).all fun a => (List.range 64).all fun b => (List.range 6).all fun k => !decide (a < b) || (decide (a ^^^ b = 2 ^ k) == (decide (a / 2 ^ k % 2 = 0) && decide (b = a + 2 ^ k)))) = true := by decide +kernel
  have le : 2 ^ n ≤ 64 := (show 2 ^ n ≤ 2 ^ 6 from Nat.pow_le_pow_right (by decide) sn)
  have z1 := List.all_eq_true.mp (List.all_eq_true.mp (List.all_eq_true.mp z a (List.mem_range.mpr (by omega))) b (List.mem_range.mpr (by omega))) (n - 1 - p) (List.mem_range.mpr (by omega))
  rw [decide_eq_true lt, Bool.not_true, Bool.false_or, beq_iff_eq] at z1
  rw [← decide_eq_true_iff (p := a ^^^ b = _), z1, Bool.and_eq_true, decide_eq_true_eq, decide_eq_true_eq]
theorem p2i {a b : Nat} (h : 2 ^ a = 2 ^ b) : a = b := by
  rcases Nat.lt_or_ge a b with l | l
  · have := Nat.pow_lt_pow_right (a := 2) (by decide) l
    omega
  · rcases Nat.lt_or_eq_of_le l with l | l
    · have := Nat.pow_lt_pow_right (a := 2) (by decide) l
      omega
    · exact l.symm
/-- the point at which a and b alone differ -/
def lt1 (n a b : Nat) : Option Nat := (List.range n).find? fun p => decide (a ^^^ b = 2 ^ (n - 1 - p))
theorem lt1_some {n a b p : Nat} : lt1 n a b = some p ↔ p < n ∧ a ^^^ b = 2 ^ (n - 1 - p) := by
  unfold lt1
  constructor
  · intro h
    have h1 := List.find?_some h
    have h2 := List.mem_of_find?_eq_some h
    exact ⟨List.mem_range.mp h2, of_decide_eq_true h1⟩
  · rintro ⟨h1, h2⟩
    rw [List.find?_range_eq_some]
    refine ⟨decide_eq_true h2, List.mem_range.mpr h1, fun j hj => ?_⟩
    have ne : a ^^^ b ≠ 2 ^ (n - 1 - j) := fun e => by
      rw [h2] at e
      have := p2i e
      omega
    simp [ne]
def rowL (n : Nat) (ns : List Nat) (i m : Nat) : List (List Int) := (List.range m).filterMap fun d => (lt1 n (ns.getD i 0) (ns.getD (i + 1 + d) 0)).map fun (p : Nat) => [(i : Int), ((i + 1 + d : Nat) : Int), (p : Int)]
def rawL (n : Nat) (ns : List Nat) (k : Nat) : List (List Int) := (List.range k).flatMap fun i => rowL n ns i (ns.length - (i + 1))
theorem rowL_succ (n : Nat) (ns : List Nat) (i m : Nat) : rowL n ns i (m + 1) = rowL n ns i m ++ (match lt1 n (ns.getD i 0) (ns.getD (i + 1 + m) 0) with | some p => [[(i : Int), ((i + 1 + m : Nat) : Int), (p : Int)]] | none => []) := by
  unfold rowL
  rw [List.range_succ, List.filterMap_append]
  congr 1
  cases h : lt1 n (ns.getD i 0) (ns.getD (i + 1 + m) 0) with
  | none => simp only [List.filterMap_cons, h, Option.map_none, List.filterMap_nil]
  | some p => simp only [List.filterMap_cons, h, Option.map_some, List.filterMap_nil]
theorem rawL_succ (n : Nat) (ns : List Nat) (k : Nat) : rawL n ns (k + 1) = rawL n ns k ++ rowL n ns k (ns.length - (k + 1)) := by
  unfold rawL
  rw [List.range_succ, List.flatMap_append]
  simp
/-- one triple ahead of the other -/
def Ahead (s t : List Int) : Prop := ∃ i j p i' j' p' : Nat, s = [(i : Int), (j : Int), (p : Int)] ∧ t = [(i' : Int), (j' : Int), (p' : Int)] ∧ (i < i' ∨ (i = i' ∧ j < j'))
theorem row_in {n : Nat} {ns : List Nat} {i m : Nat} {t : List Int} (h : t ∈ rowL n ns i m) : ∃ (d p : Nat), d < m ∧ t = [(i : Int), ((i + 1 + d : Nat) : Int), (p : Int)] ∧ lt1 n (ns.getD i 0) (ns.getD (i + 1 + d) 0) = some p := by
  obtain ⟨d, hd, e⟩ := List.mem_filterMap.mp h
  obtain ⟨p, hp, rfl⟩ := Option.map_eq_some_iff.mp e
  exact ⟨d, p, List.mem_range.mp hd, rfl, hp⟩
theorem raw_ahead (n : Nat) (ns : List Nat) (k : Nat) : (rawL n ns k).Pairwise Ahead := by
  unfold rawL
  rw [List.pairwise_flatMap]
  refine ⟨fun i _ => ?_, ?_⟩
  · unfold rowL
    rw [List.pairwise_filterMap]
    refine List.Pairwise.imp ?_ List.pairwise_lt_range
    intro a b lt x hx y hy
    obtain ⟨p, _, rfl⟩ := Option.map_eq_some_iff.mp hx
    obtain ⟨q, _, rfl⟩ := Option.map_eq_some_iff.mp hy
    exact ⟨i, _, p, i, _, q, rfl, rfl, .inr ⟨rfl, by omega⟩⟩
  · refine List.Pairwise.imp ?_ List.pairwise_lt_range
    intro a b lt x hx y hy
    obtain ⟨d, p, _, rfl, _⟩ := row_in hx
    obtain ⟨d', q, _, rfl, _⟩ := row_in hy
    exact ⟨a, _, p, b, _, q, rfl, rfl, .inl lt⟩
theorem get_lt {n : Nat} {ns : List Nat} (N : Nums n ns) {i j : Nat} (h : i < j) (l : j < ns.length) : ns.getD i 0 < ns.getD j 0 ∧ ns.getD i 0 < 2 ^ n ∧ ns.getD j 0 < 2 ^ n := by
  have a : ns.getD i 0 = ns[i] := by simp [show i < ns.length by omega]
  have b : ns.getD j 0 = ns[j] := by simp [l]
  rw [a, b]
  exact ⟨List.pairwise_iff_getElem.mp N.asc i j (by omega) l h, N.lt _ (List.getElem_mem _), N.lt _ (List.getElem_mem _)⟩
theorem rawL_ties {n : Nat} {ns : List Nat} (N : Nums n ns) (sn : n ≤ 6) : Ties n ns (rawL n ns ns.length) := by
  have few := N.few
  have mem : ∀ t, t ∈ rawL n ns ns.length ↔ Tie n ns t := fun t => by
    unfold rawL
    rw [List.mem_flatMap]
    constructor
    · rintro ⟨i, hi, ht⟩
      obtain ⟨d, p, hd, rfl, h⟩ := row_in ht
      have li := List.mem_range.mp hi
      obtain ⟨g1, g2, g3⟩ := get_lt N (show i < i + 1 + d by omega) (by omega)
      obtain ⟨hp, hx⟩ := lt1_some.mp h
      obtain ⟨b0, eb⟩ := (xor_step sn g2 g3 hp g1).mp hx
      refine ⟨i, i + 1 + d, p, ns.getD i 0, rfl, hp, ?_, b0, ?_⟩
      · rw [List.getElem?_eq_getElem li]
        simp [li]
      · rw [← eb, List.getElem?_eq_getElem (show i + 1 + d < ns.length by omega)]
        simp [show i + 1 + d < ns.length by omega]
    · rintro ⟨i, j, p, a, rfl, hp, hi, b0, hj⟩
      obtain ⟨li, ei⟩ := List.getElem?_eq_some_iff.mp hi
      obtain ⟨lj, ej⟩ := List.getElem?_eq_some_iff.mp hj
      have p0 : 0 < 2 ^ (n - 1 - p) := Nat.pow_pos (by decide)
      have ij : i < j := by
        rcases Nat.lt_or_ge i j with h | h
        · exact h
        · rcases Nat.lt_or_eq_of_le h with h | h
          · have z := List.pairwise_iff_getElem.mp N.asc j i lj li h
            rw [ei, ej] at z
            omega
          · subst h
            rw [ei] at ej
            omega
      have gi : ns.getD i 0 = a := by simp [hi]
      have gj : ns.getD j 0 = a + 2 ^ (n - 1 - p) := by simp [hj]
      obtain ⟨g1, g2, g3⟩ := get_lt N ij lj
      refine ⟨i, List.mem_range.mpr li, List.mem_filterMap.mpr ⟨j - (i + 1), List.mem_range.mpr (by omega), ?_⟩⟩
      rw [show i + 1 + (j - (i + 1)) = j by omega, lt1_some.mpr ⟨hp, (xor_step sn g2 g3 hp g1).mpr ⟨by rw [gi]; exact b0, by rw [gi, gj]⟩⟩]
      rfl
  refine ⟨?_, mem, ?_⟩
  · refine List.Pairwise.imp ?_ (raw_ahead n ns _)
    rintro s t ⟨i, j, p, i', j', p', rfl, rfl, h⟩ e
    simp at e
    omega
  · refine List.Pairwise.imp_of_mem ?_ (raw_ahead n ns _)
    rintro s t hs ht ⟨i, j, p, i', j', p', rfl, rfl, h⟩
    obtain ⟨a1, a2, a3, e1, b1, b2, b3⟩ := tie_bd (by omega) (by omega) ((mem _).mp hs)
    obtain ⟨a4, a5, a6, e2, b4, b5, b6⟩ := tie_bd (by omega) (by omega) ((mem _).mp ht)
    simp at e1 e2
    rw [code3, code3]
    omega

def bts (n : Nat) : List Nat := (List.range n).map fun k => 2 ^ k
theorem bts_lt1 (n a b : Nat) : decide (a ^^^ b ∈ bts n) = (lt1 n a b).isSome := by
  cases h : lt1 n a b with
  | some p =>
    obtain ⟨hp, e⟩ := lt1_some.mp h
    rw [e, Option.isSome_some, decide_eq_true_eq]
    exact List.mem_map.mpr ⟨n - 1 - p, List.mem_range.mpr (by omega), rfl⟩
  | none =>
    rw [Option.isSome_none, decide_eq_false_iff_not]
    intro m
    obtain ⟨k, hk, e⟩ := List.mem_map.mp m
    have hk := List.mem_range.mp hk
    have z := lt1_some (n := n) (a := a) (b := b) (p := n - 1 - k)
    rw [h] at z
    have := z.mpr ⟨by omega, by rw [← e]; congr 1; omega⟩
    cases this
/-- the law's table of points -/
def kvT (j : Nat) : List (Key × V) := (List.range j).map fun q => (Sum.inl ((2 ^ q : Nat) : Int), V.bl true)
theorem kvX_some (x : Nat) (g : Nat → Nat) (f : Nat → V) : ∀ l : List Nat, (valV (l.map fun q => ((Sum.inl (g q : Int) : Key), f q)) (Sum.inl (x : Int))).isSome = decide (x ∈ l.map g)
  | [] => by
    rw [List.map_nil, valV_nil]
    simp
  | a :: l => by
    rw [List.map_cons, List.map_cons]
    by_cases e : g a = x
    · rw [valV_pos (by rw [e])]
      simp [e]
    · rw [valV_neg (fun z => e (by have := Sum.inl.inj z; omega)), kvX_some x g f l]
      have e' : ¬ x = g a := fun z => e z.symm
      simp [e']
theorem kvT_some (j x : Nat) : (valV (kvT j) (Sum.inl (x : Int))).isSome = decide (x ∈ bts j) := kvX_some x _ _ _
theorem kvT_put {j : Nat} : putK (kvT j) (Sum.inl ((2 ^ j : Nat) : Int) : Key) (V.bl true) = kvT (j + 1) := by
  have no : valV (kvT j) (Sum.inl ((2 ^ j : Nat) : Int)) = none := by
    have z := kvT_some j (2 ^ j)
    rw [decide_eq_false (fun m => by
      obtain ⟨q, hq, e⟩ := List.mem_map.mp m
      have := p2i e
      have := List.mem_range.mp hq
      omega)] at z
    exact Option.isNone_iff_eq_none.mp (by rw [← Option.not_isSome, z]; rfl)
  rw [putK_new _ no]
  unfold kvT
  rw [List.range_succ, List.map_append]
  rfl
theorem pre_at {α : Type} {A L : List α} {t : α} (h : (A ++ [t]) <+: L) : L[A.length]? = some t := by
  obtain ⟨B, rfl⟩ := h
  simp
theorem row_pre {n : Nat} {ns : List Nat} {i : Nat} : ∀ {d m : Nat}, d ≤ m → rowL n ns i d <+: rowL n ns i m := fun {d m} h => by
  obtain ⟨e, rfl⟩ := Nat.le.dest h
  induction e with
  | zero => exact List.prefix_refl _
  | succ e ih =>
    rw [← Nat.add_assoc, rowL_succ]
    exact (ih (by omega)).trans (List.prefix_append _ _)
theorem raw_pre {n : Nat} {ns : List Nat} : ∀ {k m : Nat}, k ≤ m → rawL n ns k <+: rawL n ns m := fun {d m} h => by
  obtain ⟨e, rfl⟩ := Nat.le.dest h
  induction e with
  | zero => exact List.prefix_refl _
  | succ e ih =>
    rw [← Nat.add_assoc, rawL_succ]
    exact (ih (by omega)).trans (List.prefix_append _ _)
theorem met_pre {n : Nat} {ns : List Nat} {i d : Nat} (hi : i < ns.length) (hd : d ≤ ns.length - (i + 1)) : (rawL n ns i ++ rowL n ns i d) <+: rawL n ns ns.length := by
  have z : (rawL n ns i ++ rowL n ns i d) <+: rawL n ns (i + 1) := by
    rw [rawL_succ]
    exact (List.prefix_append_right_inj _).mpr (row_pre hd)
  exact z.trans (raw_pre hi)
theorem same_new {D : Addr} {H H' G : Hp} (s : Same H H') (n : H D = none) (k : Keep D H' G) : Same H G := fun b o h => k b o (ne_of_none h n) (s b o h)
/-- shares of b that stand as any fractions -/
def Ms (H : Hp) (ms : List Addr) (N b : Nat) (S : Nat → Nat) : Prop := ms.length = N ∧ ∀ r, r < N → ∃ (a : Addr) (u v : Nat), ms[r]? = some a ∧ H a = some (.tup [.int u, .int v]) ∧ 0 < v ∧ u * b = S r * v
theorem Ms.same {H H' : Hp} {ms : List Addr} {N b : Nat} {S : Nat → Nat} (s : Same H H') (h : Ms H ms N b S) : Ms H' ms N b S := ⟨h.1, fun r hr => by
  obtain ⟨a, u, v, e1, e2, e3⟩ := h.2 r hr
  exact ⟨a, u, v, e1, s _ _ e2, e3⟩⟩
theorem Ms.put {H H' : Hp} {p : Addr} {xs : List V} {ms : List Addr} {N b : Nat} {S : Nat → Nat} (k : Keep p H H') (hp : H p = some (.lst xs)) (h : Ms H ms N b S) {r x : Nat} {q : Addr} {u v : Nat} (hr : r < N) (hq : H q = some (.tup [.int u, .int v])) (v0 : 0 < v) (e : u * b = (S r + x) * v) : Ms H' (ms.set r q) N b (fun y => S y + (if y = r then x else 0)) := ⟨by rw [List.length_set]; exact h.1, fun y hy => by
  by_cases c : y = r
  · subst c
    refine ⟨q, u, v, by rw [List.getElem?_set_self (by rw [h.1]; exact hy)], k _ _ (ne_of hq hp fun e => nomatch e) hq, v0, ?_⟩
    show u * b = (S y + (if y = y then x else 0)) * v
    rw [if_pos rfl]
    exact e
  · obtain ⟨a, u', v', e1, e2, e3, e4⟩ := h.2 y hy
    refine ⟨a, u', v', by rw [List.getElem?_set_ne (fun z => c z.symm)]; exact e1, k _ _ (ne_of e2 hp fun e => nomatch e) e2, e3, ?_⟩
    show u' * b = (S y + (if y = r then x else 0)) * v'
    rw [if_neg c, Nat.add_zero]
    exact e4⟩
theorem Ms.eq {H : Hp} {ms : List Addr} {N b : Nat} {S S' : Nat → Nat} (h : Ms H ms N b S) (e : ∀ r, r < N → S r = S' r) : Ms H ms N b S' := ⟨h.1, fun r hr => by
  rw [← e r hr]
  exact h.2 r hr⟩
end K37

set_option Elab.async false
set_option linter.all false
set_option maxRecDepth 100000
set_option maxHeartbeats 4000000
namespace K37
open PySem L2 Sx Fl
local macro_rules | `(tactic| walk_at "cond") => `(tactic| first
  | assumption
  | decide
  | exact c_mul_r (by first | decide | omega) (by first | decide | omega)
  | exact c_mul_l (by first | decide | omega) (by first | decide | omega)
  | exact c_div (by first | decide | omega) (by first | decide | omega)
  | exact c_pow (by first | decide | omega) (by first | decide | omega) (by first | decide | omega)
  | omega)
local macro_rules | `(tactic| walk_at "ne") => `(tactic| first
  | assumption
  | (refine Ne.symm ?_; assumption)
  | (refine' Flow.ne ?nh ?nn; (case nn => assumption); (case nh => walk_at "fl"))
  | (refine Ne.symm ?_; refine' Flow.ne ?nh ?nn; (case nn => assumption); (case nh => walk_at "fl"))
  | (refine' ne_of_none ?nh ?nn; (case nn => assumption); (case nh => walk_at "at"))
  | (refine Ne.symm ?_; refine' ne_of_none ?nh ?nn; (case nn => assumption); (case nh => walk_at "at")))
local macro_rules | `(tactic| walk_at "at") => `(tactic| first
  | assumption
  | (refine Same.up (by assumption) ?_; walk_at "at")
  | (refine Keep.up (by assumption) (by walk_at "ne") ?_; walk_at "at"))
local macro_rules | `(tactic| walk_at "fl") => `(tactic| first
  | assumption
  | (refine Flow.same (by assumption) ?_; walk_at "fl")
  | (refine Flow.keep (by assumption) (by walk_at "ne") ?_; walk_at "fl"))
local macro_rules | `(tactic| walk_at "fr") => `(tactic| first
  | assumption
  | (refine same_free (by assumption) ?_; walk_at "fr")
  | (refine Keep.free (by assumption) (by walk_at "ne") ?_; walk_at "fr"))
local macro_rules | `(tactic| walk_at "kp") => `(tactic| first
  | assumption
  | exact Keep.refl _ _
  | (refine Keep.trans ?_ (by assumption); walk_at "kp")
  | (refine Keep.trans ?_ (Keep.same (by assumption)); walk_at "kp"))
local macro_rules | `(tactic| walk_at "sm") => `(tactic| first
  | assumption
  | exact L2.Same.refl _
  | (refine L2.Same.trans ?_ (by assumption); walk_at "sm"))
local macro_rules | `(tactic| walk_at "sz") => `(tactic| first | exact Nat.le_of_ble_eq_true rfl | omega)
local macro_rules | `(tactic| walk_at "new") => `(tactic| (intro p np; generalize hE : upd _ p _ = H2; have s2 := new_same np hE; have h2 := new_at hE; clear hE))
local macro_rules | `(tactic| walk_at "newx") => `(tactic| (intro e d na nd hda; generalize hE : upd (upd _ d _) e _ = H2; have s2 := newx_same na nd hE; have h2 := newx_at hE; have h3 := newx_d hda hE; clear hE))
local macro_rules | `(tactic| walk_at "s1") => `(tactic| first
  | with_reducible refine s_seq ?_
  | with_reducible refine s_asg ?_
  | with_reducible refine s_name ?_
  | with_reducible refine s_ret ?_
  | with_reducible refine s_c ?_
  | ((with_reducible refine' s_var ?hv ?_); (case hv => rfl))
  | with_reducible refine s_op ?_
  | with_reducible refine s_un ?_
  | with_reducible refine s_ifS ?_
  | with_reducible refine s_cb ?_
  | with_reducible refine s_cons ?_
  | with_reducible refine s_nil ?_
  | with_reducible refine s_call ?_
  | with_reducible refine s_test ?_
  | with_reducible refine s_tB ?_
  | with_reducible refine s_bl ?_
  | with_reducible refine s_and ?_
  | with_reducible refine s_or ?_
  | with_reducible refine s_not ?_
  | with_reducible refine s_andV ?_
  | with_reducible refine s_orV ?_
  | with_reducible refine s_notV ?_
  | with_reducible refine s_blV ?_
  | with_reducible refine s_if ?_
  | with_reducible refine s_tup ?_
  | with_reducible refine s_lst ?_
  | with_reducible refine s_drop ?_
  | with_reducible refine s_next ?_
  | with_reducible refine s_sub ?_
  | with_reducible refine s_bm ?_
  | with_reducible refine s_callK ?_
  | with_reducible refine s_brk ?_
  | with_reducible refine s_cont ?_
  | with_reducible refine r_I0 ?_
  | with_reducible refine r_U ?_
  | with_reducible refine r_eqI ?_
  | with_reducible refine r_neI ?_
  | with_reducible refine r_isB ?_
  | with_reducible refine r_notB ?_
  | with_reducible refine i_t ?_
  | with_reducible refine i_f ?_
  | with_reducible refine i_nt ?_
  | with_reducible refine i_nf ?_
  | ((with_reducible refine' r_I ?hc ?_); (case hc => walk_at "cond"))
  | (with_reducible refine .inl ⟨_, rfl, ?_⟩)
  | (with_reducible refine ⟨_, rfl, ?_⟩)
  | ((with_reducible refine' r_ixL ?hx ?ha ?_); (case hx => walk_at "at"); (case ha => rfl))
  | ((with_reducible refine' r_ixT ?hx ?ha ?_); (case hx => walk_at "at"); (case ha => rfl))
  | ((with_reducible refine' r_setL ?hx ?ha ?_); (case hx => walk_at "at"); (case ha => rfl); intro H2 k2 h2; (try dsimp only [List.set, Int.toNat] at h2))
  | ((with_reducible refine' r_app ?hx ?hl ?_); (case hx => walk_at "at"); (case hl => first | exact Nat.lt_of_ble_eq_true rfl | omega); intro H2 k2 h2)
  | ((with_reducible refine' ty_list ?hx ?_); (case hx => walk_at "at"))
  | (refine And.intro (by (with_reducible show _ ≤ sizeLine); walk_at "sz") ?_; walk_at "new")
  | with_reducible refine s_exv ?_
  | walk_at "newx")
local macro_rules | `(tactic| walk_at "sx") => `(tactic| repeat (walk_at "s1"))
local macro_rules | `(tactic| walk_at "s2") => `(tactic| first
  | ((with_reducible refine' r_ixG ?hx ?hn ?_); (case hx => walk_at "at"); (case hn => omega))
  | ((with_reducible refine' r_ixGT ?hx ?hn ?_); (case hx => walk_at "at"); (case hn => omega))
  | (with_reducible refine ig_cons (fun hix => ?_) (fun hix => ?_))
  | ((with_reducible refine ig_nil ?_); omega)
  | ((with_reducible refine' i_T ?hc ?_); (case hc => omega))
  | ((with_reducible refine' i_F ?hc ?_); (case hc => omega))
  | (with_reducible refine i_2 (fun hc => ?_) (fun hc => ?_))
  | (with_reducible refine i_n2 (fun hc => ?_) (fun hc => ?_)))
local macro_rules | `(tactic| walk_at "go") => `(tactic| repeat' (first | walk_at "s1" | walk_at "s2"))

local macro_rules | `(tactic| walk_at "s1") => `(tactic| first
  | with_reducible refine s_chain ?_
  | with_reducible refine s_fldS ?_
  | with_reducible refine s_fld ?_
  | with_reducible refine s_dIn ?_
  | with_reducible refine s_dNotIn ?_
  | with_reducible refine s_sl ?_
  | with_reducible refine s_noPart ?_
  | with_reducible refine s_part ?_
  | with_reducible refine s_meth ?_
  | with_reducible refine s_make ?_)

theorem s_din {ta tb : TE} {σ : L2.St} {H : Hp} {Q : VK} (h : ta σ H fun x H1 => tb σ H1 fun y H2 => ∃ a o, y = .ref a ∧ DGet H2 a x o ∧ Q (.bl o.isSome) H2) : tDIn ta tb σ H Q := h
theorem same_new' {D : Addr} {H H' G : Hp} (s : Same H H') (n : H D = none) (k : Keep D H' G) : Same H G := fun b o h => k b o (ne_of_none h n) (s b o h)
theorem acc_step {L : List (List Int)} {b : Nat} {f : Nat → Nat} {u i j : Nat} (hi : iT L u = i) (hj : jT L u = j) (r : Nat) : (acc L b f u r + (if r = i then f u else 0)) + (if r = j then b - f u else 0) = acc L b f (u + 1) r := by
  show _ = acc L b f u r + (if iT L u = r then f u else 0) + (if jT L u = r then b - f u else 0)
  rw [hi, hj]
  have e : ∀ (i x : Nat), (if r = i then x else 0) = (if i = r then x else 0) := fun i x => by
    by_cases c : r = i
    · rw [if_pos c, if_pos c.symm]
    · rw [if_neg c, if_neg fun z => c z.symm]
  rw [e, e]
section
variable {P : Program} {w : World} {K : PySem.W.Frag} {mg : Str → Option Value} {base : Heap} {A : Ad}
def spLC : Sp := fun vs H Q _ => ∃ (p : Addr) (u b : Nat), vs = [.ref p] ∧ H p = some (.tup [.int u, .int b]) ∧ 0 < b ∧ b < 400 ∧ u ≤ b ∧ Nat.gcd u b = 1 ∧ Q (.bl true) H
theorem ok_LC (T : Txt P K mg A) : FnOk P w K mg base CX0 2 A.a__law_is_chance A.d__law_is_chance ["value"] spLC := by
  refine T.F__law_is_chance.ok sc__law_is_chance (fun vs H Q E h => ?_) (fun cdv A' outer s H vs Q E hr h => ?_)
  · obtain ⟨p, u, b, rfl, _⟩ := h
    rfl
  · obtain ⟨p, u, b, rfl, hp, b0, b1, ub, co, k⟩ := h
    have G__law_divisor := ok_div (w := w) (base := base) T
    refine ⟨_, (pss_cons (ps_if (PW.pt (pw_or (pt_not (pt_val (pe_callB (id := "isinstance") (r := rIsiV K) call_isiV (by rfl) T.n_isinstance (by decide +kernel) (pa_cons (pv 0) (pa_cons (pe_bltn (v := .ty "tuple") (u := .type "tuple") (by rfl) T.n_tuple (by decide +kernel) rfl) pa_nil))))) (pw_or1 (pt_cmpR op_ne (pe_callB call_len (by rfl) T.n_len (by decide +kernel) (pa_cons (pv 0) pa_nil)) pe_int (nomark _))))) (pss_one (ps_ret pe_bl)) pss_nil)
  (pss_cons (ps_for PassesOwn.never rfl (pi_tup (pv 0)) (pg_name (i := 1) sc__law_is_chance.nd rfl (Or.inl rfl))
  (pss_one (ps_if (PW.pt (pw_or (pt_not (pt_val (pe_callB (id := "isinstance") (r := rIsiV K) call_isiV (by rfl) T.n_isinstance (by decide +kernel) (pa_cons (pv 1) (pa_cons (pe_bltn (v := .ty "int") (u := .type "int") (by rfl) T.n_int (by decide +kernel) rfl) pa_nil))))) (pw_or (pt_val (pe_callB (id := "isinstance") (r := rIsiV K) call_isiV (by rfl) T.n_isinstance (by decide +kernel) (pa_cons (pv 1) (pa_cons (pe_bltn (v := .ty "bool") (u := .type "bool") (by rfl) T.n_bool (by decide +kernel) rfl) pa_nil)))) (pw_or (pt_cmpR op_lt (pv 1) pe_int (nomark _)) (pw_or1 (pt_cmpR op_ge (pv 1) (pe_op op_pow pe_int pe_int) (nomark _))))))) (pss_one (ps_ret pe_bl)) pss_nil)))
  (pss_one (ps_ret (pe_and (pe_cmpR op_gt (pe_ix (r := rIx K) ix_seq (pv 0) pe_int (fun _ _ => rfl)) pe_int (nomark _)) (pe_and (pe_cmpR op_le (pe_ix (r := rIx K) ix_seq (pv 0) pe_int (fun _ _ => rfl)) (pe_ix (r := rIx K) ix_seq (pv 0) pe_int (fun _ _ => rfl)) (nomark _)) (pe_one (pe_cmpR op_eq (pe_call G__law_divisor (hr.mono (by decide)) rfl T.g__law_divisor T.F__law_divisor.kp (B__law_divisor T) .nil pass0 (pa_cons (pe_ix (r := rIx K) ix_seq (pv 0) pe_int (fun _ _ => rfl)) (pa_cons (pe_ix (r := rIx K) ix_seq (pv 0) pe_int (fun _ _ => rfl)) pa_nil))) pe_int (nomark _))))))))), ?_⟩
    walk_at "sx"
    refine isi_in (b := true) (in_tup hp) ?_
    walk_at "sx"
    refine ⟨_, _, rfl, .inr ⟨_, SqT.of hp, rfl⟩, ?_⟩
    walk_at "sx"
    refine i_n2 (fun h => absurd rfl h) (fun _ => ?_)
    walk_at "sx"
    refine ⟨_, rfl, p, rfl, ⟨_, SqT.of hp⟩, for_tup (K := K) (a := p) (xs := [.int u, .int b]) (fun z σ G' => G' = H ∧ ∃ v1 : Option V, σ = [some (.ref p), v1]) ?_ ?_ ?_ ?_⟩
    · exact ⟨rfl, _, rfl⟩
    · rintro z σ G' _ ⟨rfl, _⟩
      exact SqT.of hp
    · rintro z y σ G' hy ⟨rfl, v1, rfl⟩
      obtain ⟨x, rfl, xl⟩ : ∃ x : Nat, y = .int x ∧ x < 400 := by
        rcases z with _ | _ | z
        · cases hy
          exact ⟨u, rfl, by omega⟩
        · cases hy
          exact ⟨b, rfl, b1⟩
        · simp at hy
      walk_at "sx"
      refine isi_in (b := true) (in_int x) ?_
      walk_at "sx"
      refine isi_in (b := false) (in_int_b x) ?_
      walk_at "sx"
      refine i_F (by omega) ?_
      walk_at "sx"
      refine i_F (by
        show ¬ ((10 : Int) ^ 12 ≤ (x : Int))
        omega) ?_
      walk_at "sx"
      exact ⟨rfl, _, rfl⟩
    · rintro σ G' ⟨rfl, v1, rfl⟩
      walk_at "sx"
      refine i_T (by omega) ?_
      walk_at "sx"
      refine i_T (by omega) ?_
      walk_at "sx"
      refine ⟨u, b, rfl, b1, ?_⟩
      rw [co]
      refine s_c (r_eqI ?_)
      rw [decide_eq_true (show ((1 : Nat) : Int) = 1 from rfl)]
      exact k
def spGood : Sp := fun vs H Q _ => ∃ (p l c : Addr) (n : Nat) (ns : List Nat) (L : List (List Int)) (a b : Nat) (f : Nat → Nat) (b0 b1 : Int), vs = [.ref p, .int n, .ref l, .ref c] ∧ Cs H p L.length b f ∧ H l = some (.lst (ns.map nv)) ∧ Nums n ns ∧ n ≤ 6 ∧ Dg n ns L a b f ∧ H c = some (.lst [.int b0, .int b1]) ∧ 0 ≤ b0 ∧ b0 ≤ 100000 ∧ 0 < b1 ∧ b1 ≤ 100000 ∧ (a : Int) * b1 = b0 * b ∧ ∀ H', Same H H' → Q (.bl true) H'
theorem ok_good (T : Txt P K mg A) : FnOk P w K mg base CX0 3 A.a__law_good A.d__law_good ["chances", "size", "numbers", "most"] spGood := by
  refine T.F__law_good.ok sc__law_good (fun vs H Q E h => ?_) (fun cdv A' outer s H vs Q E hr h => ?_)
  · obtain ⟨p, l, c, n, ns, L, a, b, f, b0, b1, rfl, _⟩ := h
    rfl
  · obtain ⟨p, l, c, n, ns, L, a, b, f, b0, b1, rfl, ⟨cs, hp0, lc, hcs⟩, hl0, N, sn, G, hc0, b0n, b0l, b1p, b1l, eqm, k⟩ := h
    have G__law_full := ok_full (w := w) (base := base) T
    have G__law_is_chance := ok_LC (w := w) (base := base) T
    have n64 := N.few
    have tt := G.ti
    have bp := G.b0
    have bl := G.b1
    have ml := ties_few tt N (by omega)
    have eL : L = rawL n ns ns.length := tt.eq N.few (by omega) (rawL_ties N sn)
    have hp : True → H p = some (.tup (cs.map .ref)) := fun _ => hp0
    have hl : True → H l = some (.lst (ns.map nv)) := fun _ => hl0
    have hcc : True → H c = _ := fun _ => hc0
    clear hl0 hc0
    have gl : ∀ {i : Nat}, i < ns.length → atI (ns.map nv) (i : Int) = some (.int ((ns.getD i 0 : Nat) : Int)) := fun {i} hi => atI_nat (num_at hi)
    refine ⟨_, (pss_cons (ps_set (i := 4) sc__law_good.nd rfl (Or.inl rfl) pe_dnewK)
  (pss_cons (ps_for PassesOwn.never rfl (pi_range1 rfl T.n_range (pa_cons (pv 1) pa_nil)) (pg_name (i := 5) sc__law_good.nd rfl (Or.inl rfl))
  (pss_one (ps_asg pe_bl (pg_sub (pv 4) (pe_call G__law_full (hr.mono (by decide)) rfl T.g__law_full T.F__law_full.kp (B__law_full T) .nil pass0 (pa_cons (pv 5) pa_nil)) (set_dict (Sx.u1 hr))))))
  (pss_cons (ps_if (pt_not (pt_val (pe_callB (id := "isinstance") (r := rIsiV K) call_isiV (by rfl) T.n_isinstance (by decide +kernel) (pa_cons (pv 0) (pa_cons (pe_bltn (v := .ty "tuple") (u := .type "tuple") (by rfl) T.n_tuple (by decide +kernel) rfl) pa_nil))))) (pss_one (ps_ret pe_bl)) pss_nil)
  (pss_cons (ps_setLc (i := 6) (own := [("number", 12)]) (g := (gName 12)) (by rfl) sc__law_good.nd rfl rfl (sw_true rfl rfl rfl (by decide +kernel)) (pi_list (pv 2)) (blkOk_by (own := [("number", 12)]) (N := ["chances", "size", "numbers", "most", "bits", "k", "means", "at", "i", "j", "upper", "lower", "number", "mean"]) (sc := defScope s__law_good) (by decide +kernel)) (fun _ _ _ _ _ => (pg_name (i := 12) sc__law_good.nd rfl (Or.inl rfl))) (fun _ _ _ _ _ => pts_nil) (fun _ _ _ _ _ => (pe_tup (pa_cons pe_int (pa_cons pe_int pa_nil)))))
  (pss_cons (ps_set (i := 7) sc__law_good.nd rfl (Or.inl rfl) pe_int)
  (pss_cons (ps_for PassesOwn.never rfl (pi_range1 rfl T.n_range (pa_cons (pe_callB call_len (by rfl) T.n_len (by decide +kernel) (pa_cons (pv 2) pa_nil)) pa_nil)) (pg_name (i := 8) sc__law_good.nd rfl (Or.inl rfl))
  (pss_one (ps_for PassesOwn.never rfl (pi_range2 rfl T.n_range (pa_cons (pe_op op_add (pv 8) pe_int) (pa_cons (pe_callB call_len (by rfl) T.n_len (by decide +kernel) (pa_cons (pv 2) pa_nil)) pa_nil))) (pg_name (i := 9) sc__law_good.nd rfl (Or.inl rfl))
  (pss_one (ps_if (pt_cmp (pc_din (u1 hr) (pe_op op_xor (pe_ix (r := rIx K) ix_seq (pv 2) (pv 8) (fun _ _ => rfl)) (pe_ix (r := rIx K) ix_seq (pv 2) (pv 9) (fun _ _ => rfl))) (pv 4))) (pss_cons (ps_if (PW.pt (pw_or (pt_cmpR op_ge (pv 7) (pe_callB call_len (by rfl) T.n_len (by decide +kernel) (pa_cons (pv 0) pa_nil)) (nomark _)) (pw_or1 (pt_not (pt_val (pe_call G__law_is_chance (hr.mono (by decide)) rfl T.g__law_is_chance T.F__law_is_chance.kp (B__law_is_chance T) .nil pass0 (pa_cons (pe_ix (r := rIx K) ix_seq (pv 0) (pv 7) (fun _ _ => rfl)) pa_nil))))))) (pss_one (ps_ret pe_bl)) pss_nil)
  (pss_cons (ps_set (i := 10) sc__law_good.nd rfl (Or.inl rfl) (pe_ix (r := rIx K) ix_seq (pe_ix (r := rIx K) ix_seq (pv 0) (pv 7) (fun _ _ => rfl)) pe_int (fun _ _ => rfl)))
  (pss_cons (ps_set (i := 11) sc__law_good.nd rfl (Or.inl rfl) (pe_ix (r := rIx K) ix_seq (pe_ix (r := rIx K) ix_seq (pv 0) (pv 7) (fun _ _ => rfl)) pe_int (fun _ _ => rfl)))
  (pss_cons (ps_asg (pe_tup (pa_cons (pe_op op_add (pe_op op_mul (pe_ix (r := rIx K) ix_seq (pe_ix (r := rIx K) ix_seq (pv 6) (pv 8) (fun _ _ => rfl)) pe_int (fun _ _ => rfl)) (pv 11)) (pe_op op_mul (pv 10) (pe_ix (r := rIx K) ix_seq (pe_ix (r := rIx K) ix_seq (pv 6) (pv 8) (fun _ _ => rfl)) pe_int (fun _ _ => rfl)))) (pa_cons (pe_op op_mul (pe_ix (r := rIx K) ix_seq (pe_ix (r := rIx K) ix_seq (pv 6) (pv 8) (fun _ _ => rfl)) pe_int (fun _ _ => rfl)) (pv 11)) pa_nil))) (pg_sub (pv 6) (pv 8) set_list))
  (pss_cons (ps_set (i := 10) sc__law_good.nd rfl (Or.inl rfl) (pe_op op_sub (pv 11) (pv 10)))
  (pss_cons (ps_asg (pe_tup (pa_cons (pe_op op_add (pe_op op_mul (pe_ix (r := rIx K) ix_seq (pe_ix (r := rIx K) ix_seq (pv 6) (pv 9) (fun _ _ => rfl)) pe_int (fun _ _ => rfl)) (pv 11)) (pe_op op_mul (pv 10) (pe_ix (r := rIx K) ix_seq (pe_ix (r := rIx K) ix_seq (pv 6) (pv 9) (fun _ _ => rfl)) pe_int (fun _ _ => rfl)))) (pa_cons (pe_op op_mul (pe_ix (r := rIx K) ix_seq (pe_ix (r := rIx K) ix_seq (pv 6) (pv 9) (fun _ _ => rfl)) pe_int (fun _ _ => rfl)) (pv 11)) pa_nil))) (pg_sub (pv 6) (pv 9) set_list))
  (pss_one (ps_set (i := 7) sc__law_good.nd rfl (Or.inl rfl) (pe_op op_add (pv 7) pe_int))))))))) pss_nil)))))
  (pss_cons (ps_if (pt_cmpR op_ne (pv 7) (pe_callB call_len (by rfl) T.n_len (by decide +kernel) (pa_cons (pv 0) pa_nil)) (nomark _)) (pss_one (ps_ret pe_bl)) pss_nil)
  (pss_one (ps_ret (pe_cmpR op_eq (pe_callB call_len (by rfl) T.n_len (by decide +kernel) (pa_cons (pe_lc (own := [("mean", 13)]) (g := (gName 13)) (by rfl) sc__law_good.nd (pi_list (pv 6)) (blkOk_by (own := [("mean", 13)]) (N := ["chances", "size", "numbers", "most", "bits", "k", "means", "at", "i", "j", "upper", "lower", "number", "mean"]) (sc := defScope s__law_good) (by decide +kernel)) (fun _ _ _ _ _ => (pg_name (i := 13) sc__law_good.nd rfl (Or.inl rfl))) (fun _ _ _ _ _ => pts_one (pt_cmpR op_gt (pe_op op_mul (pe_ix (r := rIx K) ix_seq (pv 13) pe_int (fun _ _ => rfl)) (pe_ix (r := rIx K) ix_seq (pv 3) pe_int (fun _ _ => rfl))) (pe_op op_mul (pe_ix (r := rIx K) ix_seq (pv 3) pe_int (fun _ _ => rfl)) (pe_ix (r := rIx K) ix_seq (pv 13) pe_int (fun _ _ => rfl))) (nomark _))) (fun _ _ _ _ _ => pe_int)) pa_nil)) pe_int (nomark _))))))))))), ?_⟩
    intro pa npa
    generalize hE : upd H pa _ = H1
    have s1 := new_same npa hE
    have g1 : H1 pa = some (.dK (kvT 0)) := new_at hE
    clear hE
    walk_at "sx"
    refine ⟨_, rfl, _, rfl, by omega, by omega, for_range (lo := 0) (n := n) (fun j σ H' => Keep pa H1 H' ∧ H' pa = some (.dK (kvT j)) ∧ ∃ v5 v6 v7 v8 v9 v10 v11 v12 v13 : Option V, σ = [some (.ref p), some (.int n), some (.ref l), some (.ref c), some (.ref pa), v5, v6, v7, v8, v9, v10, v11, v12, v13]) ?_ ?_ ?_⟩
    · exact ⟨Keep.refl _ _, g1, _, _, _, _, _, _, _, _, _, rfl⟩
    · rintro j σ H' hj ⟨kp, hp', v5, v6, v7, v8, v9, v10, v11, v12, v13, rfl⟩
      walk_at "sx"
      refine ⟨j, by rw [Int.zero_add]; rfl, by omega, fun H2 s2 => ?_⟩
      refine ⟨pa, _, rfl, DPut.k (k := Sum.inl ((2 ^ j : Nat) : Int)) (s2 _ _ hp') (by unfold kvT; rw [List.length_map, List.length_range, sizeLine_eq]; omega), ?_⟩
      refine ⟨kp.trans ((Keep.same s2).trans (put_keep rfl)), ?_, _, _, _, _, _, _, _, _, _, rfl⟩
      rw [upd_same, kvT_put]
    · rintro σ H' ⟨kp, hpa, v5, v6, v7, v8, v9, v10, v11, v12, v13, rfl⟩
      have s1' : Same H H' := Keep.toSame s1 npa kp
      have hpp := s1' _ _ hp0
      have hl' : True → H' l = some (.lst (ns.map nv)) := fun _ => s1' _ _ (hl trivial)
      clear hp0
      walk_at "sx"
      refine isi_in (b := true) (in_tup hpp) ?_
      clear hpp
      walk_at "s1"
      walk_at "s1"
      walk_at "s1"
      dsimp only
      walk_at "s1"
      walk_at "s1"
      unfold tLc iList
      refine s_var rfl ⟨l, rfl, ⟨_, SqL.of (hl' trivial)⟩, fun D hD => lc_list (K := K) (a := l) (xs := ns.map nv) (fun u G' => Same H' G' ∧ ∃ ms : List Addr, (True → G' D = some (.lst (ms.map .ref))) ∧ Ms G' ms u b fun _ => 0) ⟨Same.new hD, [], fun _ => upd_same, rfl, fun r hr => absurd hr (Nat.not_lt_zero r)⟩ (fun q G' _ h => SqL.of (h.1 _ _ (hl' trivial))) ?_ ?_⟩
      · rintro u y G' hy ⟨s', ms, hD', M⟩
        have hu : u < ns.length := by
          have := (List.getElem?_eq_some_iff.mp hy).1
          rwa [List.length_map] at this
        refine s_name ⟨rfl, ?_⟩
        refine s_yes (i_t ?_)
        refine s_tup (s_cons (s_c (s_cons (s_c (s_nil ⟨Nat.le_of_ble_eq_true rfl, fun p9 np9 => ?_⟩)))))
        generalize hE : upd G' p9 _ = G9
        have s9 := new_same np9 hE
        have g9 := new_at hE
        clear hE
        have h9 := s9 _ _ (hD' trivial)
        refine ⟨_, h9, by rw [List.length_map, M.1, sizeLine_eq]; omega, Sx.Same.put (s'.trans s9) hD, ms ++ [p9], fun _ => by rw [upd_same, List.map_append]; rfl, by rw [List.length_append, M.1]; rfl, fun r hr => ?_⟩
        have kD : Keep D G9 (upd G9 D (.lst (ms.map V.ref ++ [V.ref p9]))) := put_keep rfl
        by_cases e : r < u
        · obtain ⟨x, y, z, e1, e2, e3⟩ := (M.same s9).2 r e
          exact ⟨x, y, z, by rw [List.getElem?_append_left (by rw [M.1]; exact e)]; exact e1, kD _ _ (ne_of e2 h9 fun e => nomatch e) e2, e3⟩
        · have e : r = u := by omega
          subst e
          exact ⟨p9, 0, 1, by rw [← M.1]; simp, kD _ _ (ne_of g9 h9 fun e => nomatch e) g9, by decide, by simp⟩
      rintro G1 ⟨t1, ms1, hD1, M1⟩
      rw [List.length_map] at M1
      have HD : H D = none := Same.free s1' hD
      have s01 := s1'.trans t1
      have paD : pa ≠ D := ne_of_none hpa hD
      refine s_name ?_
      walk_at "sx"
      refine ⟨_, rfl, _, _, rfl, .inl ⟨_, SqL.of (s01 _ _ (hl trivial)), rfl⟩, ?_⟩
      rw [List.length_map]
      refine ⟨_, rfl, by omega, by omega, for_range (lo := 0) (n := ns.length) (fun i σ G => Same H G ∧ G pa = some (.dK (kvT n)) ∧ (∃ ms : List Addr, (True → G D = some (.lst (ms.map .ref))) ∧ Ms G ms ns.length b (acc L b f (rawL n ns i).length)) ∧ ∃ v8 v9 v10 v11 : Option V, σ = [some (.ref p), some (.int n), some (.ref l), some (.ref c), some (.ref pa), v5, some (.ref D), some (.int ((rawL n ns i).length : Nat)), v8, v9, v10, v11, v12, v13]) ?_ ?_ ?_⟩
      · exact ⟨s01, t1 _ _ hpa, ⟨ms1, hD1, M1⟩, _, _, _, _, rfl⟩
      · rintro i σ G2 hi ⟨sG, hpG, ⟨ms, hDG, MG⟩, v8, v9, v10, v11, rfl⟩
        refine s_name ?_
        have ej : ((ns.length : Int) - (0 + (i : Int) + 1)).toNat = ns.length - (i + 1) := by omega
        refine ⟨_, rfl, _, 1, rfl, rfl, _, rfl, _, _, rfl, .inl ⟨_, SqL.of (sG _ _ (hl trivial)), by rw [List.length_map]⟩, _, _, rfl, ⟨by omega, by omega, by omega, by omega⟩, ?_⟩
        rw [ej]
        refine for_range (lo := 0 + (i : Int) + 1) (n := ns.length - (i + 1)) (fun d σ G => Same H G ∧ G pa = some (.dK (kvT n)) ∧ (∃ ms : List Addr, (True → G D = some (.lst (ms.map .ref))) ∧ Ms G ms ns.length b (acc L b f (rawL n ns i ++ rowL n ns i d).length)) ∧ ∃ v9 v10 v11 : Option V, σ = [some (.ref p), some (.int n), some (.ref l), some (.ref c), some (.ref pa), v5, some (.ref D), some (.int ((rawL n ns i ++ rowL n ns i d).length : Nat)), some (.int (0 + (i : Int))), v9, v10, v11, v12, v13]) ?_ ?_ ?_
        · exact ⟨sG, hpG, ⟨ms, hDG, by rw [show rowL n ns i 0 = [] from rfl, List.append_nil]; exact MG⟩, _, _, _, by rw [show rowL n ns i 0 = [] from rfl, List.append_nil]; rfl⟩
        · rintro d σ G3 hd ⟨s3, hp3, ⟨ms3, hD3, M3⟩, v9, v10, v11, rfl⟩
          have lj : i + 1 + d < ns.length := by omega
          have ejj : (0 + (i : Int) + 1 + (d : Int)) = ((i + 1 + d : Nat) : Int) := by omega
          rw [ejj, Int.zero_add]
          have hl3 : True → G3 l = _ := fun _ => s3 _ _ (hl trivial)
          refine s_name ?_
          walk_at "s1"
          refine s_ifS (s_tB (s_din (s_op (s_op (s_var rfl (s_var rfl (r_ixL (hl3 trivial) (gl hi) (s_op (s_var rfl (s_var rfl (r_ixL (hl3 trivial) (gl lj) (r_I0 ?_))))))))))))
          rw [bxor_n]
          refine s_var rfl ⟨pa, _, rfl, DGet.k (k := Sum.inl ((ns.getD i 0 ^^^ ns.getD (i + 1 + d) 0 : Nat) : Int)) hp3, ?_⟩
          rw [kvT_some, bts_lt1]
          cases hlt : lt1 n (ns.getD i 0) (ns.getD (i + 1 + d) 0) with
          | none =>
            have er : rowL n ns i (d + 1) = rowL n ns i d := by rw [rowL_succ, hlt]; exact List.append_nil _
            walk_at "sx"
            rw [er]
            exact ⟨s3, hp3, ⟨ms3, hD3, M3⟩, _, _, _, rfl⟩
          | some pt =>
            have er : rowL n ns i (d + 1) = rowL n ns i d ++ [[(i : Int), ((i + 1 + d : Nat) : Int), (pt : Int)]] := by rw [rowL_succ, hlt]
            have hT : L[(rawL n ns i ++ rowL n ns i d).length]? = some [(i : Int), ((i + 1 + d : Nat) : Int), (pt : Int)] := by
              rw [eL]
              exact pre_at (by rw [List.append_assoc, ← er]; exact met_pre hi (by omega))
            obtain ⟨u, eta⟩ : ∃ u, u = (rawL n ns i ++ rowL n ns i d).length := ⟨_, rfl⟩
            rw [← eta] at hT M3 ⊢
            have tl : u < L.length := (List.getElem?_eq_some_iff.mp hT).1
            have en : (rawL n ns i ++ rowL n ns i (d + 1)).length = u + 1 := by
              rw [er, ← List.append_assoc, List.length_append, ← eta]
              rfl
            rw [en]
            have gE : L.getD u [] = [(i : Int), ((i + 1 + d : Nat) : Int), (pt : Int)] := by rw [List.getD_eq_getElem?_getD, hT]; rfl
            have iE : iT L u = i := by
              show fst (L.getD u []) = i
              rw [gE]
              rfl
            have jE : jT L u = i + 1 + d := by
              show snd (L.getD u []) = i + 1 + d
              rw [gE]
              rfl
            obtain ⟨cu, ecu, hcu0⟩ := hcs u tl
            obtain ⟨g, x, y, g0, y0, ex, ey, ly, lx, er2⟩ := rd_parts (a := f u) bp
            rw [er2] at hcu0
            have co : Nat.gcd x y = 1 := by
              have e : rdn (f u) b = [.int ((f u / Nat.gcd (f u) b : Nat) : Int), .int ((b / Nat.gcd (f u) b : Nat) : Int)] := rfl
              rw [e] at er2
              simp only [List.cons.injEq, V.int.injEq, and_true] at er2
              have e1 : f u / Nat.gcd (f u) b = x := by omega
              have e2 : b / Nat.gcd (f u) b = y := by omega
              rw [← e1, ← e2]
              exact Nat.gcd_div_gcd_div_gcd_of_pos_right bp
            have fb := G.fb u tl
            have xy : x ≤ y := by
              rw [ex, ey] at fb
              exact Nat.le_of_mul_le_mul_left fb g0
            have hu1 : x * b = f u * y := by
              rw [ex]
              conv => lhs; rw [ey]
              simp only [Nat.mul_assoc, Nat.mul_comm, Nat.mul_left_comm]
            have hu2 : (y - x) * b = (b - f u) * y := by
              rw [ex]
              conv => lhs; rw [ey]
              conv => rhs; rw [ey]
              rw [Nat.sub_mul, ← Nat.mul_sub, Nat.mul_assoc, Nat.sub_mul]
              rw [Nat.mul_sub]
              congr 1 <;> simp only [Nat.mul_assoc, Nat.mul_comm, Nat.mul_left_comm]
            have hP := s3 _ _ (hp trivial)
            have hcu := s3 _ _ hcu0
            have aP : atI (cs.map V.ref) (u : Int) = some (.ref cu) := atI_nat (by rw [List.getElem?_map, ecu]; rfl)
            obtain ⟨am, U, W, em, hm, w0, eW⟩ := M3.2 i hi
            have atm : atI (ms3.map V.ref) (i : Int) = some (.ref am) := atI_nat (by rw [List.getElem?_map, em]; rfl)
            refine ⟨_, rfl, i_t ?_⟩
            refine s_seq (s_ifS (s_or (s_tT (s_op (s_var rfl (s_cb (s_cons (s_var rfl (s_nil ⟨_, _, rfl, .inr ⟨_, SqT.of hP, rfl⟩, r_I0 ?_⟩)))))))))
            rw [List.length_map, lc]
            refine ⟨_, rfl, i_F (by omega) ?_⟩
            refine s_not (s_tB (s_call (s_cons (s_op (s_var rfl (s_var rfl (r_ixT hP aP (s_nil ⟨cu, x, y, rfl, hcu, y0, by omega, xy, co, ?_⟩))))))))
            refine ⟨_, rfl, i_nt (s_next ?_)⟩
            dsimp only
            refine s_seq (s_asg (s_op (s_op (s_var rfl (s_var rfl (r_ixT hP aP (s_c (r_ixT hcu rfl (s_name ?_)))))))))
            dsimp only
            refine s_seq (s_asg (s_op (s_op (s_var rfl (s_var rfl (r_ixT hP aP (s_c (r_ixT hcu rfl (s_name ?_)))))))))
            dsimp only
            refine s_seq (s_asg (s_tup (s_cons (s_op (s_op (s_op (s_op (s_var rfl (s_var rfl (r_ixL (hD3 trivial) atm (s_c (r_ixT hm rfl (s_var rfl (r_I (c_mul_r (by omega) (by omega)) (s_op (s_var rfl (s_op (s_op (s_var rfl (s_var rfl (r_ixL (hD3 trivial) atm (s_c (r_ixT hm rfl (r_I (c_mul_l (by omega) (by omega)) (r_I0 (s_cons (s_op (s_op (s_op (s_var rfl (s_var rfl (r_ixL (hD3 trivial) atm (s_c (r_ixT hm rfl (s_var rfl (r_I (c_mul_r (by omega) (by omega)) (s_nil ⟨Nat.le_of_ble_eq_true rfl, fun p9 np9 => ?_⟩)))))))))))))))))))))))))))))))))))))
            generalize hE : upd G3 p9 _ = G9
            have s9 := new_same np9 hE
            have g9 := new_at hE
            clear hE
            refine s_sub (s_var rfl (s_var rfl (r_setL (s9 _ _ (hD3 trivial)) (ix_in (by rw [List.length_map, M3.1]; exact hi)) fun HA kA hA => ?_)))
            dsimp only
            have MA := (M3.same s9).put (x := f u) (u := U * y + x * W) (v := W * y) kA (s9 _ _ (hD3 trivial)) hi (by rw [g9, Int.natCast_add, Int.natCast_mul, Int.natCast_mul, Int.natCast_mul]) (Nat.mul_pos w0 y0) (by
              rw [Nat.add_mul, Nat.add_mul]
              congr 1
              · calc U * y * b = U * b * y := by simp only [Nat.mul_assoc, Nat.mul_comm, Nat.mul_left_comm]
                  _ = _ := by rw [eW, Nat.mul_assoc]
              · calc x * W * b = x * b * W := by simp only [Nat.mul_assoc, Nat.mul_comm, Nat.mul_left_comm]
                  _ = f u * (W * y) := by rw [hu1]; simp only [Nat.mul_assoc, Nat.mul_comm, Nat.mul_left_comm])
            rw [← List.map_set] at hA
            have sA : Same H HA := same_new' (s3.trans s9) HD kA
            have hDA : True → HA D = _ := fun _ => hA
            clear hA hm em eW
            obtain ⟨am2, U2, W2, em2, hm2, w02, eW2⟩ := MA.2 (i + 1 + d) lj
            have atm2 : atI ((ms3.set i p9).map V.ref) ((i + 1 + d : Nat) : Int) = some (.ref am2) := atI_nat (by rw [List.getElem?_map, em2]; rfl)
            refine s_seq (s_asg (s_op (s_var rfl (s_var rfl (r_I0 (s_name ?_))))))
            dsimp only
            rw [show (y : Int) - (x : Int) = ((y - x : Nat) : Int) by omega]
            refine s_seq (s_asg (s_tup (s_cons (s_op (s_op (s_op (s_op (s_var rfl (s_var rfl (r_ixL (hDA trivial) atm2 (s_c (r_ixT hm2 rfl (s_var rfl (r_I (c_mul_r (by omega) (by omega)) (s_op (s_var rfl (s_op (s_op (s_var rfl (s_var rfl (r_ixL (hDA trivial) atm2 (s_c (r_ixT hm2 rfl (r_I (c_mul_l (by omega) (by omega)) (r_I0 (s_cons (s_op (s_op (s_op (s_var rfl (s_var rfl (r_ixL (hDA trivial) atm2 (s_c (r_ixT hm2 rfl (s_var rfl (r_I (c_mul_r (by omega) (by omega)) (s_nil ⟨Nat.le_of_ble_eq_true rfl, fun q9 nq9 => ?_⟩)))))))))))))))))))))))))))))))))))))
            generalize hE : upd HA q9 _ = HB
            have sB := new_same nq9 hE
            have gB := new_at hE
            clear hE
            refine s_sub (s_var rfl (s_var rfl (r_setL (sB _ _ (hDA trivial)) (ix_in (by rw [List.length_map, MA.1]; exact lj)) fun HC kC hC => ?_)))
            have MC := (MA.same sB).put (x := b - f u) (u := U2 * y + (y - x) * W2) (v := W2 * y) kC (sB _ _ (hDA trivial)) lj (by rw [gB, Int.natCast_add, Int.natCast_mul, Int.natCast_mul, Int.natCast_mul]) (Nat.mul_pos w02 y0) (by
              rw [Nat.add_mul, Nat.add_mul]
              congr 1
              · calc U2 * y * b = U2 * b * y := by simp only [Nat.mul_assoc, Nat.mul_comm, Nat.mul_left_comm]
                  _ = _ := by rw [eW2, Nat.mul_assoc]
              · calc (y - x) * W2 * b = (y - x) * b * W2 := by simp only [Nat.mul_assoc, Nat.mul_comm, Nat.mul_left_comm]
                  _ = (b - f u) * (W2 * y) := by rw [hu2]; simp only [Nat.mul_assoc, Nat.mul_comm, Nat.mul_left_comm])
            rw [← List.map_set] at hC
            dsimp only
            walk_at "sx"
            exact ⟨same_new' (sA.trans sB) HD kC, kC _ _ paD (sB _ _ (kA _ _ paD (s9 _ _ hp3))), ⟨_, fun _ => hC, MC.eq fun r _ => acc_step iE jE r⟩, _, _, _, rfl⟩
        · rintro σ G3 ⟨s3, hp3, ⟨ms3, hD3, M3⟩, v9, v10, v11, rfl⟩
          rw [← rawL_succ] at M3
          exact ⟨s3, hp3, ⟨ms3, hD3, M3⟩, _, _, _, _, by rw [← rawL_succ]⟩
      · rintro σ G2 ⟨sG, hpG, ⟨ms, hDG0, MG⟩, v8, v9, v10, v11, rfl⟩
        rw [← eL] at MG ⊢
        have hDG := hDG0 trivial
        have hcG := sG _ _ (hcc trivial)
        walk_at "sx"
        refine ⟨_, _, rfl, .inr ⟨_, SqT.of (sG _ _ (hp trivial)), rfl⟩, ?_⟩
        rw [List.length_map, lc]
        walk_at "sx"
        refine i_n2 (fun z => absurd rfl z) (fun _ => ?_)
        walk_at "s1"
        dsimp only
        refine s_ret (s_op (s_cb (s_cons ?_)))
        dsimp only
        refine s_var rfl ⟨D, rfl, ⟨_, SqL.of hDG⟩, fun D2 hD2 => lc_list (K := K) (a := D) (xs := ms.map .ref) (fun v G3 => Same G2 G3 ∧ (True → G3 D2 = some (.lst []))) ⟨Same.new hD2, fun _ => upd_same⟩ (fun v G3 _ h => SqL.of (h.1 _ _ hDG)) ?_ ?_⟩
        · rintro v z G3 hz ⟨s2, h2⟩
          have vl : v < ns.length := by
            have z2 := (List.getElem?_eq_some_iff.mp hz).1
            rwa [List.length_map, MG.1] at z2
          obtain ⟨am, U, W, em, hm0, w0, eW⟩ := MG.2 v vl
          rw [List.getElem?_map, em] at hz
          obtain rfl : V.ref am = z := Option.some.inj hz
          have hm := s2 _ _ hm0
          have hc2 := s2 _ _ hcG
          have le := Nat.mul_le_mul_right W (G.le v vl)
          rw [← eW] at le
          have le' : ((U * b : Nat) : Int) ≤ ((a * W : Nat) : Int) := by omega
          rw [Int.natCast_mul, Int.natCast_mul] at le'
          have fin : (U : Int) * b1 ≤ b0 * W := by
            refine Int.le_of_mul_le_mul_right (a := (b : Int)) ?_ (by omega)
            calc (U : Int) * b1 * b = U * b * b1 := by rw [Int.mul_assoc, Int.mul_comm b1, ← Int.mul_assoc]
              _ ≤ a * W * b1 := Int.mul_le_mul_of_nonneg_right le' (Int.le_of_lt b1p)
              _ = a * b1 * W := by rw [Int.mul_assoc, Int.mul_comm (W : Int), ← Int.mul_assoc]
              _ = b0 * b * W := by rw [eqm]
              _ = b0 * W * b := by rw [Int.mul_assoc, Int.mul_comm (b : Int), ← Int.mul_assoc]
          refine s_name ⟨rfl, ?_⟩
          refine s_test (s_op (s_op (s_op (s_var rfl (s_c (r_ixT hm rfl (s_op (s_var rfl (s_c (r_ixL hc2 rfl (r_I (c_mul_r (by omega) (by omega)) (s_op (s_op (s_var rfl (s_c (r_ixL hc2 rfl (s_op (s_var rfl (s_c (r_ixT hm rfl (r_I (c_mul_l (by omega) (by omega)) (r_I0 ⟨_, rfl, i_F (by omega) ⟨s2, h2⟩⟩))))))))))))))))))))))
        · rintro G3 ⟨s2, h2⟩
          refine s_nil ⟨_, _, rfl, .inl ⟨_, SqL.of (h2 trivial), rfl⟩, s_c (r_eqI ?_)⟩
          exact k G3 (sG.trans s2)
end
end K37

set_option Elab.async false
set_option linter.all false
set_option maxRecDepth 100000
set_option maxHeartbeats 4000000
namespace K37
open PySem L2 Sx Fl
local macro_rules | `(tactic| walk_at "cond") => `(tactic| first
  | assumption
  | decide
  | exact c_mul_r (by first | decide | omega) (by first | decide | omega)
  | exact c_mul_l (by first | decide | omega) (by first | decide | omega)
  | exact c_div (by first | decide | omega) (by first | decide | omega)
  | exact c_pow (by first | decide | omega) (by first | decide | omega) (by first | decide | omega)
  | omega)
local macro_rules | `(tactic| walk_at "ne") => `(tactic| first
  | assumption
  | (refine Ne.symm ?_; assumption)
  | (refine' Flow.ne ?nh ?nn; (case nn => assumption); (case nh => walk_at "fl"))
  | (refine Ne.symm ?_; refine' Flow.ne ?nh ?nn; (case nn => assumption); (case nh => walk_at "fl"))
  | (refine' ne_of_none ?nh ?nn; (case nn => assumption); (case nh => walk_at "at"))
  | (refine Ne.symm ?_; refine' ne_of_none ?nh ?nn; (case nn => assumption); (case nh => walk_at "at")))
local macro_rules | `(tactic| walk_at "at") => `(tactic| first
  | assumption
  | (refine Same.up (by assumption) ?_; walk_at "at")
  | (refine Keep.up (by assumption) (by walk_at "ne") ?_; walk_at "at"))
local macro_rules | `(tactic| walk_at "fl") => `(tactic| first
  | assumption
  | (refine Flow.same (by assumption) ?_; walk_at "fl")
  | (refine Flow.keep (by assumption) (by walk_at "ne") ?_; walk_at "fl"))
local macro_rules | `(tactic| walk_at "fr") => `(tactic| first
  | assumption
  | (refine same_free (by assumption) ?_; walk_at "fr")
  | (refine Keep.free (by assumption) (by walk_at "ne") ?_; walk_at "fr"))
local macro_rules | `(tactic| walk_at "kp") => `(tactic| first
  | assumption
  | exact Keep.refl _ _
  | (refine Keep.trans ?_ (by assumption); walk_at "kp")
  | (refine Keep.trans ?_ (Keep.same (by assumption)); walk_at "kp"))
local macro_rules | `(tactic| walk_at "sm") => `(tactic| first
  | assumption
  | exact L2.Same.refl _
  | (refine L2.Same.trans ?_ (by assumption); walk_at "sm"))
local macro_rules | `(tactic| walk_at "sz") => `(tactic| first | exact Nat.le_of_ble_eq_true rfl | omega)
local macro_rules | `(tactic| walk_at "new") => `(tactic| (intro p np; generalize hE : upd _ p _ = H2; have s2 := new_same np hE; have h2 := new_at hE; clear hE))
local macro_rules | `(tactic| walk_at "newx") => `(tactic| (intro e d na nd hda; generalize hE : upd (upd _ d _) e _ = H2; have s2 := newx_same na nd hE; have h2 := newx_at hE; have h3 := newx_d hda hE; clear hE))
local macro_rules | `(tactic| walk_at "s1") => `(tactic| first
  | with_reducible refine s_seq ?_
  | with_reducible refine s_asg ?_
  | with_reducible refine s_name ?_
  | with_reducible refine s_ret ?_
  | with_reducible refine s_c ?_
  | ((with_reducible refine' s_var ?hv ?_); (case hv => rfl))
  | with_reducible refine s_op ?_
  | with_reducible refine s_un ?_
  | with_reducible refine s_ifS ?_
  | with_reducible refine s_cb ?_
  | with_reducible refine s_cons ?_
  | with_reducible refine s_nil ?_
  | with_reducible refine s_call ?_
  | with_reducible refine s_test ?_
  | with_reducible refine s_tB ?_
  | with_reducible refine s_bl ?_
  | with_reducible refine s_and ?_
  | with_reducible refine s_or ?_
  | with_reducible refine s_not ?_
  | with_reducible refine s_andV ?_
  | with_reducible refine s_orV ?_
  | with_reducible refine s_notV ?_
  | with_reducible refine s_blV ?_
  | with_reducible refine s_if ?_
  | with_reducible refine s_tup ?_
  | with_reducible refine s_lst ?_
  | with_reducible refine s_drop ?_
  | with_reducible refine s_next ?_
  | with_reducible refine s_sub ?_
  | with_reducible refine s_bm ?_
  | with_reducible refine s_callK ?_
  | with_reducible refine s_brk ?_
  | with_reducible refine s_cont ?_
  | with_reducible refine r_I0 ?_
  | with_reducible refine r_U ?_
  | with_reducible refine r_eqI ?_
  | with_reducible refine r_neI ?_
  | with_reducible refine r_isB ?_
  | with_reducible refine r_notB ?_
  | with_reducible refine i_t ?_
  | with_reducible refine i_f ?_
  | with_reducible refine i_nt ?_
  | with_reducible refine i_nf ?_
  | ((with_reducible refine' r_I ?hc ?_); (case hc => walk_at "cond"))
  | (with_reducible refine .inl ⟨_, rfl, ?_⟩)
  | (with_reducible refine ⟨_, rfl, ?_⟩)
  | ((with_reducible refine' r_ixL ?hx ?ha ?_); (case hx => walk_at "at"); (case ha => rfl))
  | ((with_reducible refine' r_ixT ?hx ?ha ?_); (case hx => walk_at "at"); (case ha => rfl))
  | ((with_reducible refine' r_setL ?hx ?ha ?_); (case hx => walk_at "at"); (case ha => rfl); intro H2 k2 h2; (try dsimp only [List.set, Int.toNat] at h2))
  | ((with_reducible refine' r_app ?hx ?hl ?_); (case hx => walk_at "at"); (case hl => first | exact Nat.lt_of_ble_eq_true rfl | omega); intro H2 k2 h2)
  | ((with_reducible refine' ty_list ?hx ?_); (case hx => walk_at "at"))
  | (refine And.intro (by (with_reducible show _ ≤ sizeLine); walk_at "sz") ?_; walk_at "new")
  | with_reducible refine s_exv ?_
  | walk_at "newx")
local macro_rules | `(tactic| walk_at "sx") => `(tactic| repeat (walk_at "s1"))
local macro_rules | `(tactic| walk_at "s2") => `(tactic| first
  | ((with_reducible refine' r_ixG ?hx ?hn ?_); (case hx => walk_at "at"); (case hn => omega))
  | ((with_reducible refine' r_ixGT ?hx ?hn ?_); (case hx => walk_at "at"); (case hn => omega))
  | (with_reducible refine ig_cons (fun hix => ?_) (fun hix => ?_))
  | ((with_reducible refine ig_nil ?_); omega)
  | ((with_reducible refine' i_T ?hc ?_); (case hc => omega))
  | ((with_reducible refine' i_F ?hc ?_); (case hc => omega))
  | (with_reducible refine i_2 (fun hc => ?_) (fun hc => ?_))
  | (with_reducible refine i_n2 (fun hc => ?_) (fun hc => ?_)))
local macro_rules | `(tactic| walk_at "go") => `(tactic| repeat' (first | walk_at "s1" | walk_at "s2"))

local macro_rules | `(tactic| walk_at "s1") => `(tactic| first
  | with_reducible refine s_chain ?_
  | with_reducible refine s_fldS ?_
  | with_reducible refine s_fld ?_
  | with_reducible refine s_dIn ?_
  | with_reducible refine s_dNotIn ?_
  | with_reducible refine s_sl ?_
  | with_reducible refine s_noPart ?_
  | with_reducible refine s_part ?_
  | with_reducible refine s_meth ?_
  | with_reducible refine s_make ?_)

section
variable {P : Program} {w : World} {K : PySem.W.Frag} {mg : Str → Option Value} {base : Heap} {A : Ad}
theorem kit_any_t : PySem.W.kitAny K (.type "tuple") [.type "list", .type "tuple"] = some true := kitAny_cons (b := false) (kit_ty (by decide +kernel)) (fun _ => kitAny_cons (b := true) (kit_ty (by decide +kernel)) (fun z => nomatch z) (fun _ => rfl)) (fun z => nomatch z)
/-- are_rows of what are rows -/
def spAreT : Sp := fun vs H Q _ => ∃ (l : Addr) (n : Nat) (ks : List (Addr × List Int)), vs = [.ref l, .int n] ∧ H l = some (.tup (ks.map rf)) ∧ ks ≠ [] ∧ ks.length < 1000 ∧ n < 1000 ∧ RowsAt H n ks ∧ ∀ H', Same H H' → Q (.bl true) H'
theorem ok_areT (T : Txt P K mg A) : FnOk P w K mg base CX0 4 A.a_are_rows A.d_are_rows ["rows", "size"] spAreT := by
  refine T.F_are_rows.ok sc_are_rows (fun vs H Q E h => ?_) (fun cdv A' outer s H vs Q E hr h => ?_)
  · obtain ⟨l, n, ks, rfl, _⟩ := h
    rfl
  · obtain ⟨l, n, ks, rfl, hl, ne, sz, sn, rows, k⟩ := h
    have G_is_row := ok_row (w := w) (base := base) T
    refine ⟨_, (pss_cons (ps_if (PW.pt (pw_or (pt_not (pt_val (pe_callB (id := "isinstance") (r := rIsiT K) call_isiT (by rfl) T.n_isinstance (by decide +kernel) (pa_cons (pv 0) (pa_cons (pe_tup (pa_cons (pe_bltn (v := .ty "list") (u := .type "list") (by rfl) T.n_list (by decide +kernel) rfl) (pa_cons (pe_bltn (v := .ty "tuple") (u := .type "tuple") (by rfl) T.n_tuple (by decide +kernel) rfl) pa_nil))) pa_nil))))) (pw_or1 (pt_cmpR op_eq (pe_callB call_len (by rfl) T.n_len (by decide +kernel) (pa_cons (pv 0) pa_nil)) pe_int (nomark _))))) (pss_one (ps_ret pe_bl)) pss_nil)
  (pss_one (ps_ret (pe_callB (cr_all rfl) (by rfl) T.n_all (by decide +kernel) (pa_cons (pe_lc (own := [("row", 2)]) (g := (gName 2)) (by rfl) sc_are_rows.nd (pi_tup (pv 0)) (blkOk_by (own := [("row", 2)]) (N := ["rows", "size", "row"]) (sc := defScope s_are_rows) (by decide +kernel)) (fun _ _ _ _ _ => (pg_name (i := 2) sc_are_rows.nd rfl (Or.inl rfl))) (fun _ _ _ _ _ => pts_nil) (fun _ _ _ _ _ => (pe_call G_is_row (hr.mono (by decide)) rfl T.g_is_row T.F_is_row.kp (B_is_row T) .nil pass0 (pa_cons (pv 2) (pa_cons (pv 1) pa_nil))))) pa_nil))))), ?_⟩
    walk_at "sx"
    rename_i pt nt H1 s1 ht
    refine ⟨.ref l, pt, _, _, [.type "list", .type "tuple"], true, rfl, ht, .cons (.ty _) (.cons (.ty _) .nil), .base (.tup (s1 _ _ hl)), kit_any_t, ?_⟩
    walk_at "sx"
    refine ⟨_, _, rfl, .inr ⟨_, SqT.of (s1 _ _ hl), rfl⟩, ?_⟩
    walk_at "sx"
    have hn : ¬ (((ks.map rf).length : Int) = 0) := by
      rw [List.length_map]
      cases ks with
      | nil => exact absurd rfl ne
      | cons a b => simp; omega
    refine i_F hn ?_
    walk_at "sx"
    refine ⟨_, rfl, l, rfl, ⟨_, SqT.of (s1 _ _ hl)⟩, fun D hD => lc_tup (K := K) (a := l) (xs := ks.map rf) (fun i H' => Same H1 H' ∧ H' D = some (.lst ((ks.take i).map fun _ => V.bl true))) ⟨Same.new hD, upd_same⟩ (fun i H' _ ⟨s, _⟩ => SqT.of (s _ _ (s1 _ _ hl))) ?_ ?_⟩
    · rintro i x H' hx ⟨s', hD'⟩
      obtain ⟨p, hp, rfl⟩ : ∃ p, ks[i]? = some p ∧ rf p = x := by
        rw [List.getElem?_map] at hx
        exact Option.map_eq_some_iff.mp hx
      obtain ⟨at', b⟩ := rows.same s1 p (List.mem_of_getElem? hp)
      refine s_name ⟨rfl, ?_⟩
      refine s_yes (i_t ?_)
      walk_at "sx"
      refine c_row (s' _ _ at') b sn fun H3 s3 => ?_
      rw [decide_eq_true rfl]
      refine ⟨_, s3 _ _ hD', ?_, Sx.Same.put (s'.trans s3) hD, ?_⟩
      · rw [List.length_map, List.length_take]
        exact Nat.lt_of_le_of_lt (Nat.min_le_right _ _) (by show ks.length < 16777216; omega)
      · rw [upd_same, List.take_succ, hp]
        simp
    · rintro H' ⟨s', hD'⟩
      rw [List.length_map, List.take_length] at hD'
      have e : (ks.map fun _ => V.bl true) = (ks.map fun _ => true).map V.bl := by
        rw [List.map_map]
        rfl
      rw [e] at hD'
      walk_at "sx"
      refine r_all hD' ?_
      have z : ((ks.map fun _ => true).all id) = true := by
        rw [List.all_eq_true]
        intro x hx
        obtain ⟨_, _, rfl⟩ := List.mem_map.mp hx
        rfl
      rw [z]
      exact k _ (s1.trans s')
def spMakeT (C : Addr) : Sp := fun vs H Q _ => ∃ (x dx l : Addr) (n : Nat) (ks : List (Addr × List Int)), vs = [.ref x, .int n, .ref l] ∧ H x = some (.ins C dx []) ∧ H l = some (.tup (ks.map rf)) ∧ ks ≠ [] ∧ ks.length < 64 ∧ n < 1000 ∧ RowsAt H n ks ∧
  (∀ p ∈ ks, p.1 ≠ x) ∧ ∀ H' ks', Keep x H H' → Of ks ks' → RuAt C H' x n ks' → Q .non H'
theorem ok_makeT (T : Txt P K mg A) : FnOk P w K mg base CX0 5 A.a_Rules____init__ A.d_Rules____init__ ["self", "size", "rows"] (spMakeT A.c_Rules) := by
  refine T.F_Rules____init__.ok sc_Rules____init__ (fun vs H Q E h => ?_) (fun cdv A' outer s H vs Q E hr h => ?_)
  · obtain ⟨x, dx, l, n, ks, rfl, _⟩ := h
    rfl
  · obtain ⟨x, dx, l, n, ks, rfl, hx, hl, ne, sz, sn, rows, nx, k⟩ := h
    have G_is_number := ok_isn (w := w) (base := base) T
    have G_are_rows := ok_areT (w := w) (base := base) T
    have en : isN (.int (n : Int)) = true := decide_eq_true (Int.natCast_nonneg n)
    have lx : l ≠ x := ne_of hl hx fun z => nomatch z
    rcases Nat.eq_zero_or_pos n with n0 | n0
    · refine ⟨_, (pss_cons (ps_if (PW.pt (pw_or (pt_not (pt_val (pe_call G_is_number (hr.mono (by decide)) rfl T.g_is_number T.F_is_number.kp (B_is_number T) .nil pass0 (pa_cons (pv 1) pa_nil)))) (pw_or1 (pt_not (pt_val (pe_call G_are_rows (hr.mono (by decide)) rfl T.g_are_rows T.F_are_rows.kp (B_are_rows T) .nil pass0 (pa_cons (pv 2) (pa_cons (pv 1) pa_nil)))))))) (pss_one ps_never) pss_nil)
  (pss_cons (ps_fld (pv 0) (pv 1) (by rfl))
  (pss_cons (ps_fld (pv 0) (pe_callTy call_tuple_of (by rfl) T.n_tuple (by decide +kernel) (pa_cons (pe_callB (cr_sortedOne rfl) (by rfl) T.n_sorted (by decide +kernel) (pa_cons (pe_callTy (cr_setOfTT rfl hr.units) (by rfl) T.n_set (by decide +kernel) (pa_cons (pv 2) pa_nil)) pa_nil)) pa_nil)) (by rfl))
  (pss_one (ps_fld (pv 0) (pe_dcP (u0 := .dT []) (own := [("row", 3)]) (g := (gName 3)) (.inr rfl) hr.units0 rfl sc_Rules____init__.nd (pi_tup (pe_fld (pv 0) rfl)) (blkOk_by (own := [("row", 3)]) (N := ["self", "size", "rows", "row"]) (sc := defScope s_Rules____init__) (by decide +kernel)) ⟨fun _ _ _ _ _ => (pg_name (i := 3) sc_Rules____init__.nd rfl (Or.inl rfl)), fun _ _ _ _ _ => pts_nil, fun _ _ _ _ _ => (pv 3), fun _ _ _ _ _ => pe_bl⟩) (by rfl)))))), ?_⟩
      walk_at "sx"
      refine c_t1 (ni_int _) ?_
      rw [en]
      walk_at "sx"
      refine ⟨l, n, ks, rfl, hl, ne, by omega, sn, rows, fun H1 s1 => ?_⟩
      walk_at "sx"
      refine r_put rfl (s1 _ _ hx) T.cl_Rules T.no_Rules_size (by decide) (fun H2 k2 h2 => ?_)
      walk_at "sx"
      refine ⟨l, ks, rfl, SqT.of (k2 _ _ lx (s1 _ _ hl)), fun p hp => SqT.of (k2 _ _ (nx p hp) (s1 _ _ (rows p hp).1)), sz, fun a L na sub all => ?_⟩
      generalize hE3 : upd H2 a _ = H3
      have s3 := new_same na hE3
      have h3 := new_at hE3
      walk_at "sx"
      refine ⟨a, L, rfl, h3, fun p hp => SqT.of (s3 _ _ (k2 _ _ (nx p (sub p hp)) (s1 _ _ (rows p (sub p hp)).1))), fun p hp => ?_, fun nd one p np => ?_⟩
      · have := (rows p (sub p hp)).2.1
        exact List.eq_nil_of_length_eq_zero (by omega)
      have of' : Of ks L := ⟨sub, all, ⟨nd, one_pw one⟩, of_ne ne all, by omega⟩
      generalize hE4 : upd H3 p _ = H4
      have s4 := new_same np hE4
      have h4 := new_at hE4
      walk_at "sx"
      refine ⟨p, _, rfl, .inl ⟨SqL.of h4, fun t nt => ?_⟩⟩
      generalize hE5 : upd H4 t _ = H5
      have s5 := new_same nt hE5
      have h5 := new_at hE5
      have hx4 := s4 _ _ (s3 _ _ h2)
      have tx : t ≠ x := fun e => by rw [e, hx4] at nt; cases nt
      walk_at "sx"
      refine r_put rfl (s5 _ _ hx4) T.cl_Rules T.no_Rules_rows (Nat.le_of_ble_eq_true rfl) (fun H6 k6 h6 => ?_)
      have rows6 : RowsAt H6 n L := fun q hq => ⟨k6 _ _ (nx q (of'.1 q hq)) (s5 _ _ (s4 _ _ (s3 _ _ (k2 _ _ (nx q (of'.1 q hq)) (s1 _ _ (rows q (of'.1 q hq)).1))))), (rows q (of'.1 q hq)).2⟩
      walk_at "sx"
      refine ⟨_, rfl, _, _, _, _, _, rfl, h6, T.cl_Rules, T.no_Rules_rows, rfl, t, rfl, ⟨_, SqT.of (k6 _ _ tx h5)⟩, fun D hD => dcp_tup (K := K) (a := t) (xs := L.map rf) (fun i H' => Same H6 H' ∧ H' D = some (.dT ((L.take i).map rkey))) ⟨Same.new hD, upd_same⟩ (fun i H' _ ⟨s, _⟩ => SqT.of (s _ _ (k6 _ _ tx h5))) ?_ ?_⟩
      · rintro i y H' hy ⟨s', hD'⟩
        obtain ⟨q, hq, rfl⟩ : ∃ q, L[i]? = some q ∧ rf q = y := by
          rw [List.getElem?_map] at hy
          exact Option.map_eq_some_iff.mp hy
        have hm := List.mem_of_getElem? hq
        refine s_name ⟨rfl, ?_⟩
        refine s_yes (i_t ?_)
        walk_at "sx"
        refine ⟨_, DPut.t (k := q.2.map Sum.inl) hD' ?_ ?_, Sx.Same.put s' hD, ?_⟩
        · rw [List.map_map]
          exact s' _ _ (rows6 q hm).1
        · rw [List.length_map, List.length_take]
          exact Nat.lt_of_le_of_lt (Nat.min_le_right _ _) (by show L.length < 16777216; have := of'.2.2.2.2; omega)
        · rw [upd_same, rkeys_next of'.2.2.1.1 hq]
      · rintro H' ⟨s', hD'⟩
        rw [List.length_map, List.take_length] at hD'
        have dx' : D ≠ x := fun e => by rw [e, h6] at hD; cases hD
        walk_at "sx"
        refine r_put rfl (s' _ _ h6) T.cl_Rules T.no_Rules__known (Nat.le_of_ble_eq_true rfl) (fun H7 k7 h7 => ?_)
        walk_at "sx"
        refine k H7 L ?_ of' ⟨dx, t, D, h7, k7 _ _ tx (s' _ _ (k6 _ _ tx h5)), k7 _ _ dx' hD', fun q hq => ⟨k7 _ _ (nx q (of'.1 q hq)) (s' _ _ (rows6 q hq).1), (rows6 q hq).2⟩, of'.2.2.1, of'.2.2.2.1, of'.2.2.2.2⟩
        exact (Keep.same s1).trans (k2.trans ((Keep.same s3).trans ((Keep.same s4).trans ((Keep.same s5).trans (k6.trans ((Keep.same s').trans k7))))))
    · refine ⟨_, (pss_cons (ps_if (PW.pt (pw_or (pt_not (pt_val (pe_call G_is_number (hr.mono (by decide)) rfl T.g_is_number T.F_is_number.kp (B_is_number T) .nil pass0 (pa_cons (pv 1) pa_nil)))) (pw_or1 (pt_not (pt_val (pe_call G_are_rows (hr.mono (by decide)) rfl T.g_are_rows T.F_are_rows.kp (B_are_rows T) .nil pass0 (pa_cons (pv 2) (pa_cons (pv 1) pa_nil)))))))) (pss_one ps_never) pss_nil)
  (pss_cons (ps_fld (pv 0) (pv 1) (by rfl))
  (pss_cons (ps_fld (pv 0) (pe_callTy call_tuple_of (by rfl) T.n_tuple (by decide +kernel) (pa_cons (pe_callB (cr_sortedT rfl) (by rfl) T.n_sorted (by decide +kernel) (pa_cons (pe_callTy (cr_setOfTT rfl hr.units) (by rfl) T.n_set (by decide +kernel) (pa_cons (pv 2) pa_nil)) pa_nil)) pa_nil)) (by rfl))
  (pss_one (ps_fld (pv 0) (pe_dcP (u0 := .dT []) (own := [("row", 3)]) (g := (gName 3)) (.inr rfl) hr.units0 rfl sc_Rules____init__.nd (pi_tup (pe_fld (pv 0) rfl)) (blkOk_by (own := [("row", 3)]) (N := ["self", "size", "rows", "row"]) (sc := defScope s_Rules____init__) (by decide +kernel)) ⟨fun _ _ _ _ _ => (pg_name (i := 3) sc_Rules____init__.nd rfl (Or.inl rfl)), fun _ _ _ _ _ => pts_nil, fun _ _ _ _ _ => (pv 3), fun _ _ _ _ _ => pe_bl⟩) (by rfl)))))), ?_⟩
      walk_at "sx"
      refine c_t1 (ni_int _) ?_
      rw [en]
      walk_at "sx"
      refine ⟨l, n, ks, rfl, hl, ne, by omega, sn, rows, fun H1 s1 => ?_⟩
      walk_at "sx"
      refine r_put rfl (s1 _ _ hx) T.cl_Rules T.no_Rules_size (by decide) (fun H2 k2 h2 => ?_)
      walk_at "sx"
      refine ⟨l, ks, rfl, SqT.of (k2 _ _ lx (s1 _ _ hl)), fun p hp => SqT.of (k2 _ _ (nx p hp) (s1 _ _ (rows p hp).1)), sz, fun a L na sub all => ?_⟩
      generalize hE3 : upd H2 a _ = H3
      have s3 := new_same na hE3
      have h3 := new_at hE3
      walk_at "sx"
      refine ⟨a, L, n, 2, rfl, h3, fun p hp => SqT.of (s3 _ _ (k2 _ _ (nx p (sub p hp)) (s1 _ _ (rows p (sub p hp)).1))), n0, fun p hp => ⟨(rows p (sub p hp)).2.1, bits_bd (rows p (sub p hp)).2⟩, fun L' p pm nd len pw np => ?_⟩
      have of' : Of ks L' := ⟨fun q hq => sub q (pm.mem_iff.mp hq), fun q hq => (pm.map (·.2)).mem_iff.mpr (all q hq), ⟨nd, pw⟩, fun e => of_ne ne all (by rw [e] at pm; exact pm.symm.eq_nil), by omega⟩
      generalize hE4 : upd H3 p _ = H4
      have s4 := new_same np hE4
      have h4 := new_at hE4
      walk_at "sx"
      refine ⟨p, _, rfl, .inl ⟨SqL.of h4, fun t nt => ?_⟩⟩
      generalize hE5 : upd H4 t _ = H5
      have s5 := new_same nt hE5
      have h5 := new_at hE5
      have hx4 := s4 _ _ (s3 _ _ h2)
      have tx : t ≠ x := fun e => by rw [e, hx4] at nt; cases nt
      walk_at "sx"
      refine r_put rfl (s5 _ _ hx4) T.cl_Rules T.no_Rules_rows (Nat.le_of_ble_eq_true rfl) (fun H6 k6 h6 => ?_)
      have rows6 : RowsAt H6 n L' := fun q hq => ⟨k6 _ _ (nx q (of'.1 q hq)) (s5 _ _ (s4 _ _ (s3 _ _ (k2 _ _ (nx q (of'.1 q hq)) (s1 _ _ (rows q (of'.1 q hq)).1))))), (rows q (of'.1 q hq)).2⟩
      walk_at "sx"
      refine ⟨_, rfl, _, _, _, _, _, rfl, h6, T.cl_Rules, T.no_Rules_rows, rfl, t, rfl, ⟨_, SqT.of (k6 _ _ tx h5)⟩, fun D hD => dcp_tup (K := K) (a := t) (xs := L'.map rf) (fun i H' => Same H6 H' ∧ H' D = some (.dT ((L'.take i).map rkey))) ⟨Same.new hD, upd_same⟩ (fun i H' _ ⟨s, _⟩ => SqT.of (s _ _ (k6 _ _ tx h5))) ?_ ?_⟩
      · rintro i y H' hy ⟨s', hD'⟩
        obtain ⟨q, hq, rfl⟩ : ∃ q, L'[i]? = some q ∧ rf q = y := by
          rw [List.getElem?_map] at hy
          exact Option.map_eq_some_iff.mp hy
        have hm := List.mem_of_getElem? hq
        refine s_name ⟨rfl, ?_⟩
        refine s_yes (i_t ?_)
        walk_at "sx"
        refine ⟨_, DPut.t (k := q.2.map Sum.inl) hD' ?_ ?_, Sx.Same.put s' hD, ?_⟩
        · rw [List.map_map]
          exact s' _ _ (rows6 q hm).1
        · rw [List.length_map, List.length_take]
          exact Nat.lt_of_le_of_lt (Nat.min_le_right _ _) (by show L'.length < 16777216; have := of'.2.2.2.2; omega)
        · rw [upd_same, rkeys_next of'.2.2.1.1 hq]
      · rintro H' ⟨s', hD'⟩
        rw [List.length_map, List.take_length] at hD'
        have dx' : D ≠ x := fun e => by rw [e, h6] at hD; cases hD
        walk_at "sx"
        refine r_put rfl (s' _ _ h6) T.cl_Rules T.no_Rules__known (Nat.le_of_ble_eq_true rfl) (fun H7 k7 h7 => ?_)
        walk_at "sx"
        refine k H7 L' ?_ of' ⟨dx, t, D, h7, k7 _ _ tx (s' _ _ (k6 _ _ tx h5)), k7 _ _ dx' hD', fun q hq => ⟨k7 _ _ (nx q (of'.1 q hq)) (s' _ _ (rows6 q hq).1), (rows6 q hq).2⟩, of'.2.2.1, of'.2.2.2.1, of'.2.2.2.2⟩
        exact (Keep.same s1).trans (k2.trans ((Keep.same s3).trans ((Keep.same s4).trans ((Keep.same s5).trans (k6.trans ((Keep.same s').trans k7))))))
end
end K37

set_option Elab.async false
set_option linter.all false
set_option maxRecDepth 100000
set_option maxHeartbeats 4000000
namespace K37
open PySem L2 Sx Fl
local macro_rules | `(tactic| walk_at "cond") => `(tactic| first
  | assumption
  | decide
  | exact c_mul_r (by first | decide | omega) (by first | decide | omega)
  | exact c_mul_l (by first | decide | omega) (by first | decide | omega)
  | exact c_div (by first | decide | omega) (by first | decide | omega)
  | exact c_pow (by first | decide | omega) (by first | decide | omega) (by first | decide | omega)
  | omega)
local macro_rules | `(tactic| walk_at "ne") => `(tactic| first
  | assumption
  | (refine Ne.symm ?_; assumption)
  | (refine' Flow.ne ?nh ?nn; (case nn => assumption); (case nh => walk_at "fl"))
  | (refine Ne.symm ?_; refine' Flow.ne ?nh ?nn; (case nn => assumption); (case nh => walk_at "fl"))
  | (refine' ne_of_none ?nh ?nn; (case nn => assumption); (case nh => walk_at "at"))
  | (refine Ne.symm ?_; refine' ne_of_none ?nh ?nn; (case nn => assumption); (case nh => walk_at "at")))
local macro_rules | `(tactic| walk_at "at") => `(tactic| first
  | assumption
  | (refine Same.up (by assumption) ?_; walk_at "at")
  | (refine Keep.up (by assumption) (by walk_at "ne") ?_; walk_at "at"))
local macro_rules | `(tactic| walk_at "fl") => `(tactic| first
  | assumption
  | (refine Flow.same (by assumption) ?_; walk_at "fl")
  | (refine Flow.keep (by assumption) (by walk_at "ne") ?_; walk_at "fl"))
local macro_rules | `(tactic| walk_at "fr") => `(tactic| first
  | assumption
  | (refine same_free (by assumption) ?_; walk_at "fr")
  | (refine Keep.free (by assumption) (by walk_at "ne") ?_; walk_at "fr"))
local macro_rules | `(tactic| walk_at "kp") => `(tactic| first
  | assumption
  | exact Keep.refl _ _
  | (refine Keep.trans ?_ (by assumption); walk_at "kp")
  | (refine Keep.trans ?_ (Keep.same (by assumption)); walk_at "kp"))
local macro_rules | `(tactic| walk_at "sm") => `(tactic| first
  | assumption
  | exact L2.Same.refl _
  | (refine L2.Same.trans ?_ (by assumption); walk_at "sm"))
local macro_rules | `(tactic| walk_at "sz") => `(tactic| first | exact Nat.le_of_ble_eq_true rfl | omega)
local macro_rules | `(tactic| walk_at "new") => `(tactic| (intro p np; generalize hE : upd _ p _ = H2; have s2 := new_same np hE; have h2 := new_at hE; clear hE))
local macro_rules | `(tactic| walk_at "newx") => `(tactic| (intro e d na nd hda; generalize hE : upd (upd _ d _) e _ = H2; have s2 := newx_same na nd hE; have h2 := newx_at hE; have h3 := newx_d hda hE; clear hE))
local macro_rules | `(tactic| walk_at "s1") => `(tactic| first
  | with_reducible refine s_seq ?_
  | with_reducible refine s_asg ?_
  | with_reducible refine s_name ?_
  | with_reducible refine s_ret ?_
  | with_reducible refine s_c ?_
  | ((with_reducible refine' s_var ?hv ?_); (case hv => rfl))
  | with_reducible refine s_op ?_
  | with_reducible refine s_un ?_
  | with_reducible refine s_ifS ?_
  | with_reducible refine s_cb ?_
  | with_reducible refine s_cons ?_
  | with_reducible refine s_nil ?_
  | with_reducible refine s_call ?_
  | with_reducible refine s_test ?_
  | with_reducible refine s_tB ?_
  | with_reducible refine s_bl ?_
  | with_reducible refine s_and ?_
  | with_reducible refine s_or ?_
  | with_reducible refine s_not ?_
  | with_reducible refine s_andV ?_
  | with_reducible refine s_orV ?_
  | with_reducible refine s_notV ?_
  | with_reducible refine s_blV ?_
  | with_reducible refine s_if ?_
  | with_reducible refine s_tup ?_
  | with_reducible refine s_lst ?_
  | with_reducible refine s_drop ?_
  | with_reducible refine s_next ?_
  | with_reducible refine s_sub ?_
  | with_reducible refine s_bm ?_
  | with_reducible refine s_callK ?_
  | with_reducible refine s_brk ?_
  | with_reducible refine s_cont ?_
  | with_reducible refine r_I0 ?_
  | with_reducible refine r_U ?_
  | with_reducible refine r_eqI ?_
  | with_reducible refine r_neI ?_
  | with_reducible refine r_isB ?_
  | with_reducible refine r_notB ?_
  | with_reducible refine i_t ?_
  | with_reducible refine i_f ?_
  | with_reducible refine i_nt ?_
  | with_reducible refine i_nf ?_
  | ((with_reducible refine' r_I ?hc ?_); (case hc => walk_at "cond"))
  | (with_reducible refine .inl ⟨_, rfl, ?_⟩)
  | (with_reducible refine ⟨_, rfl, ?_⟩)
  | ((with_reducible refine' r_ixL ?hx ?ha ?_); (case hx => walk_at "at"); (case ha => rfl))
  | ((with_reducible refine' r_ixT ?hx ?ha ?_); (case hx => walk_at "at"); (case ha => rfl))
  | ((with_reducible refine' r_setL ?hx ?ha ?_); (case hx => walk_at "at"); (case ha => rfl); intro H2 k2 h2; (try dsimp only [List.set, Int.toNat] at h2))
  | ((with_reducible refine' r_app ?hx ?hl ?_); (case hx => walk_at "at"); (case hl => first | exact Nat.lt_of_ble_eq_true rfl | omega); intro H2 k2 h2)
  | ((with_reducible refine' ty_list ?hx ?_); (case hx => walk_at "at"))
  | (refine And.intro (by (with_reducible show _ ≤ sizeLine); walk_at "sz") ?_; walk_at "new")
  | with_reducible refine s_exv ?_
  | walk_at "newx")
local macro_rules | `(tactic| walk_at "sx") => `(tactic| repeat (walk_at "s1"))
local macro_rules | `(tactic| walk_at "s2") => `(tactic| first
  | ((with_reducible refine' r_ixG ?hx ?hn ?_); (case hx => walk_at "at"); (case hn => omega))
  | ((with_reducible refine' r_ixGT ?hx ?hn ?_); (case hx => walk_at "at"); (case hn => omega))
  | (with_reducible refine ig_cons (fun hix => ?_) (fun hix => ?_))
  | ((with_reducible refine ig_nil ?_); omega)
  | ((with_reducible refine' i_T ?hc ?_); (case hc => omega))
  | ((with_reducible refine' i_F ?hc ?_); (case hc => omega))
  | (with_reducible refine i_2 (fun hc => ?_) (fun hc => ?_))
  | (with_reducible refine i_n2 (fun hc => ?_) (fun hc => ?_)))
local macro_rules | `(tactic| walk_at "go") => `(tactic| repeat' (first | walk_at "s1" | walk_at "s2"))

local macro_rules | `(tactic| walk_at "s1") => `(tactic| first
  | with_reducible refine s_chain ?_
  | with_reducible refine s_fldS ?_
  | with_reducible refine s_fld ?_
  | with_reducible refine s_dIn ?_
  | with_reducible refine s_dNotIn ?_
  | with_reducible refine s_sl ?_
  | with_reducible refine s_noPart ?_
  | with_reducible refine s_part ?_
  | with_reducible refine s_meth ?_
  | with_reducible refine s_make ?_)

theorem uE {k : Nat} {A : Around} (r : Room k A) : A.units + 64 < cLine := by
  have := r.un
  omega
/-! all rows -/
def adj (n x y : Nat) : Bool := decide ((x ^^^ y) ∈ (List.range n).map fun k => 2 ^ k)
theorem adj_self (n x : Nat) : adj n x x = false := by
  refine decide_eq_false fun h => ?_
  rw [Nat.xor_self] at h
  obtain ⟨k, _, e⟩ := List.mem_map.mp h
  have := Nat.pow_pos (n := k) (show 0 < 2 by decide)
  omega
theorem adj_comm (n x y : Nat) : adj n x y = adj n y x := by
  unfold adj
  rw [Nat.xor_comm]
theorem sum_twice {g : Nat → Nat → Int} (z : ∀ x, g x x = 0) (s : ∀ x y, g x y = g y x) : ∀ N : Nat, sumN N (fun x => sumN N (g x)) = 2 * sumN N (fun x => sumN x (g x))
  | 0 => rfl
  | N + 1 => by
    rw [sumN_succ, sumN_congr (g := fun x => sumN N (g x) + g x N) fun x _ => sumN_succ N (g x), sumN_add, sum_twice z s N, sumN_succ N (fun x => sumN x (g x)), sumN_succ N (g N), z N, sumN_congr (g := g N) fun x _ => s x N]
    omega
theorem degs : ((List.range 7).all fun n => (List.range (2 ^ n)).all fun x => ((List.range (2 ^ n)).filter fun y => adj n x y).length == n) = true := by decide +kernel
theorem deg_is {n x : Nat} (hn : n ≤ 6) (hx : x < 2 ^ n) : (sumN (2 ^ n) fun y => if adj n x y = true then 1 else 0) = (n : Int) := by
  rw [sumN_count]
  have z := List.all_eq_true.mp (List.all_eq_true.mp degs n (List.mem_range.mpr (by omega))) x (List.mem_range.mpr hx)
  rw [beq_iff_eq] at z
  have e : ((List.range (2 ^ n)).filter fun k => decide (adj n x k = true)) = (List.range (2 ^ n)).filter fun y => adj n x y := List.filter_congr fun y _ => by simp
  rw [e, z]
theorem cube_dens {n : Nat} (hn : n ≤ 6) (msk : Nat) : 2 * dens (eT n (List.range (2 ^ n))) (2 ^ n) msk = sumN (2 ^ n) fun x => sumN (2 ^ n) fun y => if msk.testBit x = true ∧ msk.testBit y = true ∧ adj n x y = true then 1 else 0 := by
  have gd : ∀ k, k < 2 ^ n → (List.range (2 ^ n)).getD k 0 = k := fun k hk => by simp [hk]
  rw [sum_twice (g := fun x y => if msk.testBit x = true ∧ msk.testBit y = true ∧ adj n x y = true then 1 else 0) (fun x => by simp [adj_self]) (fun x y => by
    by_cases a : msk.testBit x = true <;> by_cases b : msk.testBit y = true <;> simp [a, b, adj_comm n x y])]
  congr 1
  unfold dens
  refine sumN_congr fun x hx => ?_
  by_cases a : msk.testBit x = true
  · rw [if_pos a]
    refine sumN_congr fun y hy => ?_
    have e : eT n (List.range (2 ^ n)) y x = adj n x y := by
      unfold eT adj
      rw [gd x hx, gd y (by omega)]
    rw [e]
    simp [a]
  · rw [if_neg a, sumN_congr (g := fun _ => 0) fun y _ => by simp [a], sumN_zero]
theorem cube_le {n : Nat} (hn : n ≤ 6) (msk : Nat) : 2 * dens (eT n (List.range (2 ^ n))) (2 ^ n) msk ≤ n * pop (2 ^ n) msk := by
  rw [cube_dens hn]
  have e : (n : Int) * pop (2 ^ n) msk = sumN (2 ^ n) fun x => if msk.testBit x = true then (n : Int) else 0 := by
    unfold pop
    have key : ∀ N : Nat, (n : Int) * sumN N (fun k => if msk.testBit k = true then 1 else 0) = sumN N fun x => if msk.testBit x = true then (n : Int) else 0 := fun N => by
      induction N with
      | zero => exact Int.mul_zero _
      | succ N ih =>
        rw [sumN_succ, sumN_succ, Int.mul_add, ih]
        congr 1
        split <;> simp
    exact key _
  rw [e]
  refine sumN_le fun x hx => ?_
  by_cases a : msk.testBit x = true
  · rw [if_pos a, ← deg_is hn hx]
    refine sumN_le fun y _ => ?_
    by_cases b : adj n x y = true
    · rw [if_pos b]
      split <;> omega
    · rw [if_neg b, if_neg (fun h => b h.2.2)]
      exact Int.le_refl _
  · rw [if_neg a, sumN_congr (g := fun _ => 0) fun y _ => by simp [a], sumN_zero]
    exact Int.le_refl _
theorem cube_full {n : Nat} (hn : n ≤ 6) : 2 * dens (eT n (List.range (2 ^ n))) (2 ^ n) (2 ^ 2 ^ n - 1) = n * pop (2 ^ n) (2 ^ 2 ^ n - 1) := by
  have b : ∀ k, k < 2 ^ n → (2 ^ 2 ^ n - 1).testBit k = true := fun k hk => by
    rw [Nat.testBit_two_pow_sub_one]
    exact decide_eq_true hk
  have p : pop (2 ^ n) (2 ^ 2 ^ n - 1) = ((2 ^ n : Nat) : Int) := by
    unfold pop
    rw [sumN_congr (g := fun _ => 1) fun k hk => if_pos (b k hk)]
    have key : ∀ N : Nat, sumN N (fun _ => 1) = (N : Int) := fun N => by
      induction N with
      | zero => rfl
      | succ N ih =>
        rw [sumN_succ, ih]
        omega
    exact key _
  rw [cube_dens hn, p, sumN_congr (g := fun _ => (n : Int)) fun x hx => by
    rw [← deg_is hn hx]
    exact sumN_congr fun y hy => by simp [b x hx, b y hy]]
  have key : ∀ N : Nat, sumN N (fun _ => (n : Int)) = (n : Int) * N := fun N => by
    induction N with
    | zero => exact (Int.mul_zero _).symm
    | succ N ih =>
      rw [sumN_succ, ih, Int.natCast_add, Int.mul_add]
      omega
  exact key _
theorem cube_most {n a b : Nat} {ks : List Nat} (hn : n ≤ 6) (M : Most n (List.range (2 ^ n)) a b ks) : (a : Int) * 2 = n * b := by
  have bp : (0 : Int) < b := by have := M.pos; omega
  have kp : (0 : Int) < ks.length := by
    have := List.length_pos_iff.mpr M.ne
    omega
  have eq := M.eq
  have le := M.le
  have lt' := M.lt
  rw [List.length_range] at eq le lt'
  apply Int.le_antisymm
  · obtain ⟨msk, lt, hm⟩ := mask_of ks (2 ^ n)
    have e := eq msk hm
    have lp : pop (2 ^ n) msk = ks.length := by
      rw [← bitsL_len]
      congr 1
      refine List.Perm.length_eq ((List.perm_ext_iff_of_nodup (asc_nodup (bitsL_asc _ _)) (asc_nodup M.asc)).mpr fun r => ?_)
      rw [bitsL_mem]
      exact ⟨fun h => (hm r h.1).mp h.2, fun h => ⟨lt' r h, (hm r (lt' r h)).mpr h⟩⟩
    have c := cube_le hn msk
    rw [lp] at c
    have d := Int.mul_le_mul_of_nonneg_left c (Int.le_of_lt bp)
    refine Int.le_of_mul_le_mul_right (a := (ks.length : Int)) ?_ kp
    calc (a : Int) * 2 * ks.length = 2 * (a * ks.length) := by rw [Int.mul_comm (a : Int), Int.mul_assoc]
      _ = b * (2 * dens (eT n (List.range (2 ^ n))) (2 ^ n) msk) := by rw [e, ← Int.mul_assoc, ← Int.mul_assoc, Int.mul_comm 2]
      _ ≤ b * (n * ks.length) := d
      _ = n * b * ks.length := by rw [← Int.mul_assoc, Int.mul_comm (b : Int)]
  · have c := le (2 ^ 2 ^ n - 1)
    have f := cube_full hn
    have p0 : 0 < pop (2 ^ n) (2 ^ 2 ^ n - 1) := pop_pos (by have := Nat.pow_pos (n := 2 ^ n) (show 0 < 2 by decide); omega) (fun z => by
      have : 2 ^ 1 ≤ 2 ^ 2 ^ n := Nat.pow_le_pow_right (by decide) (Nat.pow_pos (by decide))
      omega)
    refine Int.le_of_mul_le_mul_right (a := pop (2 ^ n) (2 ^ 2 ^ n - 1)) ?_ p0
    calc (n : Int) * b * pop (2 ^ n) (2 ^ 2 ^ n - 1) = b * (n * pop (2 ^ n) (2 ^ 2 ^ n - 1)) := by rw [Int.mul_comm (n : Int), Int.mul_assoc]
      _ = b * dens (eT n (List.range (2 ^ n))) (2 ^ n) (2 ^ 2 ^ n - 1) * 2 := by rw [← f, Int.mul_comm 2, ← Int.mul_assoc]
      _ ≤ a * pop (2 ^ n) (2 ^ 2 ^ n - 1) * 2 := Int.mul_le_mul_of_nonneg_right c (by decide)
      _ = a * 2 * pop (2 ^ n) (2 ^ 2 ^ n - 1) := by rw [Int.mul_assoc, Int.mul_comm _ 2, ← Int.mul_assoc]
theorem nums_range {n : Nat} (hn : n ≤ 6) : Nums n (List.range (2 ^ n)) := by
  have z : 2 ^ n ≤ 2 ^ 6 := Nat.pow_le_pow_right (by decide) hn
  have z0 : 0 < 2 ^ n := Nat.pow_pos (by decide)
  exact ⟨List.pairwise_lt_range, fun m hm => List.mem_range.mp hm, fun e => by have := congrArg List.length e; rw [List.length_range, List.length_nil] at this; omega, by rw [List.length_range]; omega⟩
theorem sh_row (r : List Int) : PySem.SeqAt.shaped (.tuple (r.map PyData.int)) = true := by
  have can : ∀ r : List Int, PyData.canLayAll0 (r.map PyData.int) = true := fun r => by
    induction r with
    | nil => rw [List.map_nil, PyData.canLayAll0]
    | cons i r ih => rw [List.map_cons, PyData.canLayAll0, PyData.canLay0, ih] <;> rfl
  have dep : ∀ r : List Int, PyData.depthAll (r.map PyData.int) = 0 := fun r => by
    induction r with
    | nil => rw [List.map_nil, PyData.depthAll]
    | cons i r ih =>
      rw [List.map_cons, PyData.depthAll, PyData.depth, ih]
      rfl
  unfold PySem.SeqAt.shaped
  rw [PyData.canLay0, can r, PyData.depth, dep r, decide_eq_true (by omega)]
  rfl
theorem dp_row {K : PySem.W.Frag} {H : Hp} {p : Addr} {r : List Int} (h : H p = some (.tup (r.map V.int))) : Dp K H (.ref p) (.tuple (r.map PyData.int)) := by
  have z : ∀ r : List Int, DpAll K H (r.map V.int) (r.map PyData.int) := fun r => by
    induction r with
    | nil => exact .nil
    | cons i r ih => exact .cons (.int i) ih
  exact .tup (SqT.of h) (z r)
section
variable {P : Program} {w : World} {K : PySem.W.Frag} {mg : Str → Option Value} {base : Heap} {A : Ad}
theorem c_makeR {C l : Addr} {n : Nat} {ks : List (Addr × List Int)} {H : Hp} {R : Addr → Hp → Prop} {E : XK} (hl : H l = some (.lst (ks.map rf))) (ne : ks ≠ []) (sz : ks.length ≤ 64) (sn : n < 1000) (rows : RowsAt H n ks)
    (q : ∀ x H' ks', Same H H' → Of ks ks' → RuAt C H' x n ks' → R x H') : ∀ x dx, H x = none → H dx = none → dx ≠ x → spMake C (.ref x :: ([.int n, .ref l] ++ [])) (upd (upd H dx (.own x)) x (.ins C dx [])) (fun v H2 => v = .non ∧ R x H2) E := by
  intro x dx nx nd hd
  have s := newx_same (H := H) (a := x) (d := dx) (o := .ins C dx []) (u := .own x) nx nd rfl
  refine ⟨x, dx, l, n, ks, rfl, upd_same, s _ _ hl, ne, sz, sn, rows.same s, fun p hp e => ?_, fun H' ks' k o r => ⟨rfl, q x H' ks' (Keep.toSame s nx k) o r⟩⟩
  have z := (rows p hp).1
  rw [e, nx] at z
  cases z
theorem c_makeRT {C l : Addr} {n : Nat} {ks : List (Addr × List Int)} {H : Hp} {R : Addr → Hp → Prop} {E : XK} (hl : H l = some (.tup (ks.map rf))) (ne : ks ≠ []) (sz : ks.length < 64) (sn : n < 1000) (rows : RowsAt H n ks)
    (q : ∀ x H' ks', Same H H' → Of ks ks' → RuAt C H' x n ks' → R x H') : ∀ x dx, H x = none → H dx = none → dx ≠ x → spMakeT C (.ref x :: ([.int n, .ref l] ++ [])) (upd (upd H dx (.own x)) x (.ins C dx [])) (fun v H2 => v = .non ∧ R x H2) E := by
  intro x dx nx nd hd
  have s := newx_same (H := H) (a := x) (d := dx) (o := .ins C dx []) (u := .own x) nx nd rfl
  refine ⟨x, dx, l, n, ks, rfl, upd_same, s _ _ hl, ne, sz, sn, rows.same s, fun p hp e => ?_, fun H' ks' k o r => ⟨rfl, q x H' ks' (Keep.toSame s nx k) o r⟩⟩
  have z := (rows p hp).1
  rw [e, nx] at z
  cases z
theorem ls_ne {n : Nat} {ns : List Nat} {ls : List (Addr × List Int)} (N : Nums n ns) (e : ls.map (·.2) = ns.map (bitsOf n)) : ls ≠ [] := fun z => by
  subst z
  exact N.ne (List.map_eq_nil_iff.mp e.symm)
theorem ls_few {n : Nat} {ns : List Nat} {ls : List (Addr × List Int)} (N : Nums n ns) (e : ls.map (·.2) = ns.map (bitsOf n)) : ls.length ≤ 64 := by
  have z := congrArg List.length e
  rw [List.length_map, List.length_map] at z
  rw [z]
  exact N.few
theorem rn_of {C : Addr} {H : Hp} {x : Addr} {n : Nat} {ns : List Nat} {ls ks : List (Addr × List Int)} (N : Nums n ns) (e : ls.map (·.2) = ns.map (bitsOf n)) (o : Of ls ks) (r : RuAt C H x n ks) : Rn C H x n ns :=
  ⟨ks, r, of_nums N (fun r => by rw [e]) o⟩
/-- rows as data -/
def dRow (r : List Int) : PyData := .tuple (r.map PyData.int)
def dRows (ks : List (Addr × List Int)) : PyData := .tuple (ks.map fun p => dRow p.2)
theorem dp_ints {H : Hp} : ∀ r : List Int, DpAll K H (r.map V.int) (r.map PyData.int)
  | [] => .nil
  | i :: r => .cons (.int i) (dp_ints r)
theorem dp_all {H : Hp} {n : Nat} : ∀ ks : List (Addr × List Int), RowsAt H n ks → DpAll K H (ks.map rf) (ks.map fun p => dRow p.2)
  | [], _ => .nil
  | p :: ks, h => .cons (.tup (SqT.of (h p List.mem_cons_self).1) (dp_ints p.2)) (dp_all ks fun q hq => h q (List.mem_cons_of_mem _ hq))
theorem dp_rows {H : Hp} {n : Nat} {t : Addr} {ks : List (Addr × List Int)} (ht : H t = some (.tup (ks.map rf))) (h : RowsAt H n ks) : Dp K H (.ref t) (dRows ks) := .tup (SqT.of ht) (dp_all ks h)
theorem can_ints : ∀ r : List Int, PyData.canLayAll0 (r.map PyData.int) = true
  | [] => by rw [List.map_nil, PyData.canLayAll0]
  | i :: r => by rw [List.map_cons, PyData.canLayAll0, PyData.canLay0, can_ints r] <;> rfl
theorem can_rows : ∀ ks : List (Addr × List Int), PyData.canLayAll0 (ks.map fun p => dRow p.2) = true
  | [] => by rw [List.map_nil, PyData.canLayAll0]
  | p :: ks => by
    rw [List.map_cons, PyData.canLayAll0, can_rows ks, dRow, PyData.canLay0, can_ints p.2]
    rfl
theorem dep_ints : ∀ r : List Int, PyData.depthAll (r.map PyData.int) = 0
  | [] => by rw [List.map_nil, PyData.depthAll]
  | i :: r => by
    rw [List.map_cons, PyData.depthAll, PyData.depth, dep_ints r]
    rfl
theorem dep_rows : ∀ ks : List (Addr × List Int), PyData.depthAll (ks.map fun p => dRow p.2) ≤ 1
  | [] => by
    rw [List.map_nil, PyData.depthAll]
    omega
  | p :: ks => by
    rw [List.map_cons, PyData.depthAll, dRow, PyData.depth, dep_ints p.2]
    have := dep_rows ks
    omega
theorem sh_rows (ks : List (Addr × List Int)) : PySem.SeqAt.shaped (dRows ks) = true := by
  unfold PySem.SeqAt.shaped dRows
  rw [PyData.canLay0, can_rows ks, PyData.depth]
  have := dep_rows ks
  rw [decide_eq_true (by omega)]
  rfl
theorem dRows_eq {ks ls : List (Addr × List Int)} (e : ks.map (·.2) = ls.map (·.2)) : dRows ks = dRows ls := by
  unfold dRows
  have z := congrArg (List.map dRow) e
  rw [List.map_map, List.map_map] at z
  exact congrArg PyData.tuple z
/-- a list of the rows of numbers -/
def LstH (H : Hp) (l : Addr) (n : Nat) (ns : List Nat) : Prop := ∃ ls : List (Addr × List Int), H l = some (.lst (ls.map rf)) ∧ RowsAt H n ls ∧ ls.map (·.2) = ns.map (bitsOf n)
theorem LstH.same {H H' : Hp} {l : Addr} {n : Nat} {ns : List Nat} (h : LstH H l n ns) (s : Same H H') : LstH H' l n ns := by
  obtain ⟨ls, h1, h2, h3⟩ := h
  exact ⟨ls, s _ _ h1, h2.same s, h3⟩
theorem rn_rev {C : Addr} {H : Hp} {x : Addr} {n : Nat} {ns : List Nat} {ls ks : List (Addr × List Int)} (N : Nums n ns) (e : ls.map (·.2) = ns.map (bitsOf n)) (o : Of ls.reverse ks) (r : RuAt C H x n ks) : Rn C H x n ns :=
  rn_of N e ⟨fun q hq => List.mem_reverse.mp (o.1 q hq), fun q hq => o.2.1 q (List.mem_reverse.mpr hq), o.2.2⟩ r
end
end K37

set_option Elab.async false
set_option linter.all false
set_option maxRecDepth 100000
set_option maxHeartbeats 4000000
namespace K37
open PySem L2 Sx Fl
local macro_rules | `(tactic| walk_at "cond") => `(tactic| first
  | assumption
  | decide
  | exact c_mul_r (by first | decide | omega) (by first | decide | omega)
  | exact c_mul_l (by first | decide | omega) (by first | decide | omega)
  | exact c_div (by first | decide | omega) (by first | decide | omega)
  | exact c_pow (by first | decide | omega) (by first | decide | omega) (by first | decide | omega)
  | omega)
local macro_rules | `(tactic| walk_at "ne") => `(tactic| first
  | assumption
  | (refine Ne.symm ?_; assumption)
  | (refine' Flow.ne ?nh ?nn; (case nn => assumption); (case nh => walk_at "fl"))
  | (refine Ne.symm ?_; refine' Flow.ne ?nh ?nn; (case nn => assumption); (case nh => walk_at "fl"))
  | (refine' ne_of_none ?nh ?nn; (case nn => assumption); (case nh => walk_at "at"))
  | (refine Ne.symm ?_; refine' ne_of_none ?nh ?nn; (case nn => assumption); (case nh => walk_at "at")))
local macro_rules | `(tactic| walk_at "at") => `(tactic| first
  | assumption
  | (refine Same.up (by assumption) ?_; walk_at "at")
  | (refine Keep.up (by assumption) (by walk_at "ne") ?_; walk_at "at"))
local macro_rules | `(tactic| walk_at "fl") => `(tactic| first
  | assumption
  | (refine Flow.same (by assumption) ?_; walk_at "fl")
  | (refine Flow.keep (by assumption) (by walk_at "ne") ?_; walk_at "fl"))
local macro_rules | `(tactic| walk_at "fr") => `(tactic| first
  | assumption
  | (refine same_free (by assumption) ?_; walk_at "fr")
  | (refine Keep.free (by assumption) (by walk_at "ne") ?_; walk_at "fr"))
local macro_rules | `(tactic| walk_at "kp") => `(tactic| first
  | assumption
  | exact Keep.refl _ _
  | (refine Keep.trans ?_ (by assumption); walk_at "kp")
  | (refine Keep.trans ?_ (Keep.same (by assumption)); walk_at "kp"))
local macro_rules | `(tactic| walk_at "sm") => `(tactic| first
  | assumption
  | exact L2.Same.refl _
  | (refine L2.Same.trans ?_ (by assumption); walk_at "sm"))
local macro_rules | `(tactic| walk_at "sz") => `(tactic| first | exact Nat.le_of_ble_eq_true rfl | omega)
local macro_rules | `(tactic| walk_at "new") => `(tactic| (intro p np; generalize hE : upd _ p _ = H2; have s2 := new_same np hE; have h2 := new_at hE; clear hE))
local macro_rules | `(tactic| walk_at "newx") => `(tactic| (intro e d na nd hda; generalize hE : upd (upd _ d _) e _ = H2; have s2 := newx_same na nd hE; have h2 := newx_at hE; have h3 := newx_d hda hE; clear hE))
local macro_rules | `(tactic| walk_at "s1") => `(tactic| first
  | with_reducible refine s_seq ?_
  | with_reducible refine s_asg ?_
  | with_reducible refine s_name ?_
  | with_reducible refine s_ret ?_
  | with_reducible refine s_c ?_
  | ((with_reducible refine' s_var ?hv ?_); (case hv => rfl))
  | with_reducible refine s_op ?_
  | with_reducible refine s_un ?_
  | with_reducible refine s_ifS ?_
  | with_reducible refine s_cb ?_
  | with_reducible refine s_cons ?_
  | with_reducible refine s_nil ?_
  | with_reducible refine s_call ?_
  | with_reducible refine s_test ?_
  | with_reducible refine s_tB ?_
  | with_reducible refine s_bl ?_
  | with_reducible refine s_and ?_
  | with_reducible refine s_or ?_
  | with_reducible refine s_not ?_
  | with_reducible refine s_andV ?_
  | with_reducible refine s_orV ?_
  | with_reducible refine s_notV ?_
  | with_reducible refine s_blV ?_
  | with_reducible refine s_if ?_
  | with_reducible refine s_tup ?_
  | with_reducible refine s_lst ?_
  | with_reducible refine s_drop ?_
  | with_reducible refine s_next ?_
  | with_reducible refine s_sub ?_
  | with_reducible refine s_bm ?_
  | with_reducible refine s_callK ?_
  | with_reducible refine s_brk ?_
  | with_reducible refine s_cont ?_
  | with_reducible refine r_I0 ?_
  | with_reducible refine r_U ?_
  | with_reducible refine r_eqI ?_
  | with_reducible refine r_neI ?_
  | with_reducible refine r_isB ?_
  | with_reducible refine r_notB ?_
  | with_reducible refine i_t ?_
  | with_reducible refine i_f ?_
  | with_reducible refine i_nt ?_
  | with_reducible refine i_nf ?_
  | ((with_reducible refine' r_I ?hc ?_); (case hc => walk_at "cond"))
  | (with_reducible refine .inl ⟨_, rfl, ?_⟩)
  | (with_reducible refine ⟨_, rfl, ?_⟩)
  | ((with_reducible refine' r_ixL ?hx ?ha ?_); (case hx => walk_at "at"); (case ha => rfl))
  | ((with_reducible refine' r_ixT ?hx ?ha ?_); (case hx => walk_at "at"); (case ha => rfl))
  | ((with_reducible refine' r_setL ?hx ?ha ?_); (case hx => walk_at "at"); (case ha => rfl); intro H2 k2 h2; (try dsimp only [List.set, Int.toNat] at h2))
  | ((with_reducible refine' r_app ?hx ?hl ?_); (case hx => walk_at "at"); (case hl => first | exact Nat.lt_of_ble_eq_true rfl | omega); intro H2 k2 h2)
  | ((with_reducible refine' ty_list ?hx ?_); (case hx => walk_at "at"))
  | (refine And.intro (by (with_reducible show _ ≤ sizeLine); walk_at "sz") ?_; walk_at "new")
  | with_reducible refine s_exv ?_
  | walk_at "newx")
local macro_rules | `(tactic| walk_at "sx") => `(tactic| repeat (walk_at "s1"))
local macro_rules | `(tactic| walk_at "s2") => `(tactic| first
  | ((with_reducible refine' r_ixG ?hx ?hn ?_); (case hx => walk_at "at"); (case hn => omega))
  | ((with_reducible refine' r_ixGT ?hx ?hn ?_); (case hx => walk_at "at"); (case hn => omega))
  | (with_reducible refine ig_cons (fun hix => ?_) (fun hix => ?_))
  | ((with_reducible refine ig_nil ?_); omega)
  | ((with_reducible refine' i_T ?hc ?_); (case hc => omega))
  | ((with_reducible refine' i_F ?hc ?_); (case hc => omega))
  | (with_reducible refine i_2 (fun hc => ?_) (fun hc => ?_))
  | (with_reducible refine i_n2 (fun hc => ?_) (fun hc => ?_)))
local macro_rules | `(tactic| walk_at "go") => `(tactic| repeat' (first | walk_at "s1" | walk_at "s2"))

local macro_rules | `(tactic| walk_at "s1") => `(tactic| first
  | with_reducible refine s_chain ?_
  | with_reducible refine s_fldS ?_
  | with_reducible refine s_fld ?_
  | with_reducible refine s_dIn ?_
  | with_reducible refine s_dNotIn ?_
  | with_reducible refine s_sl ?_
  | with_reducible refine s_noPart ?_
  | with_reducible refine s_part ?_
  | with_reducible refine s_meth ?_
  | with_reducible refine s_make ?_)

def dSh (m b : Nat) (f : Nat → Nat) : PyData := dRows ((List.range m).map fun k => (0, [((f k / Nat.gcd (f k) b : Nat) : Int), ((b / Nat.gcd (f k) b : Nat) : Int)]))
theorem dp_each {K : PySem.W.Frag} {H : Hp} : ∀ ks : List (Addr × List Int), (∀ p ∈ ks, H p.1 = some (.tup (p.2.map V.int))) → DpAll K H (ks.map rf) (ks.map fun p => dRow p.2)
  | [], _ => .nil
  | p :: ks, h => .cons (.tup (SqT.of (h p List.mem_cons_self)) (dp_ints p.2)) (dp_each ks fun q hq => h q (List.mem_cons_of_mem _ hq))
theorem dp_cs {K : PySem.W.Frag} {H : Hp} {p : Addr} {m b : Nat} {f : Nat → Nat} (h : Cs H p m b f) : Dp K H (.ref p) (dSh m b f) := by
  obtain ⟨cs, hp, lc, each⟩ := h
  obtain ⟨ks, eks⟩ : ∃ ks : List (Addr × List Int), ks = (List.range m).map fun k => (cs.getD k 0, [((f k / Nat.gcd (f k) b : Nat) : Int), ((b / Nat.gcd (f k) b : Nat) : Int)]) := ⟨_, rfl⟩
  have e1 : cs.map V.ref = ks.map rf := by
    rw [eks, List.map_map]
    apply List.ext_getElem (by simp [lc])
    intro k h1 h2
    rw [List.length_map] at h1
    simp [rf, h1]
  have e2 : dSh m b f = dRows ks := dRows_eq (by rw [eks, List.map_map, List.map_map]; rfl)
  rw [e1] at hp
  rw [e2]
  refine .tup (SqT.of hp) (dp_each ks fun q hq => ?_)
  rw [eks] at hq
  obtain ⟨k, hk, rfl⟩ := List.mem_map.mp hq
  obtain ⟨c, hc, h2⟩ := each k (List.mem_range.mp hk)
  have e3 : cs.getD k 0 = c := by rw [List.getD_eq_getElem?_getD, hc]; rfl
  show H (cs.getD k 0) = _
  rw [e3, h2]
  rfl
theorem eq_sh (m b : Nat) (f : Nat → Nat) : (dSh m b f).eqv (dSh m b f) = true := PySem.SeqAt.eqv_refl _ (PySem.SeqAt.canLay_of_shaped (sh_rows _))
theorem sh_sh (m b : Nat) (f : Nat → Nat) : PySem.SeqAt.shaped (dSh m b f) = true := sh_rows _
/-- chances found by the look for the densest part -/
def Dd (n : Nat) (ns : List Nat) (L : List (List Int)) (ks : List Nat) (a b : Nat) (f : Nat → Nat) : Prop := ∃ R : Nat → Int, f = (fun k => (R (2 * k)).toNat) ∧ Dfin L.length ns.length (iT L) (jT L) (fun _ => 1) ks a b R
theorem Dd.uniq {n : Nat} {ns : List Nat} {L : List (List Int)} {ks ks' : List Nat} {a b a' b' : Nat} {f f' : Nat → Nat} (h : Dd n ns L ks a b f) (g : Dd n ns L ks' a' b' f') : b = b' ∧ f = f' := by
  obtain ⟨R, rfl, d⟩ := h
  obtain ⟨R', rfl, d'⟩ := g
  obtain ⟨_, _, e, e'⟩ := d.uniq d'
  subst e'
  exact ⟨e, rfl⟩
theorem bst_bd {n : Nat} {ns : List Nat} {b0 b1 : Int} (few : ns.length ≤ 9) (B : Bst (eT n ns) ns.length (2 ^ ns.length) b0 b1) : 0 ≤ b0 ∧ b0 ≤ 100000 ∧ 0 < b1 ∧ b1 ≤ 100000 := by
  have p := B.pos
  have nn := Nat.mul_le_mul few few
  rcases B.is with ⟨rfl, rfl⟩ | ⟨m, lt, h0, rfl, rfl⟩
  · decide
  · have a := pop_le ns.length m
    have d := dens_le (eT n ns) ns.length m
    have d0 := dens_nn (eT n ns) ns.length m
    have e : ((ns.length : Int) * ns.length) ≤ 81 := by
      have : ((ns.length * ns.length : Nat) : Int) ≤ ((9 * 9 : Nat) : Int) := by omega
      rwa [Int.natCast_mul] at this
    refine ⟨d0, by omega, p, by omega⟩
section
variable {P : Program} {w : World} {K : PySem.W.Frag} {mg : Str → Option Value} {base : Heap} {A : Ad}
theorem s_rev {te : TE} {σ : L2.St} {H : Hp} {Q : VK} (h : te σ H fun x H1 => ∃ a xs, x = .ref a ∧ SqL K H1 a xs ∧ ∀ p, H1 p = none → Q (.ref p) (upd H1 p (.lst xs.reverse))) : tRevL K te σ H Q := h
def spAll (K : PySem.W.Frag) : Sp := fun vs H Q _ => ∃ (l : Addr) (ns : List Int), vs = [.ref l] ∧ SqL K H l (ns.map V.int) ∧ ∀ H', Q (.bl true) H'
theorem ok_all (T : Txt P K mg A) : FnOk P w K mg base CX0 10 A.a__law_all A.d__law_all ["script"] (spAll K) := by
  refine T.F__law_all.ok sc__law_all (fun vs H Q E h => ?_) (fun cdv A' outer s H vs Q E hr h => ?_)
  · obtain ⟨l, ns, rfl, _⟩ := h
    rfl
  · obtain ⟨l, ns, rfl, hl, k⟩ := h
    have G__law_flow := ok_flow (w := w) (base := base) T
    have G__law_take := ok_take (w := w) (base := base) T
    have G__law_full := ok_full (w := w) (base := base) T
    have G__law_numbers := ok_nums (w := w) (base := base) T
    have G__law_row := ok_rowOf (w := w) (base := base) T
    have G_Rules____init__ := ok_make (w := w) (base := base) T
    have G_initT := ok_makeT (w := w) (base := base) T
    have G__law_densest := ok_LD (w := w) (base := base) T
    have G_best_drawn := ok_BD (w := w) (base := base) T
    have G__law_good := ok_good (w := w) (base := base) T
    refine ⟨_, (pss_cons (ps_set (i := 1) sc__law_all.nd rfl (Or.inr rfl) (pe_call G__law_numbers (hr.mono (by decide)) rfl T.g__law_numbers T.F__law_numbers.kp (B__law_numbers T) .nil pass0 (pa_cons (pe_call G__law_flow (hr.mono (by decide)) rfl T.g__law_flow T.F__law_flow.kp (B__law_flow T) .nil pass0 (pa_cons (pv 0) (pa_cons pe_int pa_nil))) pa_nil)))
  (pss_cons (ps_set (i := 2) sc__law_all.nd rfl (Or.inr rfl) (pe_call G__law_numbers (hr.mono (by decide)) rfl T.g__law_numbers T.F__law_numbers.kp (B__law_numbers T) .nil pass0 (pa_cons (pe_call G__law_flow (hr.mono (by decide)) rfl T.g__law_flow T.F__law_flow.kp (B__law_flow T) .nil pass0 (pa_cons (pv 0) (pa_cons pe_int pa_nil))) pa_nil)))
  (pss_cons (ps_setLc (i := 3) (own := [("number", 13)]) (g := (gName 13)) (by rfl) sc__law_all.nd rfl rfl (sw_true rfl rfl rfl (by decide +kernel)) (pi_list (pe_ix ix_seq (pv 1) pe_int (fun _ _ => rfl))) (blkOk_by (own := [("number", 13)]) (N := ["script", "one", "other", "listed", "other_listed", "first", "second", "chances", "other_chances", "flow", "size", "numbers", "cube", "number", "k"]) (sc := defScope s__law_all) (by decide +kernel)) (fun _ _ _ _ _ => (pg_name (i := 13) sc__law_all.nd rfl (Or.inl rfl))) (fun _ _ _ _ _ => pts_nil) (fun _ _ _ _ _ => (pe_call G__law_row (hr.mono (by decide)) rfl T.g__law_row T.F__law_row.kp (B__law_row T) .nil pass0 (pa_cons (pv 13) (pa_cons (pe_ix (r := rIx K) ix_seq (pv 1) pe_int (fun _ _ => rfl)) pa_nil)))))
  (pss_cons (ps_setLc (i := 4) (own := [("number", 13)]) (g := (gName 13)) (by rfl) sc__law_all.nd rfl rfl (sw_true rfl rfl rfl (by decide +kernel)) (pi_list (pe_ix ix_seq (pv 2) pe_int (fun _ _ => rfl))) (blkOk_by (own := [("number", 13)]) (N := ["script", "one", "other", "listed", "other_listed", "first", "second", "chances", "other_chances", "flow", "size", "numbers", "cube", "number", "k"]) (sc := defScope s__law_all) (by decide +kernel)) (fun _ _ _ _ _ => (pg_name (i := 13) sc__law_all.nd rfl (Or.inl rfl))) (fun _ _ _ _ _ => pts_nil) (fun _ _ _ _ _ => (pe_call G__law_row (hr.mono (by decide)) rfl T.g__law_row T.F__law_row.kp (B__law_row T) .nil pass0 (pa_cons (pv 13) (pa_cons (pe_ix (r := rIx K) ix_seq (pv 2) pe_int (fun _ _ => rfl)) pa_nil)))))
  (pss_cons (ps_set (i := 5) sc__law_all.nd rfl (Or.inl rfl) (pe_make T.mk_Rules G_Rules____init__ (hr.mono (by decide)) rfl T.g_Rules (B_Rules____init__ T) .nil pass0 (pa_cons (pe_ix (r := rIx K) ix_seq (pv 1) pe_int (fun _ _ => rfl)) (pa_cons (pv 3) pa_nil))))
  (pss_cons (ps_set (i := 6) sc__law_all.nd rfl (Or.inl rfl) (pe_make T.mk_Rules G_Rules____init__ (hr.mono (by decide)) rfl T.g_Rules (B_Rules____init__ T) .nil pass0 (pa_cons (pe_ix (r := rIx K) ix_seq (pv 2) pe_int (fun _ _ => rfl)) (pa_cons (pv 4) pa_nil))))
  (pss_cons (ps_set (i := 7) sc__law_all.nd rfl (Or.inl rfl) (pe_call G_best_drawn (hr.mono (by decide)) rfl T.g_best_drawn T.F_best_drawn.kp (B_best_drawn T) .nil pass0 (pa_cons (pv 5) pa_nil)))
  (pss_cons (ps_set (i := 8) sc__law_all.nd rfl (Or.inl rfl) (pe_kw0 G_best_drawn (hr.mono (by decide)) rfl T.g_best_drawn T.F_best_drawn.kp (KB_best_drawn_rules T) pass0 (pk_cons (pv 6) pk_nil)))
  (pss_cons (ps_if (pt_not (pt_val (pe_call G__law_good (hr.mono (by decide)) rfl T.g__law_good T.F__law_good.kp (B__law_good T) .nil pass0 (pa_cons (pv 7) (pa_cons (pe_ix (r := rIx K) ix_seq (pv 1) pe_int (fun _ _ => rfl)) (pa_cons (pe_ix ix_seq (pv 1) pe_int (fun _ _ => rfl)) (pa_cons (pe_call G__law_densest (hr.mono (by decide)) rfl T.g__law_densest T.F__law_densest.kp (B__law_densest T) .nil pass0 (pa_cons (pe_ix (r := rIx K) ix_seq (pv 1) pe_int (fun _ _ => rfl)) (pa_cons (pe_ix ix_seq (pv 1) pe_int (fun _ _ => rfl)) pa_nil))) pa_nil))))))) (pss_one (ps_ret pe_bl)) pss_nil)
  (pss_cons (ps_if (pt_not (pt_val (pe_call G__law_good (hr.mono (by decide)) rfl T.g__law_good T.F__law_good.kp (B__law_good T) .nil pass0 (pa_cons (pv 8) (pa_cons (pe_ix (r := rIx K) ix_seq (pv 2) pe_int (fun _ _ => rfl)) (pa_cons (pe_ix ix_seq (pv 2) pe_int (fun _ _ => rfl)) (pa_cons (pe_call G__law_densest (hr.mono (by decide)) rfl T.g__law_densest T.F__law_densest.kp (B__law_densest T) .nil pass0 (pa_cons (pe_ix (r := rIx K) ix_seq (pv 2) pe_int (fun _ _ => rfl)) (pa_cons (pe_ix ix_seq (pv 2) pe_int (fun _ _ => rfl)) pa_nil))) pa_nil))))))) (pss_one (ps_ret pe_bl)) pss_nil)
  (pss_cons (ps_set (i := 9) sc__law_all.nd rfl (Or.inl rfl) (pe_call G__law_flow (hr.mono (by decide)) rfl T.g__law_flow T.F__law_flow.kp (B__law_flow T) .nil pass0 (pa_cons (pv 0) (pa_cons pe_int pa_nil))))
  (pss_cons (ps_if (pt_cmpR op_eq (pe_call G__law_take (hr.mono (by decide)) rfl T.g__law_take T.F__law_take.kp (B__law_take T) .nil pass0 (pa_cons (pv 9) (pa_cons pe_int pa_nil))) pe_int (nomark _)) (pss_cons (ps_set (i := 10) sc__law_all.nd rfl (Or.inr rfl) (pe_op op_add pe_int (pe_call G__law_take (hr.mono (by decide)) rfl T.g__law_take T.F__law_take.kp (B__law_take T) .nil pass0 (pa_cons (pv 9) (pa_cons pe_int pa_nil)))))
  (pss_cons (ps_set (i := 11) sc__law_all.nd rfl (Or.inl rfl) (pe_listRg rfl (by rfl) T.n_list (prg_1 (by rfl) T.n_range (pe_call G__law_full (hr.mono (by decide)) rfl T.g__law_full T.F__law_full.kp (B__law_full T) .nil pass0 (pa_cons (pv 10) pa_nil)))))
  (pss_cons (ps_set (i := 12) sc__law_all.nd rfl (Or.inl rfl) (pe_make T.mk_Rules G_Rules____init__ (hr.mono (by decide)) rfl T.g_Rules (B_Rules____init__ T) .nil pass0 (pa_cons (pv 10) (pa_cons (pe_lc (own := [("k", 14)]) (g := (gName 14)) (by rfl) sc__law_all.nd (pi_list (pv 11)) (blkOk_by (own := [("k", 14)]) (N := ["script", "one", "other", "listed", "other_listed", "first", "second", "chances", "other_chances", "flow", "size", "numbers", "cube", "number", "k"]) (sc := defScope s__law_all) (by decide +kernel)) (fun _ _ _ _ _ => (pg_name (i := 14) sc__law_all.nd rfl (Or.inl rfl))) (fun _ _ _ _ _ => pts_nil) (fun _ _ _ _ _ => (pe_call G__law_row (hr.mono (by decide)) rfl T.g__law_row T.F__law_row.kp (B__law_row T) .nil pass0 (pa_cons (pv 14) (pa_cons (pv 10) pa_nil))))) pa_nil))))
  (pss_one (ps_if (pt_not (pt_val (pe_call G__law_good (hr.mono (by decide)) rfl T.g__law_good T.F__law_good.kp (B__law_good T) .nil pass0 (pa_cons (pe_call G_best_drawn (hr.mono (by decide)) rfl T.g_best_drawn T.F_best_drawn.kp (B_best_drawn T) .nil pass0 (pa_cons (pv 12) pa_nil)) (pa_cons (pv 10) (pa_cons (pv 11) (pa_cons (pe_lst (pa_cons (pv 10) (pa_cons pe_int pa_nil))) pa_nil))))))) (pss_one (ps_ret pe_bl)) pss_nil))))) pss_nil)
  (pss_cons (ps_if (PW.pt (pw_or (pt_cmpR (op_neD (uE hr)) (pe_call G_best_drawn (hr.mono (by decide)) rfl T.g_best_drawn T.F_best_drawn.kp (B_best_drawn T) .nil pass0 (pa_cons (pe_make T.mk_Rules G_initT (hr.mono (by decide)) rfl T.g_Rules (B_Rules____init__ T) .nil pass0 (pa_cons (pe_ix (r := rIx K) ix_seq (pv 1) pe_int (fun _ _ => rfl)) (pa_cons (pe_callTy call_tuple_of (by rfl) T.n_tuple (by decide +kernel) (pa_cons (pe_revL (pv 3)) pa_nil)) pa_nil))) pa_nil)) (pv 7) (nomark _)) (pw_or1 (pt_cmpR (op_neD (uE hr)) (pe_call G_best_drawn (hr.mono (by decide)) rfl T.g_best_drawn T.F_best_drawn.kp (B_best_drawn T) .nil pass0 (pa_cons (pv 6) pa_nil)) (pv 8) (nomark _))))) (pss_one (ps_ret pe_bl)) pss_nil)
  (pss_one (ps_ret (pe_and (pe_cmpR (op_eqD (uE hr)) (pe_fld (pv 5) rfl) (pe_callTy call_tuple_of (by rfl) T.n_tuple (by decide +kernel) (pa_cons (pv 3) pa_nil)) (nomark _)) (pe_one (pe_cmpR (op_eqD (uE hr)) (pe_fld (pv 6) rfl) (pe_callTy call_tuple_of (by rfl) T.n_tuple (by decide +kernel) (pa_cons (pv 4) pa_nil)) (nomark _))))))))))))))))))), ?_⟩
    walk_at "sx"
    refine c_flow (by decide) hl fun f0 H1 n0 s1 F0 => ?_
    walk_at "sx"
    refine ⟨f0, rfl, F0, fun q1 l1 n1 ns1 H2 F0' K2 hq1 hl1 N1 few1 sn1 => ?_⟩
    walk_at "sx"
    have s02 : Same H H2 := Keep.toSame s1 n0 K2
    refine c_flow (by decide) (s02.seq hl) fun f1 H3 n3 s3 F3 => ?_
    walk_at "sx"
    refine ⟨f1, rfl, F3, fun q2 l2 n2 ns2 H4 F4' K4 hq2 hl2 N2 few2 sn2 => ?_⟩
    have s24 : Same H2 H4 := Keep.toSame s3 n3 K4
    have s04 : Same H H4 := s02.trans s24
    have hq1' := s24 _ _ hq1
    have hl1' := s24 _ _ hl1
    clear hq1 hl1
    walk_at "sx"
    refine ⟨_, rfl, .inl ⟨q1, _, 1, .ref l1, rfl, rfl, SqL.of hq1', rfl, l1, rfl, ⟨_, SqL.of hl1'⟩, fun D hD => lc_list (K := K) (a := l1) (xs := ns1.map nv) (fun i H' => Same H4 H' ∧ ∃ ls : List (Addr × List Int), H' D = some (.lst (ls.map rf)) ∧ RowsAt H' n1 ls ∧ ls.map (·.2) = (ns1.take i).map (bitsOf n1))
      ⟨Same.new hD, [], upd_same, rows_nil, rfl⟩ (fun i H' _ ⟨s, _⟩ => SqL.of (s _ _ hl1')) ?_ ?_⟩⟩
    · rintro i y H' hy ⟨s', ls, hD', rl, el⟩
      obtain ⟨m, hm, rfl⟩ : ∃ m, ns1[i]? = some m ∧ nv m = y := by
        rw [List.getElem?_map] at hy
        exact Option.map_eq_some_iff.mp hy
      refine s_name ⟨rfl, ?_⟩
      refine s_yes (i_t ?_)
      have hqx := s' _ _ hq1'
      walk_at "sx"
      refine ⟨m, n1, rfl, by omega, fun p H2 s2 hp2 => ?_⟩
      exact rows_step hD hD' s' s2 rl hp2 (bitsOf_bits n1 m) (by
        have e := congrArg List.length el
        simp only [List.length_map, List.length_take] at e
        have := N1.few
        omega) (by rw [el, List.take_succ, hm]; simp)
    rintro Ha ⟨sa, lsa, hDa, rla, ela⟩
    rw [List.length_map, List.take_length] at ela
    have hq2a := sa _ _ hq2
    have hl2a := sa _ _ hl2
    walk_at "sx"
    refine ⟨_, rfl, .inl ⟨q2, _, 1, .ref l2, rfl, rfl, SqL.of hq2a, rfl, l2, rfl, ⟨_, SqL.of hl2a⟩, fun D2 hD2 => lc_list (K := K) (a := l2) (xs := ns2.map nv) (fun i H' => Same Ha H' ∧ ∃ ls : List (Addr × List Int), H' D2 = some (.lst (ls.map rf)) ∧ RowsAt H' n2 ls ∧ ls.map (·.2) = (ns2.take i).map (bitsOf n2))
      ⟨Same.new hD2, [], upd_same, rows_nil, rfl⟩ (fun i H' _ ⟨s, _⟩ => SqL.of (s _ _ hl2a)) ?_ ?_⟩⟩
    · rintro i y H' hy ⟨s', ls, hD', rl, el⟩
      obtain ⟨m, hm, rfl⟩ : ∃ m, ns2[i]? = some m ∧ nv m = y := by
        rw [List.getElem?_map] at hy
        exact Option.map_eq_some_iff.mp hy
      refine s_name ⟨rfl, ?_⟩
      refine s_yes (i_t ?_)
      have hqx := s' _ _ hq2a
      walk_at "sx"
      refine ⟨m, n2, rfl, by omega, fun p H2 s2 hp2 => ?_⟩
      exact rows_step hD2 hD' s' s2 rl hp2 (bitsOf_bits n2 m) (by
        have e := congrArg List.length el
        simp only [List.length_map, List.length_take] at e
        have := N2.few
        omega) (by rw [el, List.take_succ, hm]; simp)
    rintro Hb ⟨sb, lsb, hDb, rlb, elb⟩
    rw [List.length_map, List.take_length] at elb
    have s4b : Same H4 Hb := sa.trans sb
    have L1b : LstH Hb D n1 ns1 := LstH.same ⟨lsa, hDa, rla, ela⟩ sb
    have L2b : LstH Hb D2 n2 ns2 := ⟨lsb, hDb, rlb, elb⟩
    have hq1b : Hb q1 = _ := s4b _ _ hq1'
    have hq2b : Hb q2 = _ := sb _ _ hq2a
    have hl1b : True → Hb l1 = _ := fun _ => s4b _ _ hl1'
    have hl2b : True → Hb l2 = _ := fun _ => sb _ _ hl2a
    have s0b : Same H Hb := s04.trans s4b
    refine s_name ?_
    dsimp only
    refine s_seq (s_asg (s_make (s_cons (s_op (s_var rfl (s_c (r_ixL hq1b rfl ?_)))))))
    refine s_cons (s_var rfl (s_nil (c_makeR (sb _ _ hDa) (ls_ne N1 ela) (ls_few N1 ela) (by omega) (RowsAt.same sb rla) fun x1 H5 kx s5 ox rx => ?_)))
    have R1 := rn_of N1 ela ox rx
    clear rx ox kx
    have hq2c := s5 _ _ hq2b
    refine s_name ?_
    dsimp only
    refine s_seq (s_asg (s_make (s_cons (s_op (s_var rfl (s_c (r_ixL hq2c rfl ?_)))))))
    refine s_cons (s_var rfl (s_nil (c_makeR (s5 _ _ hDb) (ls_ne N2 elb) (ls_few N2 elb) (by omega) (RowsAt.same s5 rlb) fun x2 H6 kx s6 ox rx => ?_)))
    have R2 := rn_of N2 elb ox rx
    clear rx ox kx
    have s56 := s5.trans s6
    have hq1d := s56 _ _ hq1b
    have hq2d := s56 _ _ hq2b
    have hl1d : True → H6 l1 = _ := fun _ => s56 _ _ (hl1b trivial)
    have hl2d : True → H6 l2 = _ := fun _ => s56 _ _ (hl2b trivial)
    have R1d := R1.same s6
    have L1d := L1b.same s56
    have L2d := L2b.same s56
    have s06 := s0b.trans s56
    clear hDa hDb rla rlb hq2a hl2a hq1b hq2b hq2c hq1' hl1' hq2 hl2
    walk_at "sx"
    refine ⟨x1, n1, ns1, rfl, R1d, N1, by omega, fun p1 a1 bb1 ks1 L1 f1 H7 s7 C1 G1 M1 B1 => ?_⟩
    walk_at "sx"
    refine ⟨x2, n2, ns2, rfl, R2.same s7, N2, by omega, fun p2 a2 bb2 ks2 L2' f2' H8 s8 C2 G2 M2 B2 => ?_⟩
    have s68 := s7.trans s8
    have R18 := R1d.same s68
    have R28 := R2.same s68
    have L18 := L1d.same s68
    have L28 := L2d.same s68
    have hq18 := s68 _ _ hq1d
    have hq19 : True → H8 q1 = _ := fun _ => s68 _ _ hq1d
    have hq28 := s68 _ _ hq2d
    have hl18 : True → H8 l1 = _ := fun _ => s68 _ _ (hl1d trivial)
    have hl28 : True → H8 l2 = _ := fun _ => s68 _ _ (hl2d trivial)
    have C18 := C1.same s8
    have s08 := s06.trans s68
    clear hq1d hq2d hl1d hl2d hl1b hl2b R1 R1d R2 L1b L2b L1d L2d C1
    walk_at "sx"
    refine ⟨n1, l1, ns1, rfl, hl18 trivial, few1, sn1, fun qd b0 b1 H9 s9 hqd Bs1 => ?_⟩
    have hqd' : True → H9 qd = _ := fun _ => hqd
    clear hqd
    walk_at "sx"
    obtain ⟨u1, u2, u3, u4⟩ := bst_bd few1 Bs1
    refine ⟨p1, l1, qd, n1, ns1, L1, a1, bb1, f1, b0, b1, rfl, C18.same s9, s9 _ _ (hl18 trivial), N1, sn1, G1, hqd' trivial, u1, u2, u3, u4, most_bst M1 Bs1, fun HA sA => ?_⟩
    have s8A := s9.trans sA
    have hq2A := s8A _ _ hq28
    clear hq18 hq28 hqd' u1 u2 u3 u4
    walk_at "sx"
    refine ⟨n2, l2, ns2, rfl, s8A _ _ (hl28 trivial), few2, sn2, fun qe c0 c1 HB sB hqe Bs2 => ?_⟩
    have hqe' : True → HB qe = _ := fun _ => hqe
    clear hqe
    walk_at "sx"
    obtain ⟨u1, u2, u3, u4⟩ := bst_bd few2 Bs2
    have s8B := s8A.trans sB
    refine ⟨p2, l2, qe, n2, ns2, L2', a2, bb2, f2', c0, c1, rfl, C2.same s8B, s8B _ _ (hl28 trivial), N2, sn2, G2, hqe' trivial, u1, u2, u3, u4, most_bst M2 Bs2, fun HC sC => ?_⟩
    clear hqe' u1 u2 u3 u4
    have s8C := s8B.trans sC
    have s0C := s08.trans s8C
    have hq1C : True → HC q1 = _ := fun _ => s8C _ _ (hq19 trivial)
    clear hq2A Bs1 Bs2
    walk_at "sx"
    refine c_flow (by decide) (s0C.seq hl) fun f2 HD nD sD FD => ?_
    have s8D := s8C.trans sD
    refine s_name ?_
    dsimp only
    refine s_seqP (fun σ' H' => Same H8 H' ∧ ∃ v10 v11 v12 : Option V, σ' = [some (.ref l), some (.ref q1), some (.ref q2), some (.ref D), some (.ref D2), some (.ref x1), some (.ref x2), some (.ref p1), some (.ref p2), some (.ref f2), v10, v11, v12, none, none]) (fun X hX => ?_) ?_
    · walk_at "sx"
      refine c_take FD (by decide) (by decide) (fun d HE lE uE FE KE => ?_)
      have s8E : Same H8 HE := s8C.trans (Keep.toSame sD nD KE)
      walk_at "sx"
      refine i_2 (fun c => ?_) (fun c => ?_)
      · walk_at "sx"
        refine c_take FE (by decide) (by decide) (fun d2 HF lF uF FF KF => ?_)
        have s8F : Same H8 HF := Keep.toSame s8E (Same.free s8C nD) KF
        obtain ⟨z, ez⟩ := Int.eq_ofNat_of_zero_le lF
        subst ez
        obtain ⟨y, ey⟩ : ∃ y : Nat, y = 4 + z := ⟨_, rfl⟩
        refine r_I0 ?_
        rw [show (4 : Int) + (z : Int) = (y : Int) by omega]
        have hy : y ≤ 6 := by omega
        have z6 : 2 ^ y ≤ 2 ^ 6 := Nat.pow_le_pow_right (by decide) hy
        have z0 : 0 < 2 ^ y := Nat.pow_pos (by decide)
        refine s_name ?_
        dsimp only
        refine s_seq (s_asg (s_lr (s_call (s_cons (s_var rfl (s_nil ⟨y, rfl, hy, fun HG sG => ⟨_, rfl, .of_le (Int.le_refl _) (by omega) (by decide) (by omega), fun q0 nq0 => ?_⟩⟩))))))
        rw [rg_nums]
        generalize hE : upd HG q0 _ = HH
        have sH := new_same nq0 hE
        have gH : True → HH q0 = some (.lst ((List.range (2 ^ y)).map nv)) := fun _ => new_at hE
        clear hE
        have s8H : Same H8 HH := s8F.trans (sG.trans sH)
        refine s_name ?_
        dsimp only
        refine s_seq (s_asg (s_make (s_cons (s_var rfl (s_cons ?_)))))
        unfold tLc iList
        refine s_var rfl ⟨q0, rfl, ⟨_, SqL.of (gH trivial)⟩, fun D3 hD3 => lc_list (K := K) (a := q0) (xs := (List.range (2 ^ y)).map nv) (fun i H' => Same HH H' ∧ ∃ ls : List (Addr × List Int), H' D3 = some (.lst (ls.map rf)) ∧ RowsAt H' y ls ∧ ls.map (·.2) = (List.range i).map (bitsOf y))
          ⟨Same.new hD3, [], upd_same, rows_nil, rfl⟩ (fun q G' _ h => SqL.of (h.1 _ _ (gH trivial))) ?_ ?_⟩
        · rintro i x H' hx ⟨s', ls, hD', rl, el⟩
          have hi : i < 2 ^ y := by
            have := (List.getElem?_eq_some_iff.mp hx).1
            rwa [List.length_map, List.length_range] at this
          rw [List.getElem?_map, List.getElem?_range hi] at hx
          cases hx
          refine s_name ⟨rfl, ?_⟩
          refine s_yes (i_t ?_)
          walk_at "sx"
          refine ⟨i, y, rfl, by omega, fun p H2 s2 hp2 => ?_⟩
          exact rows_step hD3 hD' s' s2 rl hp2 (bitsOf_bits y i) (by
            have e := congrArg List.length el
            simp only [List.length_map, List.length_range] at e
            omega) (by rw [el, List.range_succ, List.map_append]; rfl)
        rintro HI ⟨sI, lsc, hDc, rlc, elc⟩
        rw [List.length_map, List.length_range] at elc
        have NC := nums_range hy
        refine s_nil (c_makeR hDc (ls_ne NC elc) (ls_few NC elc) (by omega) rlc fun x3 HJ kx sJ ox rx => ?_)
        have R3 := rn_of NC elc ox rx
        clear rx ox kx hDc rlc
        have sHJ := sI.trans sJ
        walk_at "sx"
        refine ⟨x3, y, List.range (2 ^ y), rfl, R3, NC, by omega, fun p3 a3 bb3 ks3 L3 f3 HK sK C3 G3 M3 B3 => ?_⟩
        walk_at "sx"
        rename_i pz npz HK2 sK2 hz
        refine ⟨p3, q0, pz, y, _, L3, a3, bb3, f3, (y : Int), 2, rfl, C3.same sK2, (sHJ.trans (sK.trans sK2)) _ _ (gH trivial), NC, hy, G3, hz, by omega, by omega, by decide, by decide, cube_most hy M3, fun HL sL => ?_⟩
        walk_at "sx"
        exact hX _ _ ⟨s8H.trans (sHJ.trans (sK.trans (sK2.trans sL))), _, _, _, rfl⟩
      · walk_at "sx"
        exact hX _ _ ⟨s8E, _, _, _, rfl⟩
    rintro _ HK ⟨s8K, v10, v11, v12, rfl⟩
    clear s8A s8B s8C s8D hq1C
    have hq1K := s8K _ _ (hq19 trivial)
    obtain ⟨lr, hlr, rlr, elr⟩ := L18.same s8K
    have hlr' : True → HK D = _ := fun _ => hlr
    walk_at "s1"
    dsimp only
    refine s_seq (s_ifS (s_or (s_tT (s_op (s_call (s_cons (s_make (s_cons (s_op (s_var rfl (s_c (r_ixL hq1K rfl (s_cons (s_cb (s_cons (s_rev (s_var rfl ⟨D, _, rfl, SqL.of hlr, fun pr npr => ?_⟩)))))))))))))))))
    generalize hE : upd HK pr _ = HL
    have sL := new_same npr hE
    have hL := new_at hE
    clear hE
    rw [← List.map_reverse] at hL
    refine s_nil ⟨pr, _, rfl, .inl ⟨SqL.of hL, fun pt npt => ?_⟩⟩
    generalize hE : upd HL pt _ = HM
    have sM := new_same npt hE
    have hM := new_at hE
    clear hE
    have nr : lr.reverse ≠ [] := fun e => ls_ne N1 elr (List.reverse_eq_nil_iff.mp e)
    have fr : lr.reverse.length < 64 := by
      have e := congrArg List.length elr
      simp only [List.length_map] at e
      rw [List.length_reverse]
      omega
    have rr : RowsAt HM n1 lr.reverse := fun q hq => RowsAt.same (sL.trans sM) rlr q (List.mem_reverse.mp hq)
    refine s_nil (c_makeRT hM nr fr (by omega) rr fun x3 HN kx sN ox rx => ?_)
    have R3 := rn_rev N1 elr ox rx
    clear rx ox kx hM rr
    have sKN := sL.trans (sM.trans sN)
    refine s_nil ⟨x3, n1, ns1, rfl, R3, N1, by omega, fun p3 a3 bb3 ks3 L3 f3 HO sO C3 G3 M3 B3 => ?_⟩
    have eL3 := G3.ti.eq N1.few (by omega) G1.ti
    subst eL3
    obtain ⟨eb3, ef3⟩ := Dd.uniq (n := n1) (ns := ns1) B3 B1
    subst eb3
    subst ef3
    have s8O : Same H8 HO := s8K.trans (sKN.trans sO)
    refine s_var rfl ⟨_, _, dp_cs C3, dp_cs (C18.same s8O), sh_sh _ _ _, sh_sh _ _ _, ?_⟩
    rw [eq_sh]
    refine ⟨_, rfl, ?_⟩
    walk_at "sx"
    refine ⟨x2, n2, ns2, rfl, R28.same s8O, N2, by omega, fun p4 a4 bb4 ks4 L4 f4 HP sP C4 G4 M4 B4 => ?_⟩
    have eL4 := G4.ti.eq N2.few (by omega) G2.ti
    subst eL4
    obtain ⟨eb4, ef4⟩ := Dd.uniq (n := n2) (ns := ns2) B4 B2
    subst eb4
    subst ef4
    have s8P : Same H8 HP := s8O.trans sP
    walk_at "sx"
    refine ⟨_, _, dp_cs C4, dp_cs (C2.same s8P), sh_sh _ _ _, sh_sh _ _ _, ?_⟩
    rw [eq_sh]
    walk_at "sx"
    obtain ⟨k1, ru1, ek1⟩ := R18.same s8P
    obtain ⟨ls1, hl1e, rl1, el1⟩ := L18.same s8P
    obtain ⟨y1, t1, kn1, g1, g2, g3, rows1, asc1, ne1, sz1⟩ := id ru1
    obtain ⟨k2, ru2, ek2⟩ := R28.same s8P
    obtain ⟨ls2, hl2e, rl2, el2⟩ := L28.same s8P
    obtain ⟨y2, t2, kn2, f1', f2', f3', rows2, asc2, ne2, sz2⟩ := id ru2
    refine r_get rfl g1 T.cl_Rules T.no_Rules_rows rfl ?_
    walk_at "sx"
    refine ⟨D, _, rfl, .inl ⟨SqL.of hl1e, fun pe npe => ?_⟩⟩
    generalize hE : upd HP pe _ = HE
    have sE := new_same npe hE
    have gE := new_at hE
    clear hE
    refine ⟨dRows k1, dRows ls1, dp_rows (sE _ _ g2) (RowsAt.same sE rows1), dp_rows gE (RowsAt.same sE rl1), sh_rows k1, sh_rows ls1, ?_⟩
    rw [dRows_eq (ek1.trans el1.symm), PySem.SeqAt.eqv_refl _ (PySem.SeqAt.canLay_of_shaped (sh_rows ls1))]
    walk_at "sx"
    refine r_get rfl (sE _ _ f1') T.cl_Rules T.no_Rules_rows rfl ?_
    walk_at "sx"
    refine ⟨D2, _, rfl, .inl ⟨SqL.of (sE _ _ hl2e), fun pf npf => ?_⟩⟩
    generalize hE : upd HE pf _ = HF
    have sF := new_same npf hE
    have gF := new_at hE
    clear hE
    have sEF := sE.trans sF
    refine ⟨dRows k2, dRows ls2, dp_rows (sEF _ _ f2') (RowsAt.same sEF rows2), dp_rows gF (RowsAt.same sEF rl2), sh_rows k2, sh_rows ls2, ?_⟩
    rw [dRows_eq (ek2.trans el2.symm), PySem.SeqAt.eqv_refl _ (PySem.SeqAt.canLay_of_shaped (sh_rows ls2))]
    exact k HF
end
end K37

set_option Elab.async false
set_option linter.all false
set_option maxRecDepth 100000
set_option maxHeartbeats 4000000
namespace K37
open PySem L2 Sx
local macro_rules | `(tactic| walk_at "cond") => `(tactic| first
  | assumption
  | decide
  | exact c_mul_r (by first | decide | omega) (by first | decide | omega)
  | exact c_mul_l (by first | decide | omega) (by first | decide | omega)
  | exact c_div (by first | decide | omega) (by first | decide | omega)
  | exact c_pow (by first | decide | omega) (by first | decide | omega) (by first | decide | omega)
  | omega)
local macro_rules | `(tactic| walk_at "ne") => `(tactic| first
  | assumption
  | (refine Ne.symm ?_; assumption)
  | (refine' Flow.ne ?nh ?nn; (case nn => assumption); (case nh => walk_at "fl"))
  | (refine Ne.symm ?_; refine' Flow.ne ?nh ?nn; (case nn => assumption); (case nh => walk_at "fl"))
  | (refine' ne_of_none ?nh ?nn; (case nn => assumption); (case nh => walk_at "at"))
  | (refine Ne.symm ?_; refine' ne_of_none ?nh ?nn; (case nn => assumption); (case nh => walk_at "at")))
local macro_rules | `(tactic| walk_at "at") => `(tactic| first
  | assumption
  | (refine Same.up (by assumption) ?_; walk_at "at")
  | (refine Keep.up (by assumption) (by walk_at "ne") ?_; walk_at "at"))
local macro_rules | `(tactic| walk_at "fl") => `(tactic| first
  | assumption
  | (refine Flow.same (by assumption) ?_; walk_at "fl")
  | (refine Flow.keep (by assumption) (by walk_at "ne") ?_; walk_at "fl"))
local macro_rules | `(tactic| walk_at "fr") => `(tactic| first
  | assumption
  | (refine same_free (by assumption) ?_; walk_at "fr")
  | (refine Keep.free (by assumption) (by walk_at "ne") ?_; walk_at "fr"))
local macro_rules | `(tactic| walk_at "kp") => `(tactic| first
  | assumption
  | exact Keep.refl _ _
  | (refine Keep.trans ?_ (by assumption); walk_at "kp")
  | (refine Keep.trans ?_ (Keep.same (by assumption)); walk_at "kp"))
local macro_rules | `(tactic| walk_at "sm") => `(tactic| first
  | assumption
  | exact L2.Same.refl _
  | (refine L2.Same.trans ?_ (by assumption); walk_at "sm"))
local macro_rules | `(tactic| walk_at "sz") => `(tactic| first | exact Nat.le_of_ble_eq_true rfl | omega)
local macro_rules | `(tactic| walk_at "new") => `(tactic| (intro p np; generalize hE : upd _ p _ = H2; have s2 := new_same np hE; have h2 := new_at hE; clear hE))
local macro_rules | `(tactic| walk_at "newx") => `(tactic| (intro e d na nd hda; generalize hE : upd (upd _ d _) e _ = H2; have s2 := newx_same na nd hE; have h2 := newx_at hE; have h3 := newx_d hda hE; clear hE))
local macro_rules | `(tactic| walk_at "s1") => `(tactic| first
  | with_reducible refine s_seq ?_
  | with_reducible refine s_asg ?_
  | with_reducible refine s_name ?_
  | with_reducible refine s_ret ?_
  | with_reducible refine s_c ?_
  | ((with_reducible refine' s_var ?hv ?_); (case hv => rfl))
  | with_reducible refine s_op ?_
  | with_reducible refine s_un ?_
  | with_reducible refine s_ifS ?_
  | with_reducible refine s_cb ?_
  | with_reducible refine s_cons ?_
  | with_reducible refine s_nil ?_
  | with_reducible refine s_call ?_
  | with_reducible refine s_test ?_
  | with_reducible refine s_tB ?_
  | with_reducible refine s_bl ?_
  | with_reducible refine s_and ?_
  | with_reducible refine s_or ?_
  | with_reducible refine s_not ?_
  | with_reducible refine s_andV ?_
  | with_reducible refine s_orV ?_
  | with_reducible refine s_notV ?_
  | with_reducible refine s_blV ?_
  | with_reducible refine s_if ?_
  | with_reducible refine s_tup ?_
  | with_reducible refine s_lst ?_
  | with_reducible refine s_drop ?_
  | with_reducible refine s_next ?_
  | with_reducible refine s_sub ?_
  | with_reducible refine s_bm ?_
  | with_reducible refine s_callK ?_
  | with_reducible refine s_brk ?_
  | with_reducible refine s_cont ?_
  | with_reducible refine r_I0 ?_
  | with_reducible refine r_U ?_
  | with_reducible refine r_eqI ?_
  | with_reducible refine r_neI ?_
  | with_reducible refine r_isB ?_
  | with_reducible refine r_notB ?_
  | with_reducible refine i_t ?_
  | with_reducible refine i_f ?_
  | with_reducible refine i_nt ?_
  | with_reducible refine i_nf ?_
  | ((with_reducible refine' r_I ?hc ?_); (case hc => walk_at "cond"))
  | (with_reducible refine .inl ⟨_, rfl, ?_⟩)
  | (with_reducible refine ⟨_, rfl, ?_⟩)
  | ((with_reducible refine' r_ixL ?hx ?ha ?_); (case hx => walk_at "at"); (case ha => rfl))
  | ((with_reducible refine' r_ixT ?hx ?ha ?_); (case hx => walk_at "at"); (case ha => rfl))
  | ((with_reducible refine' r_setL ?hx ?ha ?_); (case hx => walk_at "at"); (case ha => rfl); intro H2 k2 h2; (try dsimp only [List.set, Int.toNat] at h2))
  | ((with_reducible refine' r_app ?hx ?hl ?_); (case hx => walk_at "at"); (case hl => first | exact Nat.lt_of_ble_eq_true rfl | omega); intro H2 k2 h2)
  | ((with_reducible refine' ty_list ?hx ?_); (case hx => walk_at "at"))
  | (refine And.intro (by (with_reducible show _ ≤ sizeLine); walk_at "sz") ?_; walk_at "new")
  | with_reducible refine s_exv ?_
  | walk_at "newx")
local macro_rules | `(tactic| walk_at "sx") => `(tactic| repeat (walk_at "s1"))
local macro_rules | `(tactic| walk_at "s2") => `(tactic| first
  | ((with_reducible refine' r_ixG ?hx ?hn ?_); (case hx => walk_at "at"); (case hn => omega))
  | ((with_reducible refine' r_ixGT ?hx ?hn ?_); (case hx => walk_at "at"); (case hn => omega))
  | (with_reducible refine ig_cons (fun hix => ?_) (fun hix => ?_))
  | ((with_reducible refine ig_nil ?_); omega)
  | ((with_reducible refine' i_T ?hc ?_); (case hc => omega))
  | ((with_reducible refine' i_F ?hc ?_); (case hc => omega))
  | (with_reducible refine i_2 (fun hc => ?_) (fun hc => ?_))
  | (with_reducible refine i_n2 (fun hc => ?_) (fun hc => ?_)))
local macro_rules | `(tactic| walk_at "go") => `(tactic| repeat' (first | walk_at "s1" | walk_at "s2"))

local macro_rules | `(tactic| walk_at "s1") => `(tactic| first
  | with_reducible refine s_chain ?_
  | with_reducible refine s_fldS ?_
  | with_reducible refine s_fld ?_
  | with_reducible refine s_dIn ?_
  | with_reducible refine s_dNotIn ?_
  | with_reducible refine s_sl ?_
  | with_reducible refine s_noPart ?_
  | with_reducible refine s_part ?_
  | with_reducible refine s_meth ?_
  | with_reducible refine s_make ?_)

section
variable {P : Program} {w : World} {K : PySem.W.Frag} {mg : Str → Option Value} {base : Heap} {A : Ad}
def spLaw (K : PySem.W.Frag) : Sp := fun vs H Q _ => ∃ (a : Addr) (ns : List Int), vs = [.ref a] ∧ SqL K H a (ns.map V.int) ∧ ns.length ≤ 63 ∧ ∀ H', Q (.bl true) H'
theorem ok_law (T : Txt P K mg A) : FnOk P w K mg base CX0 11 A.a_law A.d_law ["script"] (spLaw K) := by
  refine T.F_law.ok sc_law (fun vs H Q E h => ?_) (fun cdv A' outer s H vs Q E hr h => ?_)
  · obtain ⟨a, ns, rfl, _⟩ := h
    rfl
  · obtain ⟨a, ns, rfl, hS, hn, k⟩ := h
    have G__law_all := ok_all (w := w) (base := base) T
    refine ⟨_, (pss_one (ps_try_thru0 (pss_one (ps_ret (pe_call G__law_all (hr.mono (by decide)) rfl T.g__law_all T.F__law_all.kp (B__law_all T) .nil pass0 (pa_cons (pv 0) pa_nil)))))), ?_⟩
    walk_at "sx"
    exact ⟨a, ns, rfl, hS, k⟩
end
theorem all_mk {l : PySem.W.OpenLaw} {w : World} {K : PySem.W.Frag} {h : Heap} {mg : Str → Option Value} {fa : Addr} (X : K.In h) (G : h.Ns mainGlobals mg) (hfa : mg "law" = some (.ref fa))
    {C_Rules : Addr} {C_Spread : Addr} {f0 : Addr} {od0 an0 : Option Addr} {sl0 : Array (Option Value)} {oc0 kV0 dc0 pm0 cd0 ct0 : Value} {f1 : Addr} {od1 an1 : Option Addr} {sl1 : Array (Option Value)} {oc1 kV1 dc1 pm1 cd1 ct1 : Value} {f2 : Addr} {od2 an2 : Option Addr} {sl2 : Array (Option Value)} {oc2 kV2 dc2 pm2 cd2 ct2 : Value} {f3 : Addr} {od3 an3 : Option Addr} {sl3 : Array (Option Value)} {oc3 kV3 dc3 pm3 cd3 ct3 : Value} {f4 : Addr} {od4 an4 : Option Addr} {sl4 : Array (Option Value)} {oc4 kV4 dc4 pm4 cd4 ct4 : Value} {f5 : Addr} {od5 an5 : Option Addr} {sl5 : Array (Option Value)} {oc5 kV5 dc5 pm5 cd5 ct5 : Value} {f6 : Addr} {od6 an6 : Option Addr} {sl6 : Array (Option Value)} {oc6 kV6 dc6 pm6 cd6 ct6 : Value} {f7 : Addr} {od7 an7 : Option Addr} {sl7 : Array (Option Value)} {oc7 kV7 dc7 pm7 cd7 ct7 : Value} {f8 : Addr} {od8 an8 : Option Addr} {sl8 : Array (Option Value)} {oc8 kV8 dc8 pm8 cd8 ct8 : Value} {f9 : Addr} {od9 an9 : Option Addr} {sl9 : Array (Option Value)} {oc9 kV9 dc9 pm9 cd9 ct9 : Value} {f10 : Addr} {od10 an10 : Option Addr} {sl10 : Array (Option Value)} {oc10 kV10 dc10 pm10 cd10 ct10 : Value} {f11 : Addr} {od11 an11 : Option Addr} {sl11 : Array (Option Value)} {oc11 kV11 dc11 pm11 cd11 ct11 : Value} {f12 : Addr} {od12 an12 : Option Addr} {sl12 : Array (Option Value)} {oc12 kV12 dc12 pm12 cd12 ct12 : Value} {f13 : Addr} {od13 an13 : Option Addr} {sl13 : Array (Option Value)} {oc13 kV13 dc13 pm13 cd13 ct13 : Value} {f14 : Addr} {od14 an14 : Option Addr} {sl14 : Array (Option Value)} {oc14 kV14 dc14 pm14 cd14 ct14 : Value} {f15 : Addr} {od15 an15 : Option Addr} {sl15 : Array (Option Value)} {oc15 kV15 dc15 pm15 cd15 ct15 : Value} {f16 : Addr} {od16 an16 : Option Addr} {sl16 : Array (Option Value)} {oc16 kV16 dc16 pm16 cd16 ct16 : Value} {f17 : Addr} {od17 an17 : Option Addr} {sl17 : Array (Option Value)} {oc17 kV17 dc17 pm17 cd17 ct17 : Value} {f18 : Addr} {od18 an18 : Option Addr} {sl18 : Array (Option Value)} {oc18 kV18 dc18 pm18 cd18 ct18 : Value} {f19 : Addr} {od19 an19 : Option Addr} {sl19 : Array (Option Value)} {oc19 kV19 dc19 pm19 cd19 ct19 : Value} {f20 : Addr} {od20 an20 : Option Addr} {sl20 : Array (Option Value)} {oc20 kV20 dc20 pm20 cd20 ct20 : Value} {f21 : Addr} {od21 an21 : Option Addr} {sl21 : Array (Option Value)} {oc21 kV21 dc21 pm21 cd21 ct21 : Value} {f22 : Addr} {od22 an22 : Option Addr} {sl22 : Array (Option Value)} {oc22 kV22 dc22 pm22 cd22 ct22 : Value} {f23 : Addr} {od23 an23 : Option Addr} {sl23 : Array (Option Value)} {oc23 kV23 dc23 pm23 cd23 ct23 : Value} {f24 : Addr} {od24 an24 : Option Addr} {sl24 : Array (Option Value)} {oc24 kV24 dc24 pm24 cd24 ct24 : Value} {f25 : Addr} {od25 an25 : Option Addr} {sl25 : Array (Option Value)} {oc25 kV25 dc25 pm25 cd25 ct25 : Value} {f26 : Addr} {od26 an26 : Option Addr} {sl26 : Array (Option Value)} {oc26 kV26 dc26 pm26 cd26 ct26 : Value} {f27 : Addr} {od27 an27 : Option Addr} {sl27 : Array (Option Value)} {oc27 kV27 dc27 pm27 cd27 ct27 : Value} {f28 : Addr} {od28 an28 : Option Addr} {sl28 : Array (Option Value)} {oc28 kV28 dc28 pm28 cd28 ct28 : Value} {f29 : Addr} {od29 an29 : Option Addr} {sl29 : Array (Option Value)} {oc29 kV29 dc29 pm29 cd29 ct29 : Value} {f30 : Addr} {od30 an30 : Option Addr} {sl30 : Array (Option Value)} {oc30 kV30 dc30 pm30 cd30 ct30 : Value} {f31 : Addr} {od31 an31 : Option Addr} {sl31 : Array (Option Value)} {oc31 kV31 dc31 pm31 cd31 ct31 : Value} {f32 : Addr} {od32 an32 : Option Addr} {sl32 : Array (Option Value)} {oc32 kV32 dc32 pm32 cd32 ct32 : Value} {f33 : Addr} {od33 an33 : Option Addr} {sl33 : Array (Option Value)} {oc33 kV33 dc33 pm33 cd33 ct33 : Value} {f34 : Addr} {od34 an34 : Option Addr} {sl34 : Array (Option Value)} {oc34 kV34 dc34 pm34 cd34 ct34 : Value}
    (a0 : PySem.W.nsIn K mainGlobals "is_an_integer" = some (some (.ref f0)))
    (l0 : K.lookup f0 = some ⟨oc0, od0, .func (PySem.W.fnOf "is_an_integer" "is_an_integer" (defArgs s_is_an_integer) (defBody s_is_an_integer) (defScope s_is_an_integer) .none kV0 dc0 pm0 an0 cd0 ct0), sl0⟩)
    (c0 : PySem.W.codeIn K cd0 "is_an_integer" = true)
    (k0 : PySem.W.keepIn K (.ref f0) = true)
    (a1 : PySem.W.nsIn K mainGlobals "is_number" = some (some (.ref f1)))
    (l1 : K.lookup f1 = some ⟨oc1, od1, .func (PySem.W.fnOf "is_number" "is_number" (defArgs s_is_number) (defBody s_is_number) (defScope s_is_number) .none kV1 dc1 pm1 an1 cd1 ct1), sl1⟩)
    (c1 : PySem.W.codeIn K cd1 "is_number" = true)
    (k1 : PySem.W.keepIn K (.ref f1) = true)
    (a2 : PySem.W.nsIn K mainGlobals "is_value" = some (some (.ref f2)))
    (l2 : K.lookup f2 = some ⟨oc2, od2, .func (PySem.W.fnOf "is_value" "is_value" (defArgs s_is_value) (defBody s_is_value) (defScope s_is_value) .none kV2 dc2 pm2 an2 cd2 ct2), sl2⟩)
    (c2 : PySem.W.codeIn K cd2 "is_value" = true)
    (k2 : PySem.W.keepIn K (.ref f2) = true)
    (a3 : PySem.W.nsIn K mainGlobals "is_row" = some (some (.ref f3)))
    (l3 : K.lookup f3 = some ⟨oc3, od3, .func (PySem.W.fnOf "is_row" "is_row" (defArgs s_is_row) (defBody s_is_row) (defScope s_is_row) .none kV3 dc3 pm3 an3 cd3 ct3), sl3⟩)
    (c3 : PySem.W.codeIn K cd3 "is_row" = true)
    (k3 : PySem.W.keepIn K (.ref f3) = true)
    (a4 : PySem.W.nsIn K mainGlobals "with_value" = some (some (.ref f4)))
    (l4 : K.lookup f4 = some ⟨oc4, od4, .func (PySem.W.fnOf "with_value" "with_value" (defArgs s_with_value) (defBody s_with_value) (defScope s_with_value) .none kV4 dc4 pm4 an4 cd4 ct4), sl4⟩)
    (c4 : PySem.W.codeIn K cd4 "with_value" = true)
    (k4 : PySem.W.keepIn K (.ref f4) = true)
    (a5 : PySem.W.nsIn K mainGlobals "are_rows" = some (some (.ref f5)))
    (l5 : K.lookup f5 = some ⟨oc5, od5, .func (PySem.W.fnOf "are_rows" "are_rows" (defArgs s_are_rows) (defBody s_are_rows) (defScope s_are_rows) .none kV5 dc5 pm5 an5 cd5 ct5), sl5⟩)
    (c5 : PySem.W.codeIn K cd5 "are_rows" = true)
    (k5 : PySem.W.keepIn K (.ref f5) = true)
    (a6 : PySem.W.findIn K (.ref C_Rules) "__init__" = some (some (.ref f6)))
    (l6 : K.lookup f6 = some ⟨oc6, od6, .func (PySem.W.fnOf "__init__" "Rules.__init__" (defArgs s_Rules____init__) (defBody s_Rules____init__) (defScope s_Rules____init__) .none kV6 dc6 pm6 an6 cd6 ct6), sl6⟩)
    (c6 : PySem.W.codeIn K cd6 "Rules.__init__" = true)
    (k6 : PySem.W.keepIn K (.ref f6) = true)
    (a7 : PySem.W.findIn K (.ref C_Rules) "__len__" = some (some (.ref f7)))
    (l7 : K.lookup f7 = some ⟨oc7, od7, .func (PySem.W.fnOf "__len__" "Rules.__len__" (defArgs s_Rules____len__) (defBody s_Rules____len__) (defScope s_Rules____len__) .none kV7 dc7 pm7 an7 cd7 ct7), sl7⟩)
    (c7 : PySem.W.codeIn K cd7 "Rules.__len__" = true)
    (k7 : PySem.W.keepIn K (.ref f7) = true)
    (a8 : PySem.W.nsIn K mainGlobals "share_of" = some (some (.ref f8)))
    (l8 : K.lookup f8 = some ⟨oc8, od8, .func (PySem.W.fnOf "share_of" "share_of" (defArgs s_share_of) (defBody s_share_of) (defScope s_share_of) .none kV8 dc8 pm8 an8 cd8 ct8), sl8⟩)
    (c8 : PySem.W.codeIn K cd8 "share_of" = true)
    (k8 : PySem.W.keepIn K (.ref f8) = true)
    (a9 : PySem.W.nsIn K mainGlobals "ties_of" = some (some (.ref f9)))
    (l9 : K.lookup f9 = some ⟨oc9, od9, .func (PySem.W.fnOf "ties_of" "ties_of" (defArgs s_ties_of) (defBody s_ties_of) (defScope s_ties_of) .none kV9 dc9 pm9 an9 cd9 ct9), sl9⟩)
    (c9 : PySem.W.codeIn K cd9 "ties_of" = true)
    (k9 : PySem.W.keepIn K (.ref f9) = true)
    (a10 : PySem.W.nsIn K mainGlobals "inside" = some (some (.ref f10)))
    (l10 : K.lookup f10 = some ⟨oc10, od10, .func (PySem.W.fnOf "inside" "inside" (defArgs s_inside) (defBody s_inside) (defScope s_inside) .none kV10 dc10 pm10 an10 cd10 ct10), sl10⟩)
    (c10 : PySem.W.codeIn K cd10 "inside" = true)
    (k10 : PySem.W.keepIn K (.ref f10) = true)
    (a11 : PySem.W.findIn K (.ref C_Spread) "__init__" = some (some (.ref f11)))
    (l11 : K.lookup f11 = some ⟨oc11, od11, .func (PySem.W.fnOf "__init__" "Spread.__init__" (defArgs s_Spread____init__) (defBody s_Spread____init__) (defScope s_Spread____init__) .none kV11 dc11 pm11 an11 cd11 ct11), sl11⟩)
    (c11 : PySem.W.codeIn K cd11 "Spread.__init__" = true)
    (k11 : PySem.W.keepIn K (.ref f11) = true)
    (a12 : PySem.W.findIn K (.ref C_Spread) "settle" = some (some (.ref f12)))
    (l12 : K.lookup f12 = some ⟨oc12, od12, .func (PySem.W.fnOf "settle" "Spread.settle" (defArgs s_Spread__settle) (defBody s_Spread__settle) (defScope s_Spread__settle) .none kV12 dc12 pm12 an12 cd12 ct12), sl12⟩)
    (c12 : PySem.W.codeIn K cd12 "Spread.settle" = true)
    (k12 : PySem.W.keepIn K (.ref f12) = true)
    (a13 : PySem.W.findIn K (.ref C_Spread) "search" = some (some (.ref f13)))
    (l13 : K.lookup f13 = some ⟨oc13, od13, .func (PySem.W.fnOf "search" "Spread.search" (defArgs s_Spread__search) (defBody s_Spread__search) (defScope s_Spread__search) .none kV13 dc13 pm13 an13 cd13 ct13), sl13⟩)
    (c13 : PySem.W.codeIn K cd13 "Spread.search" = true)
    (k13 : PySem.W.keepIn K (.ref f13) = true)
    (a14 : PySem.W.findIn K (.ref C_Spread) "shift" = some (some (.ref f14)))
    (l14 : K.lookup f14 = some ⟨oc14, od14, .func (PySem.W.fnOf "shift" "Spread.shift" (defArgs s_Spread__shift) (defBody s_Spread__shift) (defScope s_Spread__shift) .none kV14 dc14 pm14 an14 cd14 ct14), sl14⟩)
    (c14 : PySem.W.codeIn K cd14 "Spread.shift" = true)
    (k14 : PySem.W.keepIn K (.ref f14) = true)
    (a15 : PySem.W.findIn K (.ref C_Spread) "first_amounts" = some (some (.ref f15)))
    (l15 : K.lookup f15 = some ⟨oc15, od15, .func (PySem.W.fnOf "first_amounts" "Spread.first_amounts" (defArgs s_Spread__first_amounts) (defBody s_Spread__first_amounts) (defScope s_Spread__first_amounts) .none kV15 dc15 pm15 an15 cd15 ct15), sl15⟩)
    (c15 : PySem.W.codeIn K cd15 "Spread.first_amounts" = true)
    (k15 : PySem.W.keepIn K (.ref f15) = true)
    (a16 : PySem.W.nsIn K mainGlobals "density" = some (some (.ref f16)))
    (l16 : K.lookup f16 = some ⟨oc16, od16, .func (PySem.W.fnOf "density" "density" (defArgs s_density) (defBody s_density) (defScope s_density) .none kV16 dc16 pm16 an16 cd16 ct16), sl16⟩)
    (c16 : PySem.W.codeIn K cd16 "density" = true)
    (k16 : PySem.W.keepIn K (.ref f16) = true)
    (a17 : PySem.W.nsIn K mainGlobals "portion" = some (some (.ref f17)))
    (l17 : K.lookup f17 = some ⟨oc17, od17, .func (PySem.W.fnOf "portion" "portion" (defArgs s_portion) (defBody s_portion) (defScope s_portion) .none kV17 dc17 pm17 an17 cd17 ct17), sl17⟩)
    (c17 : PySem.W.codeIn K cd17 "portion" = true)
    (k17 : PySem.W.keepIn K (.ref f17) = true)
    (a18 : PySem.W.nsIn K mainGlobals "densest" = some (some (.ref f18)))
    (l18 : K.lookup f18 = some ⟨oc18, od18, .func (PySem.W.fnOf "densest" "densest" (defArgs s_densest) (defBody s_densest) (defScope s_densest) .none kV18 dc18 pm18 an18 cd18 ct18), sl18⟩)
    (c18 : PySem.W.codeIn K cd18 "densest" = true)
    (k18 : PySem.W.keepIn K (.ref f18) = true)
    (a19 : PySem.W.nsIn K mainGlobals "evenest" = some (some (.ref f19)))
    (l19 : K.lookup f19 = some ⟨oc19, od19, .func (PySem.W.fnOf "evenest" "evenest" (defArgs s_evenest) (defBody s_evenest) (defScope s_evenest) .none kV19 dc19 pm19 an19 cd19 ct19), sl19⟩)
    (c19 : PySem.W.codeIn K cd19 "evenest" = true)
    (k19 : PySem.W.keepIn K (.ref f19) = true)
    (a20 : PySem.W.nsIn K mainGlobals "best_drawn" = some (some (.ref f20)))
    (l20 : K.lookup f20 = some ⟨oc20, od20, .func (PySem.W.fnOf "best_drawn" "best_drawn" (defArgs s_best_drawn) (defBody s_best_drawn) (defScope s_best_drawn) .none kV20 dc20 pm20 an20 cd20 ct20), sl20⟩)
    (c20 : PySem.W.codeIn K cd20 "best_drawn" = true)
    (k20 : PySem.W.keepIn K (.ref f20) = true)
    (a21 : PySem.W.nsIn K mainGlobals "_law_flow" = some (some (.ref f21)))
    (l21 : K.lookup f21 = some ⟨oc21, od21, .func (PySem.W.fnOf "_law_flow" "_law_flow" (defArgs s__law_flow) (defBody s__law_flow) (defScope s__law_flow) .none kV21 dc21 pm21 an21 cd21 ct21), sl21⟩)
    (c21 : PySem.W.codeIn K cd21 "_law_flow" = true)
    (k21 : PySem.W.keepIn K (.ref f21) = true)
    (a22 : PySem.W.nsIn K mainGlobals "_law_take" = some (some (.ref f22)))
    (l22 : K.lookup f22 = some ⟨oc22, od22, .func (PySem.W.fnOf "_law_take" "_law_take" (defArgs s__law_take) (defBody s__law_take) (defScope s__law_take) .none kV22 dc22 pm22 an22 cd22 ct22), sl22⟩)
    (c22 : PySem.W.codeIn K cd22 "_law_take" = true)
    (k22 : PySem.W.keepIn K (.ref f22) = true)
    (a23 : PySem.W.nsIn K mainGlobals "_law_full" = some (some (.ref f23)))
    (l23 : K.lookup f23 = some ⟨oc23, od23, .func (PySem.W.fnOf "_law_full" "_law_full" (defArgs s__law_full) (defBody s__law_full) (defScope s__law_full) .none kV23 dc23 pm23 an23 cd23 ct23), sl23⟩)
    (c23 : PySem.W.codeIn K cd23 "_law_full" = true)
    (k23 : PySem.W.keepIn K (.ref f23) = true)
    (a24 : PySem.W.nsIn K mainGlobals "_law_row" = some (some (.ref f24)))
    (l24 : K.lookup f24 = some ⟨oc24, od24, .func (PySem.W.fnOf "_law_row" "_law_row" (defArgs s__law_row) (defBody s__law_row) (defScope s__law_row) .none kV24 dc24 pm24 an24 cd24 ct24), sl24⟩)
    (c24 : PySem.W.codeIn K cd24 "_law_row" = true)
    (k24 : PySem.W.keepIn K (.ref f24) = true)
    (a25 : PySem.W.nsIn K mainGlobals "_law_ones" = some (some (.ref f25)))
    (l25 : K.lookup f25 = some ⟨oc25, od25, .func (PySem.W.fnOf "_law_ones" "_law_ones" (defArgs s__law_ones) (defBody s__law_ones) (defScope s__law_ones) .none kV25 dc25 pm25 an25 cd25 ct25), sl25⟩)
    (c25 : PySem.W.codeIn K cd25 "_law_ones" = true)
    (k25 : PySem.W.keepIn K (.ref f25) = true)
    (a26 : PySem.W.nsIn K mainGlobals "_law_walk" = some (some (.ref f26)))
    (l26 : K.lookup f26 = some ⟨oc26, od26, .func (PySem.W.fnOf "_law_walk" "_law_walk" (defArgs s__law_walk) (defBody s__law_walk) (defScope s__law_walk) .none kV26 dc26 pm26 an26 cd26 ct26), sl26⟩)
    (c26 : PySem.W.codeIn K cd26 "_law_walk" = true)
    (k26 : PySem.W.keepIn K (.ref f26) = true)
    (a27 : PySem.W.nsIn K mainGlobals "_law_product" = some (some (.ref f27)))
    (l27 : K.lookup f27 = some ⟨oc27, od27, .func (PySem.W.fnOf "_law_product" "_law_product" (defArgs s__law_product) (defBody s__law_product) (defScope s__law_product) .none kV27 dc27 pm27 an27 cd27 ct27), sl27⟩)
    (c27 : PySem.W.codeIn K cd27 "_law_product" = true)
    (k27 : PySem.W.keepIn K (.ref f27) = true)
    (a28 : PySem.W.nsIn K mainGlobals "_law_numbers" = some (some (.ref f28)))
    (l28 : K.lookup f28 = some ⟨oc28, od28, .func (PySem.W.fnOf "_law_numbers" "_law_numbers" (defArgs s__law_numbers) (defBody s__law_numbers) (defScope s__law_numbers) .none kV28 dc28 pm28 an28 cd28 ct28), sl28⟩)
    (c28 : PySem.W.codeIn K cd28 "_law_numbers" = true)
    (k28 : PySem.W.keepIn K (.ref f28) = true)
    (a29 : PySem.W.nsIn K mainGlobals "_law_densest" = some (some (.ref f29)))
    (l29 : K.lookup f29 = some ⟨oc29, od29, .func (PySem.W.fnOf "_law_densest" "_law_densest" (defArgs s__law_densest) (defBody s__law_densest) (defScope s__law_densest) .none kV29 dc29 pm29 an29 cd29 ct29), sl29⟩)
    (c29 : PySem.W.codeIn K cd29 "_law_densest" = true)
    (k29 : PySem.W.keepIn K (.ref f29) = true)
    (a30 : PySem.W.nsIn K mainGlobals "_law_divisor" = some (some (.ref f30)))
    (l30 : K.lookup f30 = some ⟨oc30, od30, .func (PySem.W.fnOf "_law_divisor" "_law_divisor" (defArgs s__law_divisor) (defBody s__law_divisor) (defScope s__law_divisor) .none kV30 dc30 pm30 an30 cd30 ct30), sl30⟩)
    (c30 : PySem.W.codeIn K cd30 "_law_divisor" = true)
    (k30 : PySem.W.keepIn K (.ref f30) = true)
    (a31 : PySem.W.nsIn K mainGlobals "_law_is_chance" = some (some (.ref f31)))
    (l31 : K.lookup f31 = some ⟨oc31, od31, .func (PySem.W.fnOf "_law_is_chance" "_law_is_chance" (defArgs s__law_is_chance) (defBody s__law_is_chance) (defScope s__law_is_chance) .none kV31 dc31 pm31 an31 cd31 ct31), sl31⟩)
    (c31 : PySem.W.codeIn K cd31 "_law_is_chance" = true)
    (k31 : PySem.W.keepIn K (.ref f31) = true)
    (a32 : PySem.W.nsIn K mainGlobals "_law_good" = some (some (.ref f32)))
    (l32 : K.lookup f32 = some ⟨oc32, od32, .func (PySem.W.fnOf "_law_good" "_law_good" (defArgs s__law_good) (defBody s__law_good) (defScope s__law_good) .none kV32 dc32 pm32 an32 cd32 ct32), sl32⟩)
    (c32 : PySem.W.codeIn K cd32 "_law_good" = true)
    (k32 : PySem.W.keepIn K (.ref f32) = true)
    (a33 : PySem.W.nsIn K mainGlobals "_law_all" = some (some (.ref f33)))
    (l33 : K.lookup f33 = some ⟨oc33, od33, .func (PySem.W.fnOf "_law_all" "_law_all" (defArgs s__law_all) (defBody s__law_all) (defScope s__law_all) .none kV33 dc33 pm33 an33 cd33 ct33), sl33⟩)
    (c33 : PySem.W.codeIn K cd33 "_law_all" = true)
    (k33 : PySem.W.keepIn K (.ref f33) = true)
    (a34 : PySem.W.nsIn K mainGlobals "law" = some (some (.ref f34)))
    (l34 : K.lookup f34 = some ⟨oc34, od34, .func (PySem.W.fnOf "law" "law" (defArgs s_law) (defBody s_law) (defScope s_law) .none kV34 dc34 pm34 an34 cd34 ct34), sl34⟩)
    (c34 : PySem.W.codeIn K cd34 "law" = true)
    (k34 : PySem.W.keepIn K (.ref f34) = true)
    (gC_Rules : PySem.W.nsIn K mainGlobals "Rules" = some (some (.ref C_Rules)))
    (pg_Rules : PySem.W.plainGet K C_Rules Str.empty = true)
    (hd_Rules : PySem.W.hasDictIn K C_Rules = true)
    (po_Rules : PySem.W.plainOver K C_Rules = true)
    (sa_Rules : PySem.W.findIn K (.ref C_Rules) "__setattr__" = some (some (.builtin "object.__setattr__")))
    (mk_Rules : PySem.W.makesIn K C_Rules = true)
    (kC_Rules : PySem.W.keepIn K (.ref C_Rules) = true)
    (fn_Rules___init__ : PySem.W.isFn K (.ref f6) = true)
    (fn_Rules___len__ : PySem.W.isFn K (.ref f7) = true)
    (no_Rules_size : PySem.W.findIn K (.ref C_Rules) "size" = some none)
    (no_Rules_rows : PySem.W.findIn K (.ref C_Rules) "rows" = some none)
    (no_Rules__known : PySem.W.findIn K (.ref C_Rules) "_known" = some none)
    (is_Rules : PySem.W.subIn K (.ref C_Rules) (.ref C_Rules) = some true)
    (mo_Rules : PySem.W.mroIn K C_Rules (.type "object") = some true)
    (co_Rules : PySem.W.findIn K (.ref C_Rules) "__class__" = some (some (.builtin "object.__class__")))
    (nint_Rules : PySem.W.subIn K (.ref C_Rules) (.type "int") = some false)
    (nbool_Rules : PySem.W.subIn K (.ref C_Rules) (.type "bool") = some false)
    (ntuple_Rules : PySem.W.subIn K (.ref C_Rules) (.type "tuple") = some false)
    (nstr_Rules : PySem.W.subIn K (.ref C_Rules) (.type "str") = some false)
    (nlist_Rules : PySem.W.subIn K (.ref C_Rules) (.type "list") = some false)
    (gC_Spread : PySem.W.nsIn K mainGlobals "Spread" = some (some (.ref C_Spread)))
    (pg_Spread : PySem.W.plainGet K C_Spread Str.empty = true)
    (hd_Spread : PySem.W.hasDictIn K C_Spread = true)
    (po_Spread : PySem.W.plainOver K C_Spread = true)
    (sa_Spread : PySem.W.findIn K (.ref C_Spread) "__setattr__" = some (some (.builtin "object.__setattr__")))
    (mk_Spread : PySem.W.makesIn K C_Spread = true)
    (kC_Spread : PySem.W.keepIn K (.ref C_Spread) = true)
    (fn_Spread___init__ : PySem.W.isFn K (.ref f11) = true)
    (fn_Spread_settle : PySem.W.isFn K (.ref f12) = true)
    (fn_Spread_search : PySem.W.isFn K (.ref f13) = true)
    (fn_Spread_shift : PySem.W.isFn K (.ref f14) = true)
    (fn_Spread_first_amounts : PySem.W.isFn K (.ref f15) = true)
    (no_Spread_loads : PySem.W.findIn K (.ref C_Spread) "loads" = some none)
    (no_Spread_arcs : PySem.W.findIn K (.ref C_Spread) "arcs" = some none)
    (no_Spread_ends : PySem.W.findIn K (.ref C_Spread) "ends" = some none)
    (no_Spread_room : PySem.W.findIn K (.ref C_Spread) "room" = some none)
    (is_Spread : PySem.W.subIn K (.ref C_Spread) (.ref C_Spread) = some true)
    (mo_Spread : PySem.W.mroIn K C_Spread (.type "object") = some true)
    (co_Spread : PySem.W.findIn K (.ref C_Spread) "__class__" = some (some (.builtin "object.__class__")))
    (nint_Spread : PySem.W.subIn K (.ref C_Spread) (.type "int") = some false)
    (nbool_Spread : PySem.W.subIn K (.ref C_Spread) (.type "bool") = some false)
    (ntuple_Spread : PySem.W.subIn K (.ref C_Spread) (.type "tuple") = some false)
    (nstr_Spread : PySem.W.subIn K (.ref C_Spread) (.type "str") = some false)
    (nlist_Spread : PySem.W.subIn K (.ref C_Spread) (.type "list") = some false)
    (sp1 : PySem.W.specialIn K (.builtin "object.__class__") "__get__" = some (some (.builtin "getset_descriptor.__get__")))
    (sp2 : PySem.W.takesIn K (.builtin "object.__class__") = some true)
    (z_abs : PySem.W.nsIn K mainGlobals "abs" = some none)
    (z_all : PySem.W.nsIn K mainGlobals "all" = some none)
    (z_bool : PySem.W.nsIn K mainGlobals "bool" = some none)
    (z_enumerate : PySem.W.nsIn K mainGlobals "enumerate" = some none)
    (z_int : PySem.W.nsIn K mainGlobals "int" = some none)
    (z_isinstance : PySem.W.nsIn K mainGlobals "isinstance" = some none)
    (z_len : PySem.W.nsIn K mainGlobals "len" = some none)
    (z_list : PySem.W.nsIn K mainGlobals "list" = some none)
    (z_min : PySem.W.nsIn K mainGlobals "min" = some none)
    (z_range : PySem.W.nsIn K mainGlobals "range" = some none)
    (z_set : PySem.W.nsIn K mainGlobals "set" = some none)
    (z_sorted : PySem.W.nsIn K mainGlobals "sorted" = some none)
    (z_sum : PySem.W.nsIn K mainGlobals "sum" = some none)
    (z_tuple : PySem.W.nsIn K mainGlobals "tuple" = some none)
    (z_zip : PySem.W.nsIn K mainGlobals "zip" = some none)
    (m_gcd : PySem.W.nsIn K mainGlobals "gcd" = some (some (.builtin "math.gcd")))
    : ∃ fd : FuncData, (∀ (s : Shared) (v : Value), BindsTo s fd ⟨[v], []⟩ [("script", v)]) ∧ ∀ base : Heap, K.In base → base.Ns mainGlobals mg → FnOk l.prog w K mg base CX0 11 fa fd ["script"] (spLaw K) := by
  have e := hfa.symm.trans (PySem.W.mg_of X G a34)
  cases e

  let A : Ad := ⟨f0, (PySem.W.fnOf "is_an_integer" "is_an_integer" (defArgs s_is_an_integer) (defBody s_is_an_integer) (defScope s_is_an_integer) .none kV0 dc0 pm0 an0 cd0 ct0), f1, (PySem.W.fnOf "is_number" "is_number" (defArgs s_is_number) (defBody s_is_number) (defScope s_is_number) .none kV1 dc1 pm1 an1 cd1 ct1), f2, (PySem.W.fnOf "is_value" "is_value" (defArgs s_is_value) (defBody s_is_value) (defScope s_is_value) .none kV2 dc2 pm2 an2 cd2 ct2), f3, (PySem.W.fnOf "is_row" "is_row" (defArgs s_is_row) (defBody s_is_row) (defScope s_is_row) .none kV3 dc3 pm3 an3 cd3 ct3), f4, (PySem.W.fnOf "with_value" "with_value" (defArgs s_with_value) (defBody s_with_value) (defScope s_with_value) .none kV4 dc4 pm4 an4 cd4 ct4), f5, (PySem.W.fnOf "are_rows" "are_rows" (defArgs s_are_rows) (defBody s_are_rows) (defScope s_are_rows) .none kV5 dc5 pm5 an5 cd5 ct5), f6, (PySem.W.fnOf "__init__" "Rules.__init__" (defArgs s_Rules____init__) (defBody s_Rules____init__) (defScope s_Rules____init__) .none kV6 dc6 pm6 an6 cd6 ct6), f7, (PySem.W.fnOf "__len__" "Rules.__len__" (defArgs s_Rules____len__) (defBody s_Rules____len__) (defScope s_Rules____len__) .none kV7 dc7 pm7 an7 cd7 ct7), f8, (PySem.W.fnOf "share_of" "share_of" (defArgs s_share_of) (defBody s_share_of) (defScope s_share_of) .none kV8 dc8 pm8 an8 cd8 ct8), f9, (PySem.W.fnOf "ties_of" "ties_of" (defArgs s_ties_of) (defBody s_ties_of) (defScope s_ties_of) .none kV9 dc9 pm9 an9 cd9 ct9), f10, (PySem.W.fnOf "inside" "inside" (defArgs s_inside) (defBody s_inside) (defScope s_inside) .none kV10 dc10 pm10 an10 cd10 ct10), f11, (PySem.W.fnOf "__init__" "Spread.__init__" (defArgs s_Spread____init__) (defBody s_Spread____init__) (defScope s_Spread____init__) .none kV11 dc11 pm11 an11 cd11 ct11), f12, (PySem.W.fnOf "settle" "Spread.settle" (defArgs s_Spread__settle) (defBody s_Spread__settle) (defScope s_Spread__settle) .none kV12 dc12 pm12 an12 cd12 ct12), f13, (PySem.W.fnOf "search" "Spread.search" (defArgs s_Spread__search) (defBody s_Spread__search) (defScope s_Spread__search) .none kV13 dc13 pm13 an13 cd13 ct13), f14, (PySem.W.fnOf "shift" "Spread.shift" (defArgs s_Spread__shift) (defBody s_Spread__shift) (defScope s_Spread__shift) .none kV14 dc14 pm14 an14 cd14 ct14), f15, (PySem.W.fnOf "first_amounts" "Spread.first_amounts" (defArgs s_Spread__first_amounts) (defBody s_Spread__first_amounts) (defScope s_Spread__first_amounts) .none kV15 dc15 pm15 an15 cd15 ct15), f16, (PySem.W.fnOf "density" "density" (defArgs s_density) (defBody s_density) (defScope s_density) .none kV16 dc16 pm16 an16 cd16 ct16), f17, (PySem.W.fnOf "portion" "portion" (defArgs s_portion) (defBody s_portion) (defScope s_portion) .none kV17 dc17 pm17 an17 cd17 ct17), f18, (PySem.W.fnOf "densest" "densest" (defArgs s_densest) (defBody s_densest) (defScope s_densest) .none kV18 dc18 pm18 an18 cd18 ct18), f19, (PySem.W.fnOf "evenest" "evenest" (defArgs s_evenest) (defBody s_evenest) (defScope s_evenest) .none kV19 dc19 pm19 an19 cd19 ct19), f20, (PySem.W.fnOf "best_drawn" "best_drawn" (defArgs s_best_drawn) (defBody s_best_drawn) (defScope s_best_drawn) .none kV20 dc20 pm20 an20 cd20 ct20), f21, (PySem.W.fnOf "_law_flow" "_law_flow" (defArgs s__law_flow) (defBody s__law_flow) (defScope s__law_flow) .none kV21 dc21 pm21 an21 cd21 ct21), f22, (PySem.W.fnOf "_law_take" "_law_take" (defArgs s__law_take) (defBody s__law_take) (defScope s__law_take) .none kV22 dc22 pm22 an22 cd22 ct22), f23, (PySem.W.fnOf "_law_full" "_law_full" (defArgs s__law_full) (defBody s__law_full) (defScope s__law_full) .none kV23 dc23 pm23 an23 cd23 ct23), f24, (PySem.W.fnOf "_law_row" "_law_row" (defArgs s__law_row) (defBody s__law_row) (defScope s__law_row) .none kV24 dc24 pm24 an24 cd24 ct24), f25, (PySem.W.fnOf "_law_ones" "_law_ones" (defArgs s__law_ones) (defBody s__law_ones) (defScope s__law_ones) .none kV25 dc25 pm25 an25 cd25 ct25), f26, (PySem.W.fnOf "_law_walk" "_law_walk" (defArgs s__law_walk) (defBody s__law_walk) (defScope s__law_walk) .none kV26 dc26 pm26 an26 cd26 ct26), f27, (PySem.W.fnOf "_law_product" "_law_product" (defArgs s__law_product) (defBody s__law_product) (defScope s__law_product) .none kV27 dc27 pm27 an27 cd27 ct27), f28, (PySem.W.fnOf "_law_numbers" "_law_numbers" (defArgs s__law_numbers) (defBody s__law_numbers) (defScope s__law_numbers) .none kV28 dc28 pm28 an28 cd28 ct28), f29, (PySem.W.fnOf "_law_densest" "_law_densest" (defArgs s__law_densest) (defBody s__law_densest) (defScope s__law_densest) .none kV29 dc29 pm29 an29 cd29 ct29), f30, (PySem.W.fnOf "_law_divisor" "_law_divisor" (defArgs s__law_divisor) (defBody s__law_divisor) (defScope s__law_divisor) .none kV30 dc30 pm30 an30 cd30 ct30), f31, (PySem.W.fnOf "_law_is_chance" "_law_is_chance" (defArgs s__law_is_chance) (defBody s__law_is_chance) (defScope s__law_is_chance) .none kV31 dc31 pm31 an31 cd31 ct31), f32, (PySem.W.fnOf "_law_good" "_law_good" (defArgs s__law_good) (defBody s__law_good) (defScope s__law_good) .none kV32 dc32 pm32 an32 cd32 ct32), f33, (PySem.W.fnOf "_law_all" "_law_all" (defArgs s__law_all) (defBody s__law_all) (defScope s__law_all) .none kV33 dc33 pm33 an33 cd33 ct33), fa, (PySem.W.fnOf "law" "law" (defArgs s_law) (defBody s_law) (defScope s_law) .none kV34 dc34 pm34 an34 cd34 ct34), C_Rules, C_Spread⟩
  have T : Txt l.prog K mg A := ⟨PySem.W.mg_of X G a0, fun_mk (st := s_is_an_integer) l0 c0 k0, PySem.W.mg_of X G a1, fun_mk (st := s_is_number) l1 c1 k1, PySem.W.mg_of X G a2, fun_mk (st := s_is_value) l2 c2 k2, PySem.W.mg_of X G a3, fun_mk (st := s_is_row) l3 c3 k3, PySem.W.mg_of X G a4, fun_mk (st := s_with_value) l4 c4 k4, PySem.W.mg_of X G a5, fun_mk (st := s_are_rows) l5 c5 k5, fun_mk (st := s_Rules____init__) l6 c6 k6, fun_mk (st := s_Rules____len__) l7 c7 k7, PySem.W.mg_of X G a8, fun_mk (st := s_share_of) l8 c8 k8, PySem.W.mg_of X G a9, fun_mk (st := s_ties_of) l9 c9 k9, PySem.W.mg_of X G a10, fun_mk (st := s_inside) l10 c10 k10, fun_mk (st := s_Spread____init__) l11 c11 k11, fun_mk (st := s_Spread__settle) l12 c12 k12, fun_mk (st := s_Spread__search) l13 c13 k13, fun_mk (st := s_Spread__shift) l14 c14 k14, fun_mk (st := s_Spread__first_amounts) l15 c15 k15, PySem.W.mg_of X G a16, fun_mk (st := s_density) l16 c16 k16, PySem.W.mg_of X G a17, fun_mk (st := s_portion) l17 c17 k17, PySem.W.mg_of X G a18, fun_mk (st := s_densest) l18 c18 k18, PySem.W.mg_of X G a19, fun_mk (st := s_evenest) l19 c19 k19, PySem.W.mg_of X G a20, fun_mk (st := s_best_drawn) l20 c20 k20, PySem.W.mg_of X G a21, fun_mk (st := s__law_flow) l21 c21 k21, PySem.W.mg_of X G a22, fun_mk (st := s__law_take) l22 c22 k22, PySem.W.mg_of X G a23, fun_mk (st := s__law_full) l23 c23 k23, PySem.W.mg_of X G a24, fun_mk (st := s__law_row) l24 c24 k24, PySem.W.mg_of X G a25, fun_mk (st := s__law_ones) l25 c25 k25, PySem.W.mg_of X G a26, fun_mk (st := s__law_walk) l26 c26 k26, PySem.W.mg_of X G a27, fun_mk (st := s__law_product) l27 c27 k27, PySem.W.mg_of X G a28, fun_mk (st := s__law_numbers) l28 c28 k28, PySem.W.mg_of X G a29, fun_mk (st := s__law_densest) l29 c29 k29, PySem.W.mg_of X G a30, fun_mk (st := s__law_divisor) l30 c30 k30, PySem.W.mg_of X G a31, fun_mk (st := s__law_is_chance) l31 c31 k31, PySem.W.mg_of X G a32, fun_mk (st := s__law_good) l32 c32 k32, PySem.W.mg_of X G a33, fun_mk (st := s__law_all) l33 c33 k33, PySem.W.mg_of X G a34, fun_mk (st := s_law) l34 c34 k34, PySem.W.mg_of X G gC_Rules, ⟨⟨pg_Rules, hd_Rules, po_Rules, sa_Rules⟩, co_Rules, sp1, sp2, mo_Rules, is_Rules, nint_Rules, nbool_Rules, ntuple_Rules, nstr_Rules, nlist_Rules⟩, ⟨mk_Rules, a6, fn_Rules___init__, kC_Rules⟩, no_Rules_size, no_Rules_rows, no_Rules__known, ⟨a7, fn_Rules___len__⟩, PySem.W.mg_of X G gC_Spread, ⟨⟨pg_Spread, hd_Spread, po_Spread, sa_Spread⟩, co_Spread, sp1, sp2, mo_Spread, is_Spread, nint_Spread, nbool_Spread, ntuple_Spread, nstr_Spread, nlist_Spread⟩, ⟨mk_Spread, a11, fn_Spread___init__, kC_Spread⟩, no_Spread_loads, no_Spread_arcs, no_Spread_ends, no_Spread_room, ⟨a12, fn_Spread_settle, k12⟩, ⟨a13, fn_Spread_search, k13⟩, ⟨a14, fn_Spread_shift, k14⟩, ⟨a15, fn_Spread_first_amounts, k15⟩, PySem.W.mg_none_of X G z_abs, PySem.W.mg_none_of X G z_all, PySem.W.mg_none_of X G z_bool, PySem.W.mg_none_of X G z_enumerate, PySem.W.mg_none_of X G z_int, PySem.W.mg_none_of X G z_isinstance, PySem.W.mg_none_of X G z_len, PySem.W.mg_none_of X G z_list, PySem.W.mg_none_of X G z_min, PySem.W.mg_none_of X G z_range, PySem.W.mg_none_of X G z_set, PySem.W.mg_none_of X G z_sorted, PySem.W.mg_none_of X G z_sum, PySem.W.mg_none_of X G z_tuple, PySem.W.mg_none_of X G z_zip, PySem.W.mg_of X G m_gcd⟩
  exact ⟨PySem.W.fnOf "law" "law" (defArgs s_law) (defBody s_law) (defScope s_law) .none kV34 dc34 pm34 an34 cd34 ct34, fun s v => .of_eq rfl, fun base _ _ => ok_law T⟩
theorem walk {l : PySem.W.OpenLaw} {q : Program} {loose : List Str} {XP : (Str → Option Value) → Heap → Prop} {YP : World → Heap → Prop} {d : DefRec} {K : Params → PySem.W.Frag} (hn : l.most = some 63) (hdf : d.params.defaults = [])
    (hY : ∀ (w : World) (h : Heap), YP w h → (K w.params).In h)
    (F : ∀ (w : World) (mg : Str → Option Value) (fa : Addr) (h : Heap), (K w.params).In h → h.Ns mainGlobals mg → mg d.name = some (.ref fa) →
      ∃ fd : FuncData, (∀ (s : Shared) (u : Value), BindsTo s fd ⟨[u], []⟩ [("script", u)]) ∧ ∀ base : Heap, (K w.params).In base → base.Ns mainGlobals mg → FnOk l.prog w (K w.params) mg base CX0 11 fa fd ["script"] (spLaw (K w.params))) :
    PySem.W.WalkO q loose XP YP l.row.toRowW d [] (fun f vs => PySem.call f vs) :=
  L2.walk_of (n := 63) (k := 11) (x := "script") (CX := fun _ => CX0) (sp := fun w => spLaw (K w.params)) hn (by decide) hdf ⟨rfl, by decide, by decide⟩ hY F (fun _ _ a ns hl _ hS => ⟨a, ns, rfl, hS, hl, fun _ => rfl⟩) fun _ _ _ _ _ z => z
end K37

set_option Elab.async false
set_option linter.all false
set_option maxRecDepth 100000
open PySem PySem.W PyProof.Rows
set_option maxRecDepth 100000 in
set_option maxHeartbeats 0 in
theorem PySem.Challenge.cw_nextguess_k37_best_drawn_guesses_holds : PySem.Challenge.rw_nextguess_k37_best_drawn_guesses.Holds := by
  w_on; o_law; k_head; (case hw => w_witness2)
  k_fill
  refine K37.walk (l := PySem.Challenge.rw_nextguess_k37_best_drawn_guesses) rfl rfl (fun w h Y => PySem.W.kIn_of Y) ?F
  case F =>
    intro w mg fa h KX G hmg
    refine' K37.all_mk KX G hmg ?a0 ?l0 ?c0 ?k0 ?a1 ?l1 ?c1 ?k1 ?a2 ?l2 ?c2 ?k2 ?a3 ?l3 ?c3 ?k3 ?a4 ?l4 ?c4 ?k4 ?a5 ?l5 ?c5 ?k5 ?a6 ?l6 ?c6 ?k6 ?a7 ?l7 ?c7 ?k7 ?a8 ?l8 ?c8 ?k8 ?a9 ?l9 ?c9 ?k9 ?a10 ?l10 ?c10 ?k10 ?a11 ?l11 ?c11 ?k11 ?a12 ?l12 ?c12 ?k12 ?a13 ?l13 ?c13 ?k13 ?a14 ?l14 ?c14 ?k14 ?a15 ?l15 ?c15 ?k15 ?a16 ?l16 ?c16 ?k16 ?a17 ?l17 ?c17 ?k17 ?a18 ?l18 ?c18 ?k18 ?a19 ?l19 ?c19 ?k19 ?a20 ?l20 ?c20 ?k20 ?a21 ?l21 ?c21 ?k21 ?a22 ?l22 ?c22 ?k22 ?a23 ?l23 ?c23 ?k23 ?a24 ?l24 ?c24 ?k24 ?a25 ?l25 ?c25 ?k25 ?a26 ?l26 ?c26 ?k26 ?a27 ?l27 ?c27 ?k27 ?a28 ?l28 ?c28 ?k28 ?a29 ?l29 ?c29 ?k29 ?a30 ?l30 ?c30 ?k30 ?a31 ?l31 ?c31 ?k31 ?a32 ?l32 ?c32 ?k32 ?a33 ?l33 ?c33 ?k33 ?a34 ?l34 ?c34 ?k34 ?gC_Rules ?pg_Rules ?hd_Rules ?po_Rules ?sa_Rules ?mk_Rules ?kC_Rules ?fn_Rules___init__ ?fn_Rules___len__ ?no_Rules_size ?no_Rules_rows ?no_Rules__known ?is_Rules ?mo_Rules ?co_Rules ?nint_Rules ?nbool_Rules ?ntuple_Rules ?nstr_Rules ?nlist_Rules ?gC_Spread ?pg_Spread ?hd_Spread ?po_Spread ?sa_Spread ?mk_Spread ?kC_Spread ?fn_Spread___init__ ?fn_Spread_settle ?fn_Spread_search ?fn_Spread_shift ?fn_Spread_first_amounts ?no_Spread_loads ?no_Spread_arcs ?no_Spread_ends ?no_Spread_room ?is_Spread ?mo_Spread ?co_Spread ?nint_Spread ?nbool_Spread ?ntuple_Spread ?nstr_Spread ?nlist_Spread ?sp1 ?sp2 ?z_abs ?z_all ?z_bool ?z_enumerate ?z_int ?z_isinstance ?z_len ?z_list ?z_min ?z_range ?z_set ?z_sorted ?z_sum ?z_tuple ?z_zip ?m_gcd
    (case gC_Rules => k_is)
    (case gC_Spread => k_is)
    (case a0 => k_is)
    (case l0 => k_is)
    (case c0 => k_is)
    (case k0 => k_is)
    (case a1 => k_is)
    (case l1 => k_is)
    (case c1 => k_is)
    (case k1 => k_is)
    (case a2 => k_is)
    (case l2 => k_is)
    (case c2 => k_is)
    (case k2 => k_is)
    (case a3 => k_is)
    (case l3 => k_is)
    (case c3 => k_is)
    (case k3 => k_is)
    (case a4 => k_is)
    (case l4 => k_is)
    (case c4 => k_is)
    (case k4 => k_is)
    (case a5 => k_is)
    (case l5 => k_is)
    (case c5 => k_is)
    (case k5 => k_is)
    (case a6 => k_is)
    (case l6 => k_is)
    (case c6 => k_is)
    (case k6 => k_is)
    (case a7 => k_is)
    (case l7 => k_is)
    (case c7 => k_is)
    (case k7 => k_is)
    (case a8 => k_is)
    (case l8 => k_is)
    (case c8 => k_is)
    (case k8 => k_is)
    (case a9 => k_is)
    (case l9 => k_is)
    (case c9 => k_is)
    (case k9 => k_is)
    (case a10 => k_is)
    (case l10 => k_is)
    (case c10 => k_is)
    (case k10 => k_is)
    (case a11 => k_is)
    (case l11 => k_is)
    (case c11 => k_is)
    (case k11 => k_is)
    (case a12 => k_is)
    (case l12 => k_is)
    (case c12 => k_is)
    (case k12 => k_is)
    (case a13 => k_is)
    (case l13 => k_is)
    (case c13 => k_is)
    (case k13 => k_is)
    (case a14 => k_is)
    (case l14 => k_is)
    (case c14 => k_is)
    (case k14 => k_is)
    (case a15 => k_is)
    (case l15 => k_is)
    (case c15 => k_is)
    (case k15 => k_is)
    (case a16 => k_is)
    (case l16 => k_is)
    (case c16 => k_is)
    (case k16 => k_is)
    (case a17 => k_is)
    (case l17 => k_is)
    (case c17 => k_is)
    (case k17 => k_is)
    (case a18 => k_is)
    (case l18 => k_is)
    (case c18 => k_is)
    (case k18 => k_is)
    (case a19 => k_is)
    (case l19 => k_is)
    (case c19 => k_is)
    (case k19 => k_is)
    (case a20 => k_is)
    (case l20 => k_is)
    (case c20 => k_is)
    (case k20 => k_is)
    (case a21 => k_is)
    (case l21 => k_is)
    (case c21 => k_is)
    (case k21 => k_is)
    (case a22 => k_is)
    (case l22 => k_is)
    (case c22 => k_is)
    (case k22 => k_is)
    (case a23 => k_is)
    (case l23 => k_is)
    (case c23 => k_is)
    (case k23 => k_is)
    (case a24 => k_is)
    (case l24 => k_is)
    (case c24 => k_is)
    (case k24 => k_is)
    (case a25 => k_is)
    (case l25 => k_is)
    (case c25 => k_is)
    (case k25 => k_is)
    (case a26 => k_is)
    (case l26 => k_is)
    (case c26 => k_is)
    (case k26 => k_is)
    (case a27 => k_is)
    (case l27 => k_is)
    (case c27 => k_is)
    (case k27 => k_is)
    (case a28 => k_is)
    (case l28 => k_is)
    (case c28 => k_is)
    (case k28 => k_is)
    (case a29 => k_is)
    (case l29 => k_is)
    (case c29 => k_is)
    (case k29 => k_is)
    (case a30 => k_is)
    (case l30 => k_is)
    (case c30 => k_is)
    (case k30 => k_is)
    (case a31 => k_is)
    (case l31 => k_is)
    (case c31 => k_is)
    (case k31 => k_is)
    (case a32 => k_is)
    (case l32 => k_is)
    (case c32 => k_is)
    (case k32 => k_is)
    (case a33 => k_is)
    (case l33 => k_is)
    (case c33 => k_is)
    (case k33 => k_is)
    (case a34 => k_is)
    (case l34 => k_is)
    (case c34 => k_is)
    (case k34 => k_is)
    (case pg_Rules => k_is)
    (case hd_Rules => k_is)
    (case po_Rules => k_is)
    (case sa_Rules => k_is)
    (case mk_Rules => k_is)
    (case kC_Rules => k_is)
    (case fn_Rules___init__ => k_is)
    (case fn_Rules___len__ => k_is)
    (case no_Rules_size => k_is)
    (case no_Rules_rows => k_is)
    (case no_Rules__known => k_is)
    (case is_Rules => k_is)
    (case mo_Rules => k_is)
    (case co_Rules => k_is)
    (case nint_Rules => k_is)
    (case nbool_Rules => k_is)
    (case ntuple_Rules => k_is)
    (case nstr_Rules => k_is)
    (case nlist_Rules => k_is)
    (case pg_Spread => k_is)
    (case hd_Spread => k_is)
    (case po_Spread => k_is)
    (case sa_Spread => k_is)
    (case mk_Spread => k_is)
    (case kC_Spread => k_is)
    (case fn_Spread___init__ => k_is)
    (case fn_Spread_settle => k_is)
    (case fn_Spread_search => k_is)
    (case fn_Spread_shift => k_is)
    (case fn_Spread_first_amounts => k_is)
    (case no_Spread_loads => k_is)
    (case no_Spread_arcs => k_is)
    (case no_Spread_ends => k_is)
    (case no_Spread_room => k_is)
    (case is_Spread => k_is)
    (case mo_Spread => k_is)
    (case co_Spread => k_is)
    (case nint_Spread => k_is)
    (case nbool_Spread => k_is)
    (case ntuple_Spread => k_is)
    (case nstr_Spread => k_is)
    (case nlist_Spread => k_is)
    (case sp1 => k_is)
    (case sp2 => k_is)
    (case z_abs => k_is)
    (case z_all => k_is)
    (case z_bool => k_is)
    (case z_enumerate => k_is)
    (case z_int => k_is)
    (case z_isinstance => k_is)
    (case z_len => k_is)
    (case z_list => k_is)
    (case z_min => k_is)
    (case z_range => k_is)
    (case z_set => k_is)
    (case z_sorted => k_is)
    (case z_sum => k_is)
    (case z_tuple => k_is)
    (case z_zip => k_is)
    (case m_gcd => k_is)
