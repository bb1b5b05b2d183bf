import PyProof.Rows.All
import Wide.All
import OpenK.AllK
import Wide.FinOn
import KE.KExcSuper
import HandS.ForMost
import HandS.ForExc
import HandS.ExcInit
import HandS.ExcSuper
import HandS.ExcField
import HandS.ExcIs
import HandS.HotCalls
import HandS.IsInst
import HandS.Gcd
import HandS.Wide
import HandS.Style
import HandS.DictComp
import HandS.TupSets
import PyProof.WalksMore
import HandS.SortOrd
import HandS.OwnEq
import OpenK.KOps
import HandS.TupAny
import HandS.Small
import HandS.SortInts
import PyProof.Draws
import PyProof.ZipIter
import PyProof.JoinWalk
import PyProof.ListRange
import PyProof.TupleIter
import HandS.Conv
import HandS.Walk
import PySem.Challenge.RW_nextguess_k04_rows_and_lots
set_option Elab.async false
set_option linter.all false
set_option maxRecDepth 100000
set_option maxHeartbeats 2000000
/-! An own exception class under a class under ValueError, whose __init__ is: super().__init__("text"); self.f = f. -/
namespace PySem
namespace SupX_value
open PySem.W PySem.Calls PyProof.Rows PySem.HandSPX
/-! ### the text of such an __init__ -/
def iA (p1 p2 : Pos) : Arguments := { posonlyargs := [], args := [{ arg := "self", annotation := none, pos := p1 }, { arg := "value", annotation := none, pos := p2 }], vararg := none, kwonlyargs := [], kw_defaults := [], kwarg := none, defaults := [] }
def iB (m : Str) (k : Nat) (p0 p1 p2 p3 p4 p5 q1 q2 q3 q4 : Pos) : List Stmt :=
  [.Expr (.Call (.Attribute (.Call (.Name "super" p0) [] [] p1) "__init__" p2) [.Constant (.str m) k p3] [] p4) p5,
   .Assign [.Attribute (.Name "self" q1) "value" q2] (.Name "value" q3) q4]
def iS : Scope := { kind := .function, names := [(PySem.Str.ofString "self", .local), (PySem.Str.ofString "value", .local), (PySem.Str.ofString "__class__", .free), (PySem.Str.ofString "super", .globalImplicit)], isGenerator := false, isCoroutine := false, more := [] }
/-- what the written part says of such a class at C, its __init__ at fI -/
structure XTxt (P : Program) (K : Frag) (mg : Str → Option Value) (x : Str) (C fI : Addr) : Prop where
  gC : mg x = some (.ref C)
  nm : (x == ("__debug__" : Str)) = false
  sup : mg "super" = none
  cls : ∃ nm q N bs bm sn sub ab col dd k0 k1 k2 k3 k5, K.lookup C = some (excClassObj nm q C N bs bm true sn sub ab col dd k0 k1 k2 k3 k5 "ValueError.__new__") ∧ refsVE bm = true
  sa : findIn K (.ref C) "__setattr__" = some (some (.builtin "object.__setattr__"))
  noN : findIn K (.ref C) "value" = some none
  iC : findIn K (.ref C) "__init__" = some (some (.ref fI))
  tC : typeIn K (.ref fI) = some (.type "function")
  kC : keepIn K (.ref C) = true
  exC : subIn K (.ref C) (.type "BaseException") = some true
  veC : subIn K (.ref C) (.type "ValueError") = some true
  tyC : typeIn K (.ref C) = some (.type "type")
  te : exmOne K (.ref C) (.ref C) = some true
  xf : L2.XfC K C
  sIn : ks_superIn K C C "__init__" = some (some (.builtin "ValueError.__init__"))
  opq : nsIn K cStatics "thirdparty.any" = some none
  mro : mroIn K C (.ref C) = some true
  htop : (P.main.scope.names.lookup ("super" : Str)).isSome = false
  fn : ∃ (oc : Value) (od : Option Addr) (doc pm : Value) (an : Option Addr) (cda cc : Addr) (ct : Value) (osl : Array (Option Value)) (qual m : Str) (k : Nat) (r1 r2 p0 p1 p2 p3 p4 p5 q1 q2 q3 q4 : Pos)
      (ccl cl : Value) (cdd cld : Option Addr) (ccs csl : Array (Option Value)) (vs : Array Value) (file : Str) (tf : Tok),
    K.lookup fI = some ⟨oc, od, .func (ksFn "__init__" qual (iA r1 r2) (iB m k p0 p1 p2 p3 p4 p5 q1 q2 q3 q4) iS .none .none doc pm an (.ref cda) ct cc), osl⟩ ∧ codeIn K (.ref cda) qual = true ∧ (p2.endLine == p4.line) = true ∧
    K.lookup cda = some ⟨ccl, cdd, .fields vs, ccs⟩ ∧ vs[2]? = some (.str file tf) ∧ ((P.main.file : Str) == file) = true ∧ K.lookup cc = some ⟨cl, cld, .cell (some (.ref C)), csl⟩
/-- what __init__ leaves of a fresh exception at x -/
structure InitEnd (h h' : Heap) (x C dx : Addr) (v : Value) : Prop where
  keep : ∀ b o, b ≠ x → h.get? b = some o → h'.get? b = some o
  obj : ∃ t1 : Addr, h'.get? x = some { cls := .ref C, dict := some dx, data := .fields #[.ref t1, .none, .none, .none, .bool false, .none] }
  dbig : h.objs.size ≤ dx
  dne : dx ≠ x
  ns : h'.Ns1 dx (fun y => if y = "value" then some v else none)
theorem kept_but {K : Frag} {h h' : Heap} {x : Addr} (X : K.In h) (hx : K.lookup x = none) (k : ∀ b o, b ≠ x → h.get? b = some o → h'.get? b = some o) : K.In h' := fun a o e =>
  k a o (fun z => by rw [z, hx] at e; cases e) (X a o e)
theorem two_size (v : Value) : [v].length ≤ sizeLine := by
  rw [sizeLine_eq]
  exact (by decide : 1 ≤ 16777216)
section
variable {prog : Program} {w : World} {A : Around} {E : Value → Shared → Prop} {h : Heap} {g : Array GenState} {d : Drawn} {t : Nat} {os : OsState}
variable {nm q : Str} {C N : Addr} {bs bm : List Value} {hdct : Bool} {sn : List Str} {sub : List Value} {ab : Bool} {col : Option Bool} {dd : Option Addr} {k0 k1 k2 k3 k5 : Option Value}
/-- the bound ValueError.__init__, called -/
theorem call_bw {u e t0 : Addr} {rest : List Value} {Q : Value → Shared → Prop}
    (hC : h.get? C = some (excClassObj nm q C N bs bm hdct sn sub ab col dd k0 k1 k2 k3 k5 "ValueError.__new__")) (he : h.get? e = some (excO C t0)) (hu : h.get? u = some (kxs_mw "ValueError.__init__" e)) (hrest : rest.length ≤ sizeLine)
    (hq : ∀ h' t1, (∀ b o, b ≠ e → h.get? b = some o → h'.get? b = some o) → h'.get? e = some (excO C t1) → Q .none ⟨h', g, d, t, os⟩) :
    wpAny (model prog w) A (call (.ref u) rest) Q E ⟨h, g, d, t, os⟩ := by
  refine wpAny_call (codeAny_of_tree ?_)
  show wpAny _ A.in1 (callAny (.ref u) ⟨rest, []⟩) _ _ _
  simp only [callAny]
  refine wpAny_bind (wpAny_load hu ?_)
  simp only [kxs_mw, show (Value.type "method-wrapper" == Value.type "method" || Value.type "method-wrapper" == Value.type "builtin_function_or_method" || Value.type "method-wrapper" == Value.type "method-wrapper") = true by decide, if_true]
  refine W.KFB.if_so (by decide) ?_
  refine wpAny_bind (ESX.check_bound F.excBase_ValueError hC he rfl ?_)
  refine wpAny_bind (wpAny_pure (wpAny_pure ?_))
  refine ⟨Code.quiet_builtin _ (by decide +kernel), codeAny_builtin F.excBase_ValueError.initEntry ?_⟩
  rw [Around.under_plainId F.excBase_ValueError.init.plain _]
  wp_walk
  refine hq _ h.objs.size (fun b o hb ho => ?_) ?_
  · rw [Heap.get?_update_other _ _ (Ne.symm hb)]
    exact Heap.get?_push_of_some _ ho
  · rw [Heap.get?_update_self _ (Heap.get?_push_of_some _ he) rfl]
    rfl
end
section
variable {prog : Program} {w : World} {A : Around} {R : Result → Shared → Prop} {s : Shared} {K : Frag} {mg : Str → Option Value} {x : Str} {C fI : Addr}
theorem sup_init (T : XTxt prog K mg x C fI) {e t0 : Addr} {v : Value} (X : K.In s.heap) (hlim : s.heap.NoLimit) (hg : s.heap.Ns mainGlobals mg) (hb : ∃ mb, s.heap.Ns builtinsNs mb ∧ ∀ y : Str, y ≠ "__name__" → mb y = bootBuiltins y)
    (hx : s.heap.get? e = some (excO C t0)) (hnx : K.lookup e = none) (hroom : A.depth < recursionLimit)
    (hq : ∀ h' tk dx, InitEnd s.heap h' e C dx v → R (.ok (.ret .none)) { s with heap := h', toks := tk }) :
    codeAny (model prog w) A (.call (.ref fI) ⟨[.ref e, v], []⟩) R s := by
  obtain ⟨oc, od, doc, pm, an, cda, cc, ct, osl, qual, m, k, r1, r2, p0, p1, p2, p3, p4, p5, q1, q2, q3, q4, ccl, cl, cdd, cld, ccs, csl, vs, file, tf, ho, hcd, hln, hcode, hvs, hfile, hcell⟩ := T.fn
  obtain ⟨nm, q, N, bs, bm, sn, sub, ab, col, dd, k0, k1, k2, k3, k5, hC, hbm⟩ := T.cls
  obtain ⟨mb, hb1, hb2⟩ := hb
  have hcl : clsIn K C = some { name := nm, bases := bs, mro := .ref C :: bm, ns := N, qualname := q, hasDict := true, slotNames := sn, subclasses := sub, abstract := ab, collection := col, hasDel := false } := by unfold clsIn; rw [hC] <;> rfl
  refine ks_codeAny_call_defAt (fd := ksFn "__init__" qual (iA r1 r2) (iB m k p0 p1 p2 p3 p4 p5 q1 q2 q3 q4) iS .none .none doc pm an (.ref cda) ct cc) (body := iB m k p0 p1 p2 p3 p4 p5 q1 q2 q3 q4) (binds := [("self", .ref e), ("value", v)])
    hroom (X _ _ ho) rfl hlim (codeRec_of X hcd) rfl (BindsTo.of_eq ?_) ?_ ?_ (fun h₁ hns hk₁ => ?_) rfl rfl rfl
  · first | rfl | with_unfolding_all rfl
  · intro y hy
    have hy2 : y ∈ [(PySem.Str.ofString "self", NameKind.local), (PySem.Str.ofString "value", .local), (PySem.Str.ofString "__class__", .free), (PySem.Str.ofString "super", .globalImplicit)] := hy
    simp only [List.mem_cons, List.not_mem_nil, or_false] at hy2
    rcases hy2 with rfl | rfl | rfl | rfl <;> intro z <;> cases z
  · intro y hy
    simp only [List.mem_cons, List.not_mem_nil, or_false] at hy
    rcases hy with rfl | rfl <;> rfl
  -- the frame: self, the field's value
  have X₁ : K.In h₁ := X.keeps hk₁
  have hx₁ := hk₁ _ _ hx
  have hC₁ := X₁ _ _ hC
  show _root_.PySem.wpAt _ _ _ (execs (iB m k p0 p1 p2 p3 p4 p5 q1 q2 q3 q4) _) _ _ _
  refine ks_wpAt_execs_cons (ks_wpAt_Expr_any (ks_wpAt_MethodCall (pl := (do return (← importBound (.Call (.Name "super" p0) [] [] p1) (callEnv
          (ksFn "__init__" qual (iA r1 r2) (iB m k p0 p1 p2 p3 p4 p5 q1 q2 q3 q4) iS .none .none doc pm an (.ref cda) ct cc) s.heap.objs.size fI)).getD true)) ?_ ?he) rfl rfl)
  case he =>
    rw [eval]
    unfold methodCall methodCallPos
    simp only [hln, Bool.or_true, if_true, pure_bind]
    rfl
  refine ks_wpAt_super_base (f := fI) (cc := cda) rfl rfl (by decide +kernel) rfl (X₁ _ _ ho) rfl rfl rfl (X₁ _ _ hcode) rfl hvs hfile T.htop ?_
  refine ks_loadName_global rfl rfl (loadGlobal_builtin (hg.keeps hk₁) T.sup (hb1.keeps hk₁) ((hb2 _ (by decide +kernel)).trans (show bootBuiltins "super" = some (.type "super") by first | rfl | decide +kernel | kernel_rfl)) ⟨rfl, ?_⟩)
  refine wpAny_loadName_free rfl rfl rfl ⟨_, X₁ _ _ hcell, rfl⟩ ?_
  refine wpAny_loadName_local (v := .ref e) rfl rfl hns (by rfl) ?_
  refine ks_wpAny_isType_cls hC₁ rfl ⟨rfl, ?_⟩
  refine ks_wpAny_call_super hC₁ rfl hx₁ rfl (fun c z => nomatch z) (looks_mroIn X₁ T.mro) (fun h₂ e₂ k₂ => ?_)
  have X₂ : K.In h₂ := X₁.keeps k₂
  have hx₂ := k₂ _ _ hx₁
  have hC₂ := X₂ _ _ hC
  have I₂ : InstAt h₂ e (excO C t0) C none := ⟨hx₂, rfl, rfl, trivial⟩
  have hI : Looks (model prog w) h₂ (isInstance (.ref e) (.type "ValueError")) true := I₂.type.andThen (looks_subIn X₂ T.veC)
  have hsi : alongIn K "__init__" (((Value.ref C :: bm).dropWhile (· != .ref C)).drop 1) = some (some (.builtin "ValueError.__init__")) := by
    have z := T.sIn
    unfold ks_superIn at z
    rw [hcl] at z
    exact z
  have hmro : Looks (model prog w) h₂ (mroOf (.ref C)) (Value.ref C :: bm) := fun A' Q' E' s' k' q' => wpAny_bind ((looks_clsIn X₂ hcl) A' _ E' s' k' (wpAny_pure q'))
  refine kxs_getMethod kxs_ValueError e₂ (looks_opaque X₂ T.opq) hmro rfl X₂ hsi hI (ks_ne X₂ I₂ hcl) (by decide +kernel) ?_
  have hu : (h₂.push (kxs_mw "ValueError.__init__" e)).get? h₂.objs.size = some (kxs_mw "ValueError.__init__" e) := by heap_get
  have k₃ : ∀ b o, h₂.get? b = some o → (h₂.push (kxs_mw "ValueError.__init__" e)).get? b = some o := fun b o z => Heap.get?_push_of_some _ z
  refine kxs_callWith (i := "ValueError.__init__") (x := e) (by rfl) ?_
  refine evalArgs_plain (spliced_cons ?_)
  show wpAny _ _ (eval (.Constant (.str m) k p3) _) _ _ _
  refine Constant_str (spliced_nil ⟨hu, ?_⟩)
  refine call_bw (k₃ _ _ hC₂) (k₃ _ _ hx₂) hu (two_size _) (fun h₄ t4 k₄ hx₄ => ?_)
  have k₅ : ∀ b o, b ≠ e → s.heap.get? b = some o → h₄.get? b = some o := fun b o z y => k₄ b o z (k₃ _ _ (k₂ _ _ (hk₁ _ _ y)))
  have X₄ : K.In h₄ := kept_but (X₂.keeps k₃) hnx k₄
  have hLe : s.heap.objs.size ≠ e := Nat.ne_of_gt (Heap.lt_size hx)
  have hns₄ : h₄.Ns s.heap.objs.size (fun y => List.lookup y ([(("self" : Str), Value.ref e), (("value" : Str), v)] : List (Str × Value)).reverse) := by
    obtain ⟨oL, es, ep, hL, r⟩ := hns
    exact ⟨oL, es, ep, k₄ _ _ hLe (k₃ _ _ (k₂ _ _ hL)), r⟩
  show wpAt _ _ _ (execs [.Assign [.Attribute (.Name "self" q1) "value" q2] (.Name "value" q3) q4] _) _ _ _
  refine wpAt_of_wpAny (wpAny_execs_cons (plainObj_wpAny_Assign_Attribute ?_))
  refine ESX.ldL (v := v) hns₄ (by rfl) (ESX.ldL (v := .ref e) hns₄ (by rfl) ?_)
  refine set_plain X₄ (ox := excO C t4) (od := none) ⟨hx₄, rfl, rfl, trivial⟩ T.sa ?_
  refine exc_osa X₄ hx₄ hcl (show refsVE (.ref C :: bm) = true from hbm) rfl T.noN (fun h₆ tk₆ dx k₆ dn dne hx₆ hn₆ => ?_)
  refine wpAny_execs_nil (hq h₆ tk₆ dx ⟨fun b o hb y => k₆ b o hb (k₅ b o hb y), ⟨t4, hx₆⟩, ?_, dne, hn₆⟩)
  have z : s.heap.objs.size < h₄.objs.size := hns₄.lt
  exact Nat.le_of_lt (Nat.lt_of_lt_of_le z dn)
/-- a made exception -/
structure OwnMade (h h' : Heap) (e C d : Addr) (v : Value) : Prop where
  keep : ∀ b o, h.get? b = some o → h'.get? b = some o
  new : h.objs.size ≤ e
  obj : ∃ t1 : Addr, h'.get? e = some { cls := .ref C, dict := some d, data := .fields #[.ref t1, .none, .none, .none, .bool false, .none] }
  dbig : h.objs.size ≤ d
  dne : d ≠ e
  ns : h'.Ns1 d (fun y => if y = "value" then some v else none)
theorem sup_made (T : XTxt prog K mg x C fI) {v : Value} (X : K.In s.heap) (hlim : s.heap.NoLimit) (hg : s.heap.Ns mainGlobals mg) (hb : ∃ mb, s.heap.Ns builtinsNs mb ∧ ∀ y : Str, y ≠ "__name__" → mb y = bootBuiltins y) (hroom : A.depth + 1 < recursionLimit)
    (hq : ∀ h' tk e d, OwnMade s.heap h' e C d v → R (.ok (.ret (.ref e))) { s with heap := h', toks := tk }) :
    codeAny (model prog w) A (.call (.ref C) ⟨[v], []⟩) R s := by
  obtain ⟨nm, q, N, bs, bm, sn, sub, ab, col, dd, k0, k1, k2, k3, k5, hC, hbm⟩ := T.cls
  obtain ⟨mb, hb1, hb2⟩ := hb
  obtain ⟨hp, g, dr, tk, os⟩ := s
  have k : ∀ b o, hp.get? b = some o → ((hp.push (kdv_tup [v])).push (excO C hp.objs.size)).get? b = some o := fun b o e => Heap.get?_push_of_some _ (Heap.get?_push_of_some _ e)
  have hget : ((hp.push (kdv_tup [v])).push (excO C hp.objs.size)).get? (hp.objs.size + 1) = some (excO C hp.objs.size) := by heap_get
  have hnx : K.lookup (hp.objs.size + 1) = none := by
    cases e : K.lookup (hp.objs.size + 1) with
    | none => rfl
    | some o =>
      have z : hp.get? (hp.objs.size + 1) = some o := X _ _ e
      exact absurd (Nat.lt_of_succ_lt (Heap.lt_size z)) (Nat.lt_irrefl _)
  refine call_own F.excBase_ValueError (fun X => refsVE_contains X bm hbm) (X _ _ hC) (looks_findIn X T.iC) (fun self => bind_fn X self T.tC) (two_size v) ?_
  refine sup_init (s := ⟨(hp.push (kdv_tup [v])).push (excO C hp.objs.size), g, dr, tk, os⟩) T (X.keeps k) (hlim.keeps k) (hg.keeps k) ⟨mb, hb1.keeps k, hb2⟩ hget hnx ?_ fun h' tk' dx M => ?_
  · show A.depth + 1 < recursionLimit
    exact hroom
  · obtain ⟨k', hx, dn, dne, hns⟩ := M
    have old : ∀ b o, hp.get? b = some o → h'.get? b = some o := fun b o e => k' b o (Nat.ne_of_lt (Nat.lt_succ_of_lt (Heap.lt_size e))) (k b o e)
    have z : hp.objs.size + 1 + 1 ≤ dx := by
      first
        | (simpa only [Heap.size_push] using dn)
        | exact dn
        | (have q := dn; rw [Heap.size_push, Heap.size_push] at q; exact q)
    exact ⟨rfl, hq h' tk' (hp.objs.size + 1) dx ⟨old, Nat.le_succ _, hx, Nat.le_trans (Nat.le_trans (Nat.le_succ _) (Nat.le_succ _)) z, dne, hns⟩⟩
end
end SupX_value
end PySem

set_option Elab.async false
set_option linter.all false
set_option maxRecDepth 100000
set_option maxHeartbeats 2000000

namespace L2
open PySem PySem.Spec PyProof.Rows
theorem relO_one {f : Str} {v : V} {v' : Value} (r : RelV v v') (g : Str) : RelO (List.lookup g [(f, v)]) (if g = f then some v' else none) := by
  by_cases hw : g = f
  · subst hw
    rw [if_pos rfl]
    have q : List.lookup g [(g, v)] = some v := by simp [List.lookup]
    rw [q]
    exact r
  · rw [if_neg hw]
    have qw : (g == f) = false := by simpa using hw
    have q2 : List.lookup g [(f, v)] = none := by simp [List.lookup, qw]
    rw [q2]
    trivial
/-- C(e), an exception that is made -/
def tMkX (C : Addr) (f : Str) (ta : TA) : St → Hp → XK → Prop := fun σ H Q => ta σ H fun vs H1 => ∃ v, vs = [v] ∧ ∀ d, H1 d = none → Q (.ref C) (some d) (upd H1 d (.xd [(f, v)]))
/-- C(e) as a value: the exception at a, its dict at d -/
def tExV (C : Addr) (f : Str) (ta : TA) : TE := fun σ H Q => ta σ H fun vs H1 => ∃ v, vs = [v] ∧ ∀ a d, H1 a = none → H1 d = none → d ≠ a → Q (.ref a) (upd (upd H1 d (.xd [(f, v)])) a (exo a C (some d)))
end L2
namespace L2
namespace Sup_value
open PySem PySem.Spec PyProof.Rows PySem.SupX_value
section
variable {X : Cx} {C fI : Addr} {x : Str}
theorem gblt {pins : List (Addr × Obj)} {σ : St} {H : Hp} {s : Shared} (I : Inv X pins σ H s) : ∃ mb, s.heap.Ns builtinsNs mb ∧ ∀ y : Str, y ≠ "__name__" → mb y = bootBuiltins y := by
  obtain ⟨mb, h1, h2⟩ := I.mod.blt
  exact ⟨mb, h1.keeps I.bk, h2⟩
theorem pmk_sup {a : Expr} {ta : TA} {p pos : Pos} {k : Nat} (T : XTxt X.prog X.K X.mg x C fI) (hr : Room k X.A) (ha : PA X [a] ta) (hg : Gl X x := by rfl)
    (he : starEach (a :: []) X.env = (false, eval a X.env) :: starEach [] X.env := by rfl) (hpl : (backTo pos (starEach [] X.env)).any (·.1) = false := by rfl) :
    PMk X (.Call (.Name x p) [a] [] pos) (tMkX C "value" ta) := by
  intro pins s σ H Q I h
  refine wpAny_Call_Name_kw (ld_glob I hg T.gC ?_ T.nm)
  refine PySem.W.callWith_K (h₀ := X.base) I.ok.mod.kin T.kC (thn (ha.run pos pins s σ H _ I h) fun us s1 hh => ?_) he hpl
  obtain ⟨vs, H1, I1, r1, v, ev, q1⟩ := hh
  subst ev
  refine ⟨I1.kIn, ?_⟩
  cases r1 with
  | cons rv rn =>
    rename_i v' us'
    cases rn
    show wpAny _ _ (call (.ref C) [v']) _ _ _
    have hlim := I1.nolimit
    have hgl := I1.mod.glob.keeps I1.bk
    have hbl := gblt I1
    obtain ⟨hp, g, dr, tk, os⟩ := s1
    refine wpAny_call (sup_made T I1.kIn hlim hgl hbl (by have := hr.dp; omega) fun h' tk' e d M => ?_)
    show MkP X pins σ Q (.ref e) ⟨h', g, dr, tk', os⟩
    obtain ⟨t1, hoe⟩ := M.obj
    have hns := M.ns
    obtain ⟨G', g1, g2⟩ := restrict h' fun b => decide (b ≠ e)
    have gk : ∀ b, b ≠ e → G'.get? b = h'.get? b := fun b hb => g1 b (decide_eq_true hb)
    have ge : G'.get? e = none := g2 e (by simp)
    have old : ∀ b o, hp.get? b = some o → G'.get? b = some o := fun b o q => (gk b (Nat.ne_of_lt (Nat.lt_of_lt_of_le (Heap.lt_size q) M.new))).trans (M.keep b o q)
    have ob : ObjOk X.prog X.w (upd H1 d (.xd [(("value" : Str), v)])) G' d (.xd [(("value" : Str), v)]) :=
      ⟨_, hns.at (fun o q => (gk d M.dne).trans q), fun f => relO_one rv f⟩
    have J : Inv X pins σ (upd H1 d (.xd [(("value" : Str), v)])) ⟨G', g, dr, tk', os⟩ := I1.laid (t' := tk') old M.dbig ob
    refine ⟨e, _, _, ⟨G', g, dr, tk', os⟩, _, .ref C, some d, rfl, J, fun b o q => ?_, ge, hoe, ⟨rfl, rfl⟩, rfl, rfl, ?_, rfl, I1.bare, raises_own T.exC T.tyC, q1 d (I1.hok.fresh M.dbig)⟩
    · by_cases hb : b = e
      · have q' : G'.get? b = some o := q
        rw [hb, ge] at q'; cases q'
      · exact (gk b hb).symm.trans q
    · rw [upd_ne (Ne.symm M.dne)]
      exact I1.hok.fresh M.new
/-- raise C(e) -/
theorem ps_raiseSup {a : Expr} {ta : TA} {W : WX} {p pos pos2 : Pos} {k : Nat} (hc : X.calm = true) (T : XTxt X.prog X.K X.mg x C fI) (hr : Room k X.A) (tk : Takes X W) (ha : PA X [a] ta) (hg : Gl X x := by rfl)
    (he : starEach (a :: []) X.env = (false, eval a X.env) :: starEach [] X.env := by rfl) (hpl : (backTo pos (starEach [] X.env)).any (·.1) = false := by rfl) :
    PS X (.Raise (some (.Call (.Name x p) [a] [] pos)) none pos2) (fun _ σ H => tMkX C "value" ta σ H fun cls d H' => W cls d σ H') := ps_raise hc tk (pmk_sup T hr ha hg he hpl)
theorem pmk_supN {a : Expr} {ta : TA} {p pos : Pos} {k : Nat} (T : XTxt X.prog X.K X.mg x C fI) (hr : Room k X.A) (ha : PA X [a] ta) (hg : Gl X x := by rfl)
    (he : starEach (a :: []) X.env = (false, eval a X.env) :: starEach [] X.env := by rfl) (hpl : (backTo pos (starEach [] X.env)).any (·.1) = false := by rfl) :
    L2N.PMk X (.Call (.Name x p) [a] [] pos) (tMkX C "value" ta) := by
  intro pins s σ H Q I h
  refine wpAny_Call_Name_kw (ld_glob I hg T.gC ?_ T.nm)
  refine PySem.W.callWith_K (h₀ := X.base) I.ok.mod.kin T.kC (thn (ha.run pos pins s σ H _ I h) fun us s1 hh => ?_) he hpl
  obtain ⟨vs, H1, I1, r1, v, ev, q1⟩ := hh
  subst ev
  refine ⟨I1.kIn, ?_⟩
  cases r1 with
  | cons rv rn =>
    rename_i v' us'
    cases rn
    show wpAny _ _ (call (.ref C) [v']) _ _ _
    have hlim := I1.nolimit
    have hgl := I1.mod.glob.keeps I1.bk
    have hbl := gblt I1
    obtain ⟨hp, g, dr, tk, os⟩ := s1
    refine wpAny_call (sup_made T I1.kIn hlim hgl hbl (by have := hr.dp; omega) fun h' tk' e d M => ?_)
    show L2N.MkP X pins σ Q (.ref e) ⟨h', g, dr, tk', os⟩
    obtain ⟨t1, hoe⟩ := M.obj
    have hns := M.ns
    obtain ⟨G', g1, g2⟩ := restrict h' fun b => decide (b ≠ e)
    have gk : ∀ b, b ≠ e → G'.get? b = h'.get? b := fun b hb => g1 b (decide_eq_true hb)
    have ge : G'.get? e = none := g2 e (by simp)
    have old : ∀ b o, hp.get? b = some o → G'.get? b = some o := fun b o q => (gk b (Nat.ne_of_lt (Nat.lt_of_lt_of_le (Heap.lt_size q) M.new))).trans (M.keep b o q)
    have ob : ObjOk X.prog X.w (upd H1 d (.xd [(("value" : Str), v)])) G' d (.xd [(("value" : Str), v)]) :=
      ⟨_, hns.at (fun o q => (gk d M.dne).trans q), fun f => relO_one rv f⟩
    have J : Inv X pins σ (upd H1 d (.xd [(("value" : Str), v)])) ⟨G', g, dr, tk', os⟩ := I1.laid (t' := tk') old M.dbig ob
    refine ⟨e, _, _, ⟨G', g, dr, tk', os⟩, _, .ref C, some d, rfl, J, fun b o q => ?_, ge, hoe, ⟨rfl, rfl, fun vs e => by cases e; rfl⟩, rfl, rfl, ?_, rfl, I1.bare, raises_own T.exC T.tyC, q1 d (I1.hok.fresh M.dbig)⟩
    · by_cases hb : b = e
      · have q' : G'.get? b = some o := q
        rw [hb, ge] at q'; cases q'
      · exact (gk b hb).symm.trans q
    · rw [upd_ne (Ne.symm M.dne)]
      exact I1.hok.fresh M.new
/-- raise C(e) -/
theorem ps_raiseSupN {a : Expr} {ta : TA} {W : WX} {p pos pos2 : Pos} {k : Nat} (hc : X.calm = true) (T : XTxt X.prog X.K X.mg x C fI) (hr : Room k X.A) (tk : L2N.Takes X W) (ha : PA X [a] ta) (hg : Gl X x := by rfl)
    (he : starEach (a :: []) X.env = (false, eval a X.env) :: starEach [] X.env := by rfl) (hpl : (backTo pos (starEach [] X.env)).any (·.1) = false := by rfl) :
    PS X (.Raise (some (.Call (.Name x p) [a] [] pos)) none pos2) (fun _ σ H => tMkX C "value" ta σ H fun cls d H' => W cls d σ H')   := L2N.ps_raise hc tk (pmk_supN T hr ha hg he hpl)
/-- C(e) as a value -/
theorem pe_supV {a : Expr} {ta : TA} {p pos : Pos} {k : Nat} (T : XTxt X.prog X.K X.mg x C fI) (hr : Room k X.A) (ha : PA X [a] ta) (hg : Gl X x := by rfl)
    (he : starEach (a :: []) X.env = (false, eval a X.env) :: starEach [] X.env := by rfl) (hpl : (backTo pos (starEach [] X.env)).any (·.1) = false := by rfl) :
    PE X (.Call (.Name x p) [a] [] pos) (tExV C "value" ta) := by
  refine ⟨fun pins s σ H Q I h => ?_⟩
  refine wpAny_Call_Name_kw (ld_glob I hg T.gC ?_ T.nm)
  refine PySem.W.callWith_K (h₀ := X.base) I.ok.mod.kin T.kC (thn (ha.run pos pins s σ H _ I h) fun us s1 hh => ?_) he hpl
  obtain ⟨vs, H1, I1, r1, v, ev, q1⟩ := hh
  subst ev
  refine ⟨I1.kIn, ?_⟩
  cases r1 with
  | cons rv rn =>
    rename_i v' us'
    cases rn
    show wpAny _ _ (call (.ref C) [v']) _ _ _
    have hlim := I1.nolimit
    have hgl := I1.mod.glob.keeps I1.bk
    have hbl := gblt I1
    obtain ⟨hp, g, dr, tk, os⟩ := s1
    refine wpAny_call (sup_made T I1.kIn hlim hgl hbl (by have := hr.dp; omega) fun h' tk' e d M => ?_)
    obtain ⟨t1, hoe⟩ := M.obj
    have hne : H1 e = none := I1.hok.fresh M.new
    have hnd : H1 d = none := I1.hok.fresh M.dbig
    have nde : ∀ {b : Addr} {o : Obj}, hp.get? b = some o → b ≠ e := fun {b o} z => Nat.ne_of_lt (Nat.lt_of_lt_of_le (Heap.lt_size z) M.new)
    have ndd : ∀ {b : Addr} {o : Obj}, hp.get? b = some o → b ≠ d := fun {b o} z => Nat.ne_of_lt (Nat.lt_of_lt_of_le (Heap.lt_size z) M.dbig)
    have two : ∀ {b : Addr} {o : HO}, H1 b = some o → upd (upd H1 d (.xd [(("value" : Str), v)])) e (exo e C (some d)) b = some o := fun {b o} z => by
      rw [upd_ne (ne_of_none z hne), upd_ne (ne_of_none z hnd)]
      exact z
    have U : Un X.fs [] H1 (upd (upd H1 d (.xd [(("value" : Str), v)])) e (exo e C (some d))) hp h' := {
      keep := fun b u z _ _ _ => M.keep b u z
      slot := fun b u z _ _ _ => ⟨u.slots, M.keep b u z⟩
      free := fun b u z n _ => by rw [upd_ne (nde z), upd_ne (ndd z)]; exact n
      there := fun b u z _ => ⟨u, M.keep b u z⟩
      tups := fun b xs z => two z
      frzs := fun b u xs z => two z
      tbls := fun b ps z => ⟨#[], by rw [two z]; simp⟩ }
    have ok2 : HOk X.prog X.w (upd (upd H1 d (.xd [(("value" : Str), v)])) e (exo e C (some d))) h' := fun b o z => by
      by_cases hb : b = e
      · subst hb
        rw [upd_same] at z
        cases z
        exact exo_ok hoe
      · rw [upd_ne hb] at z
        by_cases hd : b = d
        · subst hd
          rw [upd_same] at z
          cases z
          exact ⟨_, M.ns, fun f => relO_one rv f⟩
        · rw [upd_ne hd] at z
          exact (I1.hok b o z).stay (fun c u _ q => M.keep c u q) (fun c q => two q) fun c xs q => two q
    have J2 : Inv X pins σ (upd (upd H1 d (.xd [(("value" : Str), v)])) e (exo e C (some d))) ⟨h', g, dr, tk', os⟩ := I1.un (t' := tk') U ok2
    exact ⟨.ref e, _, J2, rfl, q1 e d hne hnd M.dne⟩
end
end Sup_value
end L2

set_option Elab.async false
set_option linter.all false
set_option maxRecDepth 100000
set_option maxHeartbeats 4000000
namespace PySem.W
open PySem PySem.Spec PySem.Calls PyProof.Rows
section
variable {prog : Program} {w : World} {A : Around} {E : Value → Shared → Prop} {s : Shared} {K : Frag} {x D : Addr} {ox : Obj}
theorem findObj_dX {C : Addr} {odx : Option Obj} {name : Str} {a g : Value} (hc : (clsIn K C).isSome = true) (ha : findIn K (.ref C) name = some (some a)) (hg : specialIn K a "__get__" = some (some g)) (ht : takesIn K a = some true) : findObj K C odx name = some (.bind g a) := by
  obtain ⟨cd, hc⟩ := Option.isSome_iff_exists.mp hc
  unfold findObj
  rw [hc, Option.bind_some, ha, Option.bind_some]
  simp [hg, ht]
theorem kin_classX {odx : Option Obj} {Q : Option Value → Shared → Prop} (hga : findIn K (.ref D) "__getattribute__" = some (some (.builtin "BaseException.__getattribute__"))) (hgt : findIn K (.ref D) "__getattr__" = some none) (hsub : subIn K (.ref D) (.type "BaseException") = some true)
    (hdct : hasDictIn K D = true) (ha : findIn K (.ref D) "__class__" = some (some (.builtin "object.__class__")))
    (hn : specialIn K (.builtin "object.__class__") "__get__" = some (some (.builtin "getset_descriptor.__get__"))) (htk : takesIn K (.builtin "object.__class__") = some true) (hm : mroIn K D (.type "object") = some true)
    (X : K.In s.heap) (I : InstAt s.heap x ox D odx) (h : Q (some (.ref D)) { s with toks := s.toks + 1 }) : wpAny (model prog w) A (getAttr? (.ref x) "__class__") Q E s := by
  have hf : findObj K D odx "__class__" = some (.bind (.builtin "getset_descriptor.__get__") (.builtin "object.__class__")) := findObj_dX (by obtain ⟨cd, hc, _⟩ := any_some hdct; rw [hc]; rfl) ha hn htk
  obtain ⟨hp, g, d, t, os⟩ := s
  have L0 := I.type (M := model prog w)
  have L1 := looks_findIn (M := model prog w) X hga
  have L2 := looks_findIn (M := model prog w) X hgt
  have L3 := looks_find (M := model prog w) X I hf
  have sub : Looks (model prog w) hp (isInstance (.ref x) (.type "BaseException")) true := L0.andThen (looks_subIn X hsub)
  have hx0 : (false && onTheHeap (Value.builtin "BaseException.__getattribute__")) = false := rfl
  have hx2 : (Value.builtin "BaseException.__getattribute__" == Value.builtin "object.__getattribute__") = false := by decide +kernel
  have hx1 : (onTheHeap (Value.ref D) && Value.builtin "BaseException.__getattribute__" == Value.builtin "object.__getattribute__") = false := by rw [hx2]; rfl
  unfold getAttr? getAttrBy? getAttrBy
  refine wpAny_bind (wpAny_mkText (wpAny_bind (wpAny_attempt (wpAny_holding (wpAny_bind (L0.at (wpAny_bind (L1.at ?_))))))))
  show wpAny _ _ (if (onTheHeap (Value.ref D) && Value.builtin "BaseException.__getattribute__" == Value.builtin "object.__getattribute__") = true then _ else _) _ _ _
  rw [hx1, if_neg Bool.false_ne_true]
  unfold getAttrByItsOwn hookBefore
  refine wpAny_bind ?_
  rw [if_pos (show onTheHeap (Value.ref D) = true from rfl)]
  refine L2.at ?_
  refine wpAny_bind (wpAny_attempt (wpAny_holding ?_))
  unfold callGetattribute
  rw [hx0, if_neg Bool.false_ne_true]
  unfold boundAndCalled
  rw [PySem.F.excAttr_ValueError.ga.bind (.ref x)]
  refine wpAny_bind (wpAny_pure ?_)
  show wpAny _ _ (call (.builtin "BaseException.__getattribute__") [.ref x, .str "__class__" t]) _ _ _
  refine wpAny_call (codeAny_call_builtin PySem.F.excAttr_ValueError.ga.plain PySem.F.entry_bexc_ga ?_)
  refine @check_slot (model prog w) _ _ ⟨hp, g, d, t + 1, os⟩ "BaseException.__getattribute__" "BaseException" "__getattribute__" (.ref x) [.str "__class__" t] [] _ (by decide +kernel) (by decide +kernel) sub (PySem.F.args_bexc_ga (.ref x) (.str "__class__" t)) ?_
  unfold Builtin.«object.__getattribute__»
  refine wpAny_bind (wpAny_of_eq (a := ((Value.ref x : Value), [Value.str "__class__" t])) (by first | rfl | (simp only [slotArgs]; rfl)) ?_)
  refine wpAny_bind (wpAny_pure (wpAny_bind (L0.at (wpAny_bind (L3.at ?_)))))
  show wpAny _ _ (holding [Value.builtin "object.__class__"] (call (.builtin "getset_descriptor.__get__") [.builtin "object.__class__", .ref x, .ref D]) >>= ret) _ _ _
  refine wpAny_bind (wpAny_holding (wpAny_call (class_get (s := ⟨hp, g, d, t + 1, os⟩) (ox := ox) (od := odx) X I hm ?_)))
  refine wpAny_pure ?_
  show wpAny _ _ (handedOut (.ref D)) _ _ _
  rw [handedOut_of (v := .ref D) rfl]
  first
    | exact wpAny_pure (wpAny_pure h)
    | exact wpAny_pure h
    | exact wpAny_pure (wpAny_bind (wpAny_pure (wpAny_pure h)))
theorem kitx_excX {odx : Option Obj} (hga : findIn K (.ref D) "__getattribute__" = some (some (.builtin "BaseException.__getattribute__"))) (hgt : findIn K (.ref D) "__getattr__" = some none) (hsub : subIn K (.ref D) (.type "BaseException") = some true) (hdct : hasDictIn K D = true) (ha : findIn K (.ref D) "__class__" = some (some (.builtin "object.__class__")))
    (hn : specialIn K (.builtin "object.__class__") "__get__" = some (some (.builtin "getset_descriptor.__get__"))) (htk : takesIn K (.builtin "object.__class__") = some true) (hm : mroIn K D (.type "object") = some true) :
    KitX K (.ref x) (.ref D) (fun h => InstAt h x ox D odx) where
  ty := fun _ _ _ I => I.type
  it := fun _ _ X _ => by
    obtain ⟨cdD, hcD, _⟩ := any_some hdct
    unfold clsIn at hcD
    split at hcD
    · rename_i c' d' cd' sl' ho
      intro A' Q' E' s' k q
      unfold isType loadHead
      exact wpAny_bind (wpAny_loadPart (k _ _ (X _ _ ho)) (wpAny_pure q))
    · cases hcD
  ne := fun h tp dd its n sl X htp => by
    obtain ⟨cdD, hcD, _⟩ := any_some hdct
    refine Bool.eq_false_iff.mpr fun q => ?_
    have e : D = tp := Value.ref.inj (beq_iff_eq.mp q)
    subst e
    unfold clsIn at hcD
    split at hcD
    · rename_i c' d' cd' sl' ho
      have z := (X _ _ ho).symm.trans htp
      cases z
    · cases hcD
  ca := fun X I k => kin_classX hga hgt hsub hdct ha hn htk hm X I k
end
end PySem.W
namespace L2
open PySem PySem.Spec PyProof.Rows
/-- an exception object that stands, with its dict -/
def ExT (K : PySem.W.Frag) (H : Hp) (x : V) (t : Value) : Prop := ∃ (a C d : Addr) (fs : List (Str × V)), x = .ref a ∧ t = .ref C ∧ H a = some (exo a C (some d)) ∧ H d = some (.xd fs) ∧ ExcC K C
def KX (K : PySem.W.Frag) (H : Hp) (x : V) (t : Value) : Prop := TyX K H x t ∨ ExT K H x t
def rIsiV (K : PySem.W.Frag) : List V → Hp → VK → Prop := fun xs H Q => ∃ (x c : V) (t u : Value) (b : Bool), xs = [x, c] ∧ ClsV c u ∧ KX K H x t ∧ PySem.W.kitOne K t u = some b ∧ Q (.bl b) H
section
variable {X : Cx}
theorem call_isiV : CallR X (.builtin "isinstance") (rIsiV X.K) := by
  intro pins s σ H xs us Q I r h
  obtain ⟨x, c, t, u, b, rfl, k, ty, e, q⟩ := h
  obtain ⟨u1, u2, rfl, r1, r2⟩ := vals2 r
  have e2 := k.eq r2
  subst e2
  rcases ty with ty | ⟨a, C, d, fs, rfl, rfl, ha, hd, EC⟩
  · obtain ⟨P, Z, p, hx⟩ := kit_of I r1 ty
    exact PySem.W.kia_one Z I.kIn p e hx fun tk => ⟨.bl b, H, I.tok tk, rfl, q⟩
  · cases (show u1 = Value.ref a from r1)
    obtain ⟨t1, ho⟩ := exo_at I.hok ha
    obtain ⟨mA, ⟨od, es, ep, hod, _⟩, _⟩ := (show ObjOk X.prog X.w H s.heap d (.xd fs) from I.hok d _ hd)
    have J : PySem.W.InstAt s.heap a _ C (some od) := ⟨ho, rfl, rfl, hod⟩
    exact PySem.W.kia_one (PySem.W.kitx_excX EC.hg EC.hk EC.hs EC.hd EC.ha EC.hn EC.ht EC.hm) I.kIn J e (fun z => nomatch z) fun tk => ⟨.bl b, H, I.tok tk, rfl, q⟩
end
end L2

set_option Elab.async false
set_option linter.all false
set_option maxRecDepth 100000
set_option maxHeartbeats 2000000
namespace L2
open PySem PySem.Spec PyProof.Rows
section
variable {X : Cx} {CX : CXT} {k : Nat} {f C : Addr} {fd : FuncData} {ps ks : List Str} {sp : Sp} {E : XK} {x m : Str} {p pos : Pos} {kws : List Keyword} {tk : TA} {g : List Value → List Value → List Value} {gV : List V → List V → List V}
/-- f(k = v, ..): keywords alone -/
theorem pe_kw0 (F : FnOk X.prog X.w X.K X.mg X.base CX k f fd ps sp) (hr : Room k X.A) (hg : Gl X x) (hm : X.mg x = some (.ref f)) (hk : PySem.W.keepIn X.K (.ref f) = true) (hb : KBinds X.K fd ps ks g gV) (hx : Passes CX X E)
    (hkw : PK X kws tk) (hall : (backToKw pos (keywordEach kws X.env)).all (·.1.isSome) = true := by rfl) (hks : (backToKw pos (keywordEach kws X.env)).filterMap (·.1) = ks := by rfl) (hdb : (x == ("__debug__" : Str)) = false := by decide)
    (hpl : ((backTo pos (starEach [] X.env)).any (·.1) || (backToKw pos (keywordEach kws X.env)).any (·.1.isNone)) = false := by rfl) :
    PE X (.Call (.Name x p) [] kws pos) (tCallK sp gV E tNil tk) := by
  refine ⟨fun pins s σ H Q I h => ?_⟩
  refine wpAny_Call_Name_kw (ld_glob I hg hm ?_ hdb)
  refine PySem.W.callWith_KW0 (h₀ := X.base) I.ok.mod.kin hk hall (thn (hkw.run pos pins s σ H _ I h) fun ws s2 ⟨zs, H2, I2, rz, q2⟩ => ⟨I2.kIn, ?_⟩) hpl
  rw [hks]
  exact run_fnk (us := []) (vs := []) F hr hb hx I2 .nil rz q2
end
section
variable {X : Cx} {CX : CXT} {k : Nat} {f C : Addr} {fd : FuncData} {ps ks : List Str} {sp : Sp} {E : L2.St → XK} {x m : Str} {p pos : Pos} {kws : List Keyword} {tk : TA} {g : List Value → List Value → List Value} {gV : List V → List V → List V}
def tCallKS (sp : Sp) (gV : List V → List V → List V) (E : L2.St → XK) (tk : TA) : TE := fun σ H Q => tk σ H fun zs H2 => sp (gV [] zs) H2 Q (E σ)
/-- f(k = v, ..) that may raise, the wish at the caller's slots -/
theorem pe_kwS0 (F : FnOk X.prog X.w X.K X.mg X.base CX k f fd ps sp) (hr : Room k X.A) (hg : Gl X x) (hm : X.mg x = some (.ref f)) (hk : PySem.W.keepIn X.K (.ref f) = true) (hb : KBinds X.K fd ps ks g gV) (hx : ∀ σ, PassesAt CX X σ (E σ))
    (hkw : PK X kws tk) (hall : (backToKw pos (keywordEach kws X.env)).all (·.1.isSome) = true := by rfl) (hks : (backToKw pos (keywordEach kws X.env)).filterMap (·.1) = ks := by rfl) (hdb : (x == ("__debug__" : Str)) = false := by decide)
    (hpl : ((backTo pos (starEach [] X.env)).any (·.1) || (backToKw pos (keywordEach kws X.env)).any (·.1.isNone)) = false := by rfl) :
    PE X (.Call (.Name x p) [] kws pos) (tCallKS sp gV E tk) := by
  refine ⟨fun pins s σ H Q I h => ?_⟩
  refine wpAny_Call_Name_kw (ld_glob I hg hm ?_ hdb)
  refine PySem.W.callWith_KW0 (h₀ := X.base) I.ok.mod.kin hk hall (thn (hkw.run pos pins s σ H _ I h) fun ws s2 ⟨zs, H2, I2, rz, q2⟩ => ⟨I2.kIn, ?_⟩) hpl
  rw [hks]
  have r2 := hb.rel (vs := []) (us := []) .nil rz
  have hl : (g [] ws).length = ps.length := by rw [← r2.length]; exact F.len _ _ _ _ q2
  refine wpAny_call (codeAny_mono (F.run X.A X.stack s2 H2 ⟨[], ks.zip ws⟩ (g [] ws) (gV [] zs) Q (E σ) hr I2.env0 (hb.to s2 [] ws I2.kIn hl) r2 q2) fun r s' hq => ?_)
  cases r with
  | error e => exact hx σ pins H2 s2 e s' I2 hq
  | ok fl =>
    cases fl with
    | ret u => exact I2.after hq
    | next => exact False.elim hq
    | brk => exact False.elim hq
    | cont => exact False.elim hq
end
section
variable {X : Cx}
/-- // by any divisor but nought, not too long -/
def CDivV (_ j : Int) : Prop := j ≠ 0 ∧ j.natAbs.log2 < 9000
theorem op_fdivV : OpR X (binaryOp .FloorDiv) (rI CDivV fun i j => .int (i.fdiv j)) := opI fun _ _ _ _ _ _ _ hc q => floordiv_int hc.1 q (.inl (PyProof.noPylong_of_log2 hc.2))
end
end L2
namespace L2
open PySem PySem.Spec PyProof.Rows
theorem passN {X : Cx} : Passes (L2N.CX X.prog X.w) X E0 := fun _ _ _ _ _ _ _ h => by
  obtain ⟨_, _, _, _, _, _, _, _, _, _, _, _, z⟩ := h
  exact z.elim
theorem passH {X : Cx} {σ : L2.St} {E : XK} : PassesAt CX0 X σ E := fun _ _ _ _ _ _ h => h.elim
theorem takesN0 {X : Cx} : L2N.Takes X (fun _ _ _ _ => False) := fun _ _ x => by
  obtain ⟨_, _, _, _, _, _, _, _, _, _, _, _, _, _, _, _, z⟩ := x
  exact z.elim
theorem hotS {X : Cx} {a : Addr} {oe : Obj} {cls : Value} {d : Option Addr} {pn : List (Addr × Obj)} (hz : L2N.Zn cls d oe) (hf : ∃ vs, oe.data = .fields vs) : L2H.HotC (X.suite a ((a, oe) :: pn)) := by
  obtain ⟨vs, e⟩ := hf
  exact ⟨(a, oe), ⟨rfl, vs, e, hz.2.2 vs e⟩, List.mem_cons_self⟩
theorem roomS {X : Cx} {k : Nat} {a : Addr} {pn : List (Addr × Obj)} (r : Room k X.A) : L2H.RoomH k (X.suite a pn).A := ⟨r.dp, r.un⟩
section
variable {P : Program} {w : World} {K : PySem.W.Frag} {mg : Str → Option Value} {base : Heap}
/-- a def that may raise, the exception's context none -/
theorem Fun.okN {x qual : Str} {st : Stmt} {f : Addr} {fd : FuncData} {N ps : List Str} {k : Nat} {sp : Sp} (F : Fun K x qual st f fd) (S : FnScope N ps (defScope st)) (len : ∀ vs H Q E, sp vs H Q E → vs.length = ps.length)
    (hbody : ∀ (cdv : Value) (A : Around) (outer : List Env) (s : Shared) (H : Hp) (vs : List V) (Q : VK) (E : XK), Room k (A.deeper (envOfC qual (defScope st) s.heap.objs.size f cdv)) → sp vs H Q E →
      ∃ t, PSs (cxOf (L2N.CX P w) P w K mg base N qual (defScope st) f cdv A outer s H E) (defBody st) t ∧ t { nx := fun _ H' => Q .non H', rt := Q } (start N vs) H) : FnOk P w K mg base (L2N.CX P w) (k + 1) f fd ps sp := by
  obtain ⟨oc, od, kV, doc, pm, an, cdv, ct, osl, rfl, lk, hcd⟩ := F.ex
  exact fn_of lk hcd S len fun A outer s H vs Q E hr hsp => hbody cdv A outer s H vs Q E hr hsp
/-- a def called where an exception is handled -/
theorem Fun.okH {CX : CXT} {x qual : Str} {st : Stmt} {f : Addr} {fd : FuncData} {N ps : List Str} {k : Nat} {sp : Sp} (F : Fun K x qual st f fd) (S : FnScope N ps (defScope st)) (len : ∀ vs H Q E, sp vs H Q E → vs.length = ps.length)
    (hbody : ∀ (cdv : Value) (A : Around) (outer : List Env) (s : Shared) (H : Hp) (vs : List V) (Q : VK) (E : XK) (p : Addr × Obj), L2H.RoomH k (A.deeper (envOfC qual (defScope st) s.heap.objs.size f cdv)) → sp vs H Q E →
      ∃ t, PSs (L2H.cxH CX P w K mg base N qual (defScope st) f cdv A outer s H E p) (defBody st) t ∧ t { nx := fun _ H' => Q .non H', rt := Q } (start N vs) H) : L2H.FnH P w K mg base CX (k + 1) f fd ps sp := by
  obtain ⟨oc, od, kV, doc, pm, an, cdv, ct, osl, rfl, lk, hcd⟩ := F.ex
  exact L2H.fn_ofH lk hcd S len fun A outer s H vs Q E p _ hr hsp => hbody cdv A outer s H vs Q E p hr hsp
end
end L2
namespace Sx
open PySem L2
abbrev St := L2.St
theorem Same.up {H H' : Hp} {a : Addr} {o : HO} (e : Same H H') (h : H a = some o) : H' a = some o := e _ _ h
/-- all but what stands at a is as it was -/
def Keep (a : Addr) (H H' : Hp) : Prop := ∀ b o, b ≠ a → H b = some o → H' b = some o
theorem Keep.up {c : Addr} {H H' : Hp} {a : Addr} {o : HO} (e : Keep c H H') (n : a ≠ c) (h : H a = some o) : H' a = some o := e _ _ n h
theorem Keep.refl (a : Addr) (H : Hp) : Keep a H H := fun _ _ _ h => h
theorem Keep.trans {a : Addr} {H H1 H2 : Hp} (e : Keep a H H1) (f : Keep a H1 H2) : Keep a H H2 := fun b o n h => f b o n (e b o n h)
theorem Keep.same {a : Addr} {H H1 : Hp} (e : Same H H1) : Keep a H H1 := fun b o _ h => e b o h
theorem Keep.put {a : Addr} {H H1 : Hp} {o : HO} (e : Keep a H H1) : Keep a H (upd H1 a o) := fun b o n h => by
  rw [upd_ne n]
  exact e b o n h
theorem Same.new {H : Hp} {p : Addr} {o : HO} (h : H p = none) : Same H (upd H p o) := fun a u e => by
  rw [upd_ne (ne_of_none e h)]
  exact e
theorem Same.put {a : Addr} {H H1 : Hp} {o : HO} (e : Same H H1) (n : H a = none) : Same H (upd H1 a o) := fun b u h => by
  rw [upd_ne (ne_of_none h n)]
  exact e b u h
/-- a keeping but at a place that was free ahead -/
theorem Keep.toSame {a : Addr} {H H1 H2 : Hp} (e : Same H H1) (n : H a = none) (f : Keep a H1 H2) : Same H H2 := fun b o h => f b o (ne_of_none h n) (e b o h)
theorem Keep.free {a b : Addr} {H H' : Hp} (e : Keep a H H') (n : b ≠ a) (h : H' b = none) : H b = none := by
  cases q : H b with
  | none => rfl
  | some o =>
    rw [e b o n q] at h
    cases h
theorem same_free {H H' : Hp} (e : Same H H') {l : Addr} (h : H' l = none) : H l = none := L2.Same.free e h
section
variable {K : PySem.W.Frag} {σ : St} {H : Hp} {Q : VK} {D : Ends} {t u : TS} {te ta tb tx : TE} {tt tu : TT} {r : R2} {x y z v w : V} {nx : St → Hp → Prop} {xs ys : List V}
theorem s_seq (h : t { D with nx := u D } σ H) : tSeq t u D σ H := h
theorem s_next (h : D.nx σ H) : tNext D σ H := h
theorem s_brk (h : D.bk σ H) : tBreak D σ H := h
theorem s_cont (h : D.ct σ H) : tCont D σ H := h
theorem s_asg {g : TG} (h : te σ H fun x H1 => g x σ H1 D.nx) : tAsg te g D σ H := h
theorem s_name {i : Nat} (h : nx (σ.set i (some v)) H) : gName i v σ H nx := h
theorem s_drop (h : te σ H fun _ H1 => D.nx σ H1) : tDrop te D σ H := h
theorem s_ret (h : te σ H D.rt) : tRet te D σ H := h
theorem s_ifS (h : tt σ H fun b H1 => if b = true then t D σ H1 else u D σ H1) : tIfS tt t u D σ H := h
theorem s_var {i : Nat} (h : σ[i]? = some (some v)) (q : Q v H) : tVar i σ H Q := ⟨v, h, q⟩
theorem s_c (q : Q v H) : tC v σ H Q := q
theorem s_op (h : ta σ H fun x H1 => tb σ H1 fun y H2 => r x y H2 Q) : tOp r ta tb σ H Q := h
theorem s_un {r : V → Hp → VK → Prop} (h : ta σ H fun x H1 => r x H1 Q) : tUn r ta σ H Q := h
variable {R : Bool → Hp → Prop}
theorem s_test (h : te σ H fun x H' => ∃ k, x = .bl k ∧ R k H') : tTest te σ H R := h
theorem s_tB (h : te σ H fun x H' => ∃ k, x = .bl k ∧ R k H') : tB te σ H R := h
theorem s_tT (h : te σ H fun x H' => ∃ k, x = .bl k ∧ R k H') : tTest te σ H R := h
theorem s_bl {k : Bool} (h : R k H) : ∃ k', V.bl k = V.bl k' ∧ R k' H := ⟨k, rfl, h⟩
theorem s_and (h : tt σ H fun c H1 => if c = true then tu σ H1 R else R false H1) : tAnd tt tu σ H R := h
theorem s_or (h : tt σ H fun c H1 => if c = true then R true H1 else tu σ H1 R) : tOr tt tu σ H R := h
theorem s_not (h : tt σ H fun c H1 => R (!c) H1) : tNot tt σ H R := h
theorem s_andV (h : ta σ H fun x H1 => ∃ c, x = .bl c ∧ if c = true then tb σ H1 Q else Q (.bl false) H1) : tAndV ta tb σ H Q := h
theorem s_orV (h : ta σ H fun x H1 => ∃ c, x = .bl c ∧ if c = true then Q (.bl true) H1 else tb σ H1 Q) : tOrV ta tb σ H Q := h
theorem s_notV (h : ta σ H fun x H1 => ∃ c, x = .bl c ∧ Q (.bl (!c)) H1) : tNotV ta σ H Q := h
theorem s_blV {k : Bool} {P : Bool → Prop} (h : P k) : ∃ k', V.bl k = V.bl k' ∧ P k' := ⟨k, rfl, h⟩
theorem s_if (h : tt σ H fun c H1 => if c = true then ta σ H1 Q else tb σ H1 Q) : tIf tt ta tb σ H Q := h
theorem s_cb {r : List V → Hp → VK → Prop} {t : TA} (h : t σ H fun vs H1 => r vs H1 Q) : tCB r t σ H Q := h
theorem s_call {sp : Sp} {dvs : List V} {E : XK} {t : TA} (h : t σ H fun vs H1 => sp (vs ++ dvs) H1 Q E) : tCall sp dvs E t σ H Q := h
theorem s_callK {sp : Sp} {gV : List V → List V → List V} {E : XK} {t tk : TA} (h : t σ H fun vs H1 => tk σ H1 fun zs H2 => sp (gV vs zs) H2 Q E) : tCallK sp gV E t tk σ H Q := h
theorem s_nil {P : List V → Hp → Prop} (h : P [] H) : tNil σ H P := h
theorem s_cons {ta : TE} {tr : TA} {P : List V → Hp → Prop} (h : ta σ H fun x H1 => tr σ H1 fun xs H2 => P (x :: xs) H2) : tCons ta tr σ H P := h
theorem s_tup {t : TA} (h : t σ H fun xs H1 => xs.length ≤ sizeLine ∧ ∀ p, H1 p = none → Q (.ref p) (upd H1 p (.tup xs))) : tTup t σ H Q := h
theorem s_lst {t : TA} (h : t σ H fun xs H1 => xs.length ≤ sizeLine ∧ ∀ p, H1 p = none → Q (.ref p) (upd H1 p (.lst xs))) : tLst t σ H Q := h
theorem new_same {H H2 : Hp} {p : Addr} {o : HO} (n : H p = none) (e : upd H p o = H2) : Same H H2 := by
  subst e
  exact Same.new n
theorem new_at {H H2 : Hp} {p : Addr} {o : HO} (e : upd H p o = H2) : H2 p = some o := by
  subst e
  exact upd_same
theorem put_keep {H H2 : Hp} {p : Addr} {o : HO} (e : upd H p o = H2) : Keep p H H2 := by
  subst e
  exact Keep.put (Keep.refl p H)
theorem c_mul_r {i j : Int} (a : -(2 ^ 64) < j) (b : j < 2 ^ 64) : CMul i j := .inr ⟨a, b⟩
theorem c_mul_l {i j : Int} (a : -(2 ^ 64) < i) (b : i < 2 ^ 64) : CMul i j := .inl ⟨a, b⟩
theorem c_div {i j : Int} (a : 0 < j) (b : j < 1073741824) : CDiv i j := ⟨a, b⟩
theorem c_pow {i j : Int} (a : 0 ≤ j) (b : j ≤ 1000000) (c : i.natAbs < 2 ^ 64) : CPow i j := ⟨a, b, c⟩
-- operators on values
theorem r_I0 {g : Int → Int → V} {i j : Int} (q : Q (g i j) H) : rI0 g (.int i) (.int j) H Q := ⟨i, j, rfl, rfl, q⟩
theorem r_I {C : Int → Int → Prop} {g : Int → Int → V} {i j : Int} (c : C i j) (q : Q (g i j) H) : rI C g (.int i) (.int j) H Q := ⟨i, j, rfl, rfl, c, q⟩
theorem r_U {g : Int → V} {i : Int} (q : Q (g i) H) : rU g (.int i) H Q := ⟨i, rfl, q⟩
theorem r_eq (h : scal x y = true) (q : Q (.bl (decide (x = y))) H) : rEq x y H Q := ⟨h, q⟩
theorem r_ne (h : scal x y = true) (q : Q (.bl (!decide (x = y))) H) : rNe x y H Q := ⟨h, q⟩
theorem v_int_eq {i j : Int} : decide (V.int i = V.int j) = decide (i = j) := by
  by_cases h : i = j
  · rw [h]; simp
  · simp [h]
theorem r_eqI {i j : Int} (q : Q (.bl (decide (i = j))) H) : rEq (.int i) (.int j) H Q := ⟨rfl, by rw [v_int_eq]; exact q⟩
theorem r_neI {i j : Int} (q : Q (.bl (!decide (i = j))) H) : rNe (.int i) (.int j) H Q := ⟨rfl, by rw [v_int_eq]; exact q⟩
theorem r_isB {a b : Bool} (q : Q (.bl (decide (a = b))) H) : rIsB (.bl a) (.bl b) H Q := ⟨a, b, rfl, rfl, q⟩
theorem r_notB {a b : Bool} (q : Q (.bl (!decide (a = b))) H) : rNotB (.bl a) (.bl b) H Q := ⟨a, b, rfl, rfl, q⟩
theorem r_ixL {p : Addr} {i : Int} (h : H p = some (.lst xs)) (a : atI xs i = some v) (q : Q v H) : rIx K (.ref p) (.int i) H Q := .inl ⟨p, xs, i, v, rfl, rfl, SqL.of h, a, q⟩
theorem r_ixT {p : Addr} {i : Int} (h : H p = some (.tup xs)) (a : atI xs i = some v) (q : Q v H) : rIx K (.ref p) (.int i) H Q := .inr (.inl ⟨p, xs, i, v, rfl, rfl, SqT.of h, a, q⟩)
def IxG : List V → Int → (V → Prop) → Prop
  | [], _, _ => False
  | a :: r, i, P => (i = 0 → P a) ∧ (i ≠ 0 → IxG r (i - 1) P)
theorem ig_cons {a : V} {r : List V} {i : Int} {P : V → Prop} (h1 : i = 0 → P a) (h2 : i ≠ 0 → IxG r (i - 1) P) : IxG (a :: r) i P := ⟨h1, h2⟩
theorem ig_nil {i : Int} {P : V → Prop} (h : False) : IxG [] i P := h
theorem IxG.get : ∀ {xs : List V} {n : Nat} {P : V → Prop}, IxG xs (n : Int) P → ∃ v, xs[n]? = some v ∧ P v
  | [], _, _, h => h.elim
  | a :: r, 0, P, h => ⟨a, rfl, h.1 rfl⟩
  | a :: r, n + 1, P, h => by
    have h2 := h.2 (by omega)
    have e : ((n + 1 : Nat) : Int) - 1 = (n : Int) := by omega
    rw [e] at h2
    obtain ⟨v, h3, h4⟩ := IxG.get h2
    exact ⟨v, by simpa using h3, h4⟩
theorem r_ixG {p : Addr} {i : Int} (h : H p = some (.lst xs)) (hi : 0 ≤ i) (q : IxG xs i fun v => Q v H) : rIx K (.ref p) (.int i) H Q := by
  obtain ⟨n, rfl⟩ := Int.eq_ofNat_of_zero_le hi
  obtain ⟨v, h1, h2⟩ := IxG.get q
  exact .inl ⟨p, xs, _, v, rfl, rfl, SqL.of h, atI_nat h1, h2⟩
theorem r_ixGT {p : Addr} {i : Int} (h : H p = some (.tup xs)) (hi : 0 ≤ i) (q : IxG xs i fun v => Q v H) : rIx K (.ref p) (.int i) H Q := by
  obtain ⟨n, rfl⟩ := Int.eq_ofNat_of_zero_le hi
  obtain ⟨v, h1, h2⟩ := IxG.get q
  exact .inr (.inl ⟨p, xs, _, v, rfl, rfl, SqT.of h, atI_nat h1, h2⟩)
theorem r_ixS {p : Addr} {i : Int} (h : SqL K H p xs) (a : atI xs i = some v) (q : Q v H) : rIx K (.ref p) (.int i) H Q := .inl ⟨p, xs, i, v, rfl, rfl, h, a, q⟩
theorem r_setL {p : Addr} {i : Int} {j : Nat} {P : Hp → Prop} (h : H p = some (.lst xs)) (a : ixN xs.length i = some j) (q : ∀ H2, Keep p H H2 → H2 p = some (.lst (xs.set j v)) → P H2) : rSetL (.ref p) (.int i) v H P := ⟨p, xs, i, j, rfl, rfl, h, a, q _ (Keep.put (Keep.refl p H)) upd_same⟩
theorem s_sub {to ti : TE} {ts : TSet} (h : to σ H fun o H1 => ti σ H1 fun i H2 => ts o i v H2 fun H3 => nx σ H3) : gSub to ti ts v σ H nx := h
theorem r_app {p : Addr} (h : H p = some (.lst xs)) (l : xs.length < sizeLine) (q : ∀ H2, Keep p H H2 → H2 p = some (.lst (xs ++ [y])) → Q .non H2) : rAppend (.ref p) [y] H Q := ⟨p, xs, y, rfl, rfl, h, l, q _ (Keep.put (Keep.refl p H)) upd_same⟩
theorem s_bm {T : String} {r : V → List V → Hp → VK → Prop} {to : TE} {t : TA} (h : to σ H fun x H1 => tyV K T x H1 ∧ t σ H1 fun xs H2 => r x xs H2 Q) : tBM K T r to t σ H Q := h
theorem ty_list {p : Addr} {P : Prop} (h : H p = some (.lst xs)) (q : P) : tyV K "list" (.ref p) H ∧ P := ⟨.inl ⟨rfl, _, SqL.of h⟩, q⟩
theorem r_gcd {a b : Int} (q : Q (.int ((Nat.gcd a.natAbs b.natAbs : Nat) : Int)) H) : rGcd [.int a, .int b] H Q := ⟨a, b, rfl, q⟩
theorem r_all {p : Addr} {bs : List Bool} (h : H p = some (.lst (bs.map V.bl))) (q : Q (.bl (bs.all id)) H) : rAll K [.ref p] H Q := ⟨p, bs, rfl, SqL.of h, q⟩
theorem i_T {c : Prop} [Decidable c] {A B : Prop} (hc : c) (h : A) : if decide c = true then A else B := by
  rw [if_pos (decide_eq_true hc)]; exact h
theorem i_F {c : Prop} [Decidable c] {A B : Prop} (hc : ¬ c) (h : B) : if decide c = true then A else B := by
  rw [if_neg (by simp [hc])]; exact h
theorem i_2 {c : Prop} [Decidable c] {A B : Prop} (h1 : c → A) (h2 : ¬ c → B) : if decide c = true then A else B := by
  by_cases h : c
  · exact i_T h (h1 h)
  · exact i_F h (h2 h)
theorem i_n2 {c : Prop} [Decidable c] {A B : Prop} (h1 : ¬ c → A) (h2 : c → B) : if (!decide c) = true then A else B := by
  by_cases h : c
  · rw [if_neg (by simp [h])]; exact h2 h
  · rw [if_pos (by simp [h])]; exact h1 h
theorem i_b2 {b : Bool} {A B : Prop} (h1 : b = true → A) (h2 : b = false → B) : if b = true then A else B := by
  cases b
  · exact iteF (h2 rfl)
  · exact iteT (h1 rfl)
theorem i_nb2 {b : Bool} {A B : Prop} (h1 : b = false → A) (h2 : b = true → B) : if (!b) = true then A else B := by
  cases b
  · exact iteT (h1 rfl)
  · exact iteF (h2 rfl)
theorem i_t {A B : Prop} (h : A) : if true = true then A else B := iteT h
theorem i_f {A B : Prop} (h : B) : if false = true then A else B := iteF h
theorem i_nt {A B : Prop} (h : B) : if (!true) = true then A else B := iteF h
theorem i_nf {A B : Prop} (h : A) : if (!false) = true then A else B := iteT h
end
end Sx

set_option Elab.async false
set_option linter.all false
set_option maxRecDepth 100000
set_option maxHeartbeats 2000000
namespace Sx
open PySem L2
/-- what a class of errors is not -/
structure ExK (K : PySem.W.Frag) (C : Addr) : Prop where
  ec : ExcC K C
  ni : PySem.W.subIn K (.ref C) (.type "int") = some false
  nb : PySem.W.subIn K (.ref C) (.type "bool") = some false
  nt : PySem.W.subIn K (.ref C) (.type "tuple") = some false
  ns : PySem.W.subIn K (.ref C) (.type "str") = some false
  nl : PySem.W.subIn K (.ref C) (.type "list") = some false
/-- a value whose kind is known; every address of it is in B -/
inductive Kn (K : PySem.W.Frag) (H : Hp) (B : Addr → Prop) : V → Prop where
  | non : Kn K H B .non
  | bl (b : Bool) : Kn K H B (.bl b)
  | int (i : Int) : Kn K H B (.int i)
  | str (s : Str) : Kn K H B (.str s)
  | lst {p : Addr} {xs : List V} (h : H p = some (.lst xs)) (b : B p) : Kn K H B (.ref p)
  | tup {p : Addr} {xs : List V} (h : H p = some (.tup xs)) (b : B p) : Kn K H B (.ref p)
  | exc {a C d : Addr} {fs : List (Str × V)} (ha : H a = some (exo a C (some d))) (hd : H d = some (.xd fs)) (e : ExK K C) (ba : B a) (bd : B d) : Kn K H B (.ref a)
theorem Kn.up {K : PySem.W.Frag} {H H' : Hp} {B B' : Addr → Prop} {v : V} (k : Kn K H B v) (hB : ∀ b, B b → B' b) (hk : ∀ b o, B b → H b = some o → H' b = some o) : Kn K H' B' v := by
  cases k with
  | non => exact .non
  | bl b => exact .bl b
  | int i => exact .int i
  | str s => exact .str s
  | lst h b => exact .lst (hk _ _ b h) (hB _ b)
  | tup h b => exact .tup (hk _ _ b h) (hB _ b)
  | exc ha hd e ba bd => exact .exc (hk _ _ ba ha) (hk _ _ bd hd) e (hB _ ba) (hB _ bd)
def isI : V → Bool | .int _ => true | _ => false
def isB : V → Bool | .bl _ => true | _ => false
def isS : V → Bool | .str _ => true | _ => false
def tO : Option HO → Bool | some (.tup _) => true | _ => false
def lO : Option HO → Bool | some (.lst _) => true | _ => false
def isT (H : Hp) : V → Bool | .ref p => tO (H p) | _ => false
def isL (H : Hp) : V → Bool | .ref p => lO (H p) | _ => false
theorem isT_of {H : Hp} {p : Addr} {o : HO} (h : H p = some o) : isT H (.ref p) = tO (some o) := by
  show tO (H p) = _
  rw [h]
theorem isL_of {H : Hp} {p : Addr} {o : HO} (h : H p = some o) : isL H (.ref p) = lO (some o) := by
  show lO (H p) = _
  rw [h]
theorem isT_inv {H : Hp} {v : V} (h : isT H v = true) : ∃ p xs, v = .ref p ∧ H p = some (.tup xs) := by
  cases v with
  | ref p =>
    have h' : tO (H p) = true := h
    cases e : H p with
    | none =>
      rw [e] at h'
      cases h'
    | some o =>
      rw [e] at h'
      cases o with
      | tup xs => exact ⟨p, xs, rfl, e⟩
      | _ => cases h'
  | _ => cases h
section
variable {K : PySem.W.Frag} {H : Hp} {B : Addr → Prop} {v : V} {Q : VK}
theorem kit_exc {C : Addr} {T : String} {b : Bool} (h : PySem.W.subIn K (.ref C) (.type T) = some b) (m : PySem.W.kitMeta T = true) : PySem.W.kitOne K (.ref C) (.type T) = some b := by
  unfold PySem.W.kitOne
  rw [if_neg (by intro z; exact nomatch z)]
  show (if PySem.W.kitMeta T = true then PySem.W.subIn K (.ref C) (.type T) else none) = some b
  rw [if_pos m, h]
theorem isi_go {T n : String} {ty : Value} {b : Bool} (k : KX K H v ty) (e : PySem.W.kitOne K ty (.type T) = some b) (q : Q (.bl b) H) : rIsiV K [v, .ty T] H Q := ⟨v, .ty T, ty, .type T, b, rfl, .ty T, k, e, q⟩
theorem c_isiI (k : Kn K H B v) (q : Q (.bl (isI v || isB v)) H) : rIsiV K [v, .ty "int"] H Q := by
  cases k with
  | non => exact ⟨_, _, _, _, false, rfl, .ty _, .inl (.base .non), kit_ty (by decide +kernel), q⟩
  | bl b => exact ⟨_, _, _, _, true, rfl, .ty _, .inl (.base (.bl b)), kit_ty (by decide +kernel), q⟩
  | int i => exact ⟨_, _, _, _, true, rfl, .ty _, .inl (.base (.int i)), kit_ty (by decide +kernel), q⟩
  | str s => exact ⟨_, _, _, _, false, rfl, .ty _, .inl (.base (.str s)), kit_ty (by decide +kernel), q⟩
  | lst h _ => exact ⟨_, _, _, _, false, rfl, .ty _, .inl (.base (.lst h)), kit_ty (by decide +kernel), q⟩
  | tup h _ => exact ⟨_, _, _, _, false, rfl, .ty _, .inl (.base (.tup h)), kit_ty (by decide +kernel), q⟩
  | exc ha hd e _ _ => exact ⟨_, _, _, _, false, rfl, .ty _, .inr ⟨_, _, _, _, rfl, rfl, ha, hd, e.ec⟩, kit_exc e.ni (by decide +kernel), q⟩
theorem c_isiB (k : Kn K H B v) (q : Q (.bl (isB v)) H) : rIsiV K [v, .ty "bool"] H Q := by
  cases k with
  | non => exact ⟨_, _, _, _, false, rfl, .ty _, .inl (.base .non), kit_ty (by decide +kernel), q⟩
  | bl b => exact ⟨_, _, _, _, true, rfl, .ty _, .inl (.base (.bl b)), kit_ty (by decide +kernel), q⟩
  | int i => exact ⟨_, _, _, _, false, rfl, .ty _, .inl (.base (.int i)), kit_ty (by decide +kernel), q⟩
  | str s => exact ⟨_, _, _, _, false, rfl, .ty _, .inl (.base (.str s)), kit_ty (by decide +kernel), q⟩
  | lst h _ => exact ⟨_, _, _, _, false, rfl, .ty _, .inl (.base (.lst h)), kit_ty (by decide +kernel), q⟩
  | tup h _ => exact ⟨_, _, _, _, false, rfl, .ty _, .inl (.base (.tup h)), kit_ty (by decide +kernel), q⟩
  | exc ha hd e _ _ => exact ⟨_, _, _, _, false, rfl, .ty _, .inr ⟨_, _, _, _, rfl, rfl, ha, hd, e.ec⟩, kit_exc e.nb (by decide +kernel), q⟩
theorem c_isiS (k : Kn K H B v) (q : Q (.bl (isS v)) H) : rIsiV K [v, .ty "str"] H Q := by
  cases k with
  | non => exact ⟨_, _, _, _, false, rfl, .ty _, .inl (.base .non), kit_ty (by decide +kernel), q⟩
  | bl b => exact ⟨_, _, _, _, false, rfl, .ty _, .inl (.base (.bl b)), kit_ty (by decide +kernel), q⟩
  | int i => exact ⟨_, _, _, _, false, rfl, .ty _, .inl (.base (.int i)), kit_ty (by decide +kernel), q⟩
  | str s => exact ⟨_, _, _, _, true, rfl, .ty _, .inl (.base (.str s)), kit_ty (by decide +kernel), q⟩
  | lst h _ => exact ⟨_, _, _, _, false, rfl, .ty _, .inl (.base (.lst h)), kit_ty (by decide +kernel), q⟩
  | tup h _ => exact ⟨_, _, _, _, false, rfl, .ty _, .inl (.base (.tup h)), kit_ty (by decide +kernel), q⟩
  | exc ha hd e _ _ => exact ⟨_, _, _, _, false, rfl, .ty _, .inr ⟨_, _, _, _, rfl, rfl, ha, hd, e.ec⟩, kit_exc e.ns (by decide +kernel), q⟩
theorem c_isiT (k : Kn K H B v) (q : Q (.bl (isT H v)) H) : rIsiV K [v, .ty "tuple"] H Q := by
  cases k with
  | non => exact ⟨_, _, _, _, false, rfl, .ty _, .inl (.base .non), kit_ty (by decide +kernel), q⟩
  | bl b => exact ⟨_, _, _, _, false, rfl, .ty _, .inl (.base (.bl b)), kit_ty (by decide +kernel), q⟩
  | int i => exact ⟨_, _, _, _, false, rfl, .ty _, .inl (.base (.int i)), kit_ty (by decide +kernel), q⟩
  | str s => exact ⟨_, _, _, _, false, rfl, .ty _, .inl (.base (.str s)), kit_ty (by decide +kernel), q⟩
  | lst h _ => exact ⟨_, _, _, _, false, rfl, .ty _, .inl (.base (.lst h)), kit_ty (by decide +kernel), by rw [isT_of h] at q; exact q⟩
  | tup h _ => exact ⟨_, _, _, _, true, rfl, .ty _, .inl (.base (.tup h)), kit_ty (by decide +kernel), by rw [isT_of h] at q; exact q⟩
  | exc ha hd e _ _ => exact ⟨_, _, _, _, false, rfl, .ty _, .inr ⟨_, _, _, _, rfl, rfl, ha, hd, e.ec⟩, kit_exc e.nt (by decide +kernel), by rw [isT_of ha] at q; exact q⟩
theorem c_isiL (k : Kn K H B v) (q : Q (.bl (isL H v)) H) : rIsiV K [v, .ty "list"] H Q := by
  cases k with
  | non => exact ⟨_, _, _, _, false, rfl, .ty _, .inl (.base .non), kit_ty (by decide +kernel), q⟩
  | bl b => exact ⟨_, _, _, _, false, rfl, .ty _, .inl (.base (.bl b)), kit_ty (by decide +kernel), q⟩
  | int i => exact ⟨_, _, _, _, false, rfl, .ty _, .inl (.base (.int i)), kit_ty (by decide +kernel), q⟩
  | str s => exact ⟨_, _, _, _, false, rfl, .ty _, .inl (.base (.str s)), kit_ty (by decide +kernel), q⟩
  | lst h _ => exact ⟨_, _, _, _, true, rfl, .ty _, .inl (.base (.lst h)), kit_ty (by decide +kernel), by rw [isL_of h] at q; exact q⟩
  | tup h _ => exact ⟨_, _, _, _, false, rfl, .ty _, .inl (.base (.tup h)), kit_ty (by decide +kernel), by rw [isL_of h] at q; exact q⟩
  | exc ha hd e _ _ => exact ⟨_, _, _, _, false, rfl, .ty _, .inr ⟨_, _, _, _, rfl, rfl, ha, hd, e.ec⟩, kit_exc e.nl (by decide +kernel), by rw [isL_of ha] at q; exact q⟩
end
/-- a stream of draws stands at a -/
def Flow (H : Hp) (a : Addr) : Prop := ∃ (c n : Int) (b : Bool) (p : Int), H a = some (.lst [.int c, .int n, .bl b, .int p])
theorem Flow.up {H H' : Hp} {a : Addr} (f : Flow H a) (k : ∀ o, H a = some o → H' a = some o) : Flow H' a := by
  obtain ⟨c, n, b, p, h⟩ := f
  exact ⟨c, n, b, p, k _ h⟩
theorem Flow.same {H H' : Hp} {a : Addr} (e : Same H H') (f : Flow H a) : Flow H' a := f.up fun o h => e _ _ h
theorem Flow.keep {H H' : Hp} {a b : Addr} (e : Keep b H H') (n : a ≠ b) (f : Flow H a) : Flow H' a := f.up fun o h => e _ _ n h
theorem Flow.at {H : Hp} {a : Addr} (f : Flow H a) : ∃ o, H a = some o := by
  obtain ⟨c, n, b, p, h⟩ := f
  exact ⟨_, h⟩
theorem Flow.ne {H : Hp} {a b : Addr} (f : Flow H a) (n : H b = none) : a ≠ b := by
  obtain ⟨o, h⟩ := f.at
  exact ne_of_none h n
end Sx
namespace Sx
open PySem L2
def Mem (K : PySem.W.Frag) (H : Hp) (B : Addr → Prop) (x : V) : Prop := Kn K H B x ∧ ∀ n, x = .int n → n.natAbs < 2 ^ 190
def Val (K : PySem.W.Frag) (H : Hp) (B : Addr → Prop) (v : V) : Prop := Kn K H B v ∧ ∀ p xs, v = .ref p → H p = some (.tup xs) → ∀ x ∈ xs, Mem K H B x
section
variable {K : PySem.W.Frag} {H H' : Hp} {B B' : Addr → Prop} {v x : V} {xs : List V} {p a d C : Addr}
theorem Mem.up (k : Mem K H B x) (hB : ∀ b, B b → B' b) (hk : ∀ b o, B b → H b = some o → H' b = some o) : Mem K H' B' x := ⟨k.1.up hB hk, k.2⟩
theorem Val.up (k : Val K H B v) (hB : ∀ b, B b → B' b) (hk : ∀ b o, B b → H b = some o → H' b = some o) : Val K H' B' v := by
  refine ⟨k.1.up hB hk, fun p xs e h x hx => ?_⟩
  subst e
  cases k.1 with
  | lst g b =>
    rw [hk _ _ b g] at h
    cases h
  | tup g b =>
    have g' := hk _ _ b g
    rw [g'] at h
    cases h
    exact (k.2 p xs rfl g x hx).up hB hk
  | exc ha hd e ba bd =>
    rw [hk _ _ ba ha] at h
    cases h
theorem mem_int {n : Int} (h1 : -100000000000000 < n) (h2 : n < 100000000000000) : Mem K H B (.int n) := ⟨.int n, fun m e => by
  cases e
  have : (100000000000000 : Nat) < 2 ^ 190 := by decide
  omega⟩
theorem mem_kn (k : Kn K H B x) (h : isI x = false) : Mem K H B x := ⟨k, fun n e => by
  subst e
  cases h⟩
theorem mems_nil : ∀ x ∈ ([] : List V), Mem K H B x := fun x h => by cases h
theorem mems_cons (h1 : Mem K H B x) (h2 : ∀ y ∈ xs, Mem K H B y) : ∀ y ∈ x :: xs, Mem K H B y := fun y h => by
  rcases List.mem_cons.mp h with rfl | h
  · exact h1
  · exact h2 y h
theorem val_tup (h : H p = some (.tup xs)) (b : B p) (m : ∀ x ∈ xs, Mem K H B x) : Val K H B (.ref p) := ⟨.tup h b, fun q ys e g => by
  cases e
  rw [h] at g
  cases g
  exact m⟩
theorem val_lst (h : H p = some (.lst xs)) (b : B p) : Val K H B (.ref p) := ⟨.lst h b, fun q ys e g => by
  cases e
  rw [h] at g
  cases g⟩
theorem val_exc {fs : List (Str × V)} (ha : H a = some (exo a C (some d))) (hd : H d = some (.xd fs)) (e : ExK K C) (ba : B a) (bd : B d) : Val K H B (.ref a) := ⟨.exc ha hd e ba bd, fun q ys z g => by
  cases z
  rw [ha] at g
  cases g⟩
theorem val_flat (k : Kn K H B v) (h : ∀ p, v ≠ .ref p) : Val K H B v := ⟨k, fun q ys e _ => absurd e (h q)⟩
theorem newx_same {H2 : Hp} {o u : HO} (na : H a = none) (nd : H d = none) (e : upd (upd H d u) a o = H2) : Same H H2 := by
  subst e
  intro b z h
  rw [upd_ne (ne_of_none h na), upd_ne (ne_of_none h nd)]
  exact h
theorem newx_at {H2 : Hp} {o u : HO} (e : upd (upd H d u) a o = H2) : H2 a = some o := by
  subst e
  exact upd_same
theorem newx_d {H2 : Hp} {o u : HO} (n : d ≠ a) (e : upd (upd H d u) a o = H2) : H2 d = some u := by
  subst e
  rw [upd_ne n]
  exact upd_same
theorem s_exv {σ : St} {Q : VK} {f : Str} {ta : TA} (h : ta σ H fun vs H1 => ∃ v, vs = [v] ∧ ∀ a d, H1 a = none → H1 d = none → d ≠ a → Q (.ref a) (upd (upd H1 d (.xd [(f, v)])) a (exo a C (some d)))) : tExV C f ta σ H Q := h
end
end Sx

set_option Elab.async false
set_option linter.all false
set_option maxRecDepth 100000
set_option maxHeartbeats 2000000
/-! a dict comprehension whose dict may have tuples as keys -/
namespace L2
open PySem PySem.Spec PyProof.Rows
section
variable {X : Cx} {pins : List (Addr × Obj)} {σ : St} {H H' : Hp} {s : Shared} {E : Value → Shared → Prop} {D : Addr} {y v : V} {yv r : Value} {Q : Unit → Shared → Prop}
/-- the store of a comprehension, keys of both kinds -/
theorem dcp_put (hu : X.A.units < cLine) (I : Inv X pins σ H s) (g : DPut H D y v H') (ry : RelV y yv) (rv : RelV v r) (h : ∀ s', Inv X pins σ H' s' → Q () s') :
    wpAny (model X.prog X.w) X.A (dictSet D yv r) Q E s := by
  rcases g with ⟨kvs, k, eD, rfl, lz, rfl⟩ | ⟨kvs, k, b, eD, rfl, eb, lz, rfl⟩
  · exact d_dictSet I eD lz ry rv h
  · obtain rfl : yv = Value.ref b := ry
    obtain ⟨z1, ns, xs, rl, ok⟩ := dt_of I.hok eD
    have l1 : (putK kvs k v).length ≤ sizeLine := Nat.le_trans (length_putK kvs k v) lz
    have l2 : xs.length ≤ sizeLine := by
      rw [← rl.length]
      exact z1
    refine wpAny_dictSet_heap (hsz := l2) (knd := tupleKind (mixKind X.prog X.w)) hu (key_of I.hok eb) ok fun hh ⟨q, es, ep, k1, k2, k3, k4, _, k5⟩ sb => h _ (d_write I (by rw [eD]; trivial) sb ⟨q, k1⟩ ?_)
    exact ⟨l1, ns, _, (rl.put k eb rv).keeps fun c ys ec => (upd_ne (ne_of ec eD fun e => nomatch e)).trans ec, q, es, ep, k1, k2, k3, k4, k5⟩
end
section
variable {X : Cx}
/-- {k: v for target in iter if ..}: u0 says which keys are coming -/
def tDcP (u0 : HO) (wi : TI) (g : TG) (tt : TT) (tk tv : TE) (vs : List Nat) : TE := fun σ H Q => wi σ H fun J H1 => ∀ D, H1 D = none →
  ∃ W : Nat → Nat → Hp → Prop, (∃ m, W 0 m (upd H1 D u0)) ∧ ∀ i m H2, W i m H2 → (J.stop i H2 ∧ Q (.ref D) H2) ∨
    (J.go i H2 ∧ ∃ Nx : Hp → Prop, (∀ H', Nx H' → ∃ m', m' < m ∧ W (i + 1) m' H') ∧ ∀ x H3, J.yld i H2 x H3 → g x (wipe σ vs) H3 fun σ2 H4 => wipe σ2 vs = wipe σ vs ∧ tt σ2 H4 fun b H5 =>
      if b = true then tk σ2 H5 fun y H6 => tv σ2 H6 fun z H7 => ∃ H8, DPut H7 D y z H8 ∧ Nx H8 else Nx H5)
/-- the two beginnings -/
def Dc0 (u0 : HO) : Prop := u0 = .dK [] ∨ u0 = .dT []
theorem Dc0.new {u0 : HO} (z : Dc0 u0) {P : Program} {w : World} {H : Hp} (h : Heap) (hb : sysModules < h.objs.size) : ObjOk P w H (h.push { cls := .type "dict", data := .dict #[] }) h.objs.size u0 := by
  rcases z with rfl | rfl
  · exact dk_empty h hb
  · exact dt_empty h hb

/-- what a comprehension's parts answer, whatever block they stand in -/
structure DcParts (X : Cx) (scope : Scope) (tg kx vx : Expr) (ifs : List Expr) (g : TG) (tt : TT) (tk tv : TE) : Prop where
  tgt : ∀ (s : Shared) (H : Hp) (C : Addr) (cl : List (Str × Addr)) (fp : List Addr), PG (X.blk s H scope (compEnvC scope cl C X.env) fp) tg g
  tst : ∀ (s : Shared) (H : Hp) (C : Addr) (cl : List (Str × Addr)) (fp : List Addr), PTs (X.blk s H scope (compEnvC scope cl C X.env) fp) ifs tt
  key : ∀ (s : Shared) (H : Hp) (C : Addr) (cl : List (Str × Addr)) (fp : List Addr), PE (X.blk s H scope (compEnvC scope cl C X.env) fp) kx tk
  val : ∀ (s : Shared) (H : Hp) (C : Addr) (cl : List (Str × Addr)) (fp : List Addr), PE (X.blk s H scope (compEnvC scope cl C X.env) fp) vx tv
/-- a dict comprehension, its value used as use says -/
theorem dcp_core {pins : List (Addr × Obj)} {s : Shared} {σ : St} {H : Hp} {Q : VK} {u0 : HO} {kx vx tg iter : Expr} {ifs : List Expr} {scope : Scope} {own : List (Str × Nat)} {pos pos' : Pos} {wi : TI} {g : TG} {tt : TT} {tk tv : TE} {use : Option (Value → Sem Unit)} {Qf : Value → Shared → Prop} (z0 : Dc0 u0) (hu : X.A.units < cLine) (hc : X.calm = true) (hN : X.N.Nodup)
    (I : Inv X pins σ H s) (hi : PI X tg iter wi) (ok : BlkOk X.N X.env.scope scope own) (parts : DcParts X scope tg kx vx ifs g tt tk tv) (hs : ∀ x, foldedSetIterable iter X.env x = pure x) (want : tDcP u0 wi g tt tk tv (own.map (·.2)) σ H Q)
    (ends : ∀ D C s' m H', Inv X pins σ H' s' → Q (.ref D) H' → s'.heap.Ns C m → FpOk X pins H' C → compPost (model X.prog X.w) X.A X.xe use Qf (.ref D) C (.ok .next) s') :
    wpAny (model X.prog X.w) X.A (comprehension (.DictComp kx vx [⟨tg, iter, ifs, 0⟩] scope pos) scope X.env pos' newDict false (eval iter X.env) use) Qf X.xe s := by
  have cells : ∀ y ∈ scope.names, y.2 = .free → ∃ c, X.env.cells.lookup y.1 = some c := fun y hy e =>
    (ok.free y hy e).elim (fun k => I.ok.has _ (.inl k)) fun k => I.ok.has _ (.inr k)
  refine wpAny_comprehension_free (use := use) rfl hs (closure_ok cells) ok.kind (fun y hy e => (ok.uniq y hy).trans (by rw [e])) ?_
  refine thn (hi.run pins s σ H _ I want) fun xv s1 hx => thn hx fun itv s2 ⟨it, fp, tn, J, H2, e, I2, T, st2, f2, rest⟩ => ?_
  subst e
  refine wpAny_newObj_type (newEnv_comp ?_)
  obtain ⟨D, hD⟩ : ∃ D, D = s2.heap.objs.size := ⟨_, rfl⟩
  rw [← hD]
  obtain ⟨W, ⟨m0, start⟩, turns⟩ := rest D (I2.hok.fresh (Nat.le_of_eq hD.symm))
  -- behind the making of the dict
  obtain ⟨s3, hs3⟩ : ∃ s3 : Shared, s3 = { s2 with heap := s2.heap.push { cls := .type "dict", data := .dict #[] } } := ⟨_, rfl⟩
  have heap3 : s3.heap = s2.heap.push { cls := .type "dict", data := .dict #[] } := by rw [hs3]
  have grows : ∀ b o, s2.heap.get? b = some o → s3.heap.get? b = some o := fun b o e => by
    rw [heap3]
    exact Heap.get?_push_of_some _ e
  have I3 : Inv X pins σ (upd H2 D u0) s3 := by
    rw [hs3]
    refine I2.laid (t' := s2.toks) (fun b o e => Heap.get?_push_of_some _ e) (Nat.le_of_eq hD.symm) ?_
    rw [hD]
    exact z0.new s2.heap I2.big
  have lows : ∀ b ∈ fp, b < s2.heap.objs.size := fun b hb => (T.obj _ _ st2 b hb).elim fun o h => Heap.lt_size h.1
  have frees : ∀ b ∈ fp, FpOk X pins (upd H2 D u0) b ∧ b < s3.heap.objs.size := fun b hb => by
    have l := lows b hb
    have n : b ≠ D := fun e => Nat.lt_irrefl _ (by rw [e, hD] at l; exact l)
    refine ⟨⟨by rw [upd_ne n]; exact (f2 b hb).1, (f2 b hb).2⟩, ?_⟩
    rw [heap3, Heap.size_push]
    exact Nat.lt_succ_of_lt l
  have st3 : tn 0 s3.heap := T.keep _ _ _ st2 fun b _ o e => grows b o e
  obtain ⟨C, hC⟩ : ∃ C, C = s3.heap.objs.size := ⟨_, rfl⟩
  obtain ⟨cl, hcl⟩ : ∃ cl, cl = cellsFrom (C + 1) scope.names (cloFrom X.env.cells scope.names []) := ⟨_, rfl⟩
  obtain ⟨H3, hH3⟩ : ∃ H3, H3 = upd H2 D u0 := ⟨_, rfl⟩
  have I4 := block_start I3 ok hN frees
  rw [← hC, ← hcl, ← hH3] at I4
  rw [← hH3] at I3 frees start
  have pg := parts.tgt s3 H3 C cl fp
  have pt := parts.tst s3 H3 C cl fp
  have pk := parts.key s3 H3 C cl fp
  have pv := parts.val s3 H3 C cl fp
  rw [← hs3, ← hC, ← hcl]
  obtain ⟨ce, hce⟩ : ∃ ce, ce = compEnvC scope cl C X.env := ⟨_, rfl⟩
  have locals : ce.locals = C := by rw [hce]; rfl
  rw [← hce] at I4 pg pt pk pv
  show codeAny _ _ (.compStart (.DictComp kx vx [⟨tg, iter, ifs, 0⟩] scope pos) 0 (.ref it) (.ref D) (compEnvC scope cl C X.env)) (compPost (model X.prog X.w) X.A X.xe use Qf (.ref D) C) { s3 with heap := pushCells (s3.heap.push { cls := .type "dict", data := .dict #[] }) scope.names }
  rw [← hce]
  obtain ⟨s4, hs4⟩ : ∃ s4 : Shared, s4 = { s3 with heap := pushCells (s3.heap.push { cls := .type "dict", data := .dict #[] }) scope.names } := ⟨_, rfl⟩
  rw [← hs4] at I4 ⊢
  have st4 : tn 0 s4.heap := T.keep _ _ _ st3 fun b _ o e => by
    rw [hs4]
    exact pushCells_keeps _ _ _ _ (Heap.get?_push_of_some _ e)
  -- what the walk reads stays what it was
  have still : ∀ {τ : St} {H' : Hp} {s' : Shared}, Inv (X.blk s3 H3 scope ce fp) [] τ H' s' → (∀ b ∈ fp, H' b = none) → ∀ b ∈ fp, FpOk (X.blk s3 H3 scope ce fp) [] H' b := by
    exact fun I' no b hb => ⟨no b hb, (I'.ok.exf b hb).1, I'.ok.exfs b hb, .inl hb, fun x c e => (I'.ok.exf b hb).2 x c e, fun p hp => absurd (show p ∈ ([] : List (Addr × Obj)) ++ [] from hp) (by simp)⟩
  -- behind the block
  have back : ∀ {τ : St} {H' : Hp} {s' : Shared}, Inv (X.blk s3 H3 scope ce fp) [] τ H' s' → Inv X pins σ H' s' ∧ (∃ m, s'.heap.Ns C m) ∧ FpOk X pins H' C := by
    intro τ H' s' I'
    have n : H' C = none := by rw [← locals]; exact I'.free
    obtain ⟨m, ns, _⟩ := I'.loc
    refine ⟨I3.call' (ch := fp) I'.os I'.base I'.hok I'.bare fun b hb => ⟨(frees b hb).1.2.2.2.1, (frees b hb).1.2.1, (frees b hb).1.2.2.2.2.1, (frees b hb).1.2.2.2.2.2⟩, ⟨m, ?_⟩, I3.fpOk (Nat.le_of_eq hC.symm) n⟩
    rw [← locals]
    exact ns
  have loop : codeAny (model X.prog X.w) X.A (.compLoop (.DictComp kx vx [⟨tg, iter, ifs, 0⟩] scope pos) 0 (.ref it) (.ref D) ce) (compPost (model X.prog X.w) X.A X.xe use Qf (.ref D) C) s4 := by
    refine compLoop_anyD (fun n s' => ∃ i H', W i n H' ∧ tn i s'.heap ∧ (∀ b ∈ fp, H' b = none) ∧ Inv (X.blk s3 H3 scope ce fp) [] (wipe σ (own.map (·.2))) H' s') ?_ m0 ⟨0, H3, start, st4, fun b hb => (frees b hb).1.1, I4⟩
    rintro n s5 ⟨i, H5, w5, st5, n5, I5⟩
    rcases turns i n H5 w5 with ⟨halt, won⟩ | ⟨go, Nx, next, turn⟩
    · refine thnF (T.done (X.blk s3 H3 scope ce fp) rfl rfl rfl hc i [] s5 _ H5 (fun _ _ => False) I5 (still I5 n5) st5 halt) fun r s6 ⟨hr, I6⟩ => ?_
      subst hr
      obtain ⟨J6, ⟨m, ns⟩, f6⟩ := back I6
      exact ends D C s6 m H5 J6 won ns f6
    · refine thnF (T.item (X.blk s3 H3 scope ce fp) rfl rfl rfl hc i [] s5 _ H5 (fun _ _ => False) I5 (still I5 n5) st5 go) fun r s6 ⟨u, hr, h6⟩ => ?_
      subst hr
      refine thnF h6 fun _ s7 ⟨x, H7, I7, r7, y7, st7, n7⟩ => ?_
      obtain ⟨pl, hpl⟩ : ∃ pl, pl = pinsAt fp s7.heap := ⟨_, rfl⟩
      have P7 : Inv (X.blk s3 H3 scope ce fp) ([] ++ pl) (wipe σ (own.map (·.2))) H7 s7 := by
        rw [hpl]
        exact I7.pinned (still I7 n7) (T.obj _ _ st7)
      -- a turn that is over
      have over : ∀ {τ : St} {s' : Shared} {H' : Hp}, wipe τ (own.map (·.2)) = wipe σ (own.map (·.2)) → Inv (X.blk s3 H3 scope ce fp) ([] ++ pl) τ H' s' → Nx H' →
          ∃ m, m < n ∧ ∃ i H', W i m H' ∧ tn i s'.heap ∧ (∀ b ∈ fp, H' b = none) ∧ Inv (X.blk s3 H3 scope ce fp) [] (wipe σ (own.map (·.2))) H' s' := by
        intro τ s' H' same I' nx
        obtain ⟨m', lt, w'⟩ := next H' nx
        have there : ∀ b ∈ fp, ∀ o, s7.heap.get? b = some o → s'.heap.get? b = some o ∧ H' b = none := fun b hb o e => by
          have z := I'.pin (b, o) (List.mem_append_right _ (List.mem_append_right _ (by rw [hpl]; exact mem_pinsAt hb e)))
          exact ⟨z.1, z.2.1⟩
        refine ⟨m', lt, i + 1, H', w', T.keep _ _ _ st7 fun b hb o e => (there b hb o e).1, fun b hb => (T.obj _ _ st7 b hb).elim fun o h => (there b hb o h.1).2, ?_⟩
        refine (I'.unpinned (pins := [])).weak (by rw [← same, wipe_length]) fun j v e => ?_
        rw [← same] at e
        exact (wipe_some e).1
      refine thnF (pg.run _ s7 _ H7 x u _ P7 r7 (turn x H7 y7)) fun _ s8 ⟨τ, H8, I8, same, q8⟩ => ?_
      refine thnF (pt.run _ s8 τ H8 _ I8 q8) fun b s9 ⟨H9, I9, q9⟩ => ?_
      cases b with
      | true =>
        refine thnF (pk.run _ s9 τ H9 _ I9 q9) fun ku s10 ⟨y, H10, I10, r10, q10⟩ => ?_
        refine thnF (pv.run _ s10 τ H10 _ I10 q10) fun vu s11 ⟨v, H11, I11, r11, H12, put, nx⟩ => ?_
        exact dcp_put (X := X.blk s3 H3 scope ce fp) hu I11 put r10 r11 fun s12 I12 => over same I12 nx
      | false => exact over same I9 q9
  exact codeAny_compStart_dict loop (T.self X.A 0 _ _ _ st4 loop)
/-- the value of a dict comprehension over any walk -/
theorem pe_dcP {u0 : HO} {kx vx tg iter : Expr} {ifs : List Expr} {scope : Scope} {own : List (Str × Nat)} {pos : Pos} {wi : TI} {g : TG} {tt : TT} {tk tv : TE} (z0 : Dc0 u0) (hu : X.A.units < cLine) (hc : X.calm = true) (hN : X.N.Nodup)
    (hi : PI X tg iter wi) (ok : BlkOk X.N X.env.scope scope own) (parts : DcParts X scope tg kx vx ifs g tt tk tv) (hs : ∀ x, foldedSetIterable iter X.env x = pure x := by intro _; rfl) :
    PE X (.DictComp kx vx [⟨tg, iter, ifs, 0⟩] scope pos) (tDcP u0 wi g tt tk tv (own.map (·.2))) := by
  refine ⟨fun pins s σ H Q I want => ?_⟩
  rw [arm_eval_DictComp]
  refine dcp_core z0 hu hc hN I hi ok parts hs want fun D C s' m H' I' q ns f => ⟨m, ns, fun h'' sb => ?_⟩
  obtain ⟨q0, q1, _, q3, q4, q5⟩ := f
  exact ⟨.ref D, H', I'.turned (t' := s'.toks) (fun b o hb e => (sb.2 b hb).trans e) q0 q1 q3 q4 q5, rfl, q⟩
theorem swd_true {kx vx : Expr} {gs : List Comprehension} {scope : Scope} {pos py : Pos} {y : Str} {l : Nat} {env : Env} (hk : env.scope.kind = .function) (hy : env.scope.names.lookup y = some .local) (hl : (py.line == pos.line) = true)
    (ha : (scope.names.any fun (n, k) => n == y && (k == .local || k == .cell)) = false) : swapsWith (.DictComp kx vx gs scope pos) (some (.Name y py)) l env = pure true := by
  have b1 : env.kindOf y = some .local := hy
  have b2 : env.blockKind = .function := by (unfold Env.blockKind; rw [hk]; rfl)
  (unfold swapsWith; simp only [b2, b1, ha, Expr.pos, hl]; rfl)
/-- name = {..} on one line, the name a local -/
theorem ps_setDc {i : Nat} {y : Str} {py : Pos} {u0 : HO} {kx vx tg iter : Expr} {ifs : List Expr} {scope : Scope} {own : List (Str × Nat)} {pos spos : Pos} {wi : TI} {g : TG} {tt : TT} {tk tv : TE} (z0 : Dc0 u0) (hu : X.A.units < cLine) (hc : X.calm = true) (hN : X.N.Nodup) (hy : X.N[i]? = some y) (hyl : X.env.scope.names.lookup y = some .local)
    (hsw : swapsWith (.DictComp kx vx [⟨tg, iter, ifs, 0⟩] scope pos) (some (.Name y py)) spos.line X.env = pure true) (hi : PI X tg iter wi) (ok : BlkOk X.N X.env.scope scope own) (parts : DcParts X scope tg kx vx ifs g tt tk tv) (hs : ∀ x, foldedSetIterable iter X.env x = pure x := by intro _; rfl) :
    PS X (.Assign [.Name y py] (.DictComp kx vx [⟨tg, iter, ifs, 0⟩] scope pos) spos) (tAsg (tDcP u0 wi g tt tk tv (own.map (·.2))) (gName i)) := by
  refine ⟨fun pins s σ H D I want => ?_⟩
  rw [exec_Assign_Name_used _ _ _ _ hsw]
  refine wpAny_bind (wpAny_standAt (wpAny_bind (m := evalThenUse _ _ _) ?_))
  show wpAny _ X.A (do let _ ← comprehension (.DictComp kx vx [⟨tg, iter, ifs, 0⟩] scope pos) scope X.env (firstIterPos [⟨tg, iter, ifs, 0⟩] pos) newDict false (eval iter X.env) (some (assign (.Name y py) X.env))) _ _ s
  have want' : tDcP u0 wi g tt tk tv (own.map (·.2)) σ H (fun x H1 => gName i x σ H1 D.nx) := want
  refine wpAny_bind (thn (dcp_core (Qf := fun _ s' => SP X pins D .next s') z0 hu hc hN I hi ok parts hs want' fun L C s' m H' I' q hn f => ?_) fun _ s' hq => wpAny_pure (wpAny_pure hq))
  obtain ⟨f0, f1, f2, f3, f4, f5⟩ := f
  refine wpAny_assign_Name (store_ok2 (v := V.ref L) I' hN hy (.inl hyl) rfl (fun s2 I2 ⟨a, sb, ha⟩ => ⟨m, hn.sameBut sb ?_, fun h3 sb3 => ⟨_, H', I2.turned (t' := s2.toks) (fun b o hb e => (sb3.2 b hb).trans e) f0 f1 f3 f4 f5, q⟩⟩) (.inr hyl))
  exact ha.elim (fun z => by rw [z]; exact f1) fun z e => f4 y a z e.symm
/-- over a tuple that stays: n turns, Pv i what is so behind i of them -/
theorem dcp_tup {K : PySem.W.Frag} {u0 : HO} {a : Addr} {xs : List V} {g : TG} {tt : TT} {tk tv : TE} {vs : List Nat} {σ : St} {H1 : Hp} {D : Addr} {Qd : Hp → Prop} (Pv : Nat → Hp → Prop) (first : Pv 0 (upd H1 D u0)) (stays : ∀ i H, i ≤ xs.length → Pv i H → SqT K H a xs)
    (each : ∀ i x H, xs[i]? = some x → Pv i H → g x (wipe σ vs) H fun σ2 H4 => wipe σ2 vs = wipe σ vs ∧ tt σ2 H4 fun b H5 =>
      if b = true then tk σ2 H5 fun y H6 => tv σ2 H6 fun z H7 => ∃ H8, DPut H7 D y z H8 ∧ Pv (i + 1) H8 else Pv (i + 1) H5) (last : ∀ H, Pv xs.length H → Qd H) :
    ∃ W : Nat → Nat → Hp → Prop, (∃ m, W 0 m (upd H1 D u0)) ∧ ∀ i m H2, W i m H2 → ((Itt K a).stop i H2 ∧ Qd H2) ∨
      ((Itt K a).go i H2 ∧ ∃ Nx : Hp → Prop, (∀ H', Nx H' → ∃ m', m' < m ∧ W (i + 1) m' H') ∧ ∀ x H3, (Itt K a).yld i H2 x H3 → g x (wipe σ vs) H3 fun σ2 H4 => wipe σ2 vs = wipe σ vs ∧ tt σ2 H4 fun b H5 =>
        if b = true then tk σ2 H5 fun y H6 => tv σ2 H6 fun z H7 => ∃ H8, DPut H7 D y z H8 ∧ Nx H8 else Nx H5) := by
  refine ⟨fun i m H => i + m = xs.length ∧ Pv i H, ⟨xs.length, Nat.zero_add _, first⟩, ?_⟩
  rintro i m H ⟨e, p⟩
  have sq := stays i H (by omega) p
  cases m with
  | zero =>
    obtain rfl : i = xs.length := by omega
    exact .inl ⟨⟨xs, sq, Nat.le_refl _⟩, last H p⟩
  | succ m =>
    have lt : i < xs.length := by omega
    refine .inr ⟨⟨xs, xs[i], sq, by simp [lt]⟩, Pv (i + 1), fun H' p' => ⟨m, Nat.lt_succ_self m, by omega, p'⟩, fun x H' ⟨e', y⟩ => ?_⟩
    subst e'
    exact each i x _ (y xs sq) p
end
end L2

set_option Elab.async false
set_option linter.all false
set_option maxRecDepth 100000
set_option maxHeartbeats 3200000
/-! set(v) of a list or a tuple, the loop's promise left open -/
namespace L2
open PySem PySem.Spec PyProof.Rows
section
variable {P : Program} {w : World} {A : Around} {E : Value → Shared → Prop} {s : Shared}
/-- the set that a call makes first -/
abbrev setNew (w : World) : Obj := { cls := .type "set", dict := none, data := .set #[] 0 (.fresh 0 0 (!w.params.followText "set-order")) }
/-- a built-in kind that set() walks -/
structure SeqTy (T : String) : Prop where
  noSet : isSubtype (.type T) (.type "set") = pure false
  noFrozen : isSubtype (.type T) (.type "frozenset") = pure false
  noDict : (Value.type T == Value.type "dict") = false
theorem seqTy_list : SeqTy "list" := ⟨F.sub_list_set, F.sub_list_frozenset, by decide⟩
theorem seqTy_tuple : SeqTy "tuple" := ⟨F.sub_tuple_set, F.sub_tuple_frozenset, by decide⟩
/-- what is asked of the walk that fills the set at S: R is what it leaves -/
def Fills (P : Program) (w : World) (A : Around) (E : Value → Shared → Prop) (S l : Addr) (R : Shared → Prop) (s : Shared) : Prop :=
  wpAny (model P w) A (pyIter (.ref l)) (fun it s2 => codeAny (model P w) A (.builtin "set.update.loop" ⟨[.ref S, it], []⟩) (wants (fun r s3 => r = .none ∧ R s3) E) s2) E s
theorem init_seq {T : String} {S l : Addr} {o : Obj} {R : Shared → Prop} (ty : SeqTy T) (hS : s.heap.get? S = some (setNew w)) (hl : s.heap.get? l = some o) (hT : o.cls = .type T) (fill : Fills P w A E S l R s) :
    wpAny (model P w) A (Builtin.«set.__init__» ⟨[.ref S, .ref l], []⟩) (fun r s2 => r = .done (.ret .none) ∧ R s2) E s := by
  obtain ⟨c, dd, da, sl⟩ := o
  obtain rfl : c = Value.type T := hT
  have q1 := ty.noSet
  have q2 := ty.noFrozen
  have q3 := ty.noDict
  unfold Builtin.«set.__init__» noKeywords Builtin.Frozenset.updateFrom
  unfold Fills at fill
  generalize pyIter = PI at *
  wp_walk
  refine wpAny_mono fill (fun it s2 h2 => ?_) fun _ _ z => z
  refine wpAny_bind (wpAny_runValue (codeAny_mono h2 fun r s3 h3 => ?_))
  cases r with
  | error e => exact h3
  | ok fl =>
    cases fl with
    | ret u => exact wpAny_pure (wpAny_pure ⟨rfl, h3.2⟩)
    | _ => exact h3.elim
/-- set(v): the walk is asked where it stands -/
theorem call_set_seq {T : String} {l : Addr} {o : Obj} {R : Shared → Prop} {Q : Value → Shared → Prop} (ty : SeqTy T) (hl : s.heap.get? l = some o) (hT : o.cls = .type T)
    (fill : Fills P w A.in1.in1 E s.heap.objs.size l R { s with heap := s.heap.push (setNew w) }) (won : ∀ s', R s' → Q (.ref s.heap.objs.size) s') : wpAny (model P w) A (call (.type "set") [.ref l]) Q E s := by
  obtain ⟨c, tl, hmro⟩ := F.called_set.mro
  have a1 := F.called_set.made
  have a2 := F.called_set.sub
  have a3 := F.called_set.notType
  have a4 := F.called_set.canCreate
  have a5 := F.typeCall_set_1 (.ref l)
  refine wpAny_call (codeAny_of_tree ?_)
  show wpAny _ _ (callAny (.type "set") ⟨[.ref l], []⟩) _ _ s
  refine wpAny_pure ⟨Code.quiet_builtin _ (by decide +kernel), codeAny_builtin F.entry_type_call ?_⟩
  rw [Around.under_plain (weight_type_call_type "set" [.ref l] []) rfl]
  repeat (any_goals (first | assumption | wp_step))
  -- the new set
  refine codeAny_mono (code_set_led1 (.ref l) (E := E) (Q₁ := fun v s1 => v = .ref s.heap.objs.size ∧ s1 = { s with heap := s.heap.push (setNew w) }) ⟨rfl, rfl⟩) fun r s1 hr => ?_
  cases r with
  | error e => exact hr
  | ok fl =>
    cases fl with
    | ret v =>
      obtain ⟨rfl, rfl⟩ := hr
      have at0 : (s.heap.push (setNew w)).get? s.heap.objs.size = some (setNew w) := Heap.get?_push_size _ rfl
      have atl : (s.heap.push (setNew w)).get? l = some o := Heap.get?_push_of_some _ hl
      have hty : Shared.TypeIs { s with heap := s.heap.push (setNew w) } (.ref s.heap.objs.size) "set" := ⟨_, at0, rfl⟩
      have b1 := F.called_set.init.lookup
      have b2 := F.called_set.init.bind (.ref s.heap.objs.size)
      repeat (any_goals (first | assumption | wp_step))
      refine codeAny_mono (codeAny_call_builtin (R := wants (fun r s2 => r = .none ∧ R s2) E) F.called_set.init.plain F.entry_set_init (check_set_init_1 hty ?_)) fun r2 s2 hr2 => ?_
      · refine wpAny_mono (init_seq ty at0 atl hT fill) (fun fin s3 h3 => ?_) fun _ _ z => z
        obtain ⟨rfl, h3⟩ := h3
        exact ⟨rfl, h3⟩
      · cases r2 with
        | error e => exact hr2
        | ok fl2 =>
          cases fl2 with
          | ret u =>
            obtain ⟨rfl, h3⟩ := hr2
            have q := won s2 h3
            repeat (any_goals (first | assumption | wp_step))
          | _ => exact hr2.elim
    | _ => exact hr.elim

/-- set(t), t a tuple of tuples of ints -/
theorem call_set_ofT {l : Addr} {items : Array Value} (ks : List (Addr × List Int)) {Q : Value → Shared → Prop} (hh : A.handled = none) (hl : s.heap.IsTuple l items) (same : items.toList = ks.map fun p => Value.ref p.1)
    (keys : ∀ p ∈ ks, IsT P w s.heap p.2 p.1) (few : ks.length < 64) (hu : A.units + 3 < cLine)
    (won : ∀ (h' : Heap) (tk : Nat) L es ep t, (∀ b o, s.heap.get? b = some o → h'.get? b = some o) → Got ks ks.length L → SetTR P w h' s.heap.objs.size L es ep t → Q (.ref s.heap.objs.size) { s with heap := h', toks := tk }) :
    wpAny (model P w) A (call (.type "set") [.ref l]) Q E s := by
  have len : items.size = ks.length := by rw [← Array.length_toList, same, List.length_map]
  obtain ⟨o, ho, oc, n, od⟩ := id hl
  have lt : l < s.heap.objs.size := Heap.lt_size ho
  have nobody : ∀ b, s.heap.objs.size ≤ b → s.heap.get? b = none := fun b hb => Classical.byContradiction fun h => by
    obtain ⟨u, hu⟩ := Option.ne_none_iff_exists'.mp h
    exact Nat.lt_irrefl _ (Nat.lt_of_le_of_lt hb (Heap.lt_size hu))
  refine call_set_seq (R := fun s' => ∃ (h' : Heap) (tk : Nat), s' = { s with heap := h', toks := tk } ∧ ∃ L es ep t, (∀ b o, s.heap.get? b = some o → h'.get? b = some o) ∧ Got ks ks.length L ∧ SetTR P w h' s.heap.objs.size L es ep t)
    seqTy_tuple ho oc ?_ fun s' ⟨h', tk, e, L, es, ep, t, q1, q2, q3⟩ => by rw [e]; exact won h' tk L es ep t q1 q2 q3
  have l1 : (s.heap.push (setNew w)).IsTuple l items := hl.at fun u e => Heap.get?_push_of_some _ e
  have sz : (s.heap.push (setNew w)).objs.size = s.heap.objs.size + 1 := Heap.size_push ..
  refine wpAny_pyIter_tuple l1 ?_
  have apart : l ≠ (s.heap.push (setNew w)).objs.size := by
    rw [sz]
    exact Nat.ne_of_lt (Nat.lt_succ_of_lt lt)
  have hA : A.in1.in1.in1.handled = none := by simp [hh]
  refine set_update_tups (A := A.in1.in1) (Walks.tuple hA _ l apart items).toS s.heap.objs.size ?_ ks len few (fun i v hv => ?_) s.heap keys (nobody _ (Nat.le_refl _)) (fun b hb => ?_) hu items.size 0 _ rfl (Nat.zero_le _)
    ⟨⟨_, Heap.get?_push_size _ rfl, rfl, rfl⟩, l1.at fun u e => Heap.get?_push_of_some _ e⟩ (fun b u e => Heap.get?_push_of_some _ (Heap.get?_push_of_some _ e)) ?_ ?_
  · rw [sz]
    simp only [List.mem_cons, List.not_mem_nil, or_false, not_or]
    exact ⟨Nat.ne_of_lt (Nat.lt_succ_self _), Nat.ne_of_gt lt⟩
  · have z : (ks.map fun p => Value.ref p.1)[i]? = some v := by rw [← same, Array.getElem?_toList]; exact hv
    rw [List.getElem?_map] at z
    obtain ⟨p, e1, e2⟩ := Option.map_eq_some_iff.mp z
    exact ⟨p, e1, e2.symm⟩
  · rw [List.mem_singleton.mp hb, sz]
    exact nobody _ (Nat.le_succ _)
  · exact ⟨[], #[], 0, _, setTR_fresh (Heap.get?_push_of_some _ (Heap.get?_push_size _ rfl)), Got.zero ks⟩
  · rintro ⟨h', g', d', tk', os'⟩ L es ep t mv full got keeps
    obtain rfl : g' = s.gens := mv.gens
    obtain rfl : d' = s.drawn := mv.drawn
    obtain rfl : os' = s.os := mv.os
    rw [len] at got
    exact ⟨rfl, h', tk', rfl, L, es, ep, t, keeps, got, full⟩
end
section
variable {X : Cx}
/-- set(t), the rule -/
def rSetOfTT (K : PySem.W.Frag) (P : Program) (w : World) : List V → Hp → VK → Prop := fun xs H Q => ∃ (l : Addr) (ks : List (Addr × List Int)), xs = [V.ref l] ∧ SqT K H l (ks.map fun p => V.ref p.1) ∧ (∀ p ∈ ks, SqT K H p.1 (p.2.map V.int)) ∧ ks.length < 64 ∧
  ∀ a L, H a = none → (∀ p ∈ L, p ∈ ks) → (∀ p ∈ ks, p.2 ∈ L.map (·.2)) → Q (.ref a) (upd H a (SetTO P w a L))
theorem cr_setOfTT (hc : X.calm = true) (hu : X.A.units + 64 < cLine) : CallR X (.type "set") (rSetOfTT X.K X.prog X.w) := by
  rintro pins s σ H xs us Q I r ⟨l, ks, rfl, tl, keys, few, won⟩
  rw [Vals.ref1 r]
  obtain ⟨its, rv, ⟨o, ho, oc, n, od⟩, _⟩ := I.tuple tl
  refine call_set_ofT (items := its.toArray) ks (I.ok.hd hc) ⟨o, ho, oc, n, od⟩ (by simpa using refs_of_vals rv) (fun p hp => I.isT (keys p hp)) few (by omega) fun h' tk L es ep t k g R => ?_
  refine ⟨.ref s.heap.objs.size, upd H s.heap.objs.size (SetTO X.prog X.w s.heap.objs.size L), I.laid (t' := tk) k (Nat.le_refl _) (setTO_new R.t0), rfl, won _ L (I.hok.fresh (Nat.le_refl _)) (fun p hp => List.mem_of_mem_take (g.sub p hp)) fun p hp => g.all p ?_⟩
  rw [List.take_length]
  exact hp
end
end L2

set_option Elab.async false
set_option linter.all false
set_option maxRecDepth 100000
set_option maxHeartbeats 3200000
/-! sorted(s) of a set with one tuple, or none -/
namespace L2
open PySem PySem.Spec PyProof.Rows SrtO
section
variable {P : Program} {w : World} {A : Around} {E : Value → Shared → Prop} {s : Shared}
theorem perm_one {α : Type} {l m : List α} (p : l.Perm m) (h : m.length ≤ 1) : l = m := by
  match m, h with
  | [], _ => exact p.eq_nil
  | [x], _ => exact List.perm_singleton.mp p
theorem swo_none {α : Type} : Swo fun (_ _ : α) => false := ⟨fun _ _ _ => rfl, fun _ _ _ _ _ => rfl⟩
theorem sorted_setOne {a : Addr} {L : List (Addr × List Int)} {es : Array (Int × Value)} {ep : Nat} {t : SetTable} {Q : Value → Shared → Prop} (R : SetTR P w s.heap a L es ep t) (hh : A.handled = none) (one : L.length ≤ 1)
    (won : ∀ s' p c, (∀ b o, s.heap.get? b = some o → s'.heap.get? b = some o) → s'.gens = s.gens → s'.os = s.os → s.heap.objs.size ≤ p → s'.heap.get? p = some (seqObj "list" (L.map fun q => Value.ref q.1).toArray c) → Q (.ref p) s') :
    wpAny (model P w) A (call (.builtin "sorted") [.ref a]) Q E s := by
  obtain ⟨o, ho, hex, hd⟩ := R.ob
  have size := R.size
  refine Calls.call_function_entry kind_sorted plain_sorted entry_sorted (args_sorted1 _) ?_
  unfold Builtin.«sorted»
  refine wpAny_bind (m := checkCount "sorted" 1 1 _) (wpAny_pure ?_)
  refine wpAny_bind (collect_set (A := A.in1) hh ⟨o, ho, hex.1, hd⟩ R.fits (by unfold scanBound; omega) R.tab.ris R.led fun s1 vs keep bigger hg hos pm => ?_)
  have vals : es.toList.map (·.2) = L.map fun q => Value.ref q.1 := by
    rw [R.rows]
    unfold rowsOf
    rw [List.map_map] <;> rfl
  have evs : vs = L.map fun q => Value.ref q.1 := by
    rw [vals] at pm
    exact perm_one pm (by rw [List.length_map]; exact one)
  subst evs
  have lz : (L.map fun q => Value.ref q.1).length ≤ sizeLine := by rw [List.length_map, sizeLine_eq]; omega
  refine wpAny_bind (wpAny_newList ?_ lz)
  have new : (s1.heap.push (seqObj "list" (L.map fun q => Value.ref q.1).toArray 0)).get? s1.heap.objs.size = some (seqObj "list" (L.map fun q => Value.ref q.1).toArray 0) := Heap.get?_push_size _ rfl
  refine wpAny_bind (wpAny_holding (wpAny_call_entry slot_list_sort ⟨_, new, rfl⟩ entry_list_sort
    (list_sort_ord (s := { s1 with heap := s1.heap.push (seqObj "list" (L.map fun q => Value.ref q.1).toArray 0) }) swo_none new lz (fun h => absurd h (by rw [List.length_map]; omega)) fun out h1 h2 => ⟨_, rfl, ?_⟩) (args_list_sort _)))
  have eo : out = L.map fun q => Value.ref q.1 := perm_one h2.perm (by rw [List.length_map]; exact one)
  subst eo
  obtain ⟨c, hc⟩ := sortedHeap_at (vs := L.map fun q => Value.ref q.1) (out := (L.map fun q => Value.ref q.1).toArray) new
  refine wpAny_pure ⟨_, rfl, won _ s1.heap.objs.size c (fun b u e => ?_) hg hos bigger hc⟩
  have lt := Heap.lt_size (keep b u e)
  have q := Heap.get?_push_of_some (seqObj "list" (L.map fun q => Value.ref q.1).toArray 0) (keep b u e)
  rw [← sortedHeap_old (vs := L.map fun q => Value.ref q.1) (out := (L.map fun q => Value.ref q.1).toArray) (Nat.ne_of_lt lt) (by rw [size_push']; exact Nat.lt_succ_of_lt lt)] at q
  exact q
end
section
variable {X : Cx}
def rSortedOne (K : PySem.W.Frag) (P : Program) (w : World) : List V → Hp → VK → Prop := fun vs H Q => ∃ (a : Addr) (L : List (Addr × List Int)), vs = [V.ref a] ∧ H a = some (SetTO P w a L) ∧ (∀ p ∈ L, SqT K H p.1 (p.2.map V.int)) ∧ (∀ p ∈ L, p.2 = []) ∧
  ((L.map (·.2)).Nodup → L.length ≤ 1 → ∀ p, H p = none → Q (.ref p) (upd H p (.lst (L.map fun q => V.ref q.1))))
theorem nils_one : ∀ {L : List (Addr × List Int)}, (L.map (·.2)).Nodup → (∀ p ∈ L, p.2 = []) → L.length ≤ 1
  | [], _, _ => Nat.zero_le _
  | [p], _, _ => Nat.le_refl _
  | p :: q :: L, nd, e => by
    have h1 := e p List.mem_cons_self
    have h2 := e q (List.mem_cons_of_mem _ List.mem_cons_self)
    have h3 := (List.nodup_cons.mp nd).1
    exact absurd (show p.2 ∈ (q :: L).map (·.2) by rw [List.map_cons, h1, h2]; exact List.mem_cons_self) h3
theorem cr_sortedOne (hc : X.calm = true) : CallR X (.builtin "sorted") (rSortedOne X.K X.prog X.w) := by
  rintro pins s σ H vs us Q I r ⟨a, L, rfl, ha, keys, nils, won⟩
  obtain ⟨es, ep, t, R⟩ := SetT0.full (show SetT0 X.prog X.w s.heap a L from (I.hok a _ ha).1) fun p hp => I.isT (keys p hp)
  have one := nils_one R.nd nils
  rw [Vals.ref1 r]
  refine sorted_setOne R (I.ok.hd hc) one fun s' p c keep hg hos le at' => ?_
  have new : H p = none := I.hok.fresh le
  have J : Inv X pins σ (upd H p (.lst (L.map fun q => V.ref q.1))) { s with heap := s'.heap, gens := s'.gens, drawn := s'.drawn, toks := s'.toks } := by
    refine I.call (ch := []) (Un.laid keep le new) (I.hok.laid keep le ⟨?_, _, c, vals_of_refs L, at'⟩) (by rw [hg]; exact I.bare) fun _ z => nomatch z
    rw [List.length_map, sizeLine_eq]
    omega
  have e : s' = { s with heap := s'.heap, gens := s'.gens, drawn := s'.drawn, toks := s'.toks } := by
    cases s'; cases s; cases hos; rfl
  rw [e]
  exact ⟨.ref p, _, J, rfl, won R.nd one p new⟩
end
end L2

set_option Elab.async false
set_option linter.all false
set_option maxRecDepth 100000
set_option maxHeartbeats 2000000
/-! len(o) by an own __len__ -/
namespace L2
open PySem PySem.Spec PyProof.Rows
section
variable {X : Cx} {CX : CXT} {k : Nat} {f C : Addr} {fd : FuncData} {ps : List Str} {sp : Sp} {E : XK}
def rLenO (C : Addr) (sp : Sp) (E : XK) : List V → Hp → VK → Prop := fun vs H Q => ∃ a dx fs, vs = [.ref a] ∧ H a = some (.ins C dx fs) ∧ sp [.ref a] H (fun v H' => ∃ n : Nat, v = .int n ∧ n < 2 ^ 62 ∧ Q (.int n) H') E
theorem call_lenO (F : FnOk X.prog X.w X.K X.mg X.base CX k f fd ps sp) (hr : Room (k + 1) X.A) (hs : PySem.W.findIn X.K (.ref C) "__len__" = some (some (.ref f))) (hf : PySem.W.isFn X.K (.ref f) = true) (hb : Binds X.K fd ps []) (hx : Passes CX X E) :
    CallR X (.builtin "len") (rLenO C sp E) := by
  rintro pins s σ H vs us Q I r ⟨a, dx, fs, rfl, ha, hsp⟩
  rw [Vals.ref1 r]
  obtain ⟨mA, J, _⟩ := ins_get I.hok ha
  obtain ⟨od, J, _⟩ := J.look
  obtain ⟨m, hF⟩ := I.fr
  refine PySem.W.len_K hF I.ok.mod.kin J hs hf ?_
  have sub : Sub X k X.A.in1 := Sub.in1 ⟨hr, rfl⟩
  have e0 : Env0 X.prog X.w X.K X.mg X.base X.A.in1 X.stack s H := by
    have e := I.env0
    exact ⟨by rw [sub.fr]; exact e.frames, e.mod, e.bs, e.bsz, e.funs, e.frf, e.hok, e.bare⟩
  have hl := F.len _ _ _ _ hsp
  refine wpAny_call (codeAny_mono (F.run X.A.in1 X.stack s H ⟨[.ref a], []⟩ [.ref a] [.ref a] _ E sub.room e0 (by
    have z := hb s [.ref a] I.kIn (by simpa using hl)
    simpa using z) (.cons rfl .nil) hsp) fun r s' hq => ?_)
  cases r with
  | error e => exact hx pins σ H s e s' I hq
  | ok fl =>
    cases fl with
    | ret w =>
      obtain ⟨z, H', I', rz, n, ez, hn, q⟩ := I.after hq
      subst ez
      obtain ⟨t, rfl⟩ := rz
      refine ⟨⟨Int.natCast_nonneg n, by omega⟩, .int n, H', I'.tok _, ⟨_, rfl⟩, q⟩
    | next => exact False.elim hq
    | brk => exact False.elim hq
    | cont => exact False.elim hq
end
end L2

set_option Elab.async false
set_option linter.all false
set_option maxRecDepth 100000
set_option maxHeartbeats 2000000
/-! values of any kind asked for their class; instances of an own class -/
namespace Sx
open PySem L2
/-- an own class whose instances are asked with isinstance -/
structure OwnK (K : PySem.W.Frag) (C : Addr) : Prop where
  cl : Cls K C
  co : PySem.W.findIn K (.ref C) "__class__" = some (some (.builtin "object.__class__"))
  s1 : PySem.W.specialIn K (.builtin "object.__class__") "__get__" = some (some (.builtin "getset_descriptor.__get__"))
  s2 : PySem.W.takesIn K (.builtin "object.__class__") = some true
  mo : PySem.W.mroIn K C (.type "object") = some true
  is : PySem.W.subIn K (.ref C) (.ref C) = some true
  ni : PySem.W.subIn K (.ref C) (.type "int") = some false
  nb : PySem.W.subIn K (.ref C) (.type "bool") = some false
  nt : PySem.W.subIn K (.ref C) (.type "tuple") = some false
  ns : PySem.W.subIn K (.ref C) (.type "str") = some false
  nl : PySem.W.subIn K (.ref C) (.type "list") = some false
theorem u1 {k : Nat} {A : Around} (r : Room k A) : A.units + 1 < cLine := by
  have := r.units
  omega
/-- isinstance(v, T) is b -/
def IsIn (K : PySem.W.Frag) (H : Hp) (v : V) (T : String) (b : Bool) : Prop := ∃ ty, KX K H v ty ∧ PySem.W.kitOne K ty (.type T) = some b
section
variable {K : PySem.W.Frag} {H H' : Hp} {B : Addr → Prop} {v : V} {Q : VK} {C : Addr}
theorem isi_in {T : String} {b : Bool} (h : IsIn K H v T b) (q : Q (.bl b) H) : rIsiV K [v, .ty T] H Q := by
  obtain ⟨ty, k, e⟩ := h
  exact ⟨v, .ty T, ty, .type T, b, rfl, .ty T, k, e, q⟩
theorem OwnK.ty (o : OwnK K C) {a dx : Addr} {fs : List (Str × V)} (h : H a = some (.ins C dx fs)) : KX K H (.ref a) (.ref C) := .inl (.base (.ins h o.cl o.co o.s1 o.s2 o.mo))
theorem OwnK.isin (o : OwnK K C) {a dx : Addr} {fs : List (Str × V)} (h : H a = some (.ins C dx fs)) {T : String} {b : Bool} (e : PySem.W.subIn K (.ref C) (.type T) = some b) (m : PySem.W.kitMeta T = true) : IsIn K H (.ref a) T b :=
  ⟨_, o.ty h, kit_exc e m⟩
/-- isinstance(o, C), o one of C's -/
theorem OwnK.own (o : OwnK K C) {a dx : Addr} {fs : List (Str × V)} (h : H a = some (.ins C dx fs)) (q : Q (.bl true) H) : rIsiV K [.ref a, .ref C] H Q := by
  refine ⟨.ref a, .ref C, .ref C, .ref C, true, rfl, .own C, o.ty h, ?_, q⟩
  unfold PySem.W.kitOne
  rw [if_pos (beq_self_eq_true _)]
theorem in_int (i : Int) : IsIn K H (.int i) "int" true := ⟨_, .inl (.base (.int i)), kit_ty (by decide +kernel)⟩
theorem in_int_b (i : Int) : IsIn K H (.int i) "bool" false := ⟨_, .inl (.base (.int i)), kit_ty (by decide +kernel)⟩
theorem in_int_t (i : Int) : IsIn K H (.int i) "tuple" false := ⟨_, .inl (.base (.int i)), kit_ty (by decide +kernel)⟩
theorem in_int_l (i : Int) : IsIn K H (.int i) "list" false := ⟨_, .inl (.base (.int i)), kit_ty (by decide +kernel)⟩
theorem in_int_s (i : Int) : IsIn K H (.int i) "str" false := ⟨_, .inl (.base (.int i)), kit_ty (by decide +kernel)⟩
theorem in_tup {p : Addr} {xs : List V} (h : H p = some (.tup xs)) : IsIn K H (.ref p) "tuple" true := ⟨_, .inl (.base (.tup h)), kit_ty (by decide +kernel)⟩
theorem in_tup_i {p : Addr} {xs : List V} (h : H p = some (.tup xs)) : IsIn K H (.ref p) "int" false := ⟨_, .inl (.base (.tup h)), kit_ty (by decide +kernel)⟩
theorem in_tup_b {p : Addr} {xs : List V} (h : H p = some (.tup xs)) : IsIn K H (.ref p) "bool" false := ⟨_, .inl (.base (.tup h)), kit_ty (by decide +kernel)⟩
theorem in_tup_l {p : Addr} {xs : List V} (h : H p = some (.tup xs)) : IsIn K H (.ref p) "list" false := ⟨_, .inl (.base (.tup h)), kit_ty (by decide +kernel)⟩
theorem in_tup_s {p : Addr} {xs : List V} (h : H p = some (.tup xs)) : IsIn K H (.ref p) "str" false := ⟨_, .inl (.base (.tup h)), kit_ty (by decide +kernel)⟩
theorem in_lst {p : Addr} {xs : List V} (h : H p = some (.lst xs)) : IsIn K H (.ref p) "list" true := ⟨_, .inl (.base (.lst h)), kit_ty (by decide +kernel)⟩
theorem in_lst_t {p : Addr} {xs : List V} (h : H p = some (.lst xs)) : IsIn K H (.ref p) "tuple" false := ⟨_, .inl (.base (.lst h)), kit_ty (by decide +kernel)⟩
/-- asked for int and for bool -/
def NI (K : PySem.W.Frag) (H : Hp) (v : V) : Prop := ∃ b c, IsIn K H v "int" b ∧ IsIn K H v "bool" c ∧ (b && !c) = isI v
theorem ni_int (i : Int) : NI K H (.int i) := ⟨_, _, in_int i, in_int_b i, rfl⟩
theorem ni_kn (k : Kn K H B v) : NI K H v := by
  cases k with
  | non => exact ⟨false, false, ⟨_, .inl (.base .non), kit_ty (by decide +kernel)⟩, ⟨_, .inl (.base .non), kit_ty (by decide +kernel)⟩, rfl⟩
  | bl b => exact ⟨true, true, ⟨_, .inl (.base (.bl b)), kit_ty (by decide +kernel)⟩, ⟨_, .inl (.base (.bl b)), kit_ty (by decide +kernel)⟩, rfl⟩
  | int i => exact ni_int i
  | str s => exact ⟨false, false, ⟨_, .inl (.base (.str s)), kit_ty (by decide +kernel)⟩, ⟨_, .inl (.base (.str s)), kit_ty (by decide +kernel)⟩, rfl⟩
  | lst h _ => exact ⟨false, false, ⟨_, .inl (.base (.lst h)), kit_ty (by decide +kernel)⟩, ⟨_, .inl (.base (.lst h)), kit_ty (by decide +kernel)⟩, rfl⟩
  | tup h _ => exact ⟨_, _, in_tup_i h, in_tup_b h, rfl⟩
  | exc ha hd e _ _ => exact ⟨false, false, ⟨_, .inr ⟨_, _, _, _, rfl, rfl, ha, hd, e.ec⟩, kit_exc e.ni (by decide +kernel)⟩, ⟨_, .inr ⟨_, _, _, _, rfl, rfl, ha, hd, e.ec⟩, kit_exc e.nb (by decide +kernel)⟩, rfl⟩
theorem OwnK.ni' (o : OwnK K C) {a dx : Addr} {fs : List (Str × V)} (h : H a = some (.ins C dx fs)) : NI K H (.ref a) := ⟨_, _, o.isin h o.ni (by decide +kernel), o.isin h o.nb (by decide +kernel), rfl⟩
/-- the number that a value is -/
def num? (f : Int → Bool) : V → Bool | .int i => f i | _ => false
def isBit : V → Bool := num? fun i => decide (0 ≤ i) && decide (i ≤ 1)
theorem tyOf_same {t : Value} (e : Same H H') (h : TyOf K H v t) : TyOf K H' v t := by
  cases h with
  | non => exact .non
  | bl x => exact .bl x
  | int i => exact .int i
  | str x => exact .str x
  | flt x => exact .flt x
  | lst g => exact .lst (e _ _ g)
  | frz g => exact .frz (e _ _ g)
  | tup g => exact .tup (e _ _ g)
  | dK g => exact .dK (e _ _ g)
  | dT g => exact .dT (e _ _ g)
  | ins g cl ha hn htk hm => exact .ins (e _ _ g) cl ha hn htk hm
theorem tyX_same {t : Value} (e : Same H H') (h : TyX K H v t) : TyX K H' v t := by
  cases h with
  | base g => exact .base (tyOf_same e g)
  | byt b => exact .byt b
  | set g => exact .set (e _ _ g)
  | kList g c => exact .kList g c
  | kTuple g c => exact .kTuple g c
  | kDict g c => exact .kDict g c
  | fTuple g => exact .fTuple (e _ _ g)
  | fDict g => exact .fDict (e _ _ g)
theorem isIn_same {T : String} {b : Bool} (e : Same H H') (h : IsIn K H v T b) : IsIn K H' v T b := by
  obtain ⟨ty, k, z⟩ := h
  refine ⟨ty, k.elim (fun k => .inl (tyX_same e k)) fun ⟨a, C, d, fs, e1, e2, ha, hd, c⟩ => .inr ⟨a, C, d, fs, e1, e2, e _ _ ha, e _ _ hd, c⟩, z⟩
theorem ni_same (e : Same H H') (h : NI K H v) : NI K H' v := by
  obtain ⟨b, c, h1, h2, z⟩ := h
  exact ⟨b, c, isIn_same e h1, isIn_same e h2, z⟩
theorem s_chain {σ : St} {r r' : R2} {ta tb tc : TE} (h : ta σ H fun x H1 => tb σ H1 fun y H2 => r x y H2 fun z H3 => ∃ k, z = .bl k ∧ if k = true then tc σ H3 fun w H4 => r' y w H4 Q else Q (.bl false) H3) : tChain r r' ta tb tc σ H Q := h
theorem s_fldS {σ : St} {D : Ends} {ta tv : TE} {f : Str} (h : tv σ H fun y H1 => ta σ H1 fun x H2 => ∃ a C dx fs, x = .ref a ∧ H2 a = some (.ins C dx fs) ∧ Cls K C ∧ NoAttr K C f ∧ fs.length < 1000 ∧ D.nx σ (upd H2 a (.ins C dx (putF f y fs)))) : sFld K ta tv f D σ H := h
theorem r_put {x : V} {a dx : Addr} {fs : List (Str × V)} {f : Str} {y : V} {P : Hp → Prop} (e : x = .ref a) (h : H a = some (.ins C dx fs)) (c : Cls K C) (n : NoAttr K C f) (l : fs.length < 1000) (q : ∀ H2, Keep a H H2 → H2 a = some (.ins C dx (putF f y fs)) → P H2) :
    ∃ a C dx fs, x = .ref a ∧ H a = some (.ins C dx fs) ∧ Cls K C ∧ NoAttr K C f ∧ fs.length < 1000 ∧ P (upd H a (.ins C dx (putF f y fs))) := ⟨a, C, dx, fs, e, h, c, n, l, q _ (put_keep rfl) upd_same⟩
theorem s_fld {σ : St} {ta : TE} {f : Str} (h : ta σ H fun x H1 => ∃ a C dx fs v, x = .ref a ∧ H1 a = some (.ins C dx fs) ∧ Cls K C ∧ NoAttr K C f ∧ fs.lookup f = some v ∧ Q v H1) : tFld K ta f σ H Q := h
theorem r_get {x : V} {a dx : Addr} {fs : List (Str × V)} {f : Str} {v : V} {P : V → Prop} (e : x = .ref a) (h : H a = some (.ins C dx fs)) (c : Cls K C) (n : NoAttr K C f) (l : fs.lookup f = some v) (q : P v) :
    ∃ a C dx fs v, x = .ref a ∧ H a = some (.ins C dx fs) ∧ Cls K C ∧ NoAttr K C f ∧ fs.lookup f = some v ∧ P v := ⟨a, C, dx, fs, v, e, h, c, n, l, q⟩
theorem s_dIn {σ : St} {ty td : TE} (h : ty σ H fun y H1 => td σ H1 fun x H2 => ∃ a o, x = .ref a ∧ DGet H2 a y o ∧ Q (.bl o.isSome) H2) : tDIn ty td σ H Q := h
theorem s_dNotIn {σ : St} {ty td : TE} (h : ty σ H fun y H1 => td σ H1 fun x H2 => ∃ a o, x = .ref a ∧ DGet H2 a y o ∧ Q (.bl (!o.isSome)) H2) : tDNotIn ty td σ H Q := h
theorem s_sl {σ : St} {r : V → Option Int → Option Int → Hp → VK → Prop} {te : TE} {tl th : TO} (h : te σ H fun x H1 => tl σ H1 fun l H2 => th σ H2 fun u H3 => r x l u H3 Q) : tSl r te tl th σ H Q := h
theorem s_noPart {σ : St} {R : Option Int → Hp → Prop} (h : R none H) : tNoPart σ H R := h
theorem s_part {σ : St} {t : TE} {R : Option Int → Hp → Prop} (h : t σ H fun x H1 => ∃ i, x = .int i ∧ R (some i) H1) : tPart t σ H R := h
/-- t[:j], a part of it -/
theorem r_take {p : Addr} {xs : List V} {j : Nat} (h : H p = some (.tup xs)) (lt : j < xs.length) (q : ∀ p' H2, H p' = none → Same H H2 → H2 p' = some (.tup (xs.take j)) → Q (.ref p') H2) : rSlA K (.ref p) none (some (j : Int)) H Q := by
  refine ⟨p, xs, rfl, SqT.of h, fun z => ?_, fun _ p' np => q p' _ np (Sx.Same.new np) ?_⟩
  · have e := z.2
    rw [HT.sIx_nat] at e
    omega
  · rw [upd_same]
    unfold cutV
    rw [HT.sIx_nat, HT.sIx_none, Nat.min_eq_left (Nat.le_of_lt lt)]
    rfl
/-- t[j + 1:] -/
theorem r_drop {p : Addr} {xs : List V} {j : Nat} (h : H p = some (.tup xs)) (lt : j < xs.length) (q : ∀ p' H2, H p' = none → Same H H2 → H2 p' = some (.tup (xs.drop (j + 1))) → Q (.ref p') H2) : rSlA K (.ref p) (some ((j : Int) + 1)) none H Q := by
  have e1 : ((j : Int) + 1) = ((j + 1 : Nat) : Int) := by omega
  rw [e1]
  refine ⟨p, xs, rfl, SqT.of h, fun z => ?_, fun _ p' np => q p' _ np (Sx.Same.new np) ?_⟩
  · have e := z.1
    rw [HT.sIx_nat] at e
    omega
  · rw [upd_same]
    unfold cutV
    rw [HT.sIx_nat, HT.sIx_none, Nat.min_eq_left lt, List.take_of_length_le (by rw [List.length_drop]; omega)]
/-- t + u -/
theorem r_cat {a b : Addr} {xs ys : List V} (ha : H a = some (.tup xs)) (hb : H b = some (.tup ys)) (sz : xs.length + ys.length ≤ sizeLine) (q : ∀ p H2, Same H H2 → H2 p = some (.tup (xs ++ ys)) → Q (.ref p) H2) : rCatA K (.ref a) (.ref b) H Q := by
  refine ⟨a, b, xs, ys, rfl, rfl, SqT.of ha, SqT.of hb, sz, fun e => q b H (L2.Same.refl _) ?_, fun _ e => q a H (L2.Same.refl _) ?_, fun _ _ p np => q p _ (Sx.Same.new np) upd_same⟩
  · rw [e]
    exact hb
  · rw [e, List.append_nil]
    exact ha
theorem s_meth {σ : St} {C : Addr} {m : Str} {sp : Sp} {dvs : List V} {E : XK} {ta : TE} {t : TA} (h : ta σ H fun x H1 => ∃ a dx fs, x = .ref a ∧ H1 a = some (.ins C dx fs) ∧ fs.lookup m = none ∧ t σ H1 fun vs H2 => sp (x :: (vs ++ dvs)) H2 Q E) : tMeth C m sp dvs E ta t σ H Q := h
theorem s_make {σ : St} {C : Addr} {sp : Sp} {dvs : List V} {E : XK} {t : TA} (h : t σ H fun vs H1 => ∀ x dx, H1 x = none → H1 dx = none → dx ≠ x → sp (.ref x :: (vs ++ dvs)) (upd (upd H1 dx (.own x)) x (.ins C dx [])) (fun v H2 => v = .non ∧ Q (.ref x) H2) E) : tMake C sp dvs E t σ H Q := h
theorem in_of {T : String} {b : Bool} (h : rIsiV K [v, .ty T] H fun z _ => z = .bl b) : IsIn K H v T b := by
  obtain ⟨x, c, t, u, b', e, kc, kx, ke, hb⟩ := h
  cases e
  cases kc
  cases hb
  exact ⟨t, kx, ke⟩
theorem in_iK (k : Kn K H B v) : IsIn K H v "int" (isI v || isB v) := in_of (c_isiI k rfl)
theorem in_bK (k : Kn K H B v) : IsIn K H v "bool" (isB v) := in_of (c_isiB k rfl)
theorem in_sK (k : Kn K H B v) : IsIn K H v "str" (isS v) := in_of (c_isiS k rfl)
theorem in_tK (k : Kn K H B v) : IsIn K H v "tuple" (isT H v) := in_of (c_isiT k rfl)
theorem in_lK (k : Kn K H B v) : IsIn K H v "list" (isL H v) := in_of (c_isiL k rfl)
theorem r_isN {x : V} (q : Q (.bl (decide (x = .non))) H) : V.non = V.non ∧ Q (.bl (decide (x = .non))) H := ⟨rfl, q⟩
theorem s_yes {σ : St} {R : Bool → Hp → Prop} (h : R true H) : tYes σ H R := h
theorem r_len {p : Addr} {xs : List V} (h : H p = some (.tup xs)) (q : Q (.int xs.length) H) : ∃ x n, [V.ref p] = [x] ∧ LenV K x H n ∧ Q (.int n) H := ⟨_, _, rfl, .inr ⟨xs, SqT.of h, rfl⟩, q⟩
end
end Sx

set_option Elab.async false
set_option linter.all false
set_option maxRecDepth 100000
set_option maxHeartbeats 2000000
/-! An own exception class under a class under ValueError, whose __init__ is: super().__init__("text"); self.f = f. -/
namespace PySem
namespace SupX_what
open PySem.W PySem.Calls PyProof.Rows PySem.HandSPX
/-! ### the text of such an __init__ -/
def iA (p1 p2 : Pos) : Arguments := { posonlyargs := [], args := [{ arg := "self", annotation := none, pos := p1 }, { arg := "what", annotation := none, pos := p2 }], vararg := none, kwonlyargs := [], kw_defaults := [], kwarg := none, defaults := [] }
def iB (m : Str) (k : Nat) (p0 p1 p2 p3 p4 p5 q1 q2 q3 q4 : Pos) : List Stmt :=
  [.Expr (.Call (.Attribute (.Call (.Name "super" p0) [] [] p1) "__init__" p2) [.Constant (.str m) k p3] [] p4) p5,
   .Assign [.Attribute (.Name "self" q1) "what" q2] (.Name "what" q3) q4]
def iS : Scope := { kind := .function, names := [(PySem.Str.ofString "self", .local), (PySem.Str.ofString "what", .local), (PySem.Str.ofString "__class__", .free), (PySem.Str.ofString "super", .globalImplicit)], isGenerator := false, isCoroutine := false, more := [] }
/-- what the written part says of such a class at C, its __init__ at fI -/
structure XTxt (P : Program) (K : Frag) (mg : Str → Option Value) (x : Str) (C fI : Addr) : Prop where
  gC : mg x = some (.ref C)
  nm : (x == ("__debug__" : Str)) = false
  sup : mg "super" = none
  cls : ∃ nm q N bs bm sn sub ab col dd k0 k1 k2 k3 k5, K.lookup C = some (excClassObj nm q C N bs bm true sn sub ab col dd k0 k1 k2 k3 k5 "ValueError.__new__") ∧ refsVE bm = true
  sa : findIn K (.ref C) "__setattr__" = some (some (.builtin "object.__setattr__"))
  noN : findIn K (.ref C) "what" = some none
  iC : findIn K (.ref C) "__init__" = some (some (.ref fI))
  tC : typeIn K (.ref fI) = some (.type "function")
  kC : keepIn K (.ref C) = true
  exC : subIn K (.ref C) (.type "BaseException") = some true
  veC : subIn K (.ref C) (.type "ValueError") = some true
  tyC : typeIn K (.ref C) = some (.type "type")
  te : exmOne K (.ref C) (.ref C) = some true
  xf : L2.XfC K C
  sIn : ks_superIn K C C "__init__" = some (some (.builtin "ValueError.__init__"))
  opq : nsIn K cStatics "thirdparty.any" = some none
  mro : mroIn K C (.ref C) = some true
  htop : (P.main.scope.names.lookup ("super" : Str)).isSome = false
  fn : ∃ (oc : Value) (od : Option Addr) (doc pm : Value) (an : Option Addr) (cda cc : Addr) (ct : Value) (osl : Array (Option Value)) (qual m : Str) (k : Nat) (r1 r2 p0 p1 p2 p3 p4 p5 q1 q2 q3 q4 : Pos)
      (ccl cl : Value) (cdd cld : Option Addr) (ccs csl : Array (Option Value)) (vs : Array Value) (file : Str) (tf : Tok),
    K.lookup fI = some ⟨oc, od, .func (ksFn "__init__" qual (iA r1 r2) (iB m k p0 p1 p2 p3 p4 p5 q1 q2 q3 q4) iS .none .none doc pm an (.ref cda) ct cc), osl⟩ ∧ codeIn K (.ref cda) qual = true ∧ (p2.endLine == p4.line) = true ∧
    K.lookup cda = some ⟨ccl, cdd, .fields vs, ccs⟩ ∧ vs[2]? = some (.str file tf) ∧ ((P.main.file : Str) == file) = true ∧ K.lookup cc = some ⟨cl, cld, .cell (some (.ref C)), csl⟩
/-- what __init__ leaves of a fresh exception at x -/
structure InitEnd (h h' : Heap) (x C dx : Addr) (v : Value) : Prop where
  keep : ∀ b o, b ≠ x → h.get? b = some o → h'.get? b = some o
  obj : ∃ t1 : Addr, h'.get? x = some { cls := .ref C, dict := some dx, data := .fields #[.ref t1, .none, .none, .none, .bool false, .none] }
  dbig : h.objs.size ≤ dx
  dne : dx ≠ x
  ns : h'.Ns1 dx (fun y => if y = "what" then some v else none)
theorem kept_but {K : Frag} {h h' : Heap} {x : Addr} (X : K.In h) (hx : K.lookup x = none) (k : ∀ b o, b ≠ x → h.get? b = some o → h'.get? b = some o) : K.In h' := fun a o e =>
  k a o (fun z => by rw [z, hx] at e; cases e) (X a o e)
theorem two_size (v : Value) : [v].length ≤ sizeLine := by
  rw [sizeLine_eq]
  exact (by decide : 1 ≤ 16777216)
section
variable {prog : Program} {w : World} {A : Around} {E : Value → Shared → Prop} {h : Heap} {g : Array GenState} {d : Drawn} {t : Nat} {os : OsState}
variable {nm q : Str} {C N : Addr} {bs bm : List Value} {hdct : Bool} {sn : List Str} {sub : List Value} {ab : Bool} {col : Option Bool} {dd : Option Addr} {k0 k1 k2 k3 k5 : Option Value}
/-- the bound ValueError.__init__, called -/
theorem call_bw {u e t0 : Addr} {rest : List Value} {Q : Value → Shared → Prop}
    (hC : h.get? C = some (excClassObj nm q C N bs bm hdct sn sub ab col dd k0 k1 k2 k3 k5 "ValueError.__new__")) (he : h.get? e = some (excO C t0)) (hu : h.get? u = some (kxs_mw "ValueError.__init__" e)) (hrest : rest.length ≤ sizeLine)
    (hq : ∀ h' t1, (∀ b o, b ≠ e → h.get? b = some o → h'.get? b = some o) → h'.get? e = some (excO C t1) → Q .none ⟨h', g, d, t, os⟩) :
    wpAny (model prog w) A (call (.ref u) rest) Q E ⟨h, g, d, t, os⟩ := by
  refine wpAny_call (codeAny_of_tree ?_)
  show wpAny _ A.in1 (callAny (.ref u) ⟨rest, []⟩) _ _ _
  simp only [callAny]
  refine wpAny_bind (wpAny_load hu ?_)
  simp only [kxs_mw, show (Value.type "method-wrapper" == Value.type "method" || Value.type "method-wrapper" == Value.type "builtin_function_or_method" || Value.type "method-wrapper" == Value.type "method-wrapper") = true by decide, if_true]
  refine W.KFB.if_so (by decide) ?_
  refine wpAny_bind (ESX.check_bound F.excBase_ValueError hC he rfl ?_)
  refine wpAny_bind (wpAny_pure (wpAny_pure ?_))
  refine ⟨Code.quiet_builtin _ (by decide +kernel), codeAny_builtin F.excBase_ValueError.initEntry ?_⟩
  rw [Around.under_plainId F.excBase_ValueError.init.plain _]
  wp_walk
  refine hq _ h.objs.size (fun b o hb ho => ?_) ?_
  · rw [Heap.get?_update_other _ _ (Ne.symm hb)]
    exact Heap.get?_push_of_some _ ho
  · rw [Heap.get?_update_self _ (Heap.get?_push_of_some _ he) rfl]
    rfl
end
section
variable {prog : Program} {w : World} {A : Around} {R : Result → Shared → Prop} {s : Shared} {K : Frag} {mg : Str → Option Value} {x : Str} {C fI : Addr}
theorem sup_init (T : XTxt prog K mg x C fI) {e t0 : Addr} {v : Value} (X : K.In s.heap) (hlim : s.heap.NoLimit) (hg : s.heap.Ns mainGlobals mg) (hb : ∃ mb, s.heap.Ns builtinsNs mb ∧ ∀ y : Str, y ≠ "__name__" → mb y = bootBuiltins y)
    (hx : s.heap.get? e = some (excO C t0)) (hnx : K.lookup e = none) (hroom : A.depth < recursionLimit)
    (hq : ∀ h' tk dx, InitEnd s.heap h' e C dx v → R (.ok (.ret .none)) { s with heap := h', toks := tk }) :
    codeAny (model prog w) A (.call (.ref fI) ⟨[.ref e, v], []⟩) R s := by
  obtain ⟨oc, od, doc, pm, an, cda, cc, ct, osl, qual, m, k, r1, r2, p0, p1, p2, p3, p4, p5, q1, q2, q3, q4, ccl, cl, cdd, cld, ccs, csl, vs, file, tf, ho, hcd, hln, hcode, hvs, hfile, hcell⟩ := T.fn
  obtain ⟨nm, q, N, bs, bm, sn, sub, ab, col, dd, k0, k1, k2, k3, k5, hC, hbm⟩ := T.cls
  obtain ⟨mb, hb1, hb2⟩ := hb
  have hcl : clsIn K C = some { name := nm, bases := bs, mro := .ref C :: bm, ns := N, qualname := q, hasDict := true, slotNames := sn, subclasses := sub, abstract := ab, collection := col, hasDel := false } := by unfold clsIn; rw [hC] <;> rfl
  refine ks_codeAny_call_defAt (fd := ksFn "__init__" qual (iA r1 r2) (iB m k p0 p1 p2 p3 p4 p5 q1 q2 q3 q4) iS .none .none doc pm an (.ref cda) ct cc) (body := iB m k p0 p1 p2 p3 p4 p5 q1 q2 q3 q4) (binds := [("self", .ref e), ("what", v)])
    hroom (X _ _ ho) rfl hlim (codeRec_of X hcd) rfl (BindsTo.of_eq ?_) ?_ ?_ (fun h₁ hns hk₁ => ?_) rfl rfl rfl
  · first | rfl | with_unfolding_all rfl
  · intro y hy
    have hy2 : y ∈ [(PySem.Str.ofString "self", NameKind.local), (PySem.Str.ofString "what", .local), (PySem.Str.ofString "__class__", .free), (PySem.Str.ofString "super", .globalImplicit)] := hy
    simp only [List.mem_cons, List.not_mem_nil, or_false] at hy2
    rcases hy2 with rfl | rfl | rfl | rfl <;> intro z <;> cases z
  · intro y hy
    simp only [List.mem_cons, List.not_mem_nil, or_false] at hy
    rcases hy with rfl | rfl <;> rfl
  -- the frame: self, the field's value
  have X₁ : K.In h₁ := X.keeps hk₁
  have hx₁ := hk₁ _ _ hx
  have hC₁ := X₁ _ _ hC
  show _root_.PySem.wpAt _ _ _ (execs (iB m k p0 p1 p2 p3 p4 p5 q1 q2 q3 q4) _) _ _ _
  refine ks_wpAt_execs_cons (ks_wpAt_Expr_any (ks_wpAt_MethodCall (pl := (do return (← importBound (.Call (.Name "super" p0) [] [] p1) (callEnv
          (ksFn "__init__" qual (iA r1 r2) (iB m k p0 p1 p2 p3 p4 p5 q1 q2 q3 q4) iS .none .none doc pm an (.ref cda) ct cc) s.heap.objs.size fI)).getD true)) ?_ ?he) rfl rfl)
  case he =>
    rw [eval]
    unfold methodCall methodCallPos
    simp only [hln, Bool.or_true, if_true, pure_bind]
    rfl
  refine ks_wpAt_super_base (f := fI) (cc := cda) rfl rfl (by decide +kernel) rfl (X₁ _ _ ho) rfl rfl rfl (X₁ _ _ hcode) rfl hvs hfile T.htop ?_
  refine ks_loadName_global rfl rfl (loadGlobal_builtin (hg.keeps hk₁) T.sup (hb1.keeps hk₁) ((hb2 _ (by decide +kernel)).trans (show bootBuiltins "super" = some (.type "super") by first | rfl | decide +kernel | kernel_rfl)) ⟨rfl, ?_⟩)
  refine wpAny_loadName_free rfl rfl rfl ⟨_, X₁ _ _ hcell, rfl⟩ ?_
  refine wpAny_loadName_local (v := .ref e) rfl rfl hns (by rfl) ?_
  refine ks_wpAny_isType_cls hC₁ rfl ⟨rfl, ?_⟩
  refine ks_wpAny_call_super hC₁ rfl hx₁ rfl (fun c z => nomatch z) (looks_mroIn X₁ T.mro) (fun h₂ e₂ k₂ => ?_)
  have X₂ : K.In h₂ := X₁.keeps k₂
  have hx₂ := k₂ _ _ hx₁
  have hC₂ := X₂ _ _ hC
  have I₂ : InstAt h₂ e (excO C t0) C none := ⟨hx₂, rfl, rfl, trivial⟩
  have hI : Looks (model prog w) h₂ (isInstance (.ref e) (.type "ValueError")) true := I₂.type.andThen (looks_subIn X₂ T.veC)
  have hsi : alongIn K "__init__" (((Value.ref C :: bm).dropWhile (· != .ref C)).drop 1) = some (some (.builtin "ValueError.__init__")) := by
    have z := T.sIn
    unfold ks_superIn at z
    rw [hcl] at z
    exact z
  have hmro : Looks (model prog w) h₂ (mroOf (.ref C)) (Value.ref C :: bm) := fun A' Q' E' s' k' q' => wpAny_bind ((looks_clsIn X₂ hcl) A' _ E' s' k' (wpAny_pure q'))
  refine kxs_getMethod kxs_ValueError e₂ (looks_opaque X₂ T.opq) hmro rfl X₂ hsi hI (ks_ne X₂ I₂ hcl) (by decide +kernel) ?_
  have hu : (h₂.push (kxs_mw "ValueError.__init__" e)).get? h₂.objs.size = some (kxs_mw "ValueError.__init__" e) := by heap_get
  have k₃ : ∀ b o, h₂.get? b = some o → (h₂.push (kxs_mw "ValueError.__init__" e)).get? b = some o := fun b o z => Heap.get?_push_of_some _ z
  refine kxs_callWith (i := "ValueError.__init__") (x := e) (by rfl) ?_
  refine evalArgs_plain (spliced_cons ?_)
  show wpAny _ _ (eval (.Constant (.str m) k p3) _) _ _ _
  refine Constant_str (spliced_nil ⟨hu, ?_⟩)
  refine call_bw (k₃ _ _ hC₂) (k₃ _ _ hx₂) hu (two_size _) (fun h₄ t4 k₄ hx₄ => ?_)
  have k₅ : ∀ b o, b ≠ e → s.heap.get? b = some o → h₄.get? b = some o := fun b o z y => k₄ b o z (k₃ _ _ (k₂ _ _ (hk₁ _ _ y)))
  have X₄ : K.In h₄ := kept_but (X₂.keeps k₃) hnx k₄
  have hLe : s.heap.objs.size ≠ e := Nat.ne_of_gt (Heap.lt_size hx)
  have hns₄ : h₄.Ns s.heap.objs.size (fun y => List.lookup y ([(("self" : Str), Value.ref e), (("what" : Str), v)] : List (Str × Value)).reverse) := by
    obtain ⟨oL, es, ep, hL, r⟩ := hns
    exact ⟨oL, es, ep, k₄ _ _ hLe (k₃ _ _ (k₂ _ _ hL)), r⟩
  show wpAt _ _ _ (execs [.Assign [.Attribute (.Name "self" q1) "what" q2] (.Name "what" q3) q4] _) _ _ _
  refine wpAt_of_wpAny (wpAny_execs_cons (plainObj_wpAny_Assign_Attribute ?_))
  refine ESX.ldL (v := v) hns₄ (by rfl) (ESX.ldL (v := .ref e) hns₄ (by rfl) ?_)
  refine set_plain X₄ (ox := excO C t4) (od := none) ⟨hx₄, rfl, rfl, trivial⟩ T.sa ?_
  refine exc_osa X₄ hx₄ hcl (show refsVE (.ref C :: bm) = true from hbm) rfl T.noN (fun h₆ tk₆ dx k₆ dn dne hx₆ hn₆ => ?_)
  refine wpAny_execs_nil (hq h₆ tk₆ dx ⟨fun b o hb y => k₆ b o hb (k₅ b o hb y), ⟨t4, hx₆⟩, ?_, dne, hn₆⟩)
  have z : s.heap.objs.size < h₄.objs.size := hns₄.lt
  exact Nat.le_of_lt (Nat.lt_of_lt_of_le z dn)
/-- a made exception -/
structure OwnMade (h h' : Heap) (e C d : Addr) (v : Value) : Prop where
  keep : ∀ b o, h.get? b = some o → h'.get? b = some o
  new : h.objs.size ≤ e
  obj : ∃ t1 : Addr, h'.get? e = some { cls := .ref C, dict := some d, data := .fields #[.ref t1, .none, .none, .none, .bool false, .none] }
  dbig : h.objs.size ≤ d
  dne : d ≠ e
  ns : h'.Ns1 d (fun y => if y = "what" then some v else none)
theorem sup_made (T : XTxt prog K mg x C fI) {v : Value} (X : K.In s.heap) (hlim : s.heap.NoLimit) (hg : s.heap.Ns mainGlobals mg) (hb : ∃ mb, s.heap.Ns builtinsNs mb ∧ ∀ y : Str, y ≠ "__name__" → mb y = bootBuiltins y) (hroom : A.depth + 1 < recursionLimit)
    (hq : ∀ h' tk e d, OwnMade s.heap h' e C d v → R (.ok (.ret (.ref e))) { s with heap := h', toks := tk }) :
    codeAny (model prog w) A (.call (.ref C) ⟨[v], []⟩) R s := by
  obtain ⟨nm, q, N, bs, bm, sn, sub, ab, col, dd, k0, k1, k2, k3, k5, hC, hbm⟩ := T.cls
  obtain ⟨mb, hb1, hb2⟩ := hb
  obtain ⟨hp, g, dr, tk, os⟩ := s
  have k : ∀ b o, hp.get? b = some o → ((hp.push (kdv_tup [v])).push (excO C hp.objs.size)).get? b = some o := fun b o e => Heap.get?_push_of_some _ (Heap.get?_push_of_some _ e)
  have hget : ((hp.push (kdv_tup [v])).push (excO C hp.objs.size)).get? (hp.objs.size + 1) = some (excO C hp.objs.size) := by heap_get
  have hnx : K.lookup (hp.objs.size + 1) = none := by
    cases e : K.lookup (hp.objs.size + 1) with
    | none => rfl
    | some o =>
      have z : hp.get? (hp.objs.size + 1) = some o := X _ _ e
      exact absurd (Nat.lt_of_succ_lt (Heap.lt_size z)) (Nat.lt_irrefl _)
  refine call_own F.excBase_ValueError (fun X => refsVE_contains X bm hbm) (X _ _ hC) (looks_findIn X T.iC) (fun self => bind_fn X self T.tC) (two_size v) ?_
  refine sup_init (s := ⟨(hp.push (kdv_tup [v])).push (excO C hp.objs.size), g, dr, tk, os⟩) T (X.keeps k) (hlim.keeps k) (hg.keeps k) ⟨mb, hb1.keeps k, hb2⟩ hget hnx ?_ fun h' tk' dx M => ?_
  · show A.depth + 1 < recursionLimit
    exact hroom
  · obtain ⟨k', hx, dn, dne, hns⟩ := M
    have old : ∀ b o, hp.get? b = some o → h'.get? b = some o := fun b o e => k' b o (Nat.ne_of_lt (Nat.lt_succ_of_lt (Heap.lt_size e))) (k b o e)
    have z : hp.objs.size + 1 + 1 ≤ dx := by
      first
        | (simpa only [Heap.size_push] using dn)
        | exact dn
        | (have q := dn; rw [Heap.size_push, Heap.size_push] at q; exact q)
    exact ⟨rfl, hq h' tk' (hp.objs.size + 1) dx ⟨old, Nat.le_succ _, hx, Nat.le_trans (Nat.le_trans (Nat.le_succ _) (Nat.le_succ _)) z, dne, hns⟩⟩
end
end SupX_what
end PySem
namespace L2
namespace Sup_what
open PySem PySem.Spec PyProof.Rows PySem.SupX_what
section
variable {X : Cx} {C fI : Addr} {x : Str}
theorem gblt {pins : List (Addr × Obj)} {σ : St} {H : Hp} {s : Shared} (I : Inv X pins σ H s) : ∃ mb, s.heap.Ns builtinsNs mb ∧ ∀ y : Str, y ≠ "__name__" → mb y = bootBuiltins y := by
  obtain ⟨mb, h1, h2⟩ := I.mod.blt
  exact ⟨mb, h1.keeps I.bk, h2⟩
theorem pmk_sup {a : Expr} {ta : TA} {p pos : Pos} {k : Nat} (T : XTxt X.prog X.K X.mg x C fI) (hr : Room k X.A) (ha : PA X [a] ta) (hg : Gl X x := by rfl)
    (he : starEach (a :: []) X.env = (false, eval a X.env) :: starEach [] X.env := by rfl) (hpl : (backTo pos (starEach [] X.env)).any (·.1) = false := by rfl) :
    PMk X (.Call (.Name x p) [a] [] pos) (tMkX C "what" ta) := by
  intro pins s σ H Q I h
  refine wpAny_Call_Name_kw (ld_glob I hg T.gC ?_ T.nm)
  refine PySem.W.callWith_K (h₀ := X.base) I.ok.mod.kin T.kC (thn (ha.run pos pins s σ H _ I h) fun us s1 hh => ?_) he hpl
  obtain ⟨vs, H1, I1, r1, v, ev, q1⟩ := hh
  subst ev
  refine ⟨I1.kIn, ?_⟩
  cases r1 with
  | cons rv rn =>
    rename_i v' us'
    cases rn
    show wpAny _ _ (call (.ref C) [v']) _ _ _
    have hlim := I1.nolimit
    have hgl := I1.mod.glob.keeps I1.bk
    have hbl := gblt I1
    obtain ⟨hp, g, dr, tk, os⟩ := s1
    refine wpAny_call (sup_made T I1.kIn hlim hgl hbl (by have := hr.dp; omega) fun h' tk' e d M => ?_)
    show MkP X pins σ Q (.ref e) ⟨h', g, dr, tk', os⟩
    obtain ⟨t1, hoe⟩ := M.obj
    have hns := M.ns
    obtain ⟨G', g1, g2⟩ := restrict h' fun b => decide (b ≠ e)
    have gk : ∀ b, b ≠ e → G'.get? b = h'.get? b := fun b hb => g1 b (decide_eq_true hb)
    have ge : G'.get? e = none := g2 e (by simp)
    have old : ∀ b o, hp.get? b = some o → G'.get? b = some o := fun b o q => (gk b (Nat.ne_of_lt (Nat.lt_of_lt_of_le (Heap.lt_size q) M.new))).trans (M.keep b o q)
    have ob : ObjOk X.prog X.w (upd H1 d (.xd [(("what" : Str), v)])) G' d (.xd [(("what" : Str), v)]) :=
      ⟨_, hns.at (fun o q => (gk d M.dne).trans q), fun f => relO_one rv f⟩
    have J : Inv X pins σ (upd H1 d (.xd [(("what" : Str), v)])) ⟨G', g, dr, tk', os⟩ := I1.laid (t' := tk') old M.dbig ob
    refine ⟨e, _, _, ⟨G', g, dr, tk', os⟩, _, .ref C, some d, rfl, J, fun b o q => ?_, ge, hoe, ⟨rfl, rfl⟩, rfl, rfl, ?_, rfl, I1.bare, raises_own T.exC T.tyC, q1 d (I1.hok.fresh M.dbig)⟩
    · by_cases hb : b = e
      · have q' : G'.get? b = some o := q
        rw [hb, ge] at q'; cases q'
      · exact (gk b hb).symm.trans q
    · rw [upd_ne (Ne.symm M.dne)]
      exact I1.hok.fresh M.new
/-- raise C(e) -/
theorem ps_raiseSup {a : Expr} {ta : TA} {W : WX} {p pos pos2 : Pos} {k : Nat} (hc : X.calm = true) (T : XTxt X.prog X.K X.mg x C fI) (hr : Room k X.A) (tk : Takes X W) (ha : PA X [a] ta) (hg : Gl X x := by rfl)
    (he : starEach (a :: []) X.env = (false, eval a X.env) :: starEach [] X.env := by rfl) (hpl : (backTo pos (starEach [] X.env)).any (·.1) = false := by rfl) :
    PS X (.Raise (some (.Call (.Name x p) [a] [] pos)) none pos2) (fun _ σ H => tMkX C "what" ta σ H fun cls d H' => W cls d σ H') := ps_raise hc tk (pmk_sup T hr ha hg he hpl)
theorem pmk_supN {a : Expr} {ta : TA} {p pos : Pos} {k : Nat} (T : XTxt X.prog X.K X.mg x C fI) (hr : Room k X.A) (ha : PA X [a] ta) (hg : Gl X x := by rfl)
    (he : starEach (a :: []) X.env = (false, eval a X.env) :: starEach [] X.env := by rfl) (hpl : (backTo pos (starEach [] X.env)).any (·.1) = false := by rfl) :
    L2N.PMk X (.Call (.Name x p) [a] [] pos) (tMkX C "what" ta) := by
  intro pins s σ H Q I h
  refine wpAny_Call_Name_kw (ld_glob I hg T.gC ?_ T.nm)
  refine PySem.W.callWith_K (h₀ := X.base) I.ok.mod.kin T.kC (thn (ha.run pos pins s σ H _ I h) fun us s1 hh => ?_) he hpl
  obtain ⟨vs, H1, I1, r1, v, ev, q1⟩ := hh
  subst ev
  refine ⟨I1.kIn, ?_⟩
  cases r1 with
  | cons rv rn =>
    rename_i v' us'
    cases rn
    show wpAny _ _ (call (.ref C) [v']) _ _ _
    have hlim := I1.nolimit
    have hgl := I1.mod.glob.keeps I1.bk
    have hbl := gblt I1
    obtain ⟨hp, g, dr, tk, os⟩ := s1
    refine wpAny_call (sup_made T I1.kIn hlim hgl hbl (by have := hr.dp; omega) fun h' tk' e d M => ?_)
    show L2N.MkP X pins σ Q (.ref e) ⟨h', g, dr, tk', os⟩
    obtain ⟨t1, hoe⟩ := M.obj
    have hns := M.ns
    obtain ⟨G', g1, g2⟩ := restrict h' fun b => decide (b ≠ e)
    have gk : ∀ b, b ≠ e → G'.get? b = h'.get? b := fun b hb => g1 b (decide_eq_true hb)
    have ge : G'.get? e = none := g2 e (by simp)
    have old : ∀ b o, hp.get? b = some o → G'.get? b = some o := fun b o q => (gk b (Nat.ne_of_lt (Nat.lt_of_lt_of_le (Heap.lt_size q) M.new))).trans (M.keep b o q)
    have ob : ObjOk X.prog X.w (upd H1 d (.xd [(("what" : Str), v)])) G' d (.xd [(("what" : Str), v)]) :=
      ⟨_, hns.at (fun o q => (gk d M.dne).trans q), fun f => relO_one rv f⟩
    have J : Inv X pins σ (upd H1 d (.xd [(("what" : Str), v)])) ⟨G', g, dr, tk', os⟩ := I1.laid (t' := tk') old M.dbig ob
    refine ⟨e, _, _, ⟨G', g, dr, tk', os⟩, _, .ref C, some d, rfl, J, fun b o q => ?_, ge, hoe, ⟨rfl, rfl, fun vs e => by cases e; rfl⟩, rfl, rfl, ?_, rfl, I1.bare, raises_own T.exC T.tyC, q1 d (I1.hok.fresh M.dbig)⟩
    · by_cases hb : b = e
      · have q' : G'.get? b = some o := q
        rw [hb, ge] at q'; cases q'
      · exact (gk b hb).symm.trans q
    · rw [upd_ne (Ne.symm M.dne)]
      exact I1.hok.fresh M.new
/-- raise C(e) -/
theorem ps_raiseSupN {a : Expr} {ta : TA} {W : WX} {p pos pos2 : Pos} {k : Nat} (hc : X.calm = true) (T : XTxt X.prog X.K X.mg x C fI) (hr : Room k X.A) (tk : L2N.Takes X W) (ha : PA X [a] ta) (hg : Gl X x := by rfl)
    (he : starEach (a :: []) X.env = (false, eval a X.env) :: starEach [] X.env := by rfl) (hpl : (backTo pos (starEach [] X.env)).any (·.1) = false := by rfl) :
    PS X (.Raise (some (.Call (.Name x p) [a] [] pos)) none pos2) (fun _ σ H => tMkX C "what" ta σ H fun cls d H' => W cls d σ H')   := L2N.ps_raise hc tk (pmk_supN T hr ha hg he hpl)
/-- C(e) as a value -/
theorem pe_supV {a : Expr} {ta : TA} {p pos : Pos} {k : Nat} (T : XTxt X.prog X.K X.mg x C fI) (hr : Room k X.A) (ha : PA X [a] ta) (hg : Gl X x := by rfl)
    (he : starEach (a :: []) X.env = (false, eval a X.env) :: starEach [] X.env := by rfl) (hpl : (backTo pos (starEach [] X.env)).any (·.1) = false := by rfl) :
    PE X (.Call (.Name x p) [a] [] pos) (tExV C "what" ta) := by
  refine ⟨fun pins s σ H Q I h => ?_⟩
  refine wpAny_Call_Name_kw (ld_glob I hg T.gC ?_ T.nm)
  refine PySem.W.callWith_K (h₀ := X.base) I.ok.mod.kin T.kC (thn (ha.run pos pins s σ H _ I h) fun us s1 hh => ?_) he hpl
  obtain ⟨vs, H1, I1, r1, v, ev, q1⟩ := hh
  subst ev
  refine ⟨I1.kIn, ?_⟩
  cases r1 with
  | cons rv rn =>
    rename_i v' us'
    cases rn
    show wpAny _ _ (call (.ref C) [v']) _ _ _
    have hlim := I1.nolimit
    have hgl := I1.mod.glob.keeps I1.bk
    have hbl := gblt I1
    obtain ⟨hp, g, dr, tk, os⟩ := s1
    refine wpAny_call (sup_made T I1.kIn hlim hgl hbl (by have := hr.dp; omega) fun h' tk' e d M => ?_)
    obtain ⟨t1, hoe⟩ := M.obj
    have hne : H1 e = none := I1.hok.fresh M.new
    have hnd : H1 d = none := I1.hok.fresh M.dbig
    have nde : ∀ {b : Addr} {o : Obj}, hp.get? b = some o → b ≠ e := fun {b o} z => Nat.ne_of_lt (Nat.lt_of_lt_of_le (Heap.lt_size z) M.new)
    have ndd : ∀ {b : Addr} {o : Obj}, hp.get? b = some o → b ≠ d := fun {b o} z => Nat.ne_of_lt (Nat.lt_of_lt_of_le (Heap.lt_size z) M.dbig)
    have two : ∀ {b : Addr} {o : HO}, H1 b = some o → upd (upd H1 d (.xd [(("what" : Str), v)])) e (exo e C (some d)) b = some o := fun {b o} z => by
      rw [upd_ne (ne_of_none z hne), upd_ne (ne_of_none z hnd)]
      exact z
    have U : Un X.fs [] H1 (upd (upd H1 d (.xd [(("what" : Str), v)])) e (exo e C (some d))) hp h' := {
      keep := fun b u z _ _ _ => M.keep b u z
      slot := fun b u z _ _ _ => ⟨u.slots, M.keep b u z⟩
      free := fun b u z n _ => by rw [upd_ne (nde z), upd_ne (ndd z)]; exact n
      there := fun b u z _ => ⟨u, M.keep b u z⟩
      tups := fun b xs z => two z
      frzs := fun b u xs z => two z
      tbls := fun b ps z => ⟨#[], by rw [two z]; simp⟩ }
    have ok2 : HOk X.prog X.w (upd (upd H1 d (.xd [(("what" : Str), v)])) e (exo e C (some d))) h' := fun b o z => by
      by_cases hb : b = e
      · subst hb
        rw [upd_same] at z
        cases z
        exact exo_ok hoe
      · rw [upd_ne hb] at z
        by_cases hd : b = d
        · subst hd
          rw [upd_same] at z
          cases z
          exact ⟨_, M.ns, fun f => relO_one rv f⟩
        · rw [upd_ne hd] at z
          exact (I1.hok b o z).stay (fun c u _ q => M.keep c u q) (fun c q => two q) fun c xs q => two q
    have J2 : Inv X pins σ (upd (upd H1 d (.xd [(("what" : Str), v)])) e (exo e C (some d))) ⟨h', g, dr, tk', os⟩ := I1.un (t' := tk') U ok2
    exact ⟨.ref e, _, J2, rfl, q1 e d hne hnd M.dne⟩
end
end Sup_what
end L2

set_option Elab.async false
set_option linter.all false
set_option maxRecDepth 100000
set_option maxHeartbeats 2000000
/-! t[::-1], t a tuple -/
namespace TV
open PySem PySem.Spec PyProof.Rows HT
section
variable {prog : Program} {w : World} {A : Around} {E : Value → Shared → Prop} {s : Shared}
theorem back_adjust (n : Nat) : Builtin.Slice.sliceAdjust none none (-1) (n : Int) = ((n : Int) - 1, -1) := by
  unfold Builtin.Slice.sliceAdjust
  have h1 : ((-1 : Int) < 0) := by omega
  simp only [h1, if_true]
theorem back_places (n : Nat) : Builtin.Slice.slicePlaces ((n : Int) - 1) (-1) (-1) = n := by
  unfold Builtin.Slice.slicePlaces
  have h1 : ¬ ((-1 : Int) > 0) := by omega
  have e : (- (-1) : Int) = 1 := by omega
  simp only [h1, if_false, e, Int.ediv_one]
  split <;> omega
theorem back_pick (xs : Array Value) : ((List.range xs.size).filterMap fun (k : Nat) => xs[(((xs.size : Int) - 1) + (k : Int) * (-1)).toNat]?).toArray = xs.toList.reverse.toArray := by
  rw [← PySem.W.krv_pick]
  unfold slicePick
  rw [PySem.W.krv_bounds]
  show _ = ((sliceRange ((xs.size : Int) - 1) (-1) (-1)).filterMap (xs[·]?)).toArray
  rw [PySem.W.krv_sliceRange, List.filterMap_map]
  have cg : ∀ (L : List Nat) (f g : Nat → Option Value), (∀ k ∈ L, f k = g k) → L.filterMap f = L.filterMap g := fun L f g h => by
    induction L with
    | nil => rfl
    | cons x L ih => rw [List.filterMap_cons, List.filterMap_cons, h x List.mem_cons_self, ih fun k hk => h k (List.mem_cons_of_mem _ hk)]
  refine congrArg List.toArray (cg _ _ _ fun k hk => ?_)
  have l := List.mem_range.mp hk
  have e : (((xs.size : Int) - 1) + (k : Int) * (-1)).toNat = xs.size - 1 - k := by omega
  show xs[(((xs.size : Int) - 1) + (k : Int) * (-1)).toNat]? = xs[xs.size - 1 - k]?
  rw [e]
theorem back_applied {sl : Addr} {vl vu vs : Value} {n : Nat} {Q : Int × Int × Nat → Shared → Prop} (hs : s.heap.IsSliceOf sl vl vu vs) (pl : IsPart vl none) (pu : IsPart vu none) (ps : IsPart vs (some (-1)))
    (h : Q ((n : Int) - 1, -1, n) s) : wpAny (model prog w) A (Builtin.Slice.sliceApplied (.ref sl) (pure (n : Int))) Q E s := by
  obtain ⟨os, hos, hcs, hds⟩ := id hs
  unfold Builtin.Slice.sliceApplied Builtin.Slice.sliceFields
  refine wpAny_bind (wpAny_bind (wpAny_field hos hds (x := vl) rfl (wpAny_bind (wpAny_field hos hds (x := vu) rfl (wpAny_bind (wpAny_field hos hds (x := vs) rfl (wpAny_pure ?_)))))))
  refine wpAny_bind (slicePart_ ps ?_)
  show wpAny _ _ (if ((-1 : Int) == 0) = true then _ else _) _ _ s
  rw [if_neg (by decide)]
  refine wpAny_bind (slicePart_ pl (wpAny_bind (slicePart_ pu (wpAny_bind (wpAny_pure ?_)))))
  show wpAny _ _ (match Builtin.Slice.sliceAdjust none none (-1) (n : Int) with | (lo, hi) => pure (lo, (-1 : Int), Builtin.Slice.slicePlaces lo hi (-1))) _ _ s
  rw [back_adjust n]
  show wpAny _ _ (pure ((n : Int) - 1, (-1 : Int), Builtin.Slice.slicePlaces ((n : Int) - 1) (-1) (-1))) _ _ s
  rw [back_places]
  exact wpAny_pure h
theorem back_item {t sl : Addr} {items : Array Value} {vl vu vs : Value} {Q : Value → Shared → Prop} (ht : IsTup s.heap t items) (hs : s.heap.IsSliceOf sl vl vu vs) (pl : IsPart vl none) (pu : IsPart vu none) (ps : IsPart vs (some (-1)))
    (h : Q (.ref s.heap.objs.size) { s with heap := s.heap.push { cls := .type "tuple", data := .seq items.toList.reverse.toArray } })
    (hsz : items.size ≤ sizeLine) : wpAny (model prog w) A (getItem (.ref t) (.ref sl)) Q E s := by
  have htake : sizeOk (.seq items.toList.reverse.toArray) := by
    show items.toList.reverse.toArray.size ≤ sizeLine
    rw [List.size_toArray, List.length_reverse, Array.length_toList]
    omega
  obtain ⟨os, hos, hcs, hds⟩ := id hs
  have hTs : s.TypeIs (.ref sl) "slice" := ⟨os, hos, hcs⟩
  unfold getItem
  try with_reducible refine wpAny_holding ?_
  first | refine wpAny_bind (wpAny_pure ?_) | skip
  refine wpAny_bind (wpAny_sequenceKey ht.typeIs (by decide) ?_)
  refine wpAny_bind (wpAny_callSpecial?_slot (name := Str.ofString "__getitem__") ht.typeIs PyProof.Rows.slot_tuple_getitem
    (wpAny_call_entry PyProof.Rows.slot_tuple_getitem ht.typeIs entry_tuple_getitem ?_ (args_tuple_getitem _ _)))
  show wpAny _ _ (Builtin.Tuple.tupleItemsOf (.ref t) >>= _) _ _ s
  refine wpAny_bind (tupleItemsOf_ ht ?_)
  refine wpAny_bind (wpAny_typeOf hTs ?_)
  rw [if_pos (by decide)]
  refine wpAny_bind (back_applied hs pl pu ps ?_)
  have hno : ¬ ((((items.size : Int) - 1) == 0 && (-1 : Int) == 1 && items.size == items.size) = true) := by
    intro q
    rw [Bool.and_eq_true, Bool.and_eq_true] at q
    exact absurd q.1.2 (by decide)
  show wpAny _ _ (if (((items.size : Int) - 1) == 0 && (-1 : Int) == 1 && items.size == items.size) = true then _ else _) _ _ s
  rw [if_neg hno, back_pick]
  first
    | exact wpAny_bind (m := Builtin.Tuple.tupleExact _) (wpAny_newObj_type (wpAny_pure ⟨_, rfl, wpAny_pure h⟩) htake)
    | exact wpAny_bind (m := Builtin.Tuple.tupleExact _) (wpAny_newObj_type (wpAny_bind (wpAny_pure (wpAny_pure ⟨_, rfl, wpAny_pure h⟩))) htake)
    | exact wpAny_bind (wpAny_bind (m := Builtin.Tuple.tupleExact _) (wpAny_newObj_type (wpAny_pure (wpAny_pure ⟨_, rfl, wpAny_pure h⟩)) htake))
    | exact wpAny_bind (wpAny_bind (m := Builtin.Tuple.tupleExact _) (wpAny_newObj_type (wpAny_pure ⟨_, rfl, wpAny_pure h⟩) htake))
end
end TV
namespace L2
open PySem PySem.Spec PyProof.Rows
section
variable {X : Cx}
def tRevT (K : PySem.W.Frag) (te : TE) : TE := fun σ H Q => te σ H fun x H1 => ∃ a xs, x = .ref a ∧ SqT K H1 a xs ∧ ∀ p, H1 p = none → Q (.ref p) (upd H1 p (.tup xs.reverse))
theorem pe_revT {e : Expr} {te : TE} {k : Nat} {p1 p2 p3 pos : Pos} (he : PE X e te) : PE X (.Subscript e (.Slice none none (some (.UnaryOp .USub (.Constant (.int 1) k p1) p2)) p3) pos) (tRevT X.K te) := by
  refine ⟨fun pins s σ H Q I h => ?_⟩
  refine Subscript_ (thn (he.run pins s σ H _ I h) fun v s1 ⟨x, H1, I1, r1, q1⟩ => ?_)
  obtain ⟨a, xs, ex, hx, q⟩ := q1
  subst ex
  cases r1
  have hst : PO X (some (.UnaryOp .USub (.Constant (.int 1) k p1) p2)) (tPart (tUn (rU fun i => .int (-i)) (tC (.int 1)))) := po_some (pe_un un_neg pe_int)
  refine wpAny_Slice (thn (po_none.run pins s1 σ H1 (fun o H2 => o = none ∧ H2 = H1) I1 ⟨rfl, rfl⟩) fun vl s2 ⟨l, H2, I2, pl, el, e2⟩ => ?_)
  subst el e2
  refine thn (po_none.run pins s2 σ H2 (fun o H3 => o = none ∧ H3 = H2) I2 ⟨rfl, rfl⟩) fun vu s3 ⟨u, H3, I3, pu, eu, e3⟩ => ?_
  subst eu e3
  refine thn (hst.run pins s3 σ H3 (fun o H4 => o = some (-1) ∧ H4 = H3) I3 ⟨1, rfl, -1, rfl, rfl, rfl⟩) fun vs s4 ⟨o, H4, I4, ps, eo, e4⟩ => ?_
  subst eo e4
  have I5 : Inv X pins σ H4 { s4 with heap := s4.heap.push { cls := .type "slice", data := .fields #[vl, vu, vs] } } := I4.kept (t' := s4.toks) fun b ob q => Heap.get?_push_of_some _ q
  obtain ⟨its, r, ht, hz⟩ := I5.tuple hx
  have hlen := r.length
  show wpAny (model X.prog X.w) X.A (subscriptTail e (.Slice none none (some (.UnaryOp .USub (.Constant (.int 1) k p1) p2)) p3) (.ref a) (.ref s4.heap.objs.size)) (EP X pins σ Q) X.xe { s4 with heap := s4.heap.push { cls := .type "slice", data := .fields #[vl, vu, vs] } }
  refine tail_any (ops := [.ref a, .ref s4.heap.objs.size]) ht.typeIs PyProof.Rows.slot_tuple_getitem.lookup ?_ (by with_unfolding_all rfl)
  refine TV.back_item ht (Heap.IsSliceOf.new _ vl vu vs) pl pu ps ?_ (by rw [List.size_toArray]; omega)
  refine ⟨.ref _, _, I5.laid (t' := s4.toks) (o := .tup xs.reverse) (fun b ob q => Heap.get?_push_of_some _ q) (Nat.le_refl _) ?_, rfl, q _ (I5.hok.fresh (Nat.le_refl _))⟩
  exact ⟨by rw [List.length_reverse]; exact hz, _, r.reverse, IsTup.new _ _⟩
end
end L2

set_option Elab.async false
set_option linter.all false
set_option maxRecDepth 100000
set_option maxHeartbeats 1000000
/-! list(combinations(range(n), r)), one rule -/
namespace Cm
open PySem PySem.Spec PyProof.Rows

theorem owner_cm : Manifest.owners.lookup (String.ofList (['s', 'n', 'o', 'i', 't', 'a', 'n', 'i', 'b', 'm', 'o', 'c', '.', 's', 'l', 'o', 'o', 't', 'r', 'e', 't', 'i'] : List Char).reverse) = some Manifest.sig_itertools_combinations := by kernel_rfl
theorem slot_next : Slot "itertools.combinations" "__next__" "itertools.combinations.__next__" :=
  .of (owner := "itertools.combinations") (n := "__next__") (by rw [typeLookup_type, builtinLookup_eq_fast]; kernel_rfl) (by decide +kernel) (by decide +kernel) (by decide +kernel)
    (by first | exact .inl (by decide +kernel) | exact .inr (by decide +kernel)) (by rw [isSubtype_type]; kernel_rfl)
theorem entry_next : entryFor table "itertools.combinations.__next__" = some Builtin.«itertools.combinations.__next__» := entryFor_of_tree (by kernel_rfl)
theorem args_next (a : Value) : argsOk "itertools.combinations.__next__" ⟨[a], []⟩ := by
  unfold argsOk; rw [signature?_of (id := "itertools.combinations.__next__") (n := ['_', '_', 't', 'x', 'e', 'n', '_', '_']) (o := ['s', 'n', 'o', 'i', 't', 'a', 'n', 'i', 'b', 'm', 'o', 'c', '.', 's', 'l', 'o', 'o', 't', 'r', 'e', 't', 'i']) (by kernel_rfl) owner_cm]; kernel_rfl
theorem slot_iter : Slot "itertools.combinations" "__iter__" "itertools.combinations.__iter__" :=
  .of (owner := "itertools.combinations") (n := "__iter__") (by rw [typeLookup_type, builtinLookup_eq_fast]; kernel_rfl) (by decide +kernel) (by decide +kernel) (by decide +kernel)
    (by first | exact .inl (by decide +kernel) | exact .inr (by decide +kernel)) (by rw [isSubtype_type]; kernel_rfl)
theorem args_iter (a : Value) : argsOk "itertools.combinations.__iter__" ⟨[a], []⟩ := by
  unfold argsOk; rw [signature?_of (id := "itertools.combinations.__iter__") (n := ['_', '_', 'r', 'e', 't', 'i', '_', '_']) (o := ['s', 'n', 'o', 'i', 't', 'a', 'n', 'i', 'b', 'm', 'o', 'c', '.', 's', 'l', 'o', 'o', 't', 'r', 'e', 't', 'i']) (by kernel_rfl) owner_cm]; kernel_rfl
theorem entry_iter : entryFor table "itertools.combinations.__iter__" = some Builtin.«dict_keyiterator.__iter__» :=
  entryFor_alias (id' := "dict_keyiterator.__iter__") (by kernel_rfl) (by first | rfl | decide +kernel | (unfold String.splitOn; simp +decide [String.splitOnAux])) (by decide +kernel) (by kernel_rfl)
theorem slot_init : Slot "itertools.combinations" "__init__" "object.__init__" :=
  .of (owner := "object") (n := "__init__") (by rw [typeLookup_type, builtinLookup_eq_fast]; kernel_rfl) (by decide +kernel) (by decide +kernel) (by decide +kernel)
    (by first | exact .inl (by decide +kernel) | exact .inr (by decide +kernel)) (by rw [isSubtype_type]; kernel_rfl)
theorem mro_cm : mroOf (.type "itertools.combinations") = pure [.type "itertools.combinations", .type "object"] := by rw [mroOf_type]; kernel_rfl
theorem lookup_new : typeLookup (.type "itertools.combinations") "__new__" = pure (some (.builtin "itertools.combinations.__new__")) := by rw [typeLookup_type, builtinLookup_eq_fast]; kernel_rfl
theorem sub_cm : isSubtype (.type "itertools.combinations") (.type "itertools.combinations") = pure true := by rw [isSubtype_type]; kernel_rfl
theorem called_cm : TypeCalled "itertools.combinations" "itertools.combinations.__new__" "object.__init__" :=
  ⟨by decide +kernel, by decide +kernel, ⟨_, _, mro_cm⟩, madeBy_type mro_cm lookup_new (by decide +kernel), by decide +kernel, sub_cm, slot_init⟩
theorem typeCall_cm (a b : Value) : checkTypeCall "itertools.combinations" ⟨[a, b], []⟩ = pure () := by kernel_rfl
theorem newCall_cm (a b : Value) : checkBuiltinCall "itertools.combinations.__new__" ⟨[.type "itertools.combinations", a, b], []⟩ = pure () := by kernel_rfl
theorem entry_new : entryFor table "itertools.combinations.__new__" = some Builtin.«itertools.combinations.__new__» := entryFor_of_tree (by kernel_rfl)
theorem nolen : typeLookup (.type "itertools.combinations") "__len__" = pure none := by rw [typeLookup_type, builtinLookup_eq_fast]; kernel_rfl
theorem nohint : typeLookup (.type "itertools.combinations") "__length_hint__" = pure none := by rw [typeLookup_type, builtinLookup_eq_fast]; kernel_rfl
theorem classRest (a b : Value) : Builtin.Itertools.itClassAndRest "combinations" ⟨[.type "itertools.combinations", a, b], []⟩ = pure (.type "itertools.combinations", [a, b]) := by
  unfold Builtin.Itertools.itClassAndRest
  have e : ("itertools." ++ "combinations" : String) = "itertools.combinations" := by decide +kernel
  simp only [isType, e, sub_cm, pure_bind, Bool.not_true, Bool.false_eq_true, if_false]
theorem bindNamed (a b : Value) : Builtin.Itertools.itBindNamed "combinations" ["iterable", "r"] 2 2 [a, b] [] = pure [some a, some b] := by kernel_rfl
theorem noDict : typeHasDict (.type "itertools.combinations") = false := by kernel_rfl
end Cm

set_option Elab.async false
set_option linter.all false
set_option maxRecDepth 100000
set_option maxHeartbeats 1000000
namespace Cm
open PySem PySem.Spec PyProof.Rows
/-- the record: its pool at P, its state, the tuple handed out last, its places -/
abbrev IsCm (h : Heap) (c P : Addr) (st : Int) (last : Value) (ix : List Nat) : Prop :=
  h.get? c = some { cls := .type "itertools.combinations", dict := none, data := .fields ([Value.ref P, rawInt st, last] ++ ix.map fun (i : Nat) => rawInt i).toArray, slots := #[] }
abbrev cmP (h : Heap) (acc : Array Value) : Heap := h.push { cls := .type "tuple", data := .seq acc }
abbrev cmR (h : Heap) (acc : Array Value) (st : Int) (k : Nat) : Heap := (cmP h acc).push { cls := .type "itertools.combinations", dict := none, data := .fields ([Value.ref h.objs.size, rawInt st, .none] ++ (List.range k).map fun (i : Nat) => rawInt i).toArray, slots := #[] }
theorem ssize {k : Nat} {tk : Tok} (hk : k ≤ 2 ^ 20) : Builtin.Itertools.itSsizeArg (Value.int (k : Int) tk) = pure (k : Int) := by
  unfold Builtin.Itertools.itSsizeArg asIndex asInt?
  simp only [pure_bind]
  have e : (decide ((k : Int) < -(2 ^ 63 : Int)) || decide ((k : Int) ≥ 2 ^ 63)) = false := by
    rw [decide_eq_false (by omega), decide_eq_false (by omega)] <;> rfl
  rw [e]
  rfl
section
variable {prog : Program} {w : World} {A : Around} {E : Value → Shared → Prop} {s : Shared}
theorem new_cm {r : Addr} {a b : Int} {t u v tk : Tok} {n k : Nat} : MeetsIn prog w (Builtin.«itertools.combinations.__new__» ⟨[.type "itertools.combinations", .ref r, .int k tk], []⟩)
    (fun A R s => A.handled = none ∧ IsRange s.heap r a b 1 t u v ∧ Builtin.Range.small a b 1 = true ∧ Builtin.Range.rangeSize a b 1 = n ∧ n ≤ 2 ^ 20 ∧ k ≤ 2 ^ 20 ∧
      ∀ (h' : Heap) (tk : Nat) (acc : Array Value), (∀ b o, s.heap.get? b = some o → h'.get? b = some o) → ItemsOf (fun i v => ∃ t, v = .int (a + i * 1) t) acc n →
        R (.ok (.ret (.ref (h'.objs.size + 1)))) { s with heap := cmR h' acc (if k > n then 2 else 0) k, toks := tk }) := by
  rintro A R s ⟨hh, hr, hs, hn, hl, hk, hR⟩
  unfold Builtin.«itertools.combinations.__new__»
  refine wpAny_bind ?_
  refine wpAny_bind (wpAny_of_eq (classRest _ _) ?_)
  try dsimp only
  refine wpAny_bind (wpAny_of_eq (bindNamed _ _) ?_)
  try dsimp only
  refine wpAny_bind (wpAny_of_eq (ssize hk) ?_)
  try dsimp only
  refine wpAny_bind (L2.collect_range hh hr hs hn (by omega) fun h' tk' acc hkp hacc => ?_)
  rw [if_neg (by omega), if_neg (by unfold Builtin.Itertools.itTooMany; rw [decide_eq_false (by omega)]; exact Bool.false_ne_true)]
  have ln : acc.toList.length = n := by rw [Array.length_toList]; exact hacc.1
  refine wpAny_bind (wpAny_newTuple ?_ (by rw [ln, sizeLine_eq]; omega))
  refine wpAny_pure ?_
  try dsimp only
  refine wpAny_bind ?_
  unfold Builtin.Itertools.itNewRecord
  rw [noDict]
  rw [if_pos (show (!false) = true from rfl), Int.toNat_natCast, ln, Array.toArray_toList]
  refine wpAny_newObj_type ?_ ?_
  · refine wpAny_pure ?_
    have z := hR h' tk' acc hkp hacc
    have e1 : (cmP h' acc).objs.size = h'.objs.size + 1 := Heap.size_push ..
    rw [← e1] at z
    exact z
  · show _ ≤ _
    rw [List.size_toArray, List.length_append, List.length_map, List.length_range, sizeLine_eq]
    show 3 + k ≤ _
    omega
/-- combinations(a range, k) -/
theorem call_cm {r : Addr} {a b : Int} {t u v tk : Tok} {n k : Nat} {Q : Value → Shared → Prop} (hh : A.handled = none) (hr : IsRange s.heap r a b 1 t u v) (hs : Builtin.Range.small a b 1 = true) (hn : Builtin.Range.rangeSize a b 1 = n) (hl : n ≤ 2 ^ 20) (hk : k ≤ 2 ^ 20)
    (hQ : ∀ (h' : Heap) (tk : Nat) (acc : Array Value), (∀ b o, s.heap.get? b = some o → h'.get? b = some o) → ItemsOf (fun i v => ∃ t, v = .int (a + i * 1) t) acc n →
        Q (.ref (h'.objs.size + 1)) { s with heap := cmR h' acc (if k > n then 2 else 0) k, toks := tk }) :
    wpAny (model prog w) A (call (.type "itertools.combinations") [.ref r, .int k tk]) Q E s := by
  refine callType_newIn called_cm (by decide) (typeCall_cm _ _) (newCall_cm _ _) (fun obj => F.args_object_init_3 obj _ _) entry_new (new_cm (r := r) (a := a) (b := b) (t := t) (u := u) (v := v) (n := n)) ?_
  refine ⟨hh, hr, hs, hn, hl, hk, fun h' tk' acc hkp hacc => ?_⟩
  have e1 : (cmP h' acc).objs.size = h'.objs.size + 1 := Heap.size_push ..
  refine ⟨?_, hQ h' tk' acc hkp hacc⟩
  have z : IsCm (cmR h' acc (if k > n then 2 else 0) k) (cmP h' acc).objs.size h'.objs.size (if k > n then 2 else 0) .none (List.range k) := Heap.get?_push_size _ rfl
  rw [e1] at z
  exact ⟨_, z, rfl⟩
end
end Cm

set_option Elab.async false
set_option linter.all false
set_option maxRecDepth 100000
set_option maxHeartbeats 1000000
namespace Cm
open PySem PySem.Spec PyProof.Rows
def nextC (n : Nat) (ix : List Nat) : Option (List Nat) :=
  match (List.range ix.length).reverse.find? fun i => ix.getD i 0 != i + n - ix.length with
  | none => none
  | some i => some (ix.take i ++ (List.range (ix.length - i)).map (ix.getD i 0 + 1 + ·))
section
variable {prog : Program} {w : World} {A : Around} {E : Value → Shared → Prop} {s : Shared}
theorem numbers {c P : Addr} {st : Int} {last : Value} {ix : List Nat} {Q : List Nat → Shared → Prop} (hc : IsCm s.heap c P st last ix) (h : Q ix s) : wpAny (model prog w) A (Builtin.Itertools.itNumbersFrom (.ref c) 3) Q E s := by
  unfold Builtin.Itertools.itNumbersFrom
  refine wpAny_bind (wpAny_load hc ?_)
  refine wpAny_pure ?_
  have e : List.map (fun x : Value => match x with | .int n _ => n.toNat | _ => 0) (List.drop 3 ([Value.ref P, rawInt st, last] ++ ix.map fun (i : Nat) => rawInt i)) = ix := by
    show List.map _ (ix.map fun (i : Nat) => rawInt i) = ix
    rw [List.map_map]
    refine (List.map_congr_left fun i _ => ?_).trans (List.map_id ix)
    show (i : Int).toNat = i
    omega
  exact e.symm ▸ h
theorem intField {c P : Addr} {st : Int} {last : Value} {ix : List Nat} {Q : Int → Shared → Prop} (hc : IsCm s.heap c P st last ix) (h : Q st s) : wpAny (model prog w) A (Builtin.Itertools.itIntField (.ref c) 1) Q E s := by
  unfold Builtin.Itertools.itIntField
  refine wpAny_bind (wpAny_field hc rfl (x := rawInt st) rfl ?_)
  exact wpAny_pure h
theorem pool {P : Addr} {po : Obj} {its : Array Value} {pn : Nat} {Q : Array Value → Shared → Prop} (hp : s.heap.get? P = some po) (hpd : po.data = .seq its pn) (h : Q its s) : wpAny (model prog w) A (Builtin.Itertools.itPoolItems (.ref P)) Q E s := by
  unfold Builtin.Itertools.itPoolItems
  refine wpAny_bind (wpAny_seqItems hp hpd ?_)
  exact wpAny_pure h
theorem hand {c P : Addr} {last : Value} {ix : List Nat} {its : Array Value} {po : Obj} {pn : Nat} {Q : Value → Shared → Prop} (hc : IsCm s.heap c P 1 last ix) (hp : s.heap.get? P = some po) (hpd : po.data = .seq its pn)
    (hQ : ∀ h', IsCm h' c P 1 (.ref s.heap.objs.size) ix → h'.get? s.heap.objs.size = some { cls := .type "tuple", data := .seq (ix.map fun i => its.getD i .none).toArray } → h'.objs.size = s.heap.objs.size + 1 →
      (∀ b o, b ≠ c → s.heap.get? b = some o → h'.get? b = some o) → Q (.ref s.heap.objs.size) { s with heap := h' }) (sz : ix.length ≤ 1000) :
    wpAny (model prog w) A ((Builtin.Itertools.itPoolItems (.ref P) >>= fun items => newTuple (ix.map fun i => items.getD i .none)) >>= fun result => field (.ref c) 2 >>= fun before => setField (.ref c) 2 result >>= fun _ => letGo [before] [result] >>= fun _ => ret result)
      (fun fin s' => ∃ v, fin = .done (.ret v) ∧ Q v s') E s := by
  refine wpAny_bind (wpAny_bind (pool hp hpd (wpAny_newTuple ?_ (by rw [List.length_map, sizeLine_eq]; omega))))
  have hlt : c < s.heap.objs.size := Heap.lt_size hc
  have hc1 : IsCm (s.heap.push { cls := .type "tuple", data := .seq (ix.map fun i => its.getD i .none).toArray }) c P 1 last ix := Heap.get?_push_of_some _ hc
  refine wpAny_bind (wpAny_field hc1 rfl (x := last) rfl ?_)
  refine wpAny_bind (wpAny_setField hc1 rfl (by show 2 < _; rw [List.size_toArray, List.length_append]; show 2 < 3 + _; omega) ?_)
  refine wpAny_bind (wpAny_letGo ?_)
  have hs := Heap.get?_update_self (Obj.mapFields (·.setIfInBounds 2 (Value.ref s.heap.objs.size))) hc1 rfl
  refine wpAny_pure ⟨_, rfl, hQ _ ?_ ?_ ?_ fun b o hb e => ?_⟩
  · refine hs.trans ?_
    show some (Obj.mk _ _ _ _) = _
    congr 2
  · exact (Heap.get?_update_other _ _ (Nat.ne_of_lt hlt)).trans (Heap.get?_push_size _ rfl)
  · exact (Heap.size_update ..).trans (Heap.size_push ..)
  · exact (Heap.get?_update_other _ _ (Ne.symm hb)).trans (Heap.get?_push_of_some _ e)
theorem state_1 {c P : Addr} {st st' : Int} {last : Value} {ix : List Nat} {po : Obj} {h : Heap} (hc : IsCm h c P st last ix) (hp : h.get? P = some po) (hne : P ≠ c) (_ : True) :
    IsCm (h.update c (Obj.mapFields (·.setIfInBounds 1 (rawInt st')))) c P st' last ix ∧ (h.update c (Obj.mapFields (·.setIfInBounds 1 (rawInt st')))).get? P = some po ∧ (h.update c (Obj.mapFields (·.setIfInBounds 1 (rawInt st')))).objs.size = h.objs.size ∧
    ∀ b o, b ≠ c → h.get? b = some o → (h.update c (Obj.mapFields (·.setIfInBounds 1 (rawInt st')))).get? b = some o := by
  have hs := Heap.get?_update_self (Obj.mapFields (·.setIfInBounds 1 (rawInt st'))) hc rfl
  refine ⟨?_, (Heap.get?_update_other _ _ hne.symm).trans hp, Heap.size_update .., fun b o hb e => (Heap.get?_update_other _ _ (Ne.symm hb)).trans e⟩
  refine hs.trans ?_
  show some (Obj.mk _ _ _ _) = _
  congr 2
theorem numbers_1 {c P : Addr} {st : Int} {last : Value} {ix ix' : List Nat} {po : Obj} {h : Heap} (hc : IsCm h c P st last ix) (hp : h.get? P = some po) (hne : P ≠ c) :
    IsCm (h.update c (Obj.mapFields (fun fs => fs.extract 0 3 ++ (ix'.map fun (n : Nat) => rawInt n).toArray))) c P st last ix' ∧ (h.update c (Obj.mapFields (fun fs => fs.extract 0 3 ++ (ix'.map fun (n : Nat) => rawInt n).toArray))).get? P = some po ∧
    (h.update c (Obj.mapFields (fun fs => fs.extract 0 3 ++ (ix'.map fun (n : Nat) => rawInt n).toArray))).objs.size = h.objs.size ∧
    ∀ b o, b ≠ c → h.get? b = some o → (h.update c (Obj.mapFields (fun fs => fs.extract 0 3 ++ (ix'.map fun (n : Nat) => rawInt n).toArray))).get? b = some o := by
  have hs := Heap.get?_update_self (Obj.mapFields (fun fs => fs.extract 0 3 ++ (ix'.map fun (n : Nat) => rawInt n).toArray)) hc rfl
  refine ⟨?_, (Heap.get?_update_other _ _ hne.symm).trans hp, Heap.size_update .., fun b o hb e => (Heap.get?_update_other _ _ (Ne.symm hb)).trans e⟩
  refine hs.trans ?_
  show some (Obj.mk _ _ _ _) = _
  congr 2
  show Data.fields (Array.extract _ _ _ ++ _) = _
  rw [List.extract_toArray, List.append_toArray]
  rfl
theorem next_0 {c P : Addr} {last : Value} {ix : List Nat} {its : Array Value} {po : Obj} {pn : Nat} {Q : Value → Shared → Prop} (hc : IsCm s.heap c P 0 last ix) (hp : s.heap.get? P = some po) (hpd : po.data = .seq its pn) (hne : P ≠ c)
    (hQ : ∀ h', IsCm h' c P 1 (.ref s.heap.objs.size) ix → h'.get? s.heap.objs.size = some { cls := .type "tuple", data := .seq (ix.map fun i => its.getD i .none).toArray } → h'.objs.size = s.heap.objs.size + 1 →
      (∀ b o, b ≠ c → s.heap.get? b = some o → h'.get? b = some o) → Q (.ref s.heap.objs.size) { s with heap := h' }) (sz : ix.length ≤ 1000) :
    wpAny (model prog w) A (Builtin.«itertools.combinations.__next__» ⟨[.ref c], []⟩) (fun fin s' => ∃ v, fin = .done (.ret v) ∧ Q v s') E s := by
  show wpAny _ _ (field (.ref c) 0 >>= _) _ _ _
  refine wpAny_bind (wpAny_field hc rfl (x := .ref P) rfl ?_)
  show wpAny _ _ (Builtin.Itertools.itNumbersFrom (.ref c) 3 >>= _) _ _ _
  refine wpAny_bind (numbers hc ?_)
  refine wpAny_bind (intField hc ?_)
  show wpAny _ _ (setField (.ref c) 1 (rawInt 1) >>= _) _ _ _
  refine wpAny_bind (wpAny_setField hc rfl (by show 1 < _; rw [List.size_toArray, List.length_append]; show 1 < 3 + _; omega) ?_)
  obtain ⟨hc1, hp1, sz1, kp1⟩ := state_1 (P := P) (st' := 1) hc hp hne trivial
  generalize s.heap.update c (Obj.mapFields (·.setIfInBounds 1 (rawInt 1))) = h1 at *
  refine hand (s := { s with heap := h1 }) hc1 hp1 hpd (fun h' a1 a2 a3 a4 => ?_) sz
  dsimp only at a1 a2 a3 a4 ⊢
  rw [sz1] at *
  exact hQ h' a1 a2 a3 fun b o hb e => a4 b o hb (kp1 b o hb e)
theorem next_1 {c P : Addr} {last : Value} {ix ix' : List Nat} {its : Array Value} {po : Obj} {pn : Nat} {Q : Value → Shared → Prop} (hc : IsCm s.heap c P 1 last ix) (hp : s.heap.get? P = some po) (hpd : po.data = .seq its pn) (hne : P ≠ c) (hx : nextC its.size ix = some ix')
    (hQ : ∀ h', IsCm h' c P 1 (.ref s.heap.objs.size) ix' → h'.get? s.heap.objs.size = some { cls := .type "tuple", data := .seq (ix'.map fun i => its.getD i .none).toArray } → h'.objs.size = s.heap.objs.size + 1 →
      (∀ b o, b ≠ c → s.heap.get? b = some o → h'.get? b = some o) → Q (.ref s.heap.objs.size) { s with heap := h' }) (sz : ix.length ≤ 1000) (sz' : ix'.length ≤ 1000) :
    wpAny (model prog w) A (Builtin.«itertools.combinations.__next__» ⟨[.ref c], []⟩) (fun fin s' => ∃ v, fin = .done (.ret v) ∧ Q v s') E s := by
  show wpAny _ _ (field (.ref c) 0 >>= _) _ _ _
  refine wpAny_bind (wpAny_field hc rfl (x := .ref P) rfl ?_)
  show wpAny _ _ (Builtin.Itertools.itNumbersFrom (.ref c) 3 >>= _) _ _ _
  refine wpAny_bind (numbers hc ?_)
  refine wpAny_bind (intField hc ?_)
  show wpAny _ _ (Builtin.Itertools.itPoolItems (.ref P) >>= _) _ _ _
  refine wpAny_bind (pool hp hpd ?_)
  show wpAny _ _ (match nextC its.size ix with | some next => _ | none => _) _ _ _
  rw [hx]
  show wpAny _ _ (Builtin.Itertools.itSetNumbersFrom (.ref c) 3 ix' >>= _) _ _ _
  obtain ⟨hs, hp1, sz1, kp1⟩ := numbers_1 (P := P) (ix' := ix') hc hp hne
  refine wpAny_bind ?_
  unfold Builtin.Itertools.itSetNumbersFrom
  refine wpAny_updateFields hc rfl ?_ ?_
  · generalize s.heap.update c (Obj.mapFields _) = h1 at *
    refine hand (s := { s with heap := h1 }) hs hp1 hpd (fun h' a1 a2 a3 a4 => ?_) sz'
    dsimp only at a1 a2 a3 a4 ⊢
    rw [sz1] at *
    exact hQ h' a1 a2 a3 fun b o hb e => a4 b o hb (kp1 b o hb e)
  · rw [List.extract_toArray, List.append_toArray, List.size_toArray, List.length_append, List.length_map, sizeLine_eq]
    have e : (List.extract ([Value.ref P, rawInt 1, last] ++ List.map (fun (i : Nat) => rawInt ↑i) ix) 0 3).length = 3 := rfl
    rw [e]
    omega
/-- nothing more: StopIteration -/
theorem stops {Q : Option Value → Shared → Prop} (hh : A.handled = none) (h : ∀ h', (∀ b o, s.heap.get? b = some o → h'.get? b = some o) → Q none { s with heap := h' }) (R : Fin → Shared → Prop) :
    wpAny (model prog w) A.in1 (Builtin.Itertools.itStop : Sem Fin) R (fun e s' => wpAny (model prog w) A (do if (← isInstance e (.type "StopIteration")) then pure none else throw e) Q E s') s := by
  unfold Builtin.Itertools.itStop
  refine wpAny_bind ?_
  simp only [newExc, newTuple]
  refine wpAny_bind (wpAny_newObj_type ?_ (by size_fits))
  refine wpAny_bind (m := firstArgMember _ _) (wpAny_of_eq (a := Value.none) (by first | rfl | (simp only [firstArgMember]; rfl)) ?_)
  refine wpAny_newObj_type ?_ (by size_fits)
  simp only [raiseNew]
  refine wpAny_bind (wpAny_handled ?_)
  rw [show A.in1.handled = none from hh]
  refine wpAny_bind (wpAny_pure (wpAny_throw ?_))
  refine wpAny_bind (wpAny_isInstance (T := "StopIteration") (b := true) ⟨_, Heap.get?_push_size _ rfl, rfl⟩ isSubtype_stop ?_)
  exact wpAny_pure (h _ fun b o e => Heap.get?_push_of_some _ (Heap.get?_push_of_some _ e))
end
end Cm

set_option Elab.async false
set_option linter.all false
set_option maxRecDepth 100000
set_option maxHeartbeats 1000000
namespace Cm
open PySem PySem.Spec PyProof.Rows
section
variable {prog : Program} {w : World} {A : Around} {E : Value → Shared → Prop} {s : Shared}
theorem IsCm.ty {c P : Addr} {st : Int} {last : Value} {ix : List Nat} (hc : IsCm s.heap c P st last ix) : s.TypeIs (.ref c) "itertools.combinations" := ⟨_, hc, rfl⟩
/-- the next lot is handed out in a new tuple -/
theorem py_item {c P : Addr} {st : Int} {last : Value} {ix ix' : List Nat} {its : Array Value} {po : Obj} {pn : Nat} {Q : Option Value → Shared → Prop} (hc : IsCm s.heap c P st last ix) (hp : s.heap.get? P = some po) (hpd : po.data = .seq its pn) (hne : P ≠ c)
    (hx : st = 0 ∧ ix' = ix ∨ st = 1 ∧ nextC its.size ix = some ix')
    (hQ : ∀ h', IsCm h' c P 1 (.ref s.heap.objs.size) ix' → h'.get? s.heap.objs.size = some { cls := .type "tuple", data := .seq (ix'.map fun i => its.getD i .none).toArray } → h'.objs.size = s.heap.objs.size + 1 →
      (∀ b o, b ≠ c → s.heap.get? b = some o → h'.get? b = some o) → Q (some (.ref s.heap.objs.size)) { s with heap := h' }) (sz : ix.length ≤ 1000) (sz' : ix'.length ≤ 1000) :
    wpAny (model prog w) A (pyNext (.ref c)) Q E s := by
  unfold pyNext
  refine wpAny_bind (wpAny_attempt (wpAny_callSpecial?_slot (name := Str.ofString "__next__") (IsCm.ty hc) slot_next
    (wpAny_call_entry slot_next (IsCm.ty hc) entry_next ?_ (args_next _))))
  rcases hx with ⟨rfl, rfl⟩ | ⟨rfl, hx⟩
  · exact next_0 hc hp hpd hne (fun h' a1 a2 a3 a4 => wpAny_pure (hQ h' a1 a2 a3 a4)) sz
  · exact next_1 hc hp hpd hne hx (fun h' a1 a2 a3 a4 => wpAny_pure (hQ h' a1 a2 a3 a4)) sz sz'
theorem py_end {c P : Addr} {st : Int} {last : Value} {ix : List Nat} {its : Array Value} {po : Obj} {pn : Nat} {Q : Option Value → Shared → Prop} (hh : A.handled = none) (hc : IsCm s.heap c P st last ix) (hp : s.heap.get? P = some po) (hpd : po.data = .seq its pn) (hne : P ≠ c)
    (hx : st = 2 ∨ st = 1 ∧ nextC its.size ix = none)
    (hQ : ∀ h', (∀ b o, b ≠ c → s.heap.get? b = some o → h'.get? b = some o) → (∃ o, h'.get? c = some o) → Q none { s with heap := h' }) :
    wpAny (model prog w) A (pyNext (.ref c)) Q E s := by
  unfold pyNext
  refine wpAny_bind (wpAny_attempt (wpAny_callSpecial?_slot (name := Str.ofString "__next__") (IsCm.ty hc) slot_next
    (wpAny_call_entry slot_next (IsCm.ty hc) entry_next ?_ (args_next _))))
  show wpAny _ _ (field (.ref c) 0 >>= _) _ _ _
  refine wpAny_bind (wpAny_field hc rfl (x := .ref P) rfl ?_)
  show wpAny _ _ (Builtin.Itertools.itNumbersFrom (.ref c) 3 >>= _) _ _ _
  refine wpAny_bind (numbers hc ?_)
  refine wpAny_bind (intField hc ?_)
  rcases hx with rfl | ⟨rfl, hx⟩
  · show wpAny _ _ (rule _ >>= _) _ _ _
    refine wpAny_bind (wpAny_rule ?_)
    exact stops hh (fun h' hk => hQ h' (fun b o _ e => hk b o e) ⟨_, hk _ _ hc⟩) _
  · show wpAny _ _ (Builtin.Itertools.itPoolItems (.ref P) >>= _) _ _ _
    refine wpAny_bind (pool hp hpd ?_)
    show wpAny _ _ (match nextC its.size ix with | some next => _ | none => _) _ _ _
    rw [hx]
    show wpAny _ _ (setField (.ref c) 1 (rawInt 2) >>= _) _ _ _
    refine wpAny_bind (wpAny_setField hc rfl (by show 1 < _; rw [List.size_toArray, List.length_append]; show 1 < 3 + _; omega) ?_)
    obtain ⟨hc1, hp1, sz1, kp1⟩ := state_1 (P := P) (st' := 2) hc hp hne trivial
    generalize s.heap.update c (Obj.mapFields (·.setIfInBounds 1 (rawInt 2))) = h1 at *
    exact stops (s := { s with heap := h1 }) hh (fun h' hk => hQ h' (fun b o hb e => hk b o (kp1 b o hb e)) ⟨_, hk _ _ hc1⟩) _
theorem py_iter {c P : Addr} {st : Int} {last : Value} {ix : List Nat} {Q : Value → Shared → Prop} (hc : IsCm s.heap c P st last ix) (h : Q (.ref c) s) : wpAny (model prog w) A (pyIter (.ref c)) Q E s := by
  have hT := IsCm.ty hc
  refine wpAny_pyIter_slot hT slot_iter (wpAny_call_entry slot_iter hT entry_iter ?_ (args_iter _))
  show wpAny _ _ (ret (.ref c)) _ _ s
  exact wpAny_pure ⟨_, rfl, _, _, hT, slot_next.lookup, h⟩
end
end Cm

set_option Elab.async false
set_option linter.all false
set_option maxRecDepth 100000
set_option maxHeartbeats 1000000
namespace Cm
open PySem PySem.Spec PyProof.Rows
/-- the lots that are handed out, one behind the other -/
structure Chain (n k : Nat) (ls : List (List Nat)) : Prop where
  first : n < k ∧ ls = [] ∨ k ≤ n ∧ ls[0]? = some (List.range k)
  next : ∀ i ix, ls[i]? = some ix → ls[i + 1]? = nextC n ix
  len : ∀ ix ∈ ls, ix.length ≤ 1000
  few : ls.length ≤ sizeLine
def CmSt (ls : List (List Nat)) (n k : Nat) (h : Heap) (c P : Addr) (i : Nat) : Prop :=
  (i = 0 ∧ IsCm h c P (if k > n then 2 else 0) .none (List.range k)) ∨ ∃ j ix last, i = j + 1 ∧ ls[j]? = some ix ∧ IsCm h c P 1 last ix
theorem CmSt.keep {ls : List (List Nat)} {n k : Nat} {h h' : Heap} {c P S : Addr} {i : Nat} (x : CmSt ls n k h c P i) (hk : ∀ b o, b ≠ S → h.get? b = some o → h'.get? b = some o) (hc : c ≠ S) : CmSt ls n k h' c P i := by
  rcases x with ⟨e, hx⟩ | ⟨j, ix, last, e, e2, hx⟩
  · exact .inl ⟨e, hk _ _ hc hx⟩
  · exact .inr ⟨j, ix, last, e, e2, hk _ _ hc hx⟩
theorem CmSt.there {ls : List (List Nat)} {n k : Nat} {h : Heap} {c P : Addr} {i : Nat} (x : CmSt ls n k h c P i) : ∃ o : Obj, h.get? c = some o ∧ o.cls = .type "itertools.combinations" := by
  rcases x with ⟨e, hx⟩ | ⟨j, ix, last, e, e2, hx⟩
  · exact ⟨_, hx, rfl⟩
  · exact ⟨_, hx, rfl⟩
structure CG (its : Array Value) (ls : List (List Nat)) (lo : Addr) (h : Heap) (as : List Addr) : Prop where
  rise : as.Pairwise (· < ·)
  above : ∀ a ∈ as, lo < a
  got : ∀ (j : Nat) (a : Addr), as[j]? = some a → ∃ ix, ls[j]? = some ix ∧ h.get? a = some { cls := .type "tuple", data := .seq (ix.map fun i => its.getD i .none).toArray }
theorem CG.there {its : Array Value} {ls : List (List Nat)} {lo : Addr} {h : Heap} {as : List Addr} (g : CG its ls lo h as) {a : Addr} (ha : a ∈ as) : a < h.objs.size := by
  obtain ⟨j, hj⟩ := List.mem_iff_getElem?.mp ha
  obtain ⟨_, _, e⟩ := g.got j a hj
  exact Heap.lt_size e
section
variable {prog : Program} {w : World} {A : Around} {E : Value → Shared → Prop} {s : Shared} {R : Result → Shared → Prop} {ls : List (List Nat)} {n k : Nat} {its : Array Value} {po : Obj} {pn : Nat}
theorem st_item {c P : Addr} {i : Nat} {ix' : List Nat} {Q : Option Value → Shared → Prop} (C : Chain n k ls) (hn : its.size = n) (st : CmSt ls n k s.heap c P i) (hp : s.heap.get? P = some po) (hpd : po.data = .seq its pn) (hne : P ≠ c) (hx : ls[i]? = some ix')
    (hQ : ∀ h', CmSt ls n k h' c P (i + 1) → h'.get? s.heap.objs.size = some { cls := .type "tuple", data := .seq (ix'.map fun i => its.getD i .none).toArray } → h'.objs.size = s.heap.objs.size + 1 →
      (∀ b o, b ≠ c → s.heap.get? b = some o → h'.get? b = some o) → Q (some (.ref s.heap.objs.size)) { s with heap := h' }) : wpAny (model prog w) A (pyNext (.ref c)) Q E s := by
  have hl' := C.len _ (List.mem_of_getElem? hx)
  rcases st with ⟨rfl, h0⟩ | ⟨j, ix, last, rfl, hj, h1⟩
  · rcases C.first with ⟨_, e⟩ | ⟨hk, e⟩
    · rw [e] at hx; cases hx
    · rw [e] at hx
      cases hx
      rw [if_neg (by omega)] at h0
      exact py_item h0 hp hpd hne (.inl ⟨rfl, rfl⟩) (fun h' a1 a2 a3 a4 => hQ h' (.inr ⟨0, _, _, rfl, e, a1⟩) a2 a3 a4) hl' hl'
  · have z := C.next j ix hj
    rw [hx] at z
    exact py_item h1 hp hpd hne (.inr ⟨rfl, by rw [hn]; exact z.symm⟩) (fun h' a1 a2 a3 a4 => hQ h' (.inr ⟨j + 1, _, _, rfl, hx, a1⟩) a2 a3 a4) (C.len _ (List.mem_of_getElem? hj)) hl'
theorem st_done {c P : Addr} {i : Nat} {Q : Option Value → Shared → Prop} (hh : A.handled = none) (C : Chain n k ls) (hn : its.size = n) (st : CmSt ls n k s.heap c P i) (hp : s.heap.get? P = some po) (hpd : po.data = .seq its pn) (hne : P ≠ c) (hx : ls[i]? = none)
    (hQ : ∀ h', (∀ b o, b ≠ c → s.heap.get? b = some o → h'.get? b = some o) → (∃ o, h'.get? c = some o) → Q none { s with heap := h' }) : wpAny (model prog w) A (pyNext (.ref c)) Q E s := by
  rcases st with ⟨rfl, h0⟩ | ⟨j, ix, last, rfl, hj, h1⟩
  · rcases C.first with ⟨hk, e⟩ | ⟨hk, e⟩
    · rw [if_pos (by omega)] at h0
      exact py_end hh h0 hp hpd hne (.inl rfl) hQ
    · rw [e] at hx; cases hx
  · have z := C.next j ix hj
    rw [hx] at z
    exact py_end hh h1 hp hpd hne (.inr ⟨rfl, by rw [hn]; exact z.symm⟩) hQ
theorem cm_loop {S c P : Addr} (hh : A.handled = none) (C : Chain n k ls) (hn : its.size = n) (hSc : c < S) (hSP : P < c) (hpd : po.data = .seq its pn) (res : Value) {h₁ : Heap}
    (hR : ∀ h' tk acc cc as, (∀ b o, b ≠ S → b ≠ c → h₁.get? b = some o → h'.get? b = some o) → (∃ o, h'.get? c = some o) → h'.get? S = some { cls := .type "list", dict := none, data := .seq acc cc, slots := #[] } → as.length = ls.length → CG its ls S h' as →
      acc.toList = as.map Value.ref → R (.ok (.ret res)) { s with heap := h', toks := tk }) :
    ∀ (m i : Nat) (h : Heap) (tk cc : Nat) (acc : Array Value) (as : List Addr), ls.length - i = m → i ≤ ls.length → CmSt ls n k h c P i → h.get? P = some po → (∀ b o, b ≠ S → b ≠ c → h₁.get? b = some o → h.get? b = some o) →
      h.get? S = some { cls := .type "list", dict := none, data := .seq acc cc, slots := #[] } → acc.toList = as.map Value.ref → as.length = i → CG its ls S h as →
      codeAny (model prog w) A (.builtin "list.extend.loop" ⟨[.ref S, .ref c, res], []⟩) R { s with heap := h, toks := tk } := by
  have hne : S ≠ c := Nat.ne_of_gt hSc
  have hPc : P ≠ c := Nat.ne_of_lt hSP
  have hPS : P ≠ S := Nat.ne_of_lt (Nat.lt_trans hSP hSc)
  have few := C.few
  intro m
  induction m with
  | zero =>
    intro i h tk cc acc as hk hi hst hP hkeep hS hacc hal hG
    have hin : i = ls.length := by omega
    refine codeAny_builtin PySem.F.entry_extend_loop ?_
    rw [Around.under_plainId PySem.F.plain_extend_loop _]
    show wpAny _ A.in1 (pyNext (.ref c) >>= _) _ _ _
    refine wpAny_bind (st_done (s := { s with heap := h, toks := tk }) (A := A.in1) hh C hn hst hP hpd hPc (List.getElem?_eq_none (by omega)) fun h' he hec => ?_)
    refine wpAny_pure (hR h' tk acc cc as (fun b o h1 h2 e => he b o h2 (hkeep b o h1 h2 e)) hec (he S _ hne hS) (by omega) ⟨hG.rise, hG.above, fun j a hj => ?_⟩ hacc)
    obtain ⟨ix, e1, e3⟩ := hG.got j a hj
    exact ⟨ix, e1, he a _ (Nat.ne_of_gt (Nat.lt_trans hSc (hG.above a (List.mem_of_getElem? hj)))) e3⟩
  | succ m ih =>
    intro i h tk cc acc as hk hi hst hP hkeep hS hacc hal hG
    have hlt : i < ls.length := by omega
    obtain ⟨ix, hx⟩ : ∃ p, ls[i]? = some p := ⟨ls[i], List.getElem?_eq_getElem hlt⟩
    have hsz : acc.size = i := by rw [← Array.length_toList, hacc, List.length_map, hal]
    refine codeAny_builtin PySem.F.entry_extend_loop ?_
    rw [Around.under_plainId PySem.F.plain_extend_loop _]
    show wpAny _ A.in1 (pyNext (.ref c) >>= _) _ _ _
    refine wpAny_bind (st_item (s := { s with heap := h, toks := tk }) (A := A.in1) C hn hst hP hpd hPc hx fun h' hst' ht hz hkp => ?_)
    dsimp only at ht hz hkp ⊢
    have hS' := hkp S _ hne hS
    have up : ∀ b o, b ≠ S → h'.get? b = some o → (h'.update S (Obj.mapSeq (·.push (Value.ref h.objs.size)))).get? b = some o := fun b o hb e => (Heap.get?_update_other _ _ (Ne.symm hb)).trans e
    have hSl : S < h.objs.size := Heap.lt_size hS
    show wpAny _ A.in1 (updateSeq S (·.push (Value.ref h.objs.size)) >>= _) _ _ _
    refine wpAny_bind ?_
    refine wpAny_updateSeq hS' rfl (wpAny_pure ⟨plainId_quiet PySem.F.plain_extend_loop _, ih (i + 1) _ tk _ (acc.push (Value.ref h.objs.size)) (as ++ [h.objs.size]) (by omega) hlt (hst'.keep up hne.symm) (up P _ hPS (hkp P _ hPc hP))
      (fun b o h1 h2 e => up b o h1 (hkp b o h2 (hkeep b o h1 h2 e))) (Heap.get?_update_self _ hS' rfl) (by rw [Array.toList_push, hacc, List.map_append]; rfl) (by rw [List.length_append, hal]; rfl) ⟨?_, ?_, ?_⟩⟩) (by rw [hsz]; omega) (by show (acc.push (Value.ref h.objs.size)).size ≤ sizeLine + 1; rw [Array.size_push, hsz]; omega)
    · refine List.pairwise_append.mpr ⟨hG.rise, List.pairwise_singleton _ _, fun a ha b hb => ?_⟩
      rw [List.mem_singleton.mp hb]
      exact hG.there ha
    · intro a ha
      rcases List.mem_append.mp ha with ha | ha
      · exact hG.above a ha
      · rw [List.mem_singleton.mp ha]; exact hSl
    · intro j b hj
      rcases Nat.lt_trichotomy j as.length with h1 | h1 | h1
      · rw [List.getElem?_append_left h1] at hj
        obtain ⟨ix', e1, e3⟩ := hG.got j b hj
        have hb := hG.above b (List.mem_of_getElem? hj)
        exact ⟨ix', e1, up b _ (Nat.ne_of_gt hb) (hkp b _ (Nat.ne_of_gt (Nat.lt_trans hSc hb)) e3)⟩
      · subst h1
        have hb : h.objs.size = b := by simpa using hj
        subst hb
        exact ⟨ix, by rw [hal]; exact hx, up _ _ (Nat.ne_of_gt hSl) ht⟩
      · have hnone : (as ++ [h.objs.size])[j]? = none := List.getElem?_eq_none (by rw [List.length_append, List.length_singleton]; omega)
        rw [hnone] at hj; cases hj
end
end Cm

set_option Elab.async false
set_option linter.all false
set_option maxRecDepth 100000
set_option maxHeartbeats 1000000
namespace Cm
open PySem PySem.Spec PyProof.Rows
section
variable {prog : Program} {w : World} {A : Around} {E : Value → Shared → Prop} {s : Shared} {ls : List (List Nat)} {n k : Nat} {its : Array Value} {po : Obj} {pn : Nat} {c P : Addr}
theorem cm_extend {R : Result → Shared → Prop} (hh : A.handled = none) (C : Chain n k ls) (hn : its.size = n) (st : CmSt ls n k s.heap c P 0) (hP : s.heap.get? P = some po) (hpd : po.data = .seq its pn) (hSP : P < c) (S : Addr) (hSc : c < S) (res : Value) (c₀ : Nat) (hS : s.heap.get? S = some { cls := .type "list", data := .seq #[] c₀ })
    (hR : ∀ h' tk acc cc as, (∀ b o, b ≠ S → b ≠ c → s.heap.get? b = some o → h'.get? b = some o) → (∃ o, h'.get? c = some o) → h'.get? S = some { cls := .type "list", dict := none, data := .seq acc cc, slots := #[] } → as.length = ls.length → CG its ls S h' as →
      acc.toList = as.map Value.ref → R (.ok (.ret res)) { s with heap := h', toks := tk }) :
    wpAny (model prog w) A.in1 (Builtin.List.listExtendWith (.ref S) (.ref c) res)
      (fun fin s' => match fin with | .done f => R (.ok f) s' | .again c' => c'.quiet = true ∧ codeAny (model prog w) A c' R s') (fun e s' => R (.error e) s') s := by
  have hPS : P ≠ S := Nat.ne_of_lt (Nat.lt_trans hSP hSc)
  have key : ∀ (h : Heap) (c₁ tk : Nat), (∀ b o, b ≠ S → s.heap.get? b = some o → h.get? b = some o) →
      h.get? S = some { cls := .type "list", data := .seq #[] c₁ } → codeAny (model prog w) A (.builtin "list.extend.loop" ⟨[.ref S, .ref c, res], []⟩) R { s with heap := h, toks := tk } := by
    intro h c₁ tk hk hS₁
    exact cm_loop (s := s) (h₁ := s.heap) hh C hn hSc hSP hpd res hR ls.length 0 h tk c₁ #[] [] (Nat.sub_zero _) (Nat.zero_le _) (st.keep hk (Nat.ne_of_lt hSc)) (hk P _ hPS hP) (fun b o hb _ e => hk b o hb e) hS₁ rfl rfl
      ⟨List.Pairwise.nil, (fun _ ha => nomatch ha), (fun j a hj => by simp at hj)⟩
  have hT : s.TypeIs (.ref c) "itertools.combinations" := by
    obtain ⟨o, e1, e2⟩ := st.there
    exact ⟨o, e1, e2⟩
  unfold Builtin.List.listExtendWith
  refine wpAny_bind (wpAny_typeOf (T := "itertools.combinations") hT ?_)
  have h1 : Builtin.List.listSameRef (.ref S) (.ref c) = false := by simp [Builtin.List.listSameRef, Nat.ne_of_gt hSc]
  have h2 : (Value.type "itertools.combinations" == Value.type "list") = false := by decide
  have h3 : (Value.type "itertools.combinations" == Value.type "tuple") = false := by decide
  simp only [h1, h2, h3, Bool.or_false, Bool.false_eq_true, if_false]
  have it : ∀ {Q : Value → Shared → Prop} {E : Value → Shared → Prop}, Q (.ref c) s → wpAny (model prog w) A.in1 (pyIter (.ref c)) Q E s := fun q => by
    rcases st with ⟨e, hx⟩ | ⟨j, ix, last, e, e2, hx⟩
    · exact py_iter hx q
    · exact py_iter hx q
  refine wpAny_bind (it ?_)
  refine wpAny_bind (wpAny_holding ?_)
  unfold Builtin.List.listLengthHint
  refine wpAny_bind (wpAny_specialOf hT nolen ?_)
  show wpAny _ A.in1 (specialOf (Value.ref c) (Str.ofString "__length_hint__") >>= _) _ _ _
  refine wpAny_bind (wpAny_specialOf hT nohint ?_)
  refine wpAny_pure ?_
  show wpAny _ A.in1 (rule "list.extend.makes-room" >>= fun _ => Builtin.List.listTouch (.ref S) >>= fun _ =>
    again (.builtin "list.extend.loop" ⟨[.ref S, .ref c, res], []⟩)) _ _ _
  refine wpAny_bind (wpAny_rule ?_)
  refine wpAny_bind ?_
  show wpAny _ _ (updateSeq S (·.push .none) >>= fun _ => updateSeq S (·.pop)) _ _ _
  refine wpAny_bind (wpAny_updateSeq hS rfl ?_)
  have hS₂ := Heap.get?_update_self (Obj.mapSeq (·.push Value.none)) hS rfl
  refine wpAny_updateSeq (hz := by seq_fits) hS₂ rfl ?_
  have hS₃ := Heap.get?_update_self (Obj.mapSeq (·.pop)) hS₂ rfl
  refine wpAny_pure ⟨plainId_quiet PySem.F.plain_extend_loop _, key _ _ _ (fun b o hb e => ?_) hS₃⟩
  exact (Heap.get?_update_other _ _ (Ne.symm hb)).trans ((Heap.get?_update_other _ _ (Ne.symm hb)).trans e)
theorem cm_init {R : Result → Shared → Prop} (hh : A.handled = none) (C : Chain n k ls) (hn : its.size = n) (st : CmSt ls n k s.heap c P 0) (hP : s.heap.get? P = some po) (hpd : po.data = .seq its pn) (hSP : P < c) (S : Addr) (hSc : c < S) (hS : s.heap.get? S = some { cls := .type "list", data := .seq #[] })
    (hR : ∀ h' tk acc cc as, (∀ b o, b ≠ S → b ≠ c → s.heap.get? b = some o → h'.get? b = some o) → (∃ o, h'.get? c = some o) → h'.get? S = some { cls := .type "list", dict := none, data := .seq acc cc, slots := #[] } → as.length = ls.length → CG its ls S h' as →
      acc.toList = as.map Value.ref → R (.ok (.ret .none)) { s with heap := h', toks := tk }) :
    wpAny (model prog w) A.in1 (Builtin.«list.__init__» ⟨[.ref S, .ref c], []⟩)
      (fun fin s' => match fin with | .done f => R (.ok f) s' | .again c' => c'.quiet = true ∧ codeAny (model prog w) A c' R s') (fun e s' => R (.error e) s') s := by
  show wpAny _ _ (do let old ← Builtin.List.listItems (.ref S); Builtin.List.listUpdate (.ref S) (fun _ => #[]); letGo old.toList.reverse; Builtin.List.listExtendWith (.ref S) (.ref c) .none) _ _ s
  refine wpAny_bind ?_
  unfold Builtin.List.listItems
  refine wpAny_bind (wpAny_seqItems hS rfl (wpAny_pure ?_))
  show wpAny _ _ (updateSeq S (fun _ => #[]) >>= fun _ => letGo (#[] : Array Value).toList.reverse >>= fun _ => Builtin.List.listExtendWith (.ref S) (.ref c) .none) _ _ s
  refine wpAny_bind (wpAny_updateSeq hS rfl ?_)
  have hS₂ := Heap.get?_update_self (Obj.mapSeq (fun _ => (#[] : Array Value))) hS rfl
  have oth : ∀ b o, b ≠ S → s.heap.get? b = some o → (s.heap.update S (Obj.mapSeq (fun _ => (#[] : Array Value)))).get? b = some o :=
    fun b o hb e => (Heap.get?_update_other _ _ (Ne.symm hb)).trans e
  refine wpAny_bind (wpAny_letGo ?_)
  refine cm_extend (s := { s with heap := s.heap.update S (Obj.mapSeq (fun _ => (#[] : Array Value))) }) hh C hn (st.keep oth (Nat.ne_of_lt hSc)) (oth P _ (Nat.ne_of_lt (Nat.lt_trans hSP hSc)) hP) hpd hSP S hSc .none _ hS₂ (fun h' tk acc cc as hk hec hS' hl hG hacc => ?_)
  exact hR h' tk acc cc as (fun b o hb hc e => hk b o hb hc (oth b o hb e)) hec hS' hl hG hacc
/-- list(a combinations object that has not begun) -/
theorem call_list_cm {Q : Value → Shared → Prop} (hh : A.handled = none) (C : Chain n k ls) (hn : its.size = n) (st : CmSt ls n k s.heap c P 0) (hP : s.heap.get? P = some po) (hpd : po.data = .seq its pn) (hSP : P < c)
    (hQ : ∀ h' tk acc cc as, (∀ b o, b ≠ c → s.heap.get? b = some o → h'.get? b = some o) → (∃ o, h'.get? c = some o) → h'.get? s.heap.objs.size = some { cls := .type "list", dict := none, data := .seq acc cc, slots := #[] } → as.length = ls.length → CG its ls s.heap.objs.size h' as →
      acc.toList = as.map Value.ref → Q (.ref s.heap.objs.size) { s with heap := h', toks := tk }) :
    wpAny (model prog w) A (call (.type "list") [.ref c]) Q E s := by
  refine callType_codes (Q₁ := fun obj s₁ => obj = .ref s.heap.objs.size ∧ s₁ = { s with heap := s.heap.push { cls := .type "list", data := .seq #[] } }) PySem.F.called_list (PySem.F.typeCall_list_1 _) PySem.F.entry_list_init
    (code_list_new _ ⟨rfl, rfl⟩) fun obj s₁ h₁ => ?_
  obtain ⟨rfl, rfl⟩ := h₁
  have hS : (s.heap.push { cls := .type "list", data := .seq #[] }).get? s.heap.objs.size = some { cls := .type "list", data := .seq #[] } := Heap.get?_push_size _ rfl
  have hc : c < s.heap.objs.size := let ⟨_, ho, _⟩ := st.there; Heap.lt_size ho
  refine ⟨⟨_, hS, rfl⟩, PySem.F.args_list_init_2 _ _, cm_init (s := { s with heap := s.heap.push { cls := .type "list", data := .seq #[] } }) (A := A.in1) hh C hn (st.keep (S := s.heap.objs.size) (fun b o _ e => Heap.get?_push_of_some _ e) (Nat.ne_of_lt hc)) (Heap.get?_push_of_some _ hP) hpd hSP _ hc hS (fun h' tk acc cc as hk hec hS' hl hG hacc => ?_)⟩
  exact ⟨rfl, hQ h' tk acc cc as (fun b o hb e => hk b o (Nat.ne_of_lt (Heap.lt_size e)) hb (Heap.get?_push_of_some _ e)) hec hS' hl hG hacc⟩
end
end Cm

set_option Elab.async false
set_option linter.all false
set_option maxRecDepth 100000
set_option maxHeartbeats 1000000
namespace Cm
open PySem PySem.Spec PyProof.Rows L2
section
variable {X : Cx} {pins : List (Addr × Obj)} {σ : L2.St} {H : Hp} {s : Shared}
/-- many new objects laid and tracked at once -/
theorem laidAll {H' : Hp} {h' : Heap} {t' : Nat} (I : Inv X pins σ H s) (k : ∀ b u, s.heap.get? b = some u → h'.get? b = some u) (old : ∀ b, b < s.heap.objs.size → H' b = H b)
    (new : ∀ a o, s.heap.objs.size ≤ a → H' a = some o → ObjOk X.prog X.w H' h' a o) : Inv X pins σ H' { s with heap := h', toks := t' } := by
  have up : ∀ b o, H b = some o → H' b = some o := fun b o e => (old b (I.hok.lt e)).trans e
  refine I.un ⟨fun b o e _ _ _ => k b o e, fun b o e _ _ _ => ⟨o.slots, k b o e⟩, fun b o e n _ => (old b (Heap.lt_size e)).trans n, fun b o e _ => ⟨o, k b o e⟩, fun b xs e => up b _ e, fun b o u e => up b _ e, fun b ps e => ⟨#[], by rw [up b _ e]; simp⟩⟩ fun a o e => ?_
  rcases Nat.lt_or_ge a s.heap.objs.size with l | g
  · rw [old a l] at e
    exact (I.hok a o e).stay (fun c v _ q => k c v q) (fun c q => up _ _ q) fun c xs q => up _ _ q
  · exact new a o g e
/-- the lots as they are tracked -/
def lotV (ix : List Nat) : List V := ix.map fun (i : Nat) => V.int (i : Int)
def layT (H : Hp) : List Addr → List (List Nat) → Hp
  | a :: as, ix :: ls => upd (layT H as ls) a (.tup (lotV ix))
  | _, _ => H
theorem layT_out {H : Hp} {b : Addr} : ∀ {as : List Addr} {ls : List (List Nat)}, b ∉ as → layT H as ls b = H b
  | [], _, _ => rfl
  | a :: as, [], _ => rfl
  | a :: as, ix :: ls, h => by
    unfold layT
    rw [upd_ne (fun e => h (by simp [e])), layT_out fun m => h (by simp [m])]
theorem layT_at {H : Hp} {a : Addr} {ix : List Nat} : ∀ {as : List Addr} {ls : List (List Nat)} {j : Nat}, as.Nodup → as[j]? = some a → ls[j]? = some ix → layT H as ls a = some (.tup (lotV ix))
  | [], _, j, _, e, _ => by simp at e
  | _ :: _, [], j, _, _, e => by simp at e
  | b :: as, y :: ls, 0, _, e, f => by
    cases e
    cases f
    unfold layT
    exact upd_same
  | b :: as, y :: ls, j + 1, nd, e, f => by
    unfold layT
    have m : a ∈ as := List.mem_of_getElem? (i := j) (by simpa using e)
    have ne : a ≠ b := fun z => (List.nodup_cons.mp nd).1 (z ▸ m)
    rw [upd_ne ne]
    exact layT_at (List.nodup_cons.mp nd).2 (by simpa using e) (by simpa using f)
end
section
variable {X : Cx} {a b : Expr} {ta tb : TE} {x : Str}
/-- list(combinations(range(a), b)) -/
def tCm (ta tb : TE) : TE := fun σ H Q => ta σ H fun x H1 => (∃ m, x = .int m) ∧ tb σ H1 fun y H2 => ∃ n k : Nat, x = .int n ∧ y = .int k ∧ n ≤ 1000 ∧ k ≤ 1000 ∧ ∃ ls, Chain n k ls ∧ (∀ ix ∈ ls, ∀ i ∈ ix, i < n) ∧
  ∀ (p : Addr) (as : List Addr) (H' : Hp), H2 p = none → L2.Same H2 H' → H' p = some (.lst (as.map V.ref)) → as.length = ls.length → (∀ (j : Nat) (a : Addr) (ix : List Nat), as[j]? = some a → ls[j]? = some ix → H' a = some (.tup (lotV ix))) → Q (.ref p) H'
theorem range_pin {p pos : Pos} (gr : Gl X "range") (mr : X.mg "range" = none) (ha : PE X a ta) (na : starEach [a] X.env = (false, eval a X.env) :: starEach [] X.env) {pins : List (Addr × Obj)} {s : Shared} {σ : L2.St} {H : Hp} {R : V → Hp → Prop}
    (I : Inv X pins σ H s) (h : ta σ H fun x H1 => (∃ n, x = .int n) ∧ R x H1) :
    wpAny (model X.prog X.w) X.A (eval (.Call (.Name "range" p) [a] [] pos) X.env) (fun z s' => ∃ r n t u v H', z = .ref r ∧ IsRange s'.heap r 0 n 1 t u v ∧ Inv X (pins ++ pinsAt [r] s'.heap) σ H' s' ∧ R (.int n) H') X.xe s := by
  refine Call_ (ld_blt I gr mr boot_range (PyProof.Rows.callWith_type1 (one_arg ha I h (fun v s2 x H2 I2 r q => ?_) na) na))
  obtain ⟨⟨n, rfl⟩, q⟩ := q
  obtain ⟨t, rfl⟩ := r
  refine call_range_1 ?_
  have I3 : Inv X pins σ H2 { s2 with heap := s2.heap.push { cls := .type "range", data := .fields #[.int 0 s2.toks, .int n t, .int 1 (s2.toks + 1)] }, toks := s2.toks + 1 + 1 } := I2.kept fun b u e => Heap.get?_push_of_some _ e
  refine ⟨_, n, _, _, _, H2, rfl, IsRange.new _ _ _ _ _ _ _, ?_, q⟩
  refine I3.pinned (fp := [s2.heap.objs.size]) (fun b hb => ?_) (fun b hb => ?_)
  · rw [List.mem_singleton.mp hb]
    exact I2.fpOk (Nat.le_refl _) (I2.hok.fresh (Nat.le_refl _))
  · rw [List.mem_singleton.mp hb]
    exact ⟨_, Heap.get?_push_size _ rfl, fun v q => nomatch q⟩
end
end Cm

set_option Elab.async false
set_option linter.all false
set_option maxRecDepth 100000
set_option maxHeartbeats 1000000
namespace Cm
open PySem PySem.Spec PyProof.Rows L2
section
variable {X : Cx} {a b : Expr} {ta tb : TE} {x : Str}
/-- combinations(range(a), b): what stands then -/
def Made (X : Cx) (pins : List (Addr × Obj)) (σ : L2.St) (R : Nat → Nat → Hp → Prop) (z : Value) (s' : Shared) : Prop :=
  ∃ (c P : Addr) (n k : Nat) (acc : Array Value) (H2 : Hp), z = .ref c ∧ IsCm s'.heap c P (if k > n then 2 else 0) .none (List.range k) ∧ s'.heap.get? P = some { cls := .type "tuple", data := .seq acc } ∧ P < c ∧ FpOk X pins H2 c ∧ Inv X pins σ H2 s' ∧
    ItemsOf (fun i v => ∃ t, v = .int (0 + i * 1) t) acc n ∧ R n k H2
theorem made {p1 p2 pos1 pos2 : Pos} (hc : X.calm = true) (gx : Gl X x) (mx : X.mg x = some (.type "itertools.combinations")) (gr : Gl X "range") (mr : X.mg "range" = none) (ha : PE X a ta) (hb : PE X b tb)
    (hdb : (x == ("__debug__" : Str)) = false)
    (na : starEach [a] X.env = (false, eval a X.env) :: starEach [] X.env) (nb : starEach [b] X.env = (false, eval b X.env) :: starEach [] X.env)
    (nab : starEach [Expr.Call (.Name "range" p2) [a] [] pos2, b] X.env = (false, eval (.Call (.Name "range" p2) [a] [] pos2) X.env) :: starEach [b] X.env) (hp : (backTo pos1 (starEach [b] X.env)).any (·.1) = false)
    {pins : List (Addr × Obj)} {s : Shared} {σ : L2.St} {H : Hp} {R : Nat → Nat → Hp → Prop} (I : Inv X pins σ H s)
    (h : ta σ H fun x H1 => (∃ m, x = .int m) ∧ tb σ H1 fun y H2 => ∃ n k : Nat, x = .int n ∧ y = .int k ∧ n ≤ 1000 ∧ k ≤ 1000 ∧ R n k H2) :
    wpAny (model X.prog X.w) X.A (eval (.Call (.Name x p1) [.Call (.Name "range" p2) [a] [] pos2, b] [] pos1) X.env) (Made X pins σ R) X.xe s := by
  refine Call_ (ld_glob I gx mx (PyProof.Rows.callWith_type1 (args_cons (thn (range_pin (R := fun v H1 => tb σ H1 fun y H2 => ∃ n k : Nat, v = .int n ∧ y = .int k ∧ n ≤ 1000 ∧ k ≤ 1000 ∧ R n k H2) gr mr ha na I h) fun v s1 ⟨r, m, t, u, w1, H1, er, hr, I1, q1⟩ => one_arg hb I1 q1 (fun u2 s2 y H2 I2 r2 q => ?_) nb) nab) nab hp) hdb)
  obtain ⟨n, k, en, rfl, ln, lk, q⟩ := q
  cases en
  obtain ⟨tk, rfl⟩ := r2
  have hr2 : IsRange s2.heap r 0 n 1 t u w1 := (I2.pin _ (List.mem_append_right _ (List.mem_append_right _ (mem_pinsAt (List.mem_singleton.mpr rfl) hr)))).1
  have I2' : Inv X pins σ H2 s2 := I2.unpinned
  subst er
  refine call_cm (I2.ok.hd hc) hr2 (small_one (by omega) (by omega) (by omega) (by omega)) (n := n) ?_ (by omega) (by omega) fun h' tk' acc hk hacc => ?_
  · rw [rangeSize_nat]
    omega
  have I3 : Inv X pins σ H2 { s2 with heap := h', toks := tk' } := I2'.kept hk
  have e1 : (cmP h' acc).objs.size = h'.objs.size + 1 := Heap.size_push ..
  have z : IsCm (cmR h' acc (if k > n then 2 else 0) k) (cmP h' acc).objs.size h'.objs.size (if k > n then 2 else 0) .none (List.range k) := Heap.get?_push_size _ rfl
  rw [e1] at z
  refine ⟨h'.objs.size + 1, h'.objs.size, n, k, acc, H2, rfl, z, Heap.get?_push_of_some _ (Heap.get?_push_size _ rfl), Nat.lt_succ_self _, I3.fpOk (Nat.le_succ _) (I3.hok.fresh (Nat.le_succ _)), ?_, hacc, q⟩
  exact I3.kept fun b o e => Heap.get?_push_of_some _ (Heap.get?_push_of_some _ e)
theorem refs : ∀ as : List Addr, Vals (as.map V.ref) (as.map Value.ref)
  | [] => .nil
  | a :: as => .cons rfl (refs as)
theorem intsV {acc : Array Value} {n : Nat} (h : ItemsOf (fun i v => ∃ t, v = .int (0 + i * 1) t) acc n) : ∀ {ix : List Nat}, (∀ i ∈ ix, i < n) → Vals (lotV ix) (ix.map fun i => acc.getD i .none)
  | [], _ => .nil
  | i :: ix, b => by
    refine .cons ?_ (intsV h fun j hj => b j (by simp [hj]))
    have hi : i < acc.size := by rw [h.1]; exact b i (by simp)
    obtain ⟨t, e⟩ := h.2 i acc[i] (Array.getElem?_eq_getElem hi)
    have e2 : acc.getD i .none = acc[i] := by
      rw [Array.getD_eq_getD_getElem?, Array.getElem?_eq_getElem hi]
      rfl
    show RelV (V.int (i : Int)) (acc.getD i .none)
    rw [e2, e]
    exact ⟨t, by rw [Int.mul_one, Int.zero_add]⟩
theorem pe_listCm {p p1 p2 pos pos1 pos2 : Pos} (hc : X.calm = true) (gl : Gl X "list") (ml : X.mg "list" = none) (gx : Gl X x) (mx : X.mg x = some (.type "itertools.combinations")) (gr : Gl X "range") (mr : X.mg "range" = none) (ha : PE X a ta) (hb : PE X b tb)
    (hdb : (x == ("__debug__" : Str)) = false := by decide)
    (na : starEach [a] X.env = (false, eval a X.env) :: starEach [] X.env := by rfl) (nb : starEach [b] X.env = (false, eval b X.env) :: starEach [] X.env := by rfl)
    (nab : starEach [Expr.Call (.Name "range" p2) [a] [] pos2, b] X.env = (false, eval (.Call (.Name "range" p2) [a] [] pos2) X.env) :: starEach [b] X.env := by rfl) (hp : (backTo pos1 (starEach [b] X.env)).any (·.1) = false := by rfl)
    (nl : starEach [Expr.Call (.Name x p1) [.Call (.Name "range" p2) [a] [] pos2, b] [] pos1] X.env = (false, eval (.Call (.Name x p1) [.Call (.Name "range" p2) [a] [] pos2, b] [] pos1) X.env) :: starEach [] X.env := by rfl) :
    PE X (.Call (.Name "list" p) [.Call (.Name x p1) [.Call (.Name "range" p2) [a] [] pos2, b] [] pos1] [] pos) (tCm ta tb) := by
  refine ⟨fun pins s σ H Q I h => ?_⟩
  refine Call_ (ld_blt I gl ml boot_list (PyProof.Rows.callWith_type1 (args_cons (thn (made (R := fun n k H2 => ∃ ls, Chain n k ls ∧ (∀ ix ∈ ls, ∀ i ∈ ix, i < n) ∧
    ∀ (p : Addr) (as : List Addr) (H' : Hp), H2 p = none → L2.Same H2 H' → H' p = some (.lst (as.map V.ref)) → as.length = ls.length → (∀ (j : Nat) (a : Addr) (ix : List Nat), as[j]? = some a → ls[j]? = some ix → H' a = some (.tup (lotV ix))) → Q (.ref p) H') hc gx mx gr mr ha hb hdb na nb nab hp I ?_)
    fun z s1 ⟨c, P, n, k, acc, H2, ez, hcm, hP, lt, fp, I1, hacc, q⟩ => args_nil ?_) nl) nl))
  · exact h
  · subst ez
    obtain ⟨ls, C, inr, q⟩ := q
    refine call_list_cm (I1.ok.hd hc) C hacc.1 (.inl ⟨rfl, hcm⟩) hP rfl lt fun h' tk acc' cc as hk hec hS hl hG hacc' => ?_
    obtain ⟨oc, hoc⟩ := hec
    have hfr : oc.isFreed = false := (Heap.get?_some_iff.mp hoc).2
    have gc : (s1.heap.update c (fun _ => oc)).get? c = some oc := Heap.get?_update_self (fun _ => oc) hcm hfr
    have go : ∀ b, b ≠ c → (s1.heap.update c (fun _ => oc)).get? b = s1.heap.get? b := fun b hb => Heap.get?_update_other _ _ (Ne.symm hb)
    have gz : (s1.heap.update c (fun _ => oc)).objs.size = s1.heap.objs.size := Heap.size_update ..
    generalize s1.heap.update c (fun _ => oc) = G at *
    have IG : Inv X pins σ H2 { s1 with heap := G, toks := s1.toks } := I1.turnedL (ch := [c]) (fun b o hb e => (go b (fun z => hb (by simp [z]))).trans e) (fun b hb => by rw [List.mem_singleton.mp hb]; exact fp)
    have nS : s1.heap.objs.size ∉ as := fun m => Nat.lt_irrefl _ (hG.above _ m)
    have nd : as.Nodup := hG.rise.imp fun h => Nat.ne_of_lt h
    have small : ∀ b, b < s1.heap.objs.size → b ∉ as := fun b hb m => Nat.lt_asymm hb (hG.above b m)
    obtain ⟨H', eH⟩ : ∃ H', H' = upd (layT H2 as ls) s1.heap.objs.size (.lst (as.map V.ref)) := ⟨_, rfl⟩
    have atS : H' s1.heap.objs.size = some (.lst (as.map V.ref)) := by rw [eH]; exact upd_same
    have out : ∀ b, b ≠ s1.heap.objs.size → b ∉ as → H' b = H2 b := fun b hb hn => by rw [eH, upd_ne hb, layT_out hn]
    have atT : ∀ (j : Nat) (a : Addr) (ix : List Nat), as[j]? = some a → ls[j]? = some ix → H' a = some (.tup (lotV ix)) := fun j a ix e f => by
      have m := List.mem_of_getElem? e
      have ne : a ≠ s1.heap.objs.size := fun z => nS (z ▸ m)
      rw [eH, upd_ne ne, layT_at nd e f]
    have I' : Inv X pins σ H' { s1 with heap := h', toks := tk } := by
      refine laidAll (s := { s1 with heap := G, toks := s1.toks }) IG (fun b u e => ?_) (fun b hb => ?_) fun a o ha e => ?_
      · by_cases hb : b = c
        · subst hb
          rw [gc] at e
          cases e
          exact hoc
        · rw [go b hb] at e
          exact hk b u hb e
      · have hb' : b < s1.heap.objs.size := by rw [← gz]; exact hb
        exact out b (Nat.ne_of_lt hb') (small b hb')
      · have ha' : s1.heap.objs.size ≤ a := by rw [← gz]; exact ha
        by_cases h1 : a = s1.heap.objs.size
        · subst h1
          rw [atS] at e
          cases e
          refine show ObjOk X.prog X.w _ _ _ (.lst (as.map V.ref)) from ⟨?_, acc'.toList, cc, ?_, ?_⟩
          · rw [List.length_map, hl]
            exact C.few
          · rw [hacc']
            exact refs as
          · rw [Array.toArray_toList]
            exact hS
        · by_cases h2 : a ∈ as
          · obtain ⟨j, hj⟩ := List.mem_iff_getElem?.mp h2
            obtain ⟨ix, e1, e3⟩ := hG.got j a hj
            rw [atT j a ix hj e1] at e
            cases e
            have m := List.mem_of_getElem? e1
            refine show ObjOk X.prog X.w _ _ _ (.tup (lotV ix)) from ⟨?_, ix.map fun i => acc.getD i .none, intsV hacc (inr ix m), ⟨_, e3, rfl, _, rfl⟩⟩
            have := C.len ix m
            unfold lotV
            rw [List.length_map, sizeLine_eq]
            omega
          · rw [out a h1 h2, I1.hok.fresh ha'] at e
            cases e
    have fresh := I1.hok.fresh (Nat.le_refl s1.heap.objs.size)
    refine ⟨.ref s1.heap.objs.size, H', I', rfl, q _ as H' fresh (fun b o e => ?_) atS hl atT⟩
    have lb := I1.hok.lt e
    exact (out b (Nat.ne_of_lt lb) (small b lb)).trans e
end
end Cm

set_option Elab.async false
set_option linter.all false
set_option maxRecDepth 100000
set_option maxHeartbeats 2000000
/-! sorted(xs), xs a list of tuples of d ints, of any length -/
namespace SN
open PySem PyProof.Rows TS SrtO
section
variable {prog : Program} {w : World} {A : Around} {E : Value → Shared → Prop} {s : Shared}
theorem swo_code (f : Value → Int) : Swo fun v u => decide (f v < f u) := by
  refine ⟨fun x y h => ?_, fun x y z h1 h2 => ?_⟩
  · have a := of_decide_eq_true h
    exact decide_eq_false (by omega)
  · have a := of_decide_eq_false h1
    have b := of_decide_eq_false h2
    exact decide_eq_false (by omega)
theorem tups_cmp {vs : List Value} {d : Nat} {B : Int} {f : Value → Int} (x : TupsOk s.heap d B vs) (hf : ∀ v, v ∈ vs → ∀ ns, TupInts s.heap v ns → f v = code B ns) : SrtO.Cmp prog w A s (tuples' true) (fun p => p.1 ∈ vs) (lt2 fun v u => decide (f v < f u)) := by
  intro p q hp hq
  obtain ⟨ns, tp, lp, bp⟩ := x _ hp
  obtain ⟨ms, tq, lq, bq⟩ := x _ hq
  have ep := hf _ hp _ tp
  have eq2 := hf _ hq _ tq
  show wpAny (model prog w) A (keyLt' (tuples' true) p.1 q.1) (fun r s' => s' = s ∧ r = decide (f p.1 < f q.1)) (fun _ _ => False) s
  rw [ep, eq2]
  obtain ⟨a, xs, e1, ⟨o, ho, hc, n, hdt⟩, i⟩ := tp
  obtain ⟨a', ys, e2, ⟨o', ho', hc', n', hdt'⟩, i'⟩ := tq
  rw [e1, e2]
  refine PySem.W.kat_lt ho hdt ho' hdt' ?_
  have sz : decide (xs.size < ys.size) = false := by
    have l1 := i.length
    have l2 := i'.length
    rw [Array.length_toList] at l1 l2
    exact decide_eq_false (by omega)
  rw [sz]
  exact lex_ints (Q := fun r s' => s' = s ∧ r = decide (code B ns < code B ms)) 0 i i' (by omega) bp bq ⟨rfl, rfl⟩
theorem tups_sortable {a : Addr} {vs : List Value} {d : Nat} {B : Int} {f : Value → Int} (hd : 1 ≤ d) (h0 : 0 < vs.length) (x : TupsOk s.heap d B vs) (ha : ∀ o, s.heap.get? a = some o → o.cls ≠ .type "tuple") (hf : ∀ v, v ∈ vs → ∀ ns, TupInts s.heap v ns → f v = code B ns) :
    SortableO prog w A s a vs fun v u => decide (f v < f u) := by
  intro h' keep
  have kt : ∀ b o, s.heap.get? b = some o → o.cls = .type "tuple" → h'.get? b = some o := fun b o e c => keep b o (fun z => by subst z; exact ha o e c) e
  have x' : TupsOk h' d B vs := x.keeps kt
  obtain ⟨fs, h1, h2, h3⟩ := TS.firsts_of hd vs x'
  refine ⟨tuples' true, fun Q E hq => ?_, tups_cmp (s := { s with heap := h' }) x' fun v hv ns t => ?_⟩
  · refine PySem.W.kat_kind (T := .type "int") h1 (by omega) (fun g hm => ?_) (by rfl) ?_
    · obtain ⟨y, t, rfl⟩ := h3 g hm
      exact PySem.W.Looks.now
    · have e : (Value.type "int" != Value.type "tuple") = true := by first | decide +kernel | rfl | decide
      rw [e]
      exact hq
  · obtain ⟨ns0, t0, _⟩ := x v hv
    have e : ns = ns0 := t.ints.symm.trans (t0.keeps kt).ints
    rw [e]
    exact hf v hv ns0 t0
end
end SN
namespace L2
open PySem PySem.Spec PyProof.Rows
def rSortN (K : PySem.W.Frag) : List V → Hp → VK → Prop := fun vs H Q => ∃ (a : Addr) (xs : List V) (d : Nat) (B : Int), vs = [V.ref a] ∧ SqL K H a xs ∧ (d = 0 → xs.length ≤ 1) ∧ (∀ x ∈ xs, ∃ ns, TupI K H x ns ∧ ns.length = d ∧ TS.Bd B ns) ∧
  ∀ (ys : List V) (p : Addr), ys.Perm xs → ys.Pairwise (fun x y => ∀ n m, TupI K H x n → TupI K H y m → TS.code B n ≤ TS.code B m) → H p = none → Q (.ref p) (upd H p (.lst ys))
theorem cr_sortN {X : Cx} : CallR X (.builtin "sorted") (rSortN X.K) := by
  intro pins s σ H vs us Q I r h
  obtain ⟨a, xs, d, B, rfl, hs, h0, hx, q⟩ := h
  obtain ⟨its, rv, hl, hz⟩ := I.list hs
  rw [Vals.ref1 r]
  obtain ⟨e1, e2⟩ := bkV_refs rv fun x m => by
    obtain ⟨ns, ⟨t, e, _⟩, _⟩ := hx x m
    exact ⟨t, e⟩
  have tk : TS.TupsOk s.heap d B its := fun v hv => by
    obtain ⟨t, rfl⟩ := e2 v hv
    have hm : V.ref t ∈ xs := by
      rw [e1]
      exact List.mem_map.mpr ⟨_, hv, rfl⟩
    obtain ⟨ns, ⟨t', e, ht⟩, hn, hb⟩ := hx _ hm
    cases e
    exact ⟨ns, tupI_raw I ht, hn, hb⟩
  refine SrtO.sorted_ord (SN.swo_code fun v => TS.code B (TS.intsOf s.heap v)) hl.isList (by rw [← rv.length]; exact hz) (fun h2 h₁ a' ha' kk => ?_) fun out h1 h2 => ?_
  · have d1 : 1 ≤ d := by
      rcases Nat.eq_zero_or_pos d with e | e
      · have := h0 e
        have := rv.length
        omega
      · exact e
    have kt : ∀ b o, s.heap.get? b = some o → o.cls = .type "tuple" → h₁.get? b = some o := fun b o e _ => (kk b o e).2
    refine SN.tups_sortable (s := { s with heap := h₁ }) d1 (by omega) (tk.keeps kt) (fun o e => ?_) fun v hv ns t => ?_
    · have e' : some o = some (seqObj "list" its.toArray 0) := e.symm.trans ha'
      cases e'
      intro c
      exact absurd (Value.type.inj c) (by decide)
    · obtain ⟨ns0, t0, _⟩ := tk v hv
      have e : ns = ns0 := t.ints.symm.trans (t0.keeps kt).ints
      rw [e, t0.ints]
  · obtain ⟨ep, he'⟩ := PyProof.Rows.sortedAll_at s.heap its out.toArray
    have hp0 : out.Perm its := h2.perm
    have h3 : ∀ u ∈ out, ∃ a, u = Value.ref a := fun u hu => e2 u (hp0.mem_iff.mp hu)
    have hp : (out.map bkV).Perm xs := by
      rw [e1]
      exact hp0.map bkV
    have hlen : (out.map bkV).length ≤ sizeLine := by
      rw [hp.length_eq]
      exact hz
    refine ⟨.ref _, upd H (s.heap.objs.size + 1) (.lst (out.map bkV)), I.laid (t' := s.toks) (fun _ _ => PyProof.Rows.sortedAll_old) (Nat.le_succ _) ⟨hlen, out, ep, bkV_vals h3, he'⟩, rfl, q _ _ hp ?_ (I.hok.fresh (Nat.le_succ _))⟩
    rw [List.pairwise_map]
    refine List.Pairwise.imp (fun {u v} huv n m hn hm => ?_) h1
    obtain ⟨t, et, ht⟩ := hn
    obtain ⟨t', et', ht'⟩ := hm
    have eu := bkV_ref et
    have ev := bkV_ref et'
    have i1 : TS.intsOf s.heap u = n := by
      rw [eu]
      exact (tupI_raw I ht).ints
    have i2 : TS.intsOf s.heap v = m := by
      rw [ev]
      exact (tupI_raw I ht').ints
    have z := of_decide_eq_false huv
    rw [← i1, ← i2]
    omega
end L2

set_option Elab.async false
set_option linter.all false
set_option maxRecDepth 100000
set_option maxHeartbeats 2000000
namespace K04
open PySem L2 Sx
def top (i : Nat) : Stmt := PySem.Challenge.pw_nextguess_k04_rows_and_lots.main.body.getD i (.Pass ⟨0, 0, 0, 0⟩)
abbrev s_is_an_integer : Stmt := top 2
abbrev s_is_number : Stmt := top 3
abbrev s_is_value : Stmt := top 4
abbrev s_is_point : Stmt := top 5
abbrev s_row_of : Stmt := top 7
abbrev s_is_row : Stmt := top 9
abbrev s_all_rows : Stmt := top 10
abbrev s_is_lot : Stmt := top 11
abbrev s_lots_of : Stmt := top 12
abbrev s_lots_to : Stmt := top 13
abbrev s_all_lots : Stmt := top 14
abbrev s_read_at : Stmt := top 15
abbrev s__law_flow : Stmt := top 20
abbrev s__law_take : Stmt := top 21
abbrev s__law_row : Stmt := top 22
abbrev s__law_lot : Stmt := top 23
abbrev s__law_put : Stmt := top 24
abbrev s__law_spoilt : Stmt := top 25
abbrev s__law_is_number : Stmt := top 26
abbrev s__law_is_row : Stmt := top 27
abbrev s__law_is_lot : Stmt := top 28
abbrev s__law_same : Stmt := top 29
abbrev s__law_truth : Stmt := top 30
abbrev s__law_every_row : Stmt := top 31
abbrev s__law_every_lot : Stmt := top 32
abbrev s__law_values : Stmt := top 33
abbrev s__law_all : Stmt := top 34
abbrev s_law : Stmt := top 35
theorem sc_is_an_integer : FnScope ["value"] ["value"] (defScope s_is_an_integer) := ⟨rfl, rfl, rfl, by decide +kernel, rfl, by decide +kernel, by decide +kernel⟩
theorem sc_is_number : FnScope ["value"] ["value"] (defScope s_is_number) := ⟨rfl, rfl, rfl, by decide +kernel, rfl, by decide +kernel, by decide +kernel⟩
theorem sc_is_value : FnScope ["value"] ["value"] (defScope s_is_value) := ⟨rfl, rfl, rfl, by decide +kernel, rfl, by decide +kernel, by decide +kernel⟩
theorem sc_is_point : FnScope ["value", "size"] ["value", "size"] (defScope s_is_point) := ⟨rfl, rfl, rfl, by decide +kernel, rfl, by decide +kernel, by decide +kernel⟩
theorem sc_row_of : FnScope ["code", "size", "point"] ["code", "size"] (defScope s_row_of) := ⟨rfl, rfl, rfl, by decide +kernel, rfl, by decide +kernel, by decide +kernel⟩
theorem sc_is_row : FnScope ["value", "size", "member"] ["value", "size"] (defScope s_is_row) := ⟨rfl, rfl, rfl, by decide +kernel, rfl, by decide +kernel, by decide +kernel⟩
theorem sc_all_rows : FnScope ["size", "code"] ["size"] (defScope s_all_rows) := ⟨rfl, rfl, rfl, by decide +kernel, rfl, by decide +kernel, by decide +kernel⟩
theorem sc_is_lot : FnScope ["value", "size", "k", "member"] ["value", "size"] (defScope s_is_lot) := ⟨rfl, rfl, rfl, by decide +kernel, rfl, by decide +kernel, by decide +kernel⟩
theorem sc_lots_of : FnScope ["size", "many"] ["size", "many"] (defScope s_lots_of) := ⟨rfl, rfl, rfl, by decide +kernel, rfl, by decide +kernel, by decide +kernel⟩
theorem sc_lots_to : FnScope ["size", "most", "many", "lot"] ["size", "most"] (defScope s_lots_to) := ⟨rfl, rfl, rfl, by decide +kernel, rfl, by decide +kernel, by decide +kernel⟩
theorem sc_all_lots : FnScope ["size"] ["size"] (defScope s_all_lots) := ⟨rfl, rfl, rfl, by decide +kernel, rfl, by decide +kernel, by decide +kernel⟩
theorem sc_read_at : FnScope ["row", "lot", "point"] ["row", "lot"] (defScope s_read_at) := ⟨rfl, rfl, rfl, by decide +kernel, rfl, by decide +kernel, by decide +kernel⟩
theorem sc__law_flow : FnScope ["script", "place", "cell"] ["script", "place"] (defScope s__law_flow) := ⟨rfl, rfl, rfl, by decide +kernel, rfl, by decide +kernel, by decide +kernel⟩
theorem sc__law_take : FnScope ["flow", "limit", "digit", "mixed"] ["flow", "limit"] (defScope s__law_take) := ⟨rfl, rfl, rfl, by decide +kernel, rfl, by decide +kernel, by decide +kernel⟩
theorem sc__law_row : FnScope ["flow", "size", "k"] ["flow", "size"] (defScope s__law_row) := ⟨rfl, rfl, rfl, by decide +kernel, rfl, by decide +kernel, by decide +kernel⟩
theorem sc__law_lot : FnScope ["flow", "size", "k"] ["flow", "size"] (defScope s__law_lot) := ⟨rfl, rfl, rfl, by decide +kernel, rfl, by decide +kernel, by decide +kernel⟩
theorem sc__law_put : FnScope ["value", "at", "part"] ["value", "at", "part"] (defScope s__law_put) := ⟨rfl, rfl, rfl, by decide +kernel, rfl, by decide +kernel, by decide +kernel⟩
theorem sc__law_spoilt : FnScope ["flow", "value", "size", "shape", "at"] ["flow", "value", "size"] (defScope s__law_spoilt) := ⟨rfl, rfl, rfl, by decide +kernel, rfl, by decide +kernel, by decide +kernel⟩
theorem sc__law_is_number : FnScope ["value", "least", "limit"] ["value", "least", "limit"] (defScope s__law_is_number) := ⟨rfl, rfl, rfl, by decide +kernel, rfl, by decide +kernel, by decide +kernel⟩
theorem sc__law_is_row : FnScope ["value", "size", "part"] ["value", "size"] (defScope s__law_is_row) := ⟨rfl, rfl, rfl, by decide +kernel, rfl, by decide +kernel, by decide +kernel⟩
theorem sc__law_is_lot : FnScope ["value", "size", "least", "part"] ["value", "size"] (defScope s__law_is_lot) := ⟨rfl, rfl, rfl, by decide +kernel, rfl, by decide +kernel, by decide +kernel⟩
theorem sc__law_same : FnScope ["actual", "due", "k"] ["actual", "due"] (defScope s__law_same) := ⟨rfl, rfl, rfl, by decide +kernel, rfl, by decide +kernel, by decide +kernel⟩
theorem sc__law_truth : FnScope ["actual", "due"] ["actual", "due"] (defScope s__law_truth) := ⟨rfl, rfl, rfl, by decide +kernel, rfl, by decide +kernel, by decide +kernel⟩
theorem sc__law_every_row : FnScope ["size", "found", "k", "row"] ["size"] (defScope s__law_every_row) := ⟨rfl, rfl, rfl, by decide +kernel, rfl, by decide +kernel, by decide +kernel⟩
theorem sc__law_every_lot : FnScope ["size", "found", "level", "k", "grown", "lot", "least", "point"] ["size"] (defScope s__law_every_lot) := ⟨rfl, rfl, rfl, by decide +kernel, rfl, by decide +kernel, by decide +kernel⟩
theorem sc__law_values : FnScope ["script", "size", "turn", "k", "flow", "row", "lot", "value", "due", "point"] ["script", "size", "turn"] (defScope s__law_values) := ⟨rfl, rfl, rfl, by decide +kernel, rfl, by decide +kernel, by decide +kernel⟩
theorem sc__law_all : FnScope ["script", "flow", "size", "turn"] ["script"] (defScope s__law_all) := ⟨rfl, rfl, rfl, by decide +kernel, rfl, by decide +kernel, by decide +kernel⟩
theorem sc_law : FnScope ["script"] ["script"] (defScope s_law) := ⟨rfl, rfl, rfl, by decide +kernel, rfl, by decide +kernel, by decide +kernel⟩
structure Ad where
  a_is_an_integer : Addr
  d_is_an_integer : FuncData
  a_is_number : Addr
  d_is_number : FuncData
  a_is_value : Addr
  d_is_value : FuncData
  a_is_point : Addr
  d_is_point : FuncData
  a_row_of : Addr
  d_row_of : FuncData
  a_is_row : Addr
  d_is_row : FuncData
  a_all_rows : Addr
  d_all_rows : FuncData
  a_is_lot : Addr
  d_is_lot : FuncData
  a_lots_of : Addr
  d_lots_of : FuncData
  a_lots_to : Addr
  d_lots_to : FuncData
  a_all_lots : Addr
  d_all_lots : FuncData
  a_read_at : Addr
  d_read_at : FuncData
  a__law_flow : Addr
  d__law_flow : FuncData
  a__law_take : Addr
  d__law_take : FuncData
  a__law_row : Addr
  d__law_row : FuncData
  a__law_lot : Addr
  d__law_lot : FuncData
  a__law_put : Addr
  d__law_put : FuncData
  a__law_spoilt : Addr
  d__law_spoilt : FuncData
  a__law_is_number : Addr
  d__law_is_number : FuncData
  a__law_is_row : Addr
  d__law_is_row : FuncData
  a__law_is_lot : Addr
  d__law_is_lot : FuncData
  a__law_same : Addr
  d__law_same : FuncData
  a__law_truth : Addr
  d__law_truth : FuncData
  a__law_every_row : Addr
  d__law_every_row : FuncData
  a__law_every_lot : Addr
  d__law_every_lot : FuncData
  a__law_values : Addr
  d__law_values : FuncData
  a__law_all : Addr
  d__law_all : FuncData
  a_law : Addr
  d_law : FuncData
  c_InvalidNumber : Addr
  i_InvalidNumber : Addr
structure Txt (P : Program) (K : PySem.W.Frag) (mg : Str → Option Value) (A : Ad) : Prop where
  g_is_an_integer : mg "is_an_integer" = some (.ref A.a_is_an_integer)
  F_is_an_integer : Fun K "is_an_integer" "is_an_integer" s_is_an_integer A.a_is_an_integer A.d_is_an_integer
  g_is_number : mg "is_number" = some (.ref A.a_is_number)
  F_is_number : Fun K "is_number" "is_number" s_is_number A.a_is_number A.d_is_number
  g_is_value : mg "is_value" = some (.ref A.a_is_value)
  F_is_value : Fun K "is_value" "is_value" s_is_value A.a_is_value A.d_is_value
  g_is_point : mg "is_point" = some (.ref A.a_is_point)
  F_is_point : Fun K "is_point" "is_point" s_is_point A.a_is_point A.d_is_point
  g_row_of : mg "row_of" = some (.ref A.a_row_of)
  F_row_of : Fun K "row_of" "row_of" s_row_of A.a_row_of A.d_row_of
  g_is_row : mg "is_row" = some (.ref A.a_is_row)
  F_is_row : Fun K "is_row" "is_row" s_is_row A.a_is_row A.d_is_row
  g_all_rows : mg "all_rows" = some (.ref A.a_all_rows)
  F_all_rows : Fun K "all_rows" "all_rows" s_all_rows A.a_all_rows A.d_all_rows
  g_is_lot : mg "is_lot" = some (.ref A.a_is_lot)
  F_is_lot : Fun K "is_lot" "is_lot" s_is_lot A.a_is_lot A.d_is_lot
  g_lots_of : mg "lots_of" = some (.ref A.a_lots_of)
  F_lots_of : Fun K "lots_of" "lots_of" s_lots_of A.a_lots_of A.d_lots_of
  g_lots_to : mg "lots_to" = some (.ref A.a_lots_to)
  F_lots_to : Fun K "lots_to" "lots_to" s_lots_to A.a_lots_to A.d_lots_to
  g_all_lots : mg "all_lots" = some (.ref A.a_all_lots)
  F_all_lots : Fun K "all_lots" "all_lots" s_all_lots A.a_all_lots A.d_all_lots
  g_read_at : mg "read_at" = some (.ref A.a_read_at)
  F_read_at : Fun K "read_at" "read_at" s_read_at A.a_read_at A.d_read_at
  g__law_flow : mg "_law_flow" = some (.ref A.a__law_flow)
  F__law_flow : Fun K "_law_flow" "_law_flow" s__law_flow A.a__law_flow A.d__law_flow
  g__law_take : mg "_law_take" = some (.ref A.a__law_take)
  F__law_take : Fun K "_law_take" "_law_take" s__law_take A.a__law_take A.d__law_take
  g__law_row : mg "_law_row" = some (.ref A.a__law_row)
  F__law_row : Fun K "_law_row" "_law_row" s__law_row A.a__law_row A.d__law_row
  g__law_lot : mg "_law_lot" = some (.ref A.a__law_lot)
  F__law_lot : Fun K "_law_lot" "_law_lot" s__law_lot A.a__law_lot A.d__law_lot
  g__law_put : mg "_law_put" = some (.ref A.a__law_put)
  F__law_put : Fun K "_law_put" "_law_put" s__law_put A.a__law_put A.d__law_put
  g__law_spoilt : mg "_law_spoilt" = some (.ref A.a__law_spoilt)
  F__law_spoilt : Fun K "_law_spoilt" "_law_spoilt" s__law_spoilt A.a__law_spoilt A.d__law_spoilt
  g__law_is_number : mg "_law_is_number" = some (.ref A.a__law_is_number)
  F__law_is_number : Fun K "_law_is_number" "_law_is_number" s__law_is_number A.a__law_is_number A.d__law_is_number
  g__law_is_row : mg "_law_is_row" = some (.ref A.a__law_is_row)
  F__law_is_row : Fun K "_law_is_row" "_law_is_row" s__law_is_row A.a__law_is_row A.d__law_is_row
  g__law_is_lot : mg "_law_is_lot" = some (.ref A.a__law_is_lot)
  F__law_is_lot : Fun K "_law_is_lot" "_law_is_lot" s__law_is_lot A.a__law_is_lot A.d__law_is_lot
  g__law_same : mg "_law_same" = some (.ref A.a__law_same)
  F__law_same : Fun K "_law_same" "_law_same" s__law_same A.a__law_same A.d__law_same
  g__law_truth : mg "_law_truth" = some (.ref A.a__law_truth)
  F__law_truth : Fun K "_law_truth" "_law_truth" s__law_truth A.a__law_truth A.d__law_truth
  g__law_every_row : mg "_law_every_row" = some (.ref A.a__law_every_row)
  F__law_every_row : Fun K "_law_every_row" "_law_every_row" s__law_every_row A.a__law_every_row A.d__law_every_row
  g__law_every_lot : mg "_law_every_lot" = some (.ref A.a__law_every_lot)
  F__law_every_lot : Fun K "_law_every_lot" "_law_every_lot" s__law_every_lot A.a__law_every_lot A.d__law_every_lot
  g__law_values : mg "_law_values" = some (.ref A.a__law_values)
  F__law_values : Fun K "_law_values" "_law_values" s__law_values A.a__law_values A.d__law_values
  g__law_all : mg "_law_all" = some (.ref A.a__law_all)
  F__law_all : Fun K "_law_all" "_law_all" s__law_all A.a__law_all A.d__law_all
  g_law : mg "law" = some (.ref A.a_law)
  F_law : Fun K "law" "law" s_law A.a_law A.d_law
  X_InvalidNumber : PySem.SupX_value.XTxt P K mg "InvalidNumber" A.c_InvalidNumber A.i_InvalidNumber
  E_InvalidNumber : Sx.ExK K A.c_InvalidNumber
  n_abs : mg "abs" = none
  n_all : mg "all" = none
  n_bool : mg "bool" = none
  n_int : mg "int" = none
  n_isinstance : mg "isinstance" = none
  n_len : mg "len" = none
  n_list : mg "list" = none
  n_max : mg "max" = none
  n_min : mg "min" = none
  n_range : mg "range" = none
  n_sorted : mg "sorted" = none
  n_tuple : mg "tuple" = none
  m_combinations : mg "combinations" = some (.type "itertools.combinations")
section
variable {P : Program} {K : PySem.W.Frag} {mg : Str → Option Value} {A : Ad}
theorem Txt.g_InvalidNumber (T : Txt P K mg A) : mg "InvalidNumber" = some (.ref A.c_InvalidNumber) := T.X_InvalidNumber.gC
theorem B_is_an_integer (T : Txt P K mg A) : Binds K A.d_is_an_integer ["value"] [] := T.F_is_an_integer.binds (ps := ["value"]) fun _ _ _ _ _ _ us hl => match us, hl with | [_], _ => rfl
theorem B_is_number (T : Txt P K mg A) : Binds K A.d_is_number ["value"] [] := T.F_is_number.binds (ps := ["value"]) fun _ _ _ _ _ _ us hl => match us, hl with | [_], _ => rfl
theorem B_is_value (T : Txt P K mg A) : Binds K A.d_is_value ["value"] [] := T.F_is_value.binds (ps := ["value"]) fun _ _ _ _ _ _ us hl => match us, hl with | [_], _ => rfl
theorem B_is_point (T : Txt P K mg A) : Binds K A.d_is_point ["value", "size"] [] := T.F_is_point.binds (ps := ["value", "size"]) fun _ _ _ _ _ _ us hl => match us, hl with | [_, _], _ => rfl
theorem B_row_of (T : Txt P K mg A) : Binds K A.d_row_of ["code", "size"] [] := T.F_row_of.binds (ps := ["code", "size"]) fun _ _ _ _ _ _ us hl => match us, hl with | [_, _], _ => rfl
theorem B_is_row (T : Txt P K mg A) : Binds K A.d_is_row ["value", "size"] [] := T.F_is_row.binds (ps := ["value", "size"]) fun _ _ _ _ _ _ us hl => match us, hl with | [_, _], _ => rfl
theorem B_all_rows (T : Txt P K mg A) : Binds K A.d_all_rows ["size"] [] := T.F_all_rows.binds (ps := ["size"]) fun _ _ _ _ _ _ us hl => match us, hl with | [_], _ => rfl
theorem B_is_lot (T : Txt P K mg A) : Binds K A.d_is_lot ["value", "size"] [] := T.F_is_lot.binds (ps := ["value", "size"]) fun _ _ _ _ _ _ us hl => match us, hl with | [_, _], _ => rfl
theorem B_lots_of (T : Txt P K mg A) : Binds K A.d_lots_of ["size", "many"] [] := T.F_lots_of.binds (ps := ["size", "many"]) fun _ _ _ _ _ _ us hl => match us, hl with | [_, _], _ => rfl
theorem B_lots_to (T : Txt P K mg A) : Binds K A.d_lots_to ["size", "most"] [] := T.F_lots_to.binds (ps := ["size", "most"]) fun _ _ _ _ _ _ us hl => match us, hl with | [_, _], _ => rfl
theorem B_all_lots (T : Txt P K mg A) : Binds K A.d_all_lots ["size"] [] := T.F_all_lots.binds (ps := ["size"]) fun _ _ _ _ _ _ us hl => match us, hl with | [_], _ => rfl
theorem B_read_at (T : Txt P K mg A) : Binds K A.d_read_at ["row", "lot"] [] := T.F_read_at.binds (ps := ["row", "lot"]) fun _ _ _ _ _ _ us hl => match us, hl with | [_, _], _ => rfl
theorem B__law_flow (T : Txt P K mg A) : Binds K A.d__law_flow ["script", "place"] [] := T.F__law_flow.binds (ps := ["script", "place"]) fun _ _ _ _ _ _ us hl => match us, hl with | [_, _], _ => rfl
theorem B__law_take (T : Txt P K mg A) : Binds K A.d__law_take ["flow", "limit"] [] := T.F__law_take.binds (ps := ["flow", "limit"]) fun _ _ _ _ _ _ us hl => match us, hl with | [_, _], _ => rfl
theorem B__law_row (T : Txt P K mg A) : Binds K A.d__law_row ["flow", "size"] [] := T.F__law_row.binds (ps := ["flow", "size"]) fun _ _ _ _ _ _ us hl => match us, hl with | [_, _], _ => rfl
theorem B__law_lot (T : Txt P K mg A) : Binds K A.d__law_lot ["flow", "size"] [] := T.F__law_lot.binds (ps := ["flow", "size"]) fun _ _ _ _ _ _ us hl => match us, hl with | [_, _], _ => rfl
theorem B__law_put (T : Txt P K mg A) : Binds K A.d__law_put ["value", "at", "part"] [] := T.F__law_put.binds (ps := ["value", "at", "part"]) fun _ _ _ _ _ _ us hl => match us, hl with | [_, _, _], _ => rfl
theorem B__law_spoilt (T : Txt P K mg A) : Binds K A.d__law_spoilt ["flow", "value", "size"] [] := T.F__law_spoilt.binds (ps := ["flow", "value", "size"]) fun _ _ _ _ _ _ us hl => match us, hl with | [_, _, _], _ => rfl
theorem B__law_is_number (T : Txt P K mg A) : Binds K A.d__law_is_number ["value", "least", "limit"] [] := T.F__law_is_number.binds (ps := ["value", "least", "limit"]) fun _ _ _ _ _ _ us hl => match us, hl with | [_, _, _], _ => rfl
theorem B__law_is_row (T : Txt P K mg A) : Binds K A.d__law_is_row ["value", "size"] [] := T.F__law_is_row.binds (ps := ["value", "size"]) fun _ _ _ _ _ _ us hl => match us, hl with | [_, _], _ => rfl
theorem B__law_is_lot (T : Txt P K mg A) : Binds K A.d__law_is_lot ["value", "size"] [] := T.F__law_is_lot.binds (ps := ["value", "size"]) fun _ _ _ _ _ _ us hl => match us, hl with | [_, _], _ => rfl
theorem B__law_same (T : Txt P K mg A) : Binds K A.d__law_same ["actual", "due"] [] := T.F__law_same.binds (ps := ["actual", "due"]) fun _ _ _ _ _ _ us hl => match us, hl with | [_, _], _ => rfl
theorem B__law_truth (T : Txt P K mg A) : Binds K A.d__law_truth ["actual", "due"] [] := T.F__law_truth.binds (ps := ["actual", "due"]) fun _ _ _ _ _ _ us hl => match us, hl with | [_, _], _ => rfl
theorem B__law_every_row (T : Txt P K mg A) : Binds K A.d__law_every_row ["size"] [] := T.F__law_every_row.binds (ps := ["size"]) fun _ _ _ _ _ _ us hl => match us, hl with | [_], _ => rfl
theorem B__law_every_lot (T : Txt P K mg A) : Binds K A.d__law_every_lot ["size"] [] := T.F__law_every_lot.binds (ps := ["size"]) fun _ _ _ _ _ _ us hl => match us, hl with | [_], _ => rfl
theorem B__law_values (T : Txt P K mg A) : Binds K A.d__law_values ["script", "size", "turn"] [] := T.F__law_values.binds (ps := ["script", "size", "turn"]) fun _ _ _ _ _ _ us hl => match us, hl with | [_, _, _], _ => rfl
theorem B__law_all (T : Txt P K mg A) : Binds K A.d__law_all ["script"] [] := T.F__law_all.binds (ps := ["script"]) fun _ _ _ _ _ _ us hl => match us, hl with | [_], _ => rfl
theorem B_law (T : Txt P K mg A) : Binds K A.d_law ["script"] [] := T.F_law.binds (ps := ["script"]) fun _ _ _ _ _ _ us hl => match us, hl with | [_], _ => rfl
def kg_all_lots_size : List Value → List Value → List Value := fun us ws => match us, ws with | [], [x0] => [x0] | _, _ => []
def kv_all_lots_size : List V → List V → List V := fun us ws => match us, ws with | [], [x0] => [x0] | _, _ => []
theorem KB_all_lots_size (T : Txt P K mg A) : KBinds K A.d_all_lots ["size"] ["size"] kg_all_lots_size kv_all_lots_size := by
  obtain ⟨oc, od, kV, doc, pm, an, cdv, ct, osl, e, _, _⟩ := T.F_all_lots.ex
  rw [e]
  refine ⟨fun s us ws _ hl => ?_, fun {vs us zs ws} r rz => ?_⟩
  · match us, ws, hl with
    | [], [_], _ => exact .of_eq rfl
  · cases r with
    | cons _ _ => exact .nil
    | nil =>
      cases rz with
      | nil => exact .nil
      | cons r0 rz =>
        cases rz with
        | cons _ _ => exact .nil
        | nil => exact (.cons r0 .nil)
def kg_all_rows_size : List Value → List Value → List Value := fun us ws => match us, ws with | [], [x0] => [x0] | _, _ => []
def kv_all_rows_size : List V → List V → List V := fun us ws => match us, ws with | [], [x0] => [x0] | _, _ => []
theorem KB_all_rows_size (T : Txt P K mg A) : KBinds K A.d_all_rows ["size"] ["size"] kg_all_rows_size kv_all_rows_size := by
  obtain ⟨oc, od, kV, doc, pm, an, cdv, ct, osl, e, _, _⟩ := T.F_all_rows.ex
  rw [e]
  refine ⟨fun s us ws _ hl => ?_, fun {vs us zs ws} r rz => ?_⟩
  · match us, ws, hl with
    | [], [_], _ => exact .of_eq rfl
  · cases r with
    | cons _ _ => exact .nil
    | nil =>
      cases rz with
      | nil => exact .nil
      | cons r0 rz =>
        cases rz with
        | cons _ _ => exact .nil
        | nil => exact (.cons r0 .nil)
def kg_is_lot_size_value : List Value → List Value → List Value := fun us ws => match us, ws with | [], [x0, x1] => [x1, x0] | _, _ => []
def kv_is_lot_size_value : List V → List V → List V := fun us ws => match us, ws with | [], [x0, x1] => [x1, x0] | _, _ => []
theorem KB_is_lot_size_value (T : Txt P K mg A) : KBinds K A.d_is_lot ["value", "size"] ["size", "value"] kg_is_lot_size_value kv_is_lot_size_value := by
  obtain ⟨oc, od, kV, doc, pm, an, cdv, ct, osl, e, _, _⟩ := T.F_is_lot.ex
  rw [e]
  refine ⟨fun s us ws _ hl => ?_, fun {vs us zs ws} r rz => ?_⟩
  · match us, ws, hl with
    | [], [_, _], _ => exact .of_eq rfl
  · cases r with
    | cons _ _ => exact .nil
    | nil =>
      cases rz with
      | nil => exact .nil
      | cons r0 rz =>
        cases rz with
        | nil => exact .nil
        | cons r1 rz =>
          cases rz with
          | cons _ _ => exact .nil
          | nil => exact (.cons r1 (.cons r0 .nil))
def kg_is_row_size_value : List Value → List Value → List Value := fun us ws => match us, ws with | [], [x0, x1] => [x1, x0] | _, _ => []
def kv_is_row_size_value : List V → List V → List V := fun us ws => match us, ws with | [], [x0, x1] => [x1, x0] | _, _ => []
theorem KB_is_row_size_value (T : Txt P K mg A) : KBinds K A.d_is_row ["value", "size"] ["size", "value"] kg_is_row_size_value kv_is_row_size_value := by
  obtain ⟨oc, od, kV, doc, pm, an, cdv, ct, osl, e, _, _⟩ := T.F_is_row.ex
  rw [e]
  refine ⟨fun s us ws _ hl => ?_, fun {vs us zs ws} r rz => ?_⟩
  · match us, ws, hl with
    | [], [_, _], _ => exact .of_eq rfl
  · cases r with
    | cons _ _ => exact .nil
    | nil =>
      cases rz with
      | nil => exact .nil
      | cons r0 rz =>
        cases rz with
        | nil => exact .nil
        | cons r1 rz =>
          cases rz with
          | cons _ _ => exact .nil
          | nil => exact (.cons r1 (.cons r0 .nil))
def kg_read_at_lot_row : List Value → List Value → List Value := fun us ws => match us, ws with | [], [x0, x1] => [x1, x0] | _, _ => []
def kv_read_at_lot_row : List V → List V → List V := fun us ws => match us, ws with | [], [x0, x1] => [x1, x0] | _, _ => []
theorem KB_read_at_lot_row (T : Txt P K mg A) : KBinds K A.d_read_at ["row", "lot"] ["lot", "row"] kg_read_at_lot_row kv_read_at_lot_row := by
  obtain ⟨oc, od, kV, doc, pm, an, cdv, ct, osl, e, _, _⟩ := T.F_read_at.ex
  rw [e]
  refine ⟨fun s us ws _ hl => ?_, fun {vs us zs ws} r rz => ?_⟩
  · match us, ws, hl with
    | [], [_, _], _ => exact .of_eq rfl
  · cases r with
    | cons _ _ => exact .nil
    | nil =>
      cases rz with
      | nil => exact .nil
      | cons r0 rz =>
        cases rz with
        | nil => exact .nil
        | cons r1 rz =>
          cases rz with
          | cons _ _ => exact .nil
          | nil => exact (.cons r1 (.cons r0 .nil))
end
local macro_rules | `(tactic| walk_at "cond") => `(tactic| first
  | assumption
  | decide
  | exact c_mul_r (by first | decide | omega) (by first | decide | omega)
  | exact c_mul_l (by first | decide | omega) (by first | decide | omega)
  | exact c_div (by first | decide | omega) (by first | decide | omega)
  | exact c_pow (by first | decide | omega) (by first | decide | omega) (by first | decide | omega)
  | omega)
local macro_rules | `(tactic| walk_at "ne") => `(tactic| first
  | assumption
  | (refine Ne.symm ?_; assumption)
  | (refine' Flow.ne ?nh ?nn; (case nn => assumption); (case nh => walk_at "fl"))
  | (refine Ne.symm ?_; refine' Flow.ne ?nh ?nn; (case nn => assumption); (case nh => walk_at "fl"))
  | (refine' ne_of_none ?nh ?nn; (case nn => assumption); (case nh => walk_at "at"))
  | (refine Ne.symm ?_; refine' ne_of_none ?nh ?nn; (case nn => assumption); (case nh => walk_at "at")))
local macro_rules | `(tactic| walk_at "at") => `(tactic| first
  | assumption
  | (refine Same.up (by assumption) ?_; walk_at "at")
  | (refine Keep.up (by assumption) (by walk_at "ne") ?_; walk_at "at"))
local macro_rules | `(tactic| walk_at "fl") => `(tactic| first
  | assumption
  | (refine Flow.same (by assumption) ?_; walk_at "fl")
  | (refine Flow.keep (by assumption) (by walk_at "ne") ?_; walk_at "fl"))
local macro_rules | `(tactic| walk_at "fr") => `(tactic| first
  | assumption
  | (refine same_free (by assumption) ?_; walk_at "fr")
  | (refine Keep.free (by assumption) (by walk_at "ne") ?_; walk_at "fr"))
local macro_rules | `(tactic| walk_at "kp") => `(tactic| first
  | assumption
  | exact Keep.refl _ _
  | (refine Keep.trans ?_ (by assumption); walk_at "kp")
  | (refine Keep.trans ?_ (Keep.same (by assumption)); walk_at "kp"))
local macro_rules | `(tactic| walk_at "sm") => `(tactic| first
  | assumption
  | exact L2.Same.refl _
  | (refine L2.Same.trans ?_ (by assumption); walk_at "sm"))
local macro_rules | `(tactic| walk_at "sz") => `(tactic| first | exact Nat.le_of_ble_eq_true rfl | omega)
local macro_rules | `(tactic| walk_at "new") => `(tactic| (intro p np; generalize hE : upd _ p _ = H2; have s2 := new_same np hE; have h2 := new_at hE; clear hE))
local macro_rules | `(tactic| walk_at "newx") => `(tactic| (intro e d na nd hda; generalize hE : upd (upd _ d _) e _ = H2; have s2 := newx_same na nd hE; have h2 := newx_at hE; have h3 := newx_d hda hE; clear hE))
local macro_rules | `(tactic| walk_at "s1") => `(tactic| first
  | with_reducible refine s_seq ?_
  | with_reducible refine s_asg ?_
  | with_reducible refine s_name ?_
  | with_reducible refine s_ret ?_
  | with_reducible refine s_c ?_
  | ((with_reducible refine' s_var ?hv ?_); (case hv => rfl))
  | with_reducible refine s_op ?_
  | with_reducible refine s_un ?_
  | with_reducible refine s_ifS ?_
  | with_reducible refine s_cb ?_
  | with_reducible refine s_cons ?_
  | with_reducible refine s_nil ?_
  | with_reducible refine s_call ?_
  | with_reducible refine s_test ?_
  | with_reducible refine s_tB ?_
  | with_reducible refine s_bl ?_
  | with_reducible refine s_and ?_
  | with_reducible refine s_or ?_
  | with_reducible refine s_not ?_
  | with_reducible refine s_andV ?_
  | with_reducible refine s_orV ?_
  | with_reducible refine s_notV ?_
  | with_reducible refine s_blV ?_
  | with_reducible refine s_if ?_
  | with_reducible refine s_tup ?_
  | with_reducible refine s_lst ?_
  | with_reducible refine s_drop ?_
  | with_reducible refine s_next ?_
  | with_reducible refine s_sub ?_
  | with_reducible refine s_bm ?_
  | with_reducible refine s_callK ?_
  | with_reducible refine s_brk ?_
  | with_reducible refine s_cont ?_
  | with_reducible refine r_I0 ?_
  | with_reducible refine r_U ?_
  | with_reducible refine r_eqI ?_
  | with_reducible refine r_neI ?_
  | with_reducible refine r_isB ?_
  | with_reducible refine r_notB ?_
  | with_reducible refine i_t ?_
  | with_reducible refine i_f ?_
  | with_reducible refine i_nt ?_
  | with_reducible refine i_nf ?_
  | ((with_reducible refine' r_I ?hc ?_); (case hc => walk_at "cond"))
  | (with_reducible refine .inl ⟨_, rfl, ?_⟩)
  | (with_reducible refine ⟨_, rfl, ?_⟩)
  | ((with_reducible refine' r_ixL ?hx ?ha ?_); (case hx => walk_at "at"); (case ha => rfl))
  | ((with_reducible refine' r_ixT ?hx ?ha ?_); (case hx => walk_at "at"); (case ha => rfl))
  | ((with_reducible refine' r_setL ?hx ?ha ?_); (case hx => walk_at "at"); (case ha => rfl); intro H2 k2 h2; (try dsimp only [List.set, Int.toNat] at h2))
  | ((with_reducible refine' r_app ?hx ?hl ?_); (case hx => walk_at "at"); (case hl => first | exact Nat.lt_of_ble_eq_true rfl | omega); intro H2 k2 h2)
  | ((with_reducible refine' ty_list ?hx ?_); (case hx => walk_at "at"))
  | (refine And.intro (by (with_reducible show _ ≤ sizeLine); walk_at "sz") ?_; walk_at "new")
  | with_reducible refine s_exv ?_
  | walk_at "newx")
local macro_rules | `(tactic| walk_at "sx") => `(tactic| repeat (walk_at "s1"))
local macro_rules | `(tactic| walk_at "s2") => `(tactic| first
  | ((with_reducible refine' r_ixG ?hx ?hn ?_); (case hx => walk_at "at"); (case hn => omega))
  | ((with_reducible refine' r_ixGT ?hx ?hn ?_); (case hx => walk_at "at"); (case hn => omega))
  | (with_reducible refine ig_cons (fun hix => ?_) (fun hix => ?_))
  | ((with_reducible refine ig_nil ?_); omega)
  | ((with_reducible refine' i_T ?hc ?_); (case hc => omega))
  | ((with_reducible refine' i_F ?hc ?_); (case hc => omega))
  | (with_reducible refine i_2 (fun hc => ?_) (fun hc => ?_))
  | (with_reducible refine i_n2 (fun hc => ?_) (fun hc => ?_)))
local macro_rules | `(tactic| walk_at "go") => `(tactic| repeat' (first | walk_at "s1" | walk_at "s2"))

section
variable {P : Program} {w : World} {K : PySem.W.Frag} {mg : Str → Option Value} {base : Heap} {A : Ad}
def spTake : Sp := fun vs H Q _ => ∃ (a : Addr) (m : Int), vs = [.ref a, .int m] ∧ Flow H a ∧ 0 < m ∧ m < 1073741824 ∧ ∀ d H', 0 ≤ d → d < m → Flow H' a → Keep a H H' → Q (.int d) H'
theorem c_take {H : Hp} {Q : VK} {E : XK} {a : Addr} {m : Int} (f : Flow H a) (m0 : 0 < m) (m1 : m < 1073741824) (q : ∀ d H', 0 ≤ d → d < m → Flow H' a → Keep a H H' → Q (.int d) H') : spTake ([.ref a, .int m] ++ []) H Q E := ⟨a, m, rfl, f, m0, m1, q⟩
theorem ok_take (T : Txt P K mg A) : FnOk P w K mg base CX0 1 A.a__law_take A.d__law_take ["flow", "limit"] spTake := by
  refine T.F__law_take.ok sc__law_take (fun vs H Q E h => ?_) (fun cdv A' outer s H vs Q E hr h => ?_)
  · obtain ⟨a, m, rfl, _⟩ := h
    rfl
  · obtain ⟨a, m, rfl, ⟨c, n, b, p, hL⟩, m0, m1, k⟩ := h
    refine ⟨_, (pss_cons (ps_asg (pe_op op_add (pe_ix ix_seq (pv 0) pe_int (fun _ _ => rfl)) pe_int) (pg_sub (pv 0) pe_int set_list))
  (pss_cons (ps_if (pt_val (pe_ix ix_seq (pv 0) pe_int (fun _ _ => rfl))) (pss_cons (ps_set (i := 2) sc__law_take.nd rfl (Or.inl rfl) (pe_op op_mod (pe_callTy call_int1 (by rfl) T.n_int (by decide +kernel) (pa_cons (pe_ix ix_seq (pv 0) pe_int (fun _ _ => rfl)) pa_nil)) (pv 1)))
  (pss_cons (ps_asg (pe_op op_fdiv (pe_ix ix_seq (pv 0) pe_int (fun _ _ => rfl)) (pv 1)) (pg_sub (pv 0) pe_int set_list))
  (pss_one (ps_ret (pv 2))))) pss_nil)
  (pss_cons (ps_set (i := 3) sc__law_take.nd rfl (Or.inl rfl) (pe_op op_mod (pe_callTy call_int1 (by rfl) T.n_int (by decide +kernel) (pa_cons (pe_op op_add (pe_op op_add (pe_op op_mul (pe_ix ix_seq (pv 0) pe_int (fun _ _ => rfl)) pe_int) (pe_op op_mul (pe_ix ix_seq (pv 0) pe_int (fun _ _ => rfl)) pe_int)) (pe_op op_mul (pe_ix ix_seq (pv 0) pe_int (fun _ _ => rfl)) pe_int)) pa_nil)) pe_int))
  (pss_cons (ps_set (i := 3) sc__law_take.nd rfl (Or.inl rfl) (pe_op op_mod (pe_callTy call_int1 (by rfl) T.n_int (by decide +kernel) (pa_cons (pe_op op_add (pe_op op_add (pe_op op_mul (pv 3) pe_int) (pe_op op_mul (pe_ix ix_seq (pv 0) pe_int (fun _ _ => rfl)) pe_int)) pe_int) pa_nil)) pe_int))
  (pss_one (ps_ret (pe_op op_mod (pe_callTy call_int1 (by rfl) T.n_int (by decide +kernel) (pa_cons (pe_op op_fdiv (pv 3) pe_int) pa_nil)) (pv 1)))))))), ?_⟩
    walk_at "sx"
    refine i_b2 (fun hb => ?_) (fun hb => ?_)
    · walk_at "sx"
      exact k _ _ (Int.emod_nonneg _ (by omega)) (Int.emod_lt_of_pos _ m0) ⟨_, _, _, _, by assumption⟩ (by walk_at "kp")
    · walk_at "sx"
      exact k _ _ (Int.emod_nonneg _ (by omega)) (Int.emod_lt_of_pos _ m0) ⟨_, _, _, _, by assumption⟩ (by walk_at "kp")
def spFlow (K : PySem.W.Frag) : Sp := fun vs H Q _ => ∃ (l : Addr) (ns : List Int) (j : Nat), vs = [.ref l, .int (j : Int)] ∧ SqL K H l (ns.map V.int) ∧ ∀ p H', H p = none → Same H H' → Flow H' p → Q (.ref p) H'
theorem c_flow {H : Hp} {Q : VK} {E : XK} {l : Addr} {ns : List Int} {i : Int} (hi : 0 ≤ i) (h : SqL K H l (ns.map V.int)) (q : ∀ p H', H p = none → Same H H' → Flow H' p → Q (.ref p) H') : spFlow K ([.ref l, .int i] ++ []) H Q E :=
  ⟨l, ns, i.toNat, by rw [Int.toNat_of_nonneg hi]; rfl, h, q⟩
theorem ok_flow (T : Txt P K mg A) : FnOk P w K mg base CX0 1 A.a__law_flow A.d__law_flow ["script", "place"] (spFlow K) := by
  refine T.F__law_flow.ok sc__law_flow (fun vs H Q E h => ?_) (fun cdv A' outer s H vs Q E hr h => ?_)
  · obtain ⟨l, ns, j, rfl, _⟩ := h
    rfl
  · obtain ⟨l, ns, j, rfl, hs, k⟩ := h
    refine ⟨_, (pss_cons (ps_set (i := 2) sc__law_flow.nd rfl (Or.inl rfl) pe_int)
  (pss_cons (ps_if (pt_cmpR op_lt (pv 1) (pe_callB call_len (by rfl) T.n_len (by decide +kernel) (pa_cons (pv 0) pa_nil)) (nomark _)) (pss_one (ps_set (i := 2) sc__law_flow.nd rfl (Or.inl rfl) (pe_callB call_abs (by rfl) T.n_abs (by decide +kernel) (pa_cons (pe_callTy call_int1 (by rfl) T.n_int (by decide +kernel) (pa_cons (pe_ix ix_seq (pv 0) (pv 1) (fun _ _ => rfl)) pa_nil)) pa_nil)))) pss_nil)
  (pss_one (ps_ret (pe_lst (pa_cons (pv 2) (pa_cons pe_int (pa_cons (pe_cmpR op_ge (pv 2) (pe_op op_pow pe_int pe_int) (nomark _)) (pa_cons (pv 1) pa_nil))))))))), ?_⟩
    walk_at "sx"
    refine ⟨_, _, rfl, .inl ⟨_, hs, rfl⟩, ?_⟩
    walk_at "sx"
    refine i_2 (fun hb => ?_) (fun hb => ?_)
    · walk_at "sx"
      have hj : j < ns.length := by
        rw [List.length_map] at hb
        omega
      refine r_ixS hs (v := .int (ns[j])) (atI_nat (by rw [List.getElem?_map, List.getElem?_eq_getElem hj]; rfl)) ?_
      walk_at "sx"
      exact k _ _ (by walk_at "fr") (by walk_at "sm") ⟨_, _, _, _, by assumption⟩
    · walk_at "sx"
      exact k _ _ (by walk_at "fr") (by walk_at "sm") ⟨_, _, _, _, by assumption⟩

end
end K04

set_option Elab.async false
set_option linter.all false
set_option maxRecDepth 100000
set_option maxHeartbeats 2000000
namespace K04
open PySem L2 Sx
local macro_rules | `(tactic| walk_at "cond") => `(tactic| first
  | assumption
  | decide
  | exact c_mul_r (by first | decide | omega) (by first | decide | omega)
  | exact c_mul_l (by first | decide | omega) (by first | decide | omega)
  | exact c_div (by first | decide | omega) (by first | decide | omega)
  | exact c_pow (by first | decide | omega) (by first | decide | omega) (by first | decide | omega)
  | omega)
local macro_rules | `(tactic| walk_at "ne") => `(tactic| first
  | assumption
  | (refine Ne.symm ?_; assumption)
  | (refine' Flow.ne ?nh ?nn; (case nn => assumption); (case nh => walk_at "fl"))
  | (refine Ne.symm ?_; refine' Flow.ne ?nh ?nn; (case nn => assumption); (case nh => walk_at "fl"))
  | (refine' ne_of_none ?nh ?nn; (case nn => assumption); (case nh => walk_at "at"))
  | (refine Ne.symm ?_; refine' ne_of_none ?nh ?nn; (case nn => assumption); (case nh => walk_at "at")))
local macro_rules | `(tactic| walk_at "at") => `(tactic| first
  | assumption
  | (refine Same.up (by assumption) ?_; walk_at "at")
  | (refine Keep.up (by assumption) (by walk_at "ne") ?_; walk_at "at"))
local macro_rules | `(tactic| walk_at "fl") => `(tactic| first
  | assumption
  | (refine Flow.same (by assumption) ?_; walk_at "fl")
  | (refine Flow.keep (by assumption) (by walk_at "ne") ?_; walk_at "fl"))
local macro_rules | `(tactic| walk_at "fr") => `(tactic| first
  | assumption
  | (refine same_free (by assumption) ?_; walk_at "fr")
  | (refine Keep.free (by assumption) (by walk_at "ne") ?_; walk_at "fr"))
local macro_rules | `(tactic| walk_at "kp") => `(tactic| first
  | assumption
  | exact Keep.refl _ _
  | (refine Keep.trans ?_ (by assumption); walk_at "kp")
  | (refine Keep.trans ?_ (Keep.same (by assumption)); walk_at "kp"))
local macro_rules | `(tactic| walk_at "sm") => `(tactic| first
  | assumption
  | exact L2.Same.refl _
  | (refine L2.Same.trans ?_ (by assumption); walk_at "sm"))
local macro_rules | `(tactic| walk_at "sz") => `(tactic| first | exact Nat.le_of_ble_eq_true rfl | omega)
local macro_rules | `(tactic| walk_at "new") => `(tactic| (intro p np; generalize hE : upd _ p _ = H2; have s2 := new_same np hE; have h2 := new_at hE; clear hE))
local macro_rules | `(tactic| walk_at "newx") => `(tactic| (intro e d na nd hda; generalize hE : upd (upd _ d _) e _ = H2; have s2 := newx_same na nd hE; have h2 := newx_at hE; have h3 := newx_d hda hE; clear hE))
local macro_rules | `(tactic| walk_at "s1") => `(tactic| first
  | with_reducible refine s_seq ?_
  | with_reducible refine s_asg ?_
  | with_reducible refine s_name ?_
  | with_reducible refine s_ret ?_
  | with_reducible refine s_c ?_
  | ((with_reducible refine' s_var ?hv ?_); (case hv => rfl))
  | with_reducible refine s_op ?_
  | with_reducible refine s_un ?_
  | with_reducible refine s_ifS ?_
  | with_reducible refine s_cb ?_
  | with_reducible refine s_cons ?_
  | with_reducible refine s_nil ?_
  | with_reducible refine s_call ?_
  | with_reducible refine s_test ?_
  | with_reducible refine s_tB ?_
  | with_reducible refine s_bl ?_
  | with_reducible refine s_and ?_
  | with_reducible refine s_or ?_
  | with_reducible refine s_not ?_
  | with_reducible refine s_andV ?_
  | with_reducible refine s_orV ?_
  | with_reducible refine s_notV ?_
  | with_reducible refine s_blV ?_
  | with_reducible refine s_if ?_
  | with_reducible refine s_tup ?_
  | with_reducible refine s_lst ?_
  | with_reducible refine s_drop ?_
  | with_reducible refine s_next ?_
  | with_reducible refine s_sub ?_
  | with_reducible refine s_bm ?_
  | with_reducible refine s_callK ?_
  | with_reducible refine s_brk ?_
  | with_reducible refine s_cont ?_
  | with_reducible refine r_I0 ?_
  | with_reducible refine r_U ?_
  | with_reducible refine r_eqI ?_
  | with_reducible refine r_neI ?_
  | with_reducible refine r_isB ?_
  | with_reducible refine r_notB ?_
  | with_reducible refine i_t ?_
  | with_reducible refine i_f ?_
  | with_reducible refine i_nt ?_
  | with_reducible refine i_nf ?_
  | ((with_reducible refine' r_I ?hc ?_); (case hc => walk_at "cond"))
  | (with_reducible refine .inl ⟨_, rfl, ?_⟩)
  | (with_reducible refine ⟨_, rfl, ?_⟩)
  | ((with_reducible refine' r_ixL ?hx ?ha ?_); (case hx => walk_at "at"); (case ha => rfl))
  | ((with_reducible refine' r_ixT ?hx ?ha ?_); (case hx => walk_at "at"); (case ha => rfl))
  | ((with_reducible refine' r_setL ?hx ?ha ?_); (case hx => walk_at "at"); (case ha => rfl); intro H2 k2 h2; (try dsimp only [List.set, Int.toNat] at h2))
  | ((with_reducible refine' r_app ?hx ?hl ?_); (case hx => walk_at "at"); (case hl => first | exact Nat.lt_of_ble_eq_true rfl | omega); intro H2 k2 h2)
  | ((with_reducible refine' ty_list ?hx ?_); (case hx => walk_at "at"))
  | (refine And.intro (by (with_reducible show _ ≤ sizeLine); walk_at "sz") ?_; walk_at "new")
  | with_reducible refine s_exv ?_
  | walk_at "newx")
local macro_rules | `(tactic| walk_at "sx") => `(tactic| repeat (walk_at "s1"))
local macro_rules | `(tactic| walk_at "s2") => `(tactic| first
  | ((with_reducible refine' r_ixG ?hx ?hn ?_); (case hx => walk_at "at"); (case hn => omega))
  | ((with_reducible refine' r_ixGT ?hx ?hn ?_); (case hx => walk_at "at"); (case hn => omega))
  | (with_reducible refine ig_cons (fun hix => ?_) (fun hix => ?_))
  | ((with_reducible refine ig_nil ?_); omega)
  | ((with_reducible refine' i_T ?hc ?_); (case hc => omega))
  | ((with_reducible refine' i_F ?hc ?_); (case hc => omega))
  | (with_reducible refine i_2 (fun hc => ?_) (fun hc => ?_))
  | (with_reducible refine i_n2 (fun hc => ?_) (fun hc => ?_)))
local macro_rules | `(tactic| walk_at "go") => `(tactic| repeat' (first | walk_at "s1" | walk_at "s2"))

local macro_rules | `(tactic| walk_at "s1") => `(tactic| first
  | with_reducible refine s_chain ?_
  | with_reducible refine s_fldS ?_
  | with_reducible refine s_fld ?_
  | with_reducible refine s_dIn ?_
  | with_reducible refine s_dNotIn ?_
  | with_reducible refine s_sl ?_
  | with_reducible refine s_noPart ?_
  | with_reducible refine s_part ?_
  | with_reducible refine s_meth ?_
  | with_reducible refine s_make ?_)

section
variable {P : Program} {w : World} {K : PySem.W.Frag} {mg : Str → Option Value} {base : Heap} {A : Ad}
/-- a test of one value -/
def spT1 (K : PySem.W.Frag) (f : V → Bool) : Sp := fun vs H Q _ => ∃ v, vs = [v] ∧ NI K H v ∧ Q (.bl (f v)) H
theorem c_t1 {H : Hp} {Q : VK} {E : XK} {f : V → Bool} {v : V} (n : NI K H v) (q : Q (.bl (f v)) H) : spT1 K f ([v] ++ []) H Q E := ⟨v, rfl, n, q⟩
theorem i_cases (v : V) : (∃ i, v = .int i) ∨ isI v = false := by cases v <;> simp [isI]
theorem num_no {f : Int → Bool} {v : V} (h : isI v = false) : num? f v = false := by cases v <;> first | rfl | cases h
theorem ok_isi (T : Txt P K mg A) : FnOk P w K mg base CX0 1 A.a_is_an_integer A.d_is_an_integer ["value"] (spT1 K isI) := by
  refine T.F_is_an_integer.ok sc_is_an_integer (fun vs H Q E h => ?_) (fun cdv A' outer s H vs Q E hr h => ?_)
  · obtain ⟨v, rfl, _⟩ := h
    rfl
  · obtain ⟨v, rfl, ⟨b, c, hb, hc, e⟩, k⟩ := h
    refine ⟨_, (pss_one (ps_ret (pe_and (pe_callB (id := "isinstance") (r := rIsiV K) call_isiV (by rfl) T.n_isinstance (by decide +kernel) (pa_cons (pv 0) (pa_cons (pe_bltn (v := .ty "int") (u := .type "int") (by rfl) T.n_int (by decide +kernel) rfl) pa_nil))) (pe_one (pe_not (pe_callB (id := "isinstance") (r := rIsiV K) call_isiV (by rfl) T.n_isinstance (by decide +kernel) (pa_cons (pv 0) (pa_cons (pe_bltn (v := .ty "bool") (u := .type "bool") (by rfl) T.n_bool (by decide +kernel) rfl) pa_nil)))))))), ?_⟩
    rw [← e] at k
    walk_at "sx"
    refine isi_in hb ?_
    cases b
    · walk_at "sx"
      exact k
    · walk_at "sx"
      refine isi_in hc ?_
      walk_at "sx"
      exact k
abbrev isN : V → Bool := num? fun i => decide (0 ≤ i)
theorem ok_isn (T : Txt P K mg A) : FnOk P w K mg base CX0 2 A.a_is_number A.d_is_number ["value"] (spT1 K isN) := by
  refine T.F_is_number.ok sc_is_number (fun vs H Q E h => ?_) (fun cdv A' outer s H vs Q E hr h => ?_)
  · obtain ⟨v, rfl, _⟩ := h
    rfl
  · obtain ⟨v, rfl, n, k⟩ := h
    have G_is_an_integer := ok_isi (w := w) (base := base) T
    refine ⟨_, (pss_one (ps_ret (pe_and (pe_call G_is_an_integer (hr.mono (by decide)) rfl T.g_is_an_integer T.F_is_an_integer.kp (B_is_an_integer T) .nil pass0 (pa_cons (pv 0) pa_nil)) (pe_one (pe_cmpR op_ge (pv 0) pe_int (nomark _)))))), ?_⟩
    walk_at "sx"
    refine c_t1 n ?_
    rcases i_cases v with ⟨i, rfl⟩ | h
    · walk_at "sx"
      refine iteT ?_
      walk_at "sx"
      exact k
    · have e : isN v = false := num_no h
      rw [e] at k
      rw [h]
      walk_at "sx"
      exact k
theorem ok_isv (T : Txt P K mg A) : FnOk P w K mg base CX0 2 A.a_is_value A.d_is_value ["value"] (spT1 K isBit) := by
  refine T.F_is_value.ok sc_is_value (fun vs H Q E h => ?_) (fun cdv A' outer s H vs Q E hr h => ?_)
  · obtain ⟨v, rfl, _⟩ := h
    rfl
  · obtain ⟨v, rfl, n, k⟩ := h
    have G_is_an_integer := ok_isi (w := w) (base := base) T
    refine ⟨_, (pss_one (ps_ret (pe_and (pe_call G_is_an_integer (hr.mono (by decide)) rfl T.g_is_an_integer T.F_is_an_integer.kp (B_is_an_integer T) .nil pass0 (pa_cons (pv 0) pa_nil)) (pe_one (pe_chain op_le op_le pe_int (pv 0) pe_int))))), ?_⟩
    walk_at "sx"
    refine c_t1 n ?_
    rcases i_cases v with ⟨i, rfl⟩ | h
    · walk_at "sx"
      refine iteT ?_
      have e : isBit (.int i) = (decide (0 ≤ i) && decide (i ≤ 1)) := rfl
      rw [e] at k
      walk_at "sx"
      refine i_2 (fun hc => ?_) (fun hc => ?_)
      · rw [decide_eq_true hc] at k
        walk_at "sx"
        exact k
      · rw [decide_eq_false hc] at k
        exact k
    · have e : isBit v = false := num_no h
      rw [e] at k
      rw [h]
      walk_at "sx"
      exact k
/-- is_row -/
def spRow (K : PySem.W.Frag) : Sp := fun vs H Q _ => ∃ v n, vs = [v, .int n] ∧ ((IsIn K H v "tuple" false ∧ Q (.bl false) H) ∨
  ∃ p xs, v = .ref p ∧ H p = some (.tup xs) ∧ (∀ x ∈ xs, NI K H x) ∧ xs.length < 1000 ∧ ∀ H', Same H H' → Q (.bl (decide ((xs.length : Int) = n) && xs.all isBit)) H')
theorem ok_row (T : Txt P K mg A) : FnOk P w K mg base CX0 3 A.a_is_row A.d_is_row ["value", "size"] (spRow K) := by
  refine T.F_is_row.ok sc_is_row (fun vs H Q E h => ?_) (fun cdv A' outer s H vs Q E hr h => ?_)
  · obtain ⟨v, m, rfl, _⟩ := h
    rfl
  · obtain ⟨v, m, rfl, h⟩ := h
    have G_is_value := ok_isv (w := w) (base := base) T
    refine ⟨_, (pss_one (ps_ret (pe_and (pe_callB (id := "isinstance") (r := rIsiV K) call_isiV (by rfl) T.n_isinstance (by decide +kernel) (pa_cons (pv 0) (pa_cons (pe_bltn (v := .ty "tuple") (u := .type "tuple") (by rfl) T.n_tuple (by decide +kernel) rfl) pa_nil))) (pe_and (pe_cmpR op_eq (pe_callB call_len (by rfl) T.n_len (by decide +kernel) (pa_cons (pv 0) pa_nil)) (pv 1) (nomark _)) (pe_one (pe_callB (cr_all rfl) (by rfl) T.n_all (by decide +kernel) (pa_cons (pe_lc (own := [("member", 2)]) (g := (gName 2)) (by rfl) sc_is_row.nd (pi_tup (pv 0)) (blkOk_by (own := [("member", 2)]) (N := ["value", "size", "member"]) (sc := defScope s_is_row) (by decide +kernel)) (fun _ _ _ _ _ => (pg_name (i := 2) sc_is_row.nd rfl (Or.inl rfl))) (fun _ _ _ _ _ => pts_nil) (fun _ _ _ _ _ => (pe_call G_is_value (hr.mono (by decide)) rfl T.g_is_value T.F_is_value.kp (B_is_value T) .nil pass0 (pa_cons (pv 2) pa_nil)))) pa_nil))))))), ?_⟩
    walk_at "sx"
    rcases h with ⟨no, k⟩ | ⟨p, xs, rfl, hp, mem, sz, k⟩
    · refine isi_in no ?_
      walk_at "sx"
      exact k
    · refine isi_in (in_tup hp) ?_
      walk_at "sx"
      refine ⟨_, _, rfl, .inr ⟨xs, SqT.of hp, rfl⟩, ?_⟩
      walk_at "sx"
      refine i_2 (fun hc => ?_) (fun hc => ?_)
      · rw [decide_eq_true hc] at k
        walk_at "sx"
        refine ⟨_, rfl, p, rfl, ⟨_, SqT.of hp⟩, fun D hD => lc_tup (K := K) (a := p) (xs := xs) (fun i H' => Same H H' ∧ H' D = some (.lst ((xs.take i).map fun x => V.bl (isBit x)))) ⟨Same.new hD, upd_same⟩ (fun i H' _ ⟨s, _⟩ => SqT.of (s _ _ hp)) ?_ ?_⟩
        · rintro i x H' hx ⟨s', hD'⟩
          refine s_name ⟨rfl, ?_⟩
          refine s_yes (i_t ?_)
          walk_at "sx"
          refine c_t1 (ni_same s' (mem x (List.mem_of_getElem? hx))) ?_
          refine ⟨_, hD', ?_, Sx.Same.put s' hD, ?_⟩
          · rw [List.length_map, List.length_take]
            exact Nat.lt_of_le_of_lt (Nat.min_le_right _ _) (by show xs.length < 16777216; omega)
          · rw [upd_same, List.take_succ, hx]
            simp
        · rintro H' ⟨s', hD'⟩
          rw [List.take_length] at hD'
          have e : (xs.map fun x => V.bl (isBit x)) = (xs.map isBit).map V.bl := by
            rw [List.map_map]
            rfl
          rw [e] at hD'
          have k' := k H' s'
          rw [Bool.true_and, show xs.all isBit = (xs.map isBit).all id by rw [List.all_map]; rfl] at k'
          walk_at "sx"
          exact r_all hD' k'
      · rw [decide_eq_false hc] at k
        exact k H (L2.Same.refl _)
end
end K04

set_option Elab.async false
set_option linter.all false
set_option maxRecDepth 100000
set_option maxHeartbeats 4000000
namespace K04
open PySem L2 Sx
local macro_rules | `(tactic| walk_at "cond") => `(tactic| first
  | assumption
  | decide
  | exact c_mul_r (by first | decide | omega) (by first | decide | omega)
  | exact c_mul_l (by first | decide | omega) (by first | decide | omega)
  | exact c_div (by first | decide | omega) (by first | decide | omega)
  | exact c_pow (by first | decide | omega) (by first | decide | omega) (by first | decide | omega)
  | omega)
local macro_rules | `(tactic| walk_at "ne") => `(tactic| first
  | assumption
  | (refine Ne.symm ?_; assumption)
  | (refine' Flow.ne ?nh ?nn; (case nn => assumption); (case nh => walk_at "fl"))
  | (refine Ne.symm ?_; refine' Flow.ne ?nh ?nn; (case nn => assumption); (case nh => walk_at "fl"))
  | (refine' ne_of_none ?nh ?nn; (case nn => assumption); (case nh => walk_at "at"))
  | (refine Ne.symm ?_; refine' ne_of_none ?nh ?nn; (case nn => assumption); (case nh => walk_at "at")))
local macro_rules | `(tactic| walk_at "at") => `(tactic| first
  | assumption
  | (refine Same.up (by assumption) ?_; walk_at "at")
  | (refine Keep.up (by assumption) (by walk_at "ne") ?_; walk_at "at"))
local macro_rules | `(tactic| walk_at "fl") => `(tactic| first
  | assumption
  | (refine Flow.same (by assumption) ?_; walk_at "fl")
  | (refine Flow.keep (by assumption) (by walk_at "ne") ?_; walk_at "fl"))
local macro_rules | `(tactic| walk_at "fr") => `(tactic| first
  | assumption
  | (refine same_free (by assumption) ?_; walk_at "fr")
  | (refine Keep.free (by assumption) (by walk_at "ne") ?_; walk_at "fr"))
local macro_rules | `(tactic| walk_at "kp") => `(tactic| first
  | assumption
  | exact Keep.refl _ _
  | (refine Keep.trans ?_ (by assumption); walk_at "kp")
  | (refine Keep.trans ?_ (Keep.same (by assumption)); walk_at "kp"))
local macro_rules | `(tactic| walk_at "sm") => `(tactic| first
  | assumption
  | exact L2.Same.refl _
  | (refine L2.Same.trans ?_ (by assumption); walk_at "sm"))
local macro_rules | `(tactic| walk_at "sz") => `(tactic| first | exact Nat.le_of_ble_eq_true rfl | omega)
local macro_rules | `(tactic| walk_at "new") => `(tactic| (intro p np; generalize hE : upd _ p _ = H2; have s2 := new_same np hE; have h2 := new_at hE; clear hE))
local macro_rules | `(tactic| walk_at "newx") => `(tactic| (intro e d na nd hda; generalize hE : upd (upd _ d _) e _ = H2; have s2 := newx_same na nd hE; have h2 := newx_at hE; have h3 := newx_d hda hE; clear hE))
local macro_rules | `(tactic| walk_at "s1") => `(tactic| first
  | with_reducible refine s_seq ?_
  | with_reducible refine s_asg ?_
  | with_reducible refine s_name ?_
  | with_reducible refine s_ret ?_
  | with_reducible refine s_c ?_
  | ((with_reducible refine' s_var ?hv ?_); (case hv => rfl))
  | with_reducible refine s_op ?_
  | with_reducible refine s_un ?_
  | with_reducible refine s_ifS ?_
  | with_reducible refine s_cb ?_
  | with_reducible refine s_cons ?_
  | with_reducible refine s_nil ?_
  | with_reducible refine s_call ?_
  | with_reducible refine s_test ?_
  | with_reducible refine s_tB ?_
  | with_reducible refine s_bl ?_
  | with_reducible refine s_and ?_
  | with_reducible refine s_or ?_
  | with_reducible refine s_not ?_
  | with_reducible refine s_andV ?_
  | with_reducible refine s_orV ?_
  | with_reducible refine s_notV ?_
  | with_reducible refine s_blV ?_
  | with_reducible refine s_if ?_
  | with_reducible refine s_tup ?_
  | with_reducible refine s_lst ?_
  | with_reducible refine s_drop ?_
  | with_reducible refine s_next ?_
  | with_reducible refine s_sub ?_
  | with_reducible refine s_bm ?_
  | with_reducible refine s_callK ?_
  | with_reducible refine s_brk ?_
  | with_reducible refine s_cont ?_
  | with_reducible refine r_I0 ?_
  | with_reducible refine r_U ?_
  | with_reducible refine r_eqI ?_
  | with_reducible refine r_neI ?_
  | with_reducible refine r_isB ?_
  | with_reducible refine r_notB ?_
  | with_reducible refine i_t ?_
  | with_reducible refine i_f ?_
  | with_reducible refine i_nt ?_
  | with_reducible refine i_nf ?_
  | ((with_reducible refine' r_I ?hc ?_); (case hc => walk_at "cond"))
  | (with_reducible refine .inl ⟨_, rfl, ?_⟩)
  | (with_reducible refine ⟨_, rfl, ?_⟩)
  | ((with_reducible refine' r_ixL ?hx ?ha ?_); (case hx => walk_at "at"); (case ha => rfl))
  | ((with_reducible refine' r_ixT ?hx ?ha ?_); (case hx => walk_at "at"); (case ha => rfl))
  | ((with_reducible refine' r_setL ?hx ?ha ?_); (case hx => walk_at "at"); (case ha => rfl); intro H2 k2 h2; (try dsimp only [List.set, Int.toNat] at h2))
  | ((with_reducible refine' r_app ?hx ?hl ?_); (case hx => walk_at "at"); (case hl => first | exact Nat.lt_of_ble_eq_true rfl | omega); intro H2 k2 h2)
  | ((with_reducible refine' ty_list ?hx ?_); (case hx => walk_at "at"))
  | (refine And.intro (by (with_reducible show _ ≤ sizeLine); walk_at "sz") ?_; walk_at "new")
  | with_reducible refine s_exv ?_
  | walk_at "newx")
local macro_rules | `(tactic| walk_at "sx") => `(tactic| repeat (walk_at "s1"))
local macro_rules | `(tactic| walk_at "s2") => `(tactic| first
  | ((with_reducible refine' r_ixG ?hx ?hn ?_); (case hx => walk_at "at"); (case hn => omega))
  | ((with_reducible refine' r_ixGT ?hx ?hn ?_); (case hx => walk_at "at"); (case hn => omega))
  | (with_reducible refine ig_cons (fun hix => ?_) (fun hix => ?_))
  | ((with_reducible refine ig_nil ?_); omega)
  | ((with_reducible refine' i_T ?hc ?_); (case hc => omega))
  | ((with_reducible refine' i_F ?hc ?_); (case hc => omega))
  | (with_reducible refine i_2 (fun hc => ?_) (fun hc => ?_))
  | (with_reducible refine i_n2 (fun hc => ?_) (fun hc => ?_)))
local macro_rules | `(tactic| walk_at "go") => `(tactic| repeat' (first | walk_at "s1" | walk_at "s2"))

local macro_rules | `(tactic| walk_at "s1") => `(tactic| first
  | with_reducible refine s_chain ?_
  | with_reducible refine s_fldS ?_
  | with_reducible refine s_fld ?_
  | with_reducible refine s_dIn ?_
  | with_reducible refine s_dNotIn ?_
  | with_reducible refine s_sl ?_
  | with_reducible refine s_noPart ?_
  | with_reducible refine s_part ?_
  | with_reducible refine s_meth ?_
  | with_reducible refine s_make ?_)

abbrev nv (m : Nat) : V := .int m
section
variable {P : Program} {w : World} {K : PySem.W.Frag} {mg : Str → Option Value} {base : Heap} {A : Ad}
/-- is_point -/
abbrev isPt (n : Int) : V → Bool := num? fun i => decide (0 ≤ i) && decide (i < n)
def spT2 (K : PySem.W.Frag) (f : Int → V → Bool) : Sp := fun vs H Q _ => ∃ v n, vs = [v, .int n] ∧ NI K H v ∧ Q (.bl (f n v)) H
theorem c_t2 {H : Hp} {Q : VK} {E : XK} {f : Int → V → Bool} {v : V} {n : Int} (h : NI K H v) (q : Q (.bl (f n v)) H) : spT2 K f ([v, .int n] ++ []) H Q E := ⟨v, n, rfl, h, q⟩
theorem ok_isp (T : Txt P K mg A) : FnOk P w K mg base CX0 3 A.a_is_point A.d_is_point ["value", "size"] (spT2 K isPt) := by
  refine T.F_is_point.ok sc_is_point (fun vs H Q E h => ?_) (fun cdv A' outer s H vs Q E hr h => ?_)
  · obtain ⟨v, m, rfl, _⟩ := h
    rfl
  · obtain ⟨v, m, rfl, n, k⟩ := h
    have G_is_number := ok_isn (w := w) (base := base) T
    refine ⟨_, (pss_one (ps_ret (pe_and (pe_call G_is_number (hr.mono (by decide)) rfl T.g_is_number T.F_is_number.kp (B_is_number T) .nil pass0 (pa_cons (pv 0) pa_nil)) (pe_one (pe_cmpR op_lt (pv 0) (pv 1) (nomark _)))))), ?_⟩
    walk_at "sx"
    refine c_t1 n ?_
    rcases i_cases v with ⟨i, rfl⟩ | h
    · have e : isPt m (.int i) = (decide (0 ≤ i) && decide (i < m)) := rfl
      rw [e] at k
      have e2 : isN (.int i) = decide (0 ≤ i) := rfl
      rw [e2]
      refine ⟨_, rfl, ?_⟩
      refine i_2 (fun hc => ?_) (fun hc => ?_)
      · rw [decide_eq_true hc] at k
        walk_at "sx"
        exact k
      · rw [decide_eq_false hc] at k
        exact k
    · have e : isPt m v = false := num_no h
      have e2 : isN v = false := num_no h
      rw [e] at k
      rw [e2]
      walk_at "sx"
      exact k
/-- a value that is asked whether it is a lot or a part -/
def GV (K : PySem.W.Frag) (H : Hp) (v : V) : Prop := (IsIn K H v "tuple" false ∧ isT H v = false) ∨ ∃ p xs, v = .ref p ∧ H p = some (.tup xs) ∧ (∀ x ∈ xs, NI K H x) ∧ xs.length < 1000
def Lot (H : Hp) (n : Nat) (v : V) (js : List Nat) : Prop := ∃ p, v = .ref p ∧ H p = some (.tup (js.map nv)) ∧ js.Pairwise (· < ·) ∧ ∀ j ∈ js, j < n
theorem Lot.same {H H' : Hp} (e : Same H H') {n : Nat} {v : V} {js : List Nat} (h : Lot H n v js) : Lot H' n v js := by
  obtain ⟨p, h1, h2, h3⟩ := h
  exact ⟨p, h1, e _ _ h2, h3⟩
theorem pts_of (n : Nat) : ∀ xs : List V, xs.all (isPt n) = true → ∃ js : List Nat, xs = js.map nv ∧ ∀ j ∈ js, j < n
  | [], _ => ⟨[], rfl, fun _ h => nomatch h⟩
  | x :: xs, h => by
    rw [List.all_cons, Bool.and_eq_true] at h
    obtain ⟨js, rfl, hj⟩ := pts_of n xs h.2
    cases x with
    | int i =>
      have h1 : (decide (0 ≤ i) && decide (i < (n : Int))) = true := h.1
      rw [Bool.and_eq_true, decide_eq_true_eq, decide_eq_true_eq] at h1
      refine ⟨i.toNat :: js, ?_, fun z hz => ?_⟩
      · rw [List.map_cons]
        have e : nv i.toNat = V.int i := by
          show V.int ((i.toNat : Nat) : Int) = _
          rw [Int.toNat_of_nonneg h1.1]
        rw [e]
      · rcases List.mem_cons.mp hz with rfl | hz
        · omega
        · exact hj z hz
    | _ => cases h.1
theorem pts_all {n : Nat} {js : List Nat} (h : ∀ j ∈ js, j < n) : (js.map nv).all (isPt n) = true := by
  rw [List.all_eq_true]
  intro x hx
  obtain ⟨j, hj, rfl⟩ := List.mem_map.mp hx
  have l := h j hj
  show (decide (0 ≤ (j : Int)) && decide ((j : Int) < (n : Int))) = true
  rw [decide_eq_true (by omega), decide_eq_true (by omega)]
  rfl
theorem up_pw {js : List Nat} (h : ∀ d, d + 1 < js.length → js.getD d 0 < js.getD (d + 1) 0) : js.Pairwise (· < ·) := by
  rw [List.pairwise_iff_getElem]
  intro i j hi hj lt
  have e : ∀ k (hk : k < js.length), js[k] = js.getD k 0 := fun k hk => by simp [hk]
  rw [e i hi, e j hj]
  have z : ∀ d, i + 1 + d < js.length → js.getD i 0 < js.getD (i + 1 + d) 0 := by
    intro d
    induction d with
    | zero => exact fun l => h i l
    | succ d ih => exact fun l => Nat.lt_trans (ih (by omega)) (h (i + 1 + d) l)
  have t := z (j - (i + 1)) (by omega)
  rw [show i + 1 + (j - (i + 1)) = j by omega] at t
  exact t
theorem pw_up {js : List Nat} (h : js.Pairwise (· < ·)) {d : Nat} (l : d + 1 < js.length) : js.getD d 0 < js.getD (d + 1) 0 := by
  have e : ∀ k (hk : k < js.length), js.getD k 0 = js[k] := fun k hk => by simp [hk]
  rw [e d (by omega), e (d + 1) l]
  exact (List.pairwise_iff_getElem.mp h) d (d + 1) (by omega) l (by omega)
def rises (js : List Nat) (k : Nat) : List Bool := (List.range k).map fun d => decide (js.getD d 0 < js.getD (d + 1) 0)
theorem rises_succ (js : List Nat) (k : Nat) : rises js (k + 1) = rises js k ++ [decide (js.getD k 0 < js.getD (k + 1) 0)] := by
  unfold rises
  rw [List.range_succ, List.map_append]
  rfl
theorem rises_all {js : List Nat} : (rises js (js.length - 1)).all id = true ↔ js.Pairwise (· < ·) := by
  constructor
  · intro h
    refine up_pw fun d l => ?_
    unfold rises at h
    rw [List.all_map, List.all_eq_true] at h
    exact of_decide_eq_true (h d (List.mem_range.mpr (by omega)))
  · intro h
    unfold rises
    rw [List.all_map, List.all_eq_true]
    intro d hd
    exact decide_eq_true (pw_up h (by have := List.mem_range.mp hd; omega))
def spLot (K : PySem.W.Frag) : Sp := fun vs H Q _ => ∃ (v : V) (n : Nat), vs = [v, .int n] ∧ GV K H v ∧ (∀ js, Lot H n v js → ∀ H', Same H H' → Q (.bl true) H') ∧ ((∀ js, ¬ Lot H n v js) → ∀ H', Same H H' → Q (.bl false) H')
theorem ok_lot (T : Txt P K mg A) : FnOk P w K mg base CX0 4 A.a_is_lot A.d_is_lot ["value", "size"] (spLot K) := by
  refine T.F_is_lot.ok sc_is_lot (fun vs H Q E h => ?_) (fun cdv A' outer s H vs Q E hr h => ?_)
  · obtain ⟨v, m, rfl, _⟩ := h
    rfl
  · obtain ⟨v, n, rfl, g, k1, k0⟩ := h
    have G_is_point := ok_isp (w := w) (base := base) T
    refine ⟨_, (pss_cons (ps_if (PW.pt (pw_or (pt_not (pt_val (pe_callB (id := "isinstance") (r := rIsiV K) call_isiV (by rfl) T.n_isinstance (by decide +kernel) (pa_cons (pv 0) (pa_cons (pe_bltn (v := .ty "tuple") (u := .type "tuple") (by rfl) T.n_tuple (by decide +kernel) rfl) pa_nil))))) (pw_or1 (pt_not (pt_val (pe_callB (cr_all rfl) (by rfl) T.n_all (by decide +kernel) (pa_cons (pe_lc (own := [("member", 3)]) (g := (gName 3)) (by rfl) sc_is_lot.nd (pi_tup (pv 0)) (blkOk_by (own := [("member", 3)]) (N := ["value", "size", "k", "member"]) (sc := defScope s_is_lot) (by decide +kernel)) (fun _ _ _ _ _ => (pg_name (i := 3) sc_is_lot.nd rfl (Or.inl rfl))) (fun _ _ _ _ _ => pts_nil) (fun _ _ _ _ _ => (pe_call G_is_point (hr.mono (by decide)) rfl T.g_is_point T.F_is_point.kp (B_is_point T) .nil pass0 (pa_cons (pv 3) (pa_cons (pv 1) pa_nil))))) pa_nil))))))) (pss_one (ps_ret pe_bl)) pss_nil)
  (pss_one (ps_ret (pe_callB (cr_all rfl) (by rfl) T.n_all (by decide +kernel) (pa_cons (pe_lc (own := [("k", 2)]) (g := (gName 2)) (by rfl) sc_is_lot.nd (pi_range2 rfl T.n_range (pa_cons pe_int (pa_cons (pe_callB call_len (by rfl) T.n_len (by decide +kernel) (pa_cons (pv 0) pa_nil)) pa_nil))) (blkOk_by (own := [("k", 2)]) (N := ["value", "size", "k", "member"]) (sc := defScope s_is_lot) (by decide +kernel)) (fun _ _ _ _ _ => (pg_name (i := 2) sc_is_lot.nd rfl (Or.inl rfl))) (fun _ _ _ _ _ => pts_nil) (fun _ _ _ _ _ => (pe_cmpR op_lt (pe_ix (r := rIx K) ix_seq (pv 0) (pe_op op_sub (pv 2) pe_int) (fun _ _ => rfl)) (pe_ix (r := rIx K) ix_seq (pv 0) (pv 2) (fun _ _ => rfl)) (nomark _)))) pa_nil))))), ?_⟩
    walk_at "sx"
    rcases g with ⟨no, nt⟩ | ⟨p, xs, rfl, hp0, mem, sz⟩
    · refine isi_in no ?_
      walk_at "sx"
      refine k0 (fun js ⟨p, e, hp, _⟩ => ?_) H (L2.Same.refl H)
      subst e
      rw [isT_of hp] at nt
      cases nt
    · refine isi_in (in_tup hp0) ?_
      have hp : True → H p = some (.tup xs) := fun _ => hp0
      clear hp0
      walk_at "sx"
      refine ⟨_, rfl, p, rfl, ⟨_, SqT.of (hp trivial)⟩, fun D hD => lc_tup (K := K) (a := p) (xs := xs) (fun i H' => Same H H' ∧ H' D = some (.lst ((xs.take i).map fun x => V.bl (isPt n x)))) ⟨Same.new hD, upd_same⟩ (fun i H' _ h => SqT.of (h.1 _ _ (hp trivial))) ?_ ?_⟩
      · rintro i x H' hx ⟨s', hD'⟩
        refine s_name ⟨rfl, ?_⟩
        refine s_yes (i_t ?_)
        walk_at "sx"
        refine c_t2 (ni_same s' (mem x (List.mem_of_getElem? hx))) ?_
        refine ⟨_, hD', ?_, Sx.Same.put s' hD, ?_⟩
        · rw [List.length_map, List.length_take]
          exact Nat.lt_of_le_of_lt (Nat.min_le_right _ _) (by show xs.length < 16777216; omega)
        · rw [upd_same, List.take_succ, hx]
          simp
      · rintro H1 ⟨s1, hD1⟩
        rw [List.take_length] at hD1
        have e : (xs.map fun x => V.bl (isPt n x)) = (xs.map (isPt n)).map V.bl := by
          rw [List.map_map]
          rfl
        rw [e] at hD1
        have ea : (xs.map (isPt n)).all id = xs.all (isPt n) := by rw [List.all_map]; rfl
        walk_at "sx"
        refine r_all hD1 ?_
        rw [ea]
        walk_at "sx"
        cases hb : xs.all (isPt n) with
        | false =>
          refine i_nf ?_
          walk_at "sx"
          refine k0 (fun js ⟨p', e', hp', _, lt⟩ => ?_) H1 s1
          cases e'
          have z := (hp trivial).symm.trans hp'
          injection z with z
          injection z with z
          rw [z, pts_all lt] at hb
          cases hb
        | true =>
          refine i_nt ?_
          obtain ⟨js, rfl, lt⟩ := pts_of n xs hb
          clear hD1 e ea
          have lj : (js.map nv).length = js.length := List.length_map ..
          walk_at "sx"
          have ej : (((js.map nv).length : Int) - 1).toNat = js.length - 1 := by
            rw [lj]
            omega
          refine ⟨_, rfl, _, _, rfl, .inr ⟨_, SqT.of (s1 _ _ (hp trivial)), rfl⟩, _, _, rfl, ⟨by omega, by omega, by omega, by omega⟩, ?_⟩
          rw [ej]
          refine fun D2 hD2 => lc_range (lo := 1) (n := js.length - 1) (fun i H' => Same H1 H' ∧ H' D2 = some (.lst ((rises js i).map V.bl))) ⟨Same.new hD2, upd_same⟩ ?_ ?_
          · rintro i H' hi ⟨s', hD'⟩
            have a0 : atI (js.map nv) (1 + (i : Int) - 1) = some (.int (js.getD i 0 : Nat)) := by
              rw [show (1 + (i : Int) - 1) = (i : Int) by omega]
              exact atI_nat (by rw [List.getElem?_map, List.getElem?_eq_getElem (by omega)]; simp [show i < js.length by omega])
            have a1 : atI (js.map nv) (1 + (i : Int)) = some (.int (js.getD (i + 1) 0 : Nat)) := by
              rw [show (1 + (i : Int)) = ((i + 1 : Nat) : Int) by omega]
              exact atI_nat (by rw [List.getElem?_map, List.getElem?_eq_getElem (by omega)]; simp [show i + 1 < js.length by omega])
            refine s_name ⟨rfl, ?_⟩
            refine s_yes (i_t ?_)
            walk_at "sx"
            refine r_ixT ((s1.trans s') _ _ (hp trivial)) a0 ?_
            walk_at "sx"
            refine r_ixT ((s1.trans s') _ _ (hp trivial)) a1 ?_
            refine ⟨_, _, rfl, rfl, ?_⟩
            refine ⟨_, hD', ?_, Sx.Same.put s' hD2, ?_⟩
            · unfold rises
              rw [List.length_map, List.length_map, List.length_range, sizeLine_eq]
              omega
            · rw [upd_same, rises_succ, List.map_append]
              have e : decide (((js.getD i 0 : Nat) : Int) < ((js.getD (i + 1) 0 : Nat) : Int)) = decide (js.getD i 0 < js.getD (i + 1) 0) := by
                by_cases c : js.getD i 0 < js.getD (i + 1) 0
                · rw [decide_eq_true c, decide_eq_true (by omega)]
                · rw [decide_eq_false c, decide_eq_false (by omega)]
              show some (HO.lst (_ ++ [V.bl (decide (((js.getD i 0 : Nat) : Int) < ((js.getD (i + 1) 0 : Nat) : Int)))])) = _
              rw [e]
              rfl
          · rintro H2 ⟨s2, hD'⟩
            walk_at "sx"
            refine r_all hD' ?_
            cases hr2 : (rises js (js.length - 1)).all id with
            | true => exact k1 js ⟨p, rfl, hp trivial, rises_all.mp hr2, lt⟩ H2 (s1.trans s2)
            | false =>
              refine k0 (fun js' ⟨p', e', hp', up, _⟩ => ?_) H2 (s1.trans s2)
              cases e'
              have z := (hp trivial).symm.trans hp'
              injection z with z
              injection z with z
              have z' := (List.map_inj_right (fun _ _ e => by injection e with e; omega)).mp z
              rw [← z'] at up
              rw [rises_all.mpr up] at hr2
              cases hr2
end
end K04

set_option Elab.async false
set_option linter.all false
set_option maxRecDepth 100000
set_option maxHeartbeats 4000000
namespace K04
open PySem L2 Sx
local macro_rules | `(tactic| walk_at "cond") => `(tactic| first
  | assumption
  | decide
  | exact c_mul_r (by first | decide | omega) (by first | decide | omega)
  | exact c_mul_l (by first | decide | omega) (by first | decide | omega)
  | exact c_div (by first | decide | omega) (by first | decide | omega)
  | exact c_pow (by first | decide | omega) (by first | decide | omega) (by first | decide | omega)
  | omega)
local macro_rules | `(tactic| walk_at "ne") => `(tactic| first
  | assumption
  | (refine Ne.symm ?_; assumption)
  | (refine' Flow.ne ?nh ?nn; (case nn => assumption); (case nh => walk_at "fl"))
  | (refine Ne.symm ?_; refine' Flow.ne ?nh ?nn; (case nn => assumption); (case nh => walk_at "fl"))
  | (refine' ne_of_none ?nh ?nn; (case nn => assumption); (case nh => walk_at "at"))
  | (refine Ne.symm ?_; refine' ne_of_none ?nh ?nn; (case nn => assumption); (case nh => walk_at "at")))
local macro_rules | `(tactic| walk_at "at") => `(tactic| first
  | assumption
  | (refine Same.up (by assumption) ?_; walk_at "at")
  | (refine Keep.up (by assumption) (by walk_at "ne") ?_; walk_at "at"))
local macro_rules | `(tactic| walk_at "fl") => `(tactic| first
  | assumption
  | (refine Flow.same (by assumption) ?_; walk_at "fl")
  | (refine Flow.keep (by assumption) (by walk_at "ne") ?_; walk_at "fl"))
local macro_rules | `(tactic| walk_at "fr") => `(tactic| first
  | assumption
  | (refine same_free (by assumption) ?_; walk_at "fr")
  | (refine Keep.free (by assumption) (by walk_at "ne") ?_; walk_at "fr"))
local macro_rules | `(tactic| walk_at "kp") => `(tactic| first
  | assumption
  | exact Keep.refl _ _
  | (refine Keep.trans ?_ (by assumption); walk_at "kp")
  | (refine Keep.trans ?_ (Keep.same (by assumption)); walk_at "kp"))
local macro_rules | `(tactic| walk_at "sm") => `(tactic| first
  | assumption
  | exact L2.Same.refl _
  | (refine L2.Same.trans ?_ (by assumption); walk_at "sm"))
local macro_rules | `(tactic| walk_at "sz") => `(tactic| first | exact Nat.le_of_ble_eq_true rfl | omega)
local macro_rules | `(tactic| walk_at "new") => `(tactic| (intro p np; generalize hE : upd _ p _ = H2; have s2 := new_same np hE; have h2 := new_at hE; clear hE))
local macro_rules | `(tactic| walk_at "newx") => `(tactic| (intro e d na nd hda; generalize hE : upd (upd _ d _) e _ = H2; have s2 := newx_same na nd hE; have h2 := newx_at hE; have h3 := newx_d hda hE; clear hE))
local macro_rules | `(tactic| walk_at "s1") => `(tactic| first
  | with_reducible refine s_seq ?_
  | with_reducible refine s_asg ?_
  | with_reducible refine s_name ?_
  | with_reducible refine s_ret ?_
  | with_reducible refine s_c ?_
  | ((with_reducible refine' s_var ?hv ?_); (case hv => rfl))
  | with_reducible refine s_op ?_
  | with_reducible refine s_un ?_
  | with_reducible refine s_ifS ?_
  | with_reducible refine s_cb ?_
  | with_reducible refine s_cons ?_
  | with_reducible refine s_nil ?_
  | with_reducible refine s_call ?_
  | with_reducible refine s_test ?_
  | with_reducible refine s_tB ?_
  | with_reducible refine s_bl ?_
  | with_reducible refine s_and ?_
  | with_reducible refine s_or ?_
  | with_reducible refine s_not ?_
  | with_reducible refine s_andV ?_
  | with_reducible refine s_orV ?_
  | with_reducible refine s_notV ?_
  | with_reducible refine s_blV ?_
  | with_reducible refine s_if ?_
  | with_reducible refine s_tup ?_
  | with_reducible refine s_lst ?_
  | with_reducible refine s_drop ?_
  | with_reducible refine s_next ?_
  | with_reducible refine s_sub ?_
  | with_reducible refine s_bm ?_
  | with_reducible refine s_callK ?_
  | with_reducible refine s_brk ?_
  | with_reducible refine s_cont ?_
  | with_reducible refine r_I0 ?_
  | with_reducible refine r_U ?_
  | with_reducible refine r_eqI ?_
  | with_reducible refine r_neI ?_
  | with_reducible refine r_isB ?_
  | with_reducible refine r_notB ?_
  | with_reducible refine i_t ?_
  | with_reducible refine i_f ?_
  | with_reducible refine i_nt ?_
  | with_reducible refine i_nf ?_
  | ((with_reducible refine' r_I ?hc ?_); (case hc => walk_at "cond"))
  | (with_reducible refine .inl ⟨_, rfl, ?_⟩)
  | (with_reducible refine ⟨_, rfl, ?_⟩)
  | ((with_reducible refine' r_ixL ?hx ?ha ?_); (case hx => walk_at "at"); (case ha => rfl))
  | ((with_reducible refine' r_ixT ?hx ?ha ?_); (case hx => walk_at "at"); (case ha => rfl))
  | ((with_reducible refine' r_setL ?hx ?ha ?_); (case hx => walk_at "at"); (case ha => rfl); intro H2 k2 h2; (try dsimp only [List.set, Int.toNat] at h2))
  | ((with_reducible refine' r_app ?hx ?hl ?_); (case hx => walk_at "at"); (case hl => first | exact Nat.lt_of_ble_eq_true rfl | omega); intro H2 k2 h2)
  | ((with_reducible refine' ty_list ?hx ?_); (case hx => walk_at "at"))
  | (refine And.intro (by (with_reducible show _ ≤ sizeLine); walk_at "sz") ?_; walk_at "new")
  | with_reducible refine s_exv ?_
  | walk_at "newx")
local macro_rules | `(tactic| walk_at "sx") => `(tactic| repeat (walk_at "s1"))
local macro_rules | `(tactic| walk_at "s2") => `(tactic| first
  | ((with_reducible refine' r_ixG ?hx ?hn ?_); (case hx => walk_at "at"); (case hn => omega))
  | ((with_reducible refine' r_ixGT ?hx ?hn ?_); (case hx => walk_at "at"); (case hn => omega))
  | (with_reducible refine ig_cons (fun hix => ?_) (fun hix => ?_))
  | ((with_reducible refine ig_nil ?_); omega)
  | ((with_reducible refine' i_T ?hc ?_); (case hc => omega))
  | ((with_reducible refine' i_F ?hc ?_); (case hc => omega))
  | (with_reducible refine i_2 (fun hc => ?_) (fun hc => ?_))
  | (with_reducible refine i_n2 (fun hc => ?_) (fun hc => ?_)))
local macro_rules | `(tactic| walk_at "go") => `(tactic| repeat' (first | walk_at "s1" | walk_at "s2"))

local macro_rules | `(tactic| walk_at "s1") => `(tactic| first
  | with_reducible refine s_chain ?_
  | with_reducible refine s_fldS ?_
  | with_reducible refine s_fld ?_
  | with_reducible refine s_dIn ?_
  | with_reducible refine s_dNotIn ?_
  | with_reducible refine s_sl ?_
  | with_reducible refine s_noPart ?_
  | with_reducible refine s_part ?_
  | with_reducible refine s_meth ?_
  | with_reducible refine s_make ?_)

section
variable {P : Program} {w : World} {K : PySem.W.Frag} {mg : Str → Option Value} {base : Heap} {A : Ad}
abbrev isIn (lo hi : Int) : V → Bool := num? fun i => decide (lo ≤ i) && decide (i < hi)
def spNumL (K : PySem.W.Frag) : Sp := fun vs H Q _ => ∃ (v : V) (lo hi : Int), vs = [v, .int lo, .int hi] ∧ NI K H v ∧ Q (.bl (isIn lo hi v)) H
theorem c_numL {H : Hp} {Q : VK} {E : XK} {v : V} {lo hi : Int} (h : NI K H v) (q : Q (.bl (isIn lo hi v)) H) : spNumL K ([v, .int lo, .int hi] ++ []) H Q E := ⟨v, lo, hi, rfl, h, q⟩
theorem ok_numL (T : Txt P K mg A) : FnOk P w K mg base CX0 1 A.a__law_is_number A.d__law_is_number ["value", "least", "limit"] (spNumL K) := by
  refine T.F__law_is_number.ok sc__law_is_number (fun vs H Q E h => ?_) (fun cdv A' outer s H vs Q E hr h => ?_)
  · obtain ⟨v, lo, hi, rfl, _⟩ := h
    rfl
  · obtain ⟨v, lo, hi, rfl, ⟨b, c, hb, hc, e⟩, k⟩ := h
    refine ⟨_, (pss_one (ps_ret (pe_and (pe_callB (id := "isinstance") (r := rIsiV K) call_isiV (by rfl) T.n_isinstance (by decide +kernel) (pa_cons (pv 0) (pa_cons (pe_bltn (v := .ty "int") (u := .type "int") (by rfl) T.n_int (by decide +kernel) rfl) pa_nil))) (pe_and (pe_not (pe_callB (id := "isinstance") (r := rIsiV K) call_isiV (by rfl) T.n_isinstance (by decide +kernel) (pa_cons (pv 0) (pa_cons (pe_bltn (v := .ty "bool") (u := .type "bool") (by rfl) T.n_bool (by decide +kernel) rfl) pa_nil)))) (pe_one (pe_chain op_le op_lt (pv 1) (pv 0) (pv 2))))))), ?_⟩
    walk_at "sx"
    refine isi_in hb ?_
    cases b
    · have hi' : isI v = false := e.symm
      rw [show isIn lo hi v = false from num_no hi'] at k
      walk_at "sx"
      exact k
    · walk_at "sx"
      refine isi_in hc ?_
      cases c
      · rcases i_cases v with ⟨i, rfl⟩ | h
        · have e' : isIn lo hi (.int i) = (decide (lo ≤ i) && decide (i < hi)) := rfl
          rw [e'] at k
          walk_at "sx"
          refine i_2 (fun hc => ?_) (fun hc => ?_)
          · rw [decide_eq_true hc] at k
            walk_at "sx"
            exact k
          · rw [decide_eq_false hc] at k
            exact k
        · rw [h] at e
          cases e
      · have hi' : isI v = false := e.symm
        rw [show isIn lo hi v = false from num_no hi'] at k
        walk_at "sx"
        exact k
theorem isIn_bit (v : V) : isIn 0 2 v = isBit v := by
  rcases i_cases v with ⟨i, rfl⟩ | h
  · show (decide (0 ≤ i) && decide (i < 2)) = (decide (0 ≤ i) && decide (i ≤ 1))
    rw [decide_eq_decide.mpr (show i < 2 ↔ i ≤ 1 by omega)]
  · exact (num_no h).trans (num_no h).symm
theorem ok_lrow (T : Txt P K mg A) : FnOk P w K mg base CX0 2 A.a__law_is_row A.d__law_is_row ["value", "size"] (spRow K) := by
  refine T.F__law_is_row.ok sc__law_is_row (fun vs H Q E h => ?_) (fun cdv A' outer s H vs Q E hr h => ?_)
  · obtain ⟨v, m, rfl, _⟩ := h
    rfl
  · obtain ⟨v, m, rfl, h⟩ := h
    have G__law_is_number := ok_numL (w := w) (base := base) T
    refine ⟨_, (pss_cons (ps_if (PW.pt (pw_or (pt_not (pt_val (pe_callB (id := "isinstance") (r := rIsiV K) call_isiV (by rfl) T.n_isinstance (by decide +kernel) (pa_cons (pv 0) (pa_cons (pe_bltn (v := .ty "tuple") (u := .type "tuple") (by rfl) T.n_tuple (by decide +kernel) rfl) pa_nil))))) (pw_or1 (pt_cmpR op_ne (pe_callB call_len (by rfl) T.n_len (by decide +kernel) (pa_cons (pv 0) pa_nil)) (pv 1) (nomark _))))) (pss_one (ps_ret pe_bl)) pss_nil)
  (pss_cons (ps_for PassesOwn.never rfl (pi_tup (pv 0)) (pg_name (i := 2) sc__law_is_row.nd rfl (Or.inl rfl))
  (pss_one (ps_if (pt_not (pt_val (pe_call G__law_is_number (hr.mono (by decide)) rfl T.g__law_is_number T.F__law_is_number.kp (B__law_is_number T) .nil pass0 (pa_cons (pv 2) (pa_cons pe_int (pa_cons pe_int pa_nil)))))) (pss_one (ps_ret pe_bl)) pss_nil)))
  (pss_one (ps_ret pe_bl)))), ?_⟩
    walk_at "sx"
    rcases h with ⟨no, k⟩ | ⟨p, xs, rfl, hp0, mem, sz, k⟩
    · refine isi_in no ?_
      walk_at "sx"
      exact k
    · refine isi_in (in_tup hp0) ?_
      have hp : True → H p = some (.tup xs) := fun _ => hp0
      clear hp0
      walk_at "sx"
      refine ⟨_, _, rfl, .inr ⟨xs, SqT.of (hp trivial), rfl⟩, ?_⟩
      walk_at "sx"
      refine i_n2 (fun hc => ?_) (fun hc => ?_)
      · rw [decide_eq_false (fun e => hc e)] at k
        walk_at "sx"
        exact k H (L2.Same.refl H)
      · rw [decide_eq_true hc, Bool.true_and] at k
        walk_at "sx"
        refine ⟨_, rfl, p, rfl, ⟨_, SqT.of (hp trivial)⟩, for_it (walk_tup (K := K) (a := p) (xs := xs)) (fun i σ H' => H' = H ∧ (xs.take i).all isBit = true ∧ ∃ v2, σ = [some (.ref p), some (.int m), v2]) ⟨rfl, rfl, none, rfl⟩ (fun i σ H' _ h => by rw [h.1]; exact SqT.of (hp trivial)) ?_ ?_⟩
        · rintro i x σ H1 H2 hi ⟨rfl, ha, v2, rfl⟩ ⟨rfl, hx⟩
          walk_at "sx"
          refine c_numL (mem x (List.mem_of_getElem? hx)) ?_
          rw [isIn_bit]
          cases hb : isBit x with
          | false =>
            walk_at "sx"
            rw [show xs.all isBit = false from by
              rw [List.all_eq_false]
              exact ⟨x, List.mem_of_getElem? hx, by rw [hb]; exact Bool.false_ne_true⟩] at k
            exact k _ (L2.Same.refl _)
          | true =>
            walk_at "sx"
            refine ⟨rfl, ?_, _, rfl⟩
            rw [List.take_succ, hx, List.all_append, ha]
            simp [hb]
        · rintro σ H1 ⟨rfl, ha, v2, rfl⟩
          rw [List.take_length] at ha
          rw [ha] at k
          walk_at "sx"
          exact k _ (L2.Same.refl _)
/-- the law's own look at a lot -/
def lw (n : Nat) : Int → List V → Bool
  | _, [] => true
  | l, x :: xs => isIn l n x && lw n (match x with | .int i => i + 1 | _ => 0) xs
theorem lw_cons (n : Nat) (l : Int) (x : V) (xs : List V) : lw n l (x :: xs) = (isIn l n x && lw n (match x with | .int i => i + 1 | _ => 0) xs) := rfl
theorem lw_iff (n : Nat) : ∀ (xs : List V) (l : Nat), lw n l xs = true ↔ ∃ js : List Nat, xs = js.map nv ∧ js.Pairwise (· < ·) ∧ (∀ j ∈ js, j < n) ∧ ∀ j ∈ js, l ≤ j
  | [], l => ⟨fun _ => ⟨[], rfl, .nil, (fun _ h => nomatch h), fun _ h => nomatch h⟩, fun _ => rfl⟩
  | x :: xs, l => by
    constructor
    · intro h
      unfold lw at h
      rw [Bool.and_eq_true] at h
      rcases i_cases x with ⟨i, rfl⟩ | hx
      · have h1 : (decide ((l : Int) ≤ i) && decide (i < (n : Int))) = true := h.1
        rw [Bool.and_eq_true, decide_eq_true_eq, decide_eq_true_eq] at h1
        obtain ⟨j, rfl⟩ := Int.eq_ofNat_of_zero_le (show 0 ≤ i by omega)
        have h2 : lw n ((j + 1 : Nat) : Int) xs = true := h.2
        obtain ⟨js, rfl, pw, lt, ge⟩ := (lw_iff n xs (j + 1)).mp h2
        refine ⟨j :: js, rfl, List.pairwise_cons.mpr ⟨fun k hk => ge k hk, pw⟩, fun k hk => ?_, fun k hk => ?_⟩
        · rcases List.mem_cons.mp hk with rfl | hk
          · omega
          · exact lt k hk
        · rcases List.mem_cons.mp hk with rfl | hk
          · omega
          · have := ge k hk
            omega
      · rw [show isIn l n x = false from num_no hx] at h
        exact absurd h.1 Bool.false_ne_true
    · rintro ⟨js, e, pw, lt, ge⟩
      cases js with
      | nil => cases e
      | cons j js =>
        rw [List.map_cons] at e
        injection e with e1 e2
        subst e1 e2
        obtain ⟨p1, p2⟩ := List.pairwise_cons.mp pw
        unfold lw
        rw [Bool.and_eq_true]
        refine ⟨?_, ?_⟩
        · show (decide ((l : Int) ≤ (j : Int)) && decide ((j : Int) < (n : Int))) = true
          have a := lt j (by simp)
          have b := ge j (by simp)
          rw [decide_eq_true (by omega), decide_eq_true (by omega)]
          rfl
        · exact (lw_iff n (js.map nv) (j + 1)).mpr ⟨js, rfl, p2, fun k hk => lt k (by simp [hk]), fun k hk => p1 k hk⟩
theorem lw_lot {H : Hp} {p : Addr} {xs : List V} {n : Nat} (hp : H p = some (.tup xs)) : lw n 0 xs = true ↔ ∃ js, Lot H n (.ref p) js := by
  rw [show (0 : Int) = ((0 : Nat) : Int) from rfl, lw_iff]
  constructor
  · rintro ⟨js, rfl, pw, lt, _⟩
    exact ⟨js, p, rfl, hp, pw, lt⟩
  · rintro ⟨js, q, e, hq, pw, lt⟩
    cases e
    rw [hp] at hq
    injection hq with hq
    injection hq with hq
    exact ⟨js, hq, pw, lt, fun _ _ => Nat.zero_le _⟩
theorem ok_llot (T : Txt P K mg A) : FnOk P w K mg base CX0 2 A.a__law_is_lot A.d__law_is_lot ["value", "size"] (spLot K) := by
  refine T.F__law_is_lot.ok sc__law_is_lot (fun vs H Q E h => ?_) (fun cdv A' outer s H vs Q E hr h => ?_)
  · obtain ⟨v, m, rfl, _⟩ := h
    rfl
  · obtain ⟨v, n, rfl, g, k1, k0⟩ := h
    have G__law_is_number := ok_numL (w := w) (base := base) T
    refine ⟨_, (pss_cons (ps_if (pt_not (pt_val (pe_callB (id := "isinstance") (r := rIsiV K) call_isiV (by rfl) T.n_isinstance (by decide +kernel) (pa_cons (pv 0) (pa_cons (pe_bltn (v := .ty "tuple") (u := .type "tuple") (by rfl) T.n_tuple (by decide +kernel) rfl) pa_nil))))) (pss_one (ps_ret pe_bl)) pss_nil)
  (pss_cons (ps_set (i := 2) sc__law_is_lot.nd rfl (Or.inl rfl) pe_int)
  (pss_cons (ps_for PassesOwn.never rfl (pi_tup (pv 0)) (pg_name (i := 3) sc__law_is_lot.nd rfl (Or.inl rfl))
  (pss_cons (ps_if (pt_not (pt_val (pe_call G__law_is_number (hr.mono (by decide)) rfl T.g__law_is_number T.F__law_is_number.kp (B__law_is_number T) .nil pass0 (pa_cons (pv 3) (pa_cons (pv 2) (pa_cons (pv 1) pa_nil)))))) (pss_one (ps_ret pe_bl)) pss_nil)
  (pss_one (ps_set (i := 2) sc__law_is_lot.nd rfl (Or.inl rfl) (pe_op op_add (pv 3) pe_int)))))
  (pss_one (ps_ret pe_bl))))), ?_⟩
    walk_at "sx"
    rcases g with ⟨no, nt⟩ | ⟨p, xs, rfl, hp0, mem, sz⟩
    · refine isi_in no ?_
      walk_at "sx"
      refine k0 (fun js ⟨p, e, hp, _⟩ => ?_) H (L2.Same.refl H)
      subst e
      rw [isT_of hp] at nt
      cases nt
    · refine isi_in (in_tup hp0) ?_
      have hp : True → H p = some (.tup xs) := fun _ => hp0
      clear hp0
      walk_at "sx"
      refine ⟨_, rfl, p, rfl, ⟨_, SqT.of (hp trivial)⟩, for_it (walk_tup (K := K) (a := p) (xs := xs)) (fun i σ H' => H' = H ∧ ∃ (l : Int) (v3 : Option V), lw n 0 xs = lw n l (xs.drop i) ∧ σ = [some (.ref p), some (.int n), some (.int l), v3]) ⟨rfl, 0, none, rfl, rfl⟩ (fun i σ H' _ h => by rw [h.1]; exact SqT.of (hp trivial)) ?_ ?_⟩
      · rintro i x σ H1 H2 hi ⟨rfl, l, v3, el, rfl⟩ ⟨rfl, hx⟩
        have dx : xs.drop i = x :: xs.drop (i + 1) := by
          obtain ⟨hl, e⟩ := List.getElem?_eq_some_iff.mp hx
          rw [List.drop_eq_getElem_cons hl, e]
        rw [dx, lw_cons] at el
        walk_at "sx"
        refine c_numL (mem x (List.mem_of_getElem? hx)) ?_
        cases hb : isIn l n x with
        | false =>
          rw [hb, Bool.false_and] at el
          walk_at "sx"
          refine k0 (fun js hj => ?_) _ (L2.Same.refl _)
          rw [(lw_lot (hp trivial)).mpr ⟨js, hj⟩] at el
          cases el
        | true =>
          rw [hb, Bool.true_and] at el
          rcases i_cases x with ⟨i', rfl⟩ | h
          · walk_at "sx"
            exact ⟨rfl, _, _, el, rfl⟩
          · rw [show isIn l n x = false from num_no h] at hb
            cases hb
      · rintro σ H1 ⟨rfl, l, v3, el, rfl⟩
        rw [List.drop_length] at el
        obtain ⟨js, hj⟩ := (lw_lot (hp trivial)).mp el
        walk_at "sx"
        exact k1 js hj _ (L2.Same.refl _)
end
end K04

set_option Elab.async false
set_option linter.all false
set_option maxRecDepth 100000
set_option maxHeartbeats 4000000
namespace K04
open PySem L2 Sx
local macro_rules | `(tactic| walk_at "cond") => `(tactic| first
  | assumption
  | decide
  | exact c_mul_r (by first | decide | omega) (by first | decide | omega)
  | exact c_mul_l (by first | decide | omega) (by first | decide | omega)
  | exact c_div (by first | decide | omega) (by first | decide | omega)
  | exact c_pow (by first | decide | omega) (by first | decide | omega) (by first | decide | omega)
  | omega)
local macro_rules | `(tactic| walk_at "ne") => `(tactic| first
  | assumption
  | (refine Ne.symm ?_; assumption)
  | (refine' Flow.ne ?nh ?nn; (case nn => assumption); (case nh => walk_at "fl"))
  | (refine Ne.symm ?_; refine' Flow.ne ?nh ?nn; (case nn => assumption); (case nh => walk_at "fl"))
  | (refine' ne_of_none ?nh ?nn; (case nn => assumption); (case nh => walk_at "at"))
  | (refine Ne.symm ?_; refine' ne_of_none ?nh ?nn; (case nn => assumption); (case nh => walk_at "at")))
local macro_rules | `(tactic| walk_at "at") => `(tactic| first
  | assumption
  | (refine Same.up (by assumption) ?_; walk_at "at")
  | (refine Keep.up (by assumption) (by walk_at "ne") ?_; walk_at "at"))
local macro_rules | `(tactic| walk_at "fl") => `(tactic| first
  | assumption
  | (refine Flow.same (by assumption) ?_; walk_at "fl")
  | (refine Flow.keep (by assumption) (by walk_at "ne") ?_; walk_at "fl"))
local macro_rules | `(tactic| walk_at "fr") => `(tactic| first
  | assumption
  | (refine same_free (by assumption) ?_; walk_at "fr")
  | (refine Keep.free (by assumption) (by walk_at "ne") ?_; walk_at "fr"))
local macro_rules | `(tactic| walk_at "kp") => `(tactic| first
  | assumption
  | exact Keep.refl _ _
  | (refine Keep.trans ?_ (by assumption); walk_at "kp")
  | (refine Keep.trans ?_ (Keep.same (by assumption)); walk_at "kp"))
local macro_rules | `(tactic| walk_at "sm") => `(tactic| first
  | assumption
  | exact L2.Same.refl _
  | (refine L2.Same.trans ?_ (by assumption); walk_at "sm"))
local macro_rules | `(tactic| walk_at "sz") => `(tactic| first | exact Nat.le_of_ble_eq_true rfl | omega)
local macro_rules | `(tactic| walk_at "new") => `(tactic| (intro p np; generalize hE : upd _ p _ = H2; have s2 := new_same np hE; have h2 := new_at hE; clear hE))
local macro_rules | `(tactic| walk_at "newx") => `(tactic| (intro e d na nd hda; generalize hE : upd (upd _ d _) e _ = H2; have s2 := newx_same na nd hE; have h2 := newx_at hE; have h3 := newx_d hda hE; clear hE))
local macro_rules | `(tactic| walk_at "s1") => `(tactic| first
  | with_reducible refine s_seq ?_
  | with_reducible refine s_asg ?_
  | with_reducible refine s_name ?_
  | with_reducible refine s_ret ?_
  | with_reducible refine s_c ?_
  | ((with_reducible refine' s_var ?hv ?_); (case hv => rfl))
  | with_reducible refine s_op ?_
  | with_reducible refine s_un ?_
  | with_reducible refine s_ifS ?_
  | with_reducible refine s_cb ?_
  | with_reducible refine s_cons ?_
  | with_reducible refine s_nil ?_
  | with_reducible refine s_call ?_
  | with_reducible refine s_test ?_
  | with_reducible refine s_tB ?_
  | with_reducible refine s_bl ?_
  | with_reducible refine s_and ?_
  | with_reducible refine s_or ?_
  | with_reducible refine s_not ?_
  | with_reducible refine s_andV ?_
  | with_reducible refine s_orV ?_
  | with_reducible refine s_notV ?_
  | with_reducible refine s_blV ?_
  | with_reducible refine s_if ?_
  | with_reducible refine s_tup ?_
  | with_reducible refine s_lst ?_
  | with_reducible refine s_drop ?_
  | with_reducible refine s_next ?_
  | with_reducible refine s_sub ?_
  | with_reducible refine s_bm ?_
  | with_reducible refine s_callK ?_
  | with_reducible refine s_brk ?_
  | with_reducible refine s_cont ?_
  | with_reducible refine r_I0 ?_
  | with_reducible refine r_U ?_
  | with_reducible refine r_eqI ?_
  | with_reducible refine r_neI ?_
  | with_reducible refine r_isB ?_
  | with_reducible refine r_notB ?_
  | with_reducible refine i_t ?_
  | with_reducible refine i_f ?_
  | with_reducible refine i_nt ?_
  | with_reducible refine i_nf ?_
  | ((with_reducible refine' r_I ?hc ?_); (case hc => walk_at "cond"))
  | (with_reducible refine .inl ⟨_, rfl, ?_⟩)
  | (with_reducible refine ⟨_, rfl, ?_⟩)
  | ((with_reducible refine' r_ixL ?hx ?ha ?_); (case hx => walk_at "at"); (case ha => rfl))
  | ((with_reducible refine' r_ixT ?hx ?ha ?_); (case hx => walk_at "at"); (case ha => rfl))
  | ((with_reducible refine' r_setL ?hx ?ha ?_); (case hx => walk_at "at"); (case ha => rfl); intro H2 k2 h2; (try dsimp only [List.set, Int.toNat] at h2))
  | ((with_reducible refine' r_app ?hx ?hl ?_); (case hx => walk_at "at"); (case hl => first | exact Nat.lt_of_ble_eq_true rfl | omega); intro H2 k2 h2)
  | ((with_reducible refine' ty_list ?hx ?_); (case hx => walk_at "at"))
  | (refine And.intro (by (with_reducible show _ ≤ sizeLine); walk_at "sz") ?_; walk_at "new")
  | with_reducible refine s_exv ?_
  | walk_at "newx")
local macro_rules | `(tactic| walk_at "sx") => `(tactic| repeat (walk_at "s1"))
local macro_rules | `(tactic| walk_at "s2") => `(tactic| first
  | ((with_reducible refine' r_ixG ?hx ?hn ?_); (case hx => walk_at "at"); (case hn => omega))
  | ((with_reducible refine' r_ixGT ?hx ?hn ?_); (case hx => walk_at "at"); (case hn => omega))
  | (with_reducible refine ig_cons (fun hix => ?_) (fun hix => ?_))
  | ((with_reducible refine ig_nil ?_); omega)
  | ((with_reducible refine' i_T ?hc ?_); (case hc => omega))
  | ((with_reducible refine' i_F ?hc ?_); (case hc => omega))
  | (with_reducible refine i_2 (fun hc => ?_) (fun hc => ?_))
  | (with_reducible refine i_n2 (fun hc => ?_) (fun hc => ?_)))
local macro_rules | `(tactic| walk_at "go") => `(tactic| repeat' (first | walk_at "s1" | walk_at "s2"))

local macro_rules | `(tactic| walk_at "s1") => `(tactic| first
  | with_reducible refine s_chain ?_
  | with_reducible refine s_fldS ?_
  | with_reducible refine s_fld ?_
  | with_reducible refine s_dIn ?_
  | with_reducible refine s_dNotIn ?_
  | with_reducible refine s_sl ?_
  | with_reducible refine s_noPart ?_
  | with_reducible refine s_part ?_
  | with_reducible refine s_meth ?_
  | with_reducible refine s_make ?_)

section
variable {P : Program} {w : World} {K : PySem.W.Frag} {mg : Str → Option Value} {base : Heap} {A : Ad}
/-- numbers stand in the tuple at p -/
def Ns (H : Hp) (p : Addr) (js : List Nat) : Prop := H p = some (.tup (js.map nv))
theorem Ns.same {H H' : Hp} {p : Addr} {js : List Nat} (e : Same H H') (h : Ns H p js) : Ns H' p js := e _ _ h
theorem keep_new {a D : Addr} {H H8 H9 : Hp} (k : Keep a H H8) (n : H D = none) (k9 : Keep D H8 H9) : Keep a H H9 := fun b o hb h => k9 b o (ne_of_none h n) (k b o hb h)
def spLRow : Sp := fun vs H Q _ => ∃ (a : Addr) (n : Nat), vs = [.ref a, .int n] ∧ Flow H a ∧ n ≤ 8 ∧ ∀ (p : Addr) (js : List Nat) H', p ≠ a → Flow H' a → Keep a H H' → Ns H' p js → js.length = n → (∀ j ∈ js, j ≤ 1) → Q (.ref p) H'
theorem ok_dRow (T : Txt P K mg A) : FnOk P w K mg base CX0 2 A.a__law_row A.d__law_row ["flow", "size"] spLRow := by
  refine T.F__law_row.ok sc__law_row (fun vs H Q E h => ?_) (fun cdv A' outer s H vs Q E hr h => ?_)
  · obtain ⟨a, n, rfl, _⟩ := h
    rfl
  · obtain ⟨a, n, rfl, hF, sn, k⟩ := h
    have G__law_take := ok_take (w := w) (base := base) T
    refine ⟨_, (pss_one (ps_ret (pe_callTy call_tuple_of (by rfl) T.n_tuple (by decide +kernel) (pa_cons (pe_lc (own := [("k", 2)]) (g := (gName 2)) (by rfl) sc__law_row.nd (pi_range1 rfl T.n_range (pa_cons (pv 1) pa_nil)) (blkOk_by (own := [("k", 2)]) (N := ["flow", "size", "k"]) (sc := defScope s__law_row) (by decide +kernel)) (fun _ _ _ _ _ => (pg_name (i := 2) sc__law_row.nd rfl (Or.inl rfl))) (fun _ _ _ _ _ => pts_nil) (fun _ _ _ _ _ => (pe_call G__law_take (hr.mono (by decide)) rfl T.g__law_take T.F__law_take.kp (B__law_take T) .nil pass0 (pa_cons (pv 0) (pa_cons pe_int pa_nil))))) pa_nil)))), ?_⟩
    walk_at "sx"
    refine ⟨_, rfl, _, rfl, by omega, by omega, fun D hD => lc_range (lo := 0) (n := n) (fun i H' => Flow H' a ∧ Keep a H H' ∧ ∃ js : List Nat, (True → H' D = some (.lst (js.map nv))) ∧ js.length = i ∧ ∀ j ∈ js, j ≤ 1) ⟨hF.same (Same.new hD), Keep.same (Same.new hD), [], fun _ => upd_same, rfl, fun j (h : j ∈ []) => by cases h⟩ ?_ ?_⟩
    · rintro i H' hi ⟨F', K', js, hd, lj, bj⟩
      have aD : a ≠ D := hF.ne hD
      refine s_name ⟨rfl, ?_⟩
      refine s_yes (i_t ?_)
      walk_at "sx"
      refine c_take F' (by decide) (by decide) (fun d H2 l u F2 K2 => ?_)
      obtain ⟨c, rfl⟩ := Int.eq_ofNat_of_zero_le l
      have h2 := K2 _ _ aD.symm (hd trivial)
      refine ⟨_, h2, by rw [List.length_map, lj, sizeLine_eq]; omega, F2.keep (put_keep rfl) aD, keep_new (K'.trans K2) hD (put_keep rfl), js ++ [c], fun _ => by rw [upd_same, List.map_append]; rfl, by rw [List.length_append, lj]; rfl, fun j hj => ?_⟩
      rcases List.mem_append.mp hj with h | h
      · exact bj j h
      · rw [List.mem_singleton.mp h]
        omega
    · rintro H' ⟨F', K', js, hd, lj, bj⟩
      walk_at "sx"
      refine ⟨D, _, rfl, .inl ⟨SqL.of (hd trivial), fun p np => ?_⟩⟩
      have s2 : Same H' (upd H' p (.tup (js.map nv))) := Same.new np
      exact k p js _ (F'.ne np).symm (F'.same s2) (K'.trans (Keep.same s2)) upd_same lj bj
def spLLot : Sp := fun vs H Q _ => ∃ (a : Addr) (n : Nat), vs = [.ref a, .int n] ∧ Flow H a ∧ n ≤ 8 ∧ ∀ (p : Addr) (js : List Nat) H', p ≠ a → Flow H' a → Keep a H H' → Ns H' p js → js.Pairwise (· < ·) → (∀ j ∈ js, j < n) → js.length ≤ n → Q (.ref p) H'
theorem ok_dLot (T : Txt P K mg A) : FnOk P w K mg base CX0 2 A.a__law_lot A.d__law_lot ["flow", "size"] spLLot := by
  refine T.F__law_lot.ok sc__law_lot (fun vs H Q E h => ?_) (fun cdv A' outer s H vs Q E hr h => ?_)
  · obtain ⟨a, n, rfl, _⟩ := h
    rfl
  · obtain ⟨a, n, rfl, hF, sn, k⟩ := h
    have G__law_take := ok_take (w := w) (base := base) T
    refine ⟨_, (pss_one (ps_ret (pe_callTy call_tuple_of (by rfl) T.n_tuple (by decide +kernel) (pa_cons (pe_lc (own := [("k", 2)]) (g := (gName 2)) (by rfl) sc__law_lot.nd (pi_range1 rfl T.n_range (pa_cons (pv 1) pa_nil)) (blkOk_by (own := [("k", 2)]) (N := ["flow", "size", "k"]) (sc := defScope s__law_lot) (by decide +kernel)) (fun _ _ _ _ _ => (pg_name (i := 2) sc__law_lot.nd rfl (Or.inl rfl))) (fun _ _ _ _ _ => pts_one (pt_cmpR op_eq (pe_call G__law_take (hr.mono (by decide)) rfl T.g__law_take T.F__law_take.kp (B__law_take T) .nil pass0 (pa_cons (pv 0) (pa_cons pe_int pa_nil))) pe_int (nomark _))) (fun _ _ _ _ _ => (pv 2))) pa_nil)))), ?_⟩
    walk_at "sx"
    refine ⟨_, rfl, _, rfl, by omega, by omega, fun D hD => lc_range (lo := 0) (n := n) (fun i H' => Flow H' a ∧ Keep a H H' ∧ ∃ js : List Nat, (True → H' D = some (.lst (js.map nv))) ∧ js.Pairwise (· < ·) ∧ (∀ j ∈ js, j < i) ∧ js.length ≤ i) ⟨hF.same (Same.new hD), Keep.same (Same.new hD), [], fun _ => upd_same, .nil, (fun j (h : j ∈ []) => by cases h), Nat.le_refl _⟩ ?_ ?_⟩
    · rintro i H' hi ⟨F', K', js, hd, pw, bj, lj⟩
      have aD : a ≠ D := hF.ne hD
      refine s_name ⟨rfl, ?_⟩
      walk_at "sx"
      refine c_take F' (by decide) (by decide) (fun d H2 l u F2 K2 => ?_)
      have h2 := K2 _ _ aD.symm (hd trivial)
      walk_at "sx"
      refine i_2 (fun c3 => ?_) (fun c3 => ?_)
      · refine s_var rfl ?_
        rw [Int.zero_add]
        refine ⟨_, h2, by rw [List.length_map, sizeLine_eq]; omega, F2.keep (put_keep rfl) aD, keep_new (K'.trans K2) hD (put_keep rfl), js ++ [i], fun _ => by rw [upd_same, List.map_append]; rfl, ?_, fun m hm' => ?_, by simp; omega⟩
        · rw [List.pairwise_append]
          refine ⟨pw, List.pairwise_singleton _ _, fun x hx y hy => ?_⟩
          rw [List.mem_singleton.mp hy]
          exact bj x hx
        · rcases List.mem_append.mp hm' with h | h
          · have := bj m h
            omega
          · rw [List.mem_singleton.mp h]
            omega
      · exact ⟨F2, K'.trans K2, js, fun _ => h2, pw, fun m hm' => Nat.lt_succ_of_lt (bj m hm'), by omega⟩
    · rintro H' ⟨F', K', js, hd, pw, bj, lj⟩
      walk_at "sx"
      refine ⟨D, _, rfl, .inl ⟨SqL.of (hd trivial), fun p np => ?_⟩⟩
      have s2 : Same H' (upd H' p (.tup (js.map nv))) := Same.new np
      exact k p js _ (F'.ne np).symm (F'.same s2) (K'.trans (Keep.same s2)) upd_same pw bj lj
def spTruth : Sp := fun vs H Q _ => ∃ b : Bool, vs = [.bl b, .bl b] ∧ Q (.bl true) H
theorem ok_truth (T : Txt P K mg A) : FnOk P w K mg base CX0 1 A.a__law_truth A.d__law_truth ["actual", "due"] spTruth := by
  refine T.F__law_truth.ok sc__law_truth (fun vs H Q E h => ?_) (fun cdv A' outer s H vs Q E hr h => ?_)
  · obtain ⟨b, rfl, _⟩ := h
    rfl
  · obtain ⟨b, rfl, k⟩ := h
    refine ⟨_, (pss_cons (ps_if (pt_val (pv 1)) (pss_one (ps_ret (pe_cmpR op_isBl (pv 0) pe_bl (nomark _)))) pss_nil)
  (pss_one (ps_ret (pe_cmpR op_isBl (pv 0) pe_bl (nomark _))))), ?_⟩
    cases b
    · walk_at "sx"
      exact k
    · walk_at "sx"
      exact k
/-- the values of a row at the points of a lot -/
def readN (r js : List Nat) : List Nat := js.map fun j => r.getD j 0
def spRead : Sp := fun vs H Q _ => ∃ (p q : Addr) (r js : List Nat), vs = [.ref p, .ref q] ∧ Ns H p r ∧ Ns H q js ∧ (∀ j ∈ js, j < r.length) ∧ js.length < 1000 ∧ ∀ (a : Addr) H', Same H H' → Ns H' a (readN r js) → Q (.ref a) H'
theorem ok_read (T : Txt P K mg A) : FnOk P w K mg base CX0 1 A.a_read_at A.d_read_at ["row", "lot"] spRead := by
  refine T.F_read_at.ok sc_read_at (fun vs H Q E h => ?_) (fun cdv A' outer s H vs Q E hr h => ?_)
  · obtain ⟨p, q, r, js, rfl, _⟩ := h
    rfl
  · obtain ⟨p, q, r, js, rfl, hp0, hq0, bj, lj, k⟩ := h
    have hp : True → Ns H p r := fun _ => hp0
    have hq : True → Ns H q js := fun _ => hq0
    clear hp0 hq0
    refine ⟨_, (pss_one (ps_ret (pe_callTy call_tuple_of (by rfl) T.n_tuple (by decide +kernel) (pa_cons (pe_lc (own := [("point", 2)]) (g := (gName 2)) (by rfl) sc_read_at.nd (pi_tup (pv 1)) (blkOk_by (own := [("point", 2)]) (N := ["row", "lot", "point"]) (sc := defScope s_read_at) (by decide +kernel)) (fun _ _ _ _ _ => (pg_name (i := 2) sc_read_at.nd rfl (Or.inl rfl))) (fun _ _ _ _ _ => pts_nil) (fun _ _ _ _ _ => (pe_ix (r := rIx K) ix_seq (pv 0) (pv 2) (fun _ _ => rfl)))) pa_nil)))), ?_⟩
    walk_at "sx"
    refine ⟨_, rfl, q, rfl, ⟨_, SqT.of (hq trivial)⟩, fun D hD => lc_tup (K := K) (a := q) (xs := js.map nv) (fun i H' => Same H H' ∧ H' D = some (.lst ((readN r (js.take i)).map nv))) ⟨Same.new hD, upd_same⟩ (fun i H' _ h => SqT.of (h.1 _ _ (hq trivial))) ?_ ?_⟩
    · rintro i x H' hx ⟨s', hD'⟩
      obtain ⟨j, hj, rfl⟩ : ∃ j, js[i]? = some j ∧ nv j = x := by
        rw [List.getElem?_map] at hx
        exact Option.map_eq_some_iff.mp hx
      have b := bj j (List.mem_of_getElem? hj)
      refine s_name ⟨rfl, ?_⟩
      refine s_yes (i_t ?_)
      walk_at "sx"
      refine r_ixT (s' _ _ (hp trivial)) (v := nv (r.getD j 0)) (atI_nat (by rw [List.getElem?_map, List.getElem?_eq_getElem b]; simp [b])) ?_
      refine ⟨_, hD', ?_, Sx.Same.put s' hD, ?_⟩
      · rw [List.length_map]
        unfold readN
        rw [List.length_map, List.length_take, sizeLine_eq]
        omega
      · unfold readN
        rw [upd_same, List.take_succ, hj]
        simp
    · rintro H' ⟨s', hD'⟩
      rw [List.length_map, List.take_length] at hD'
      walk_at "sx"
      refine ⟨D, _, rfl, .inl ⟨SqL.of hD', fun a na => ?_⟩⟩
      exact k a _ (s'.trans (Same.new na)) upd_same
end
end K04

set_option Elab.async false
set_option linter.all false
set_option maxRecDepth 100000
set_option maxHeartbeats 4000000
namespace K04
open PySem L2 Sx
local macro_rules | `(tactic| walk_at "cond") => `(tactic| first
  | assumption
  | decide
  | exact c_mul_r (by first | decide | omega) (by first | decide | omega)
  | exact c_mul_l (by first | decide | omega) (by first | decide | omega)
  | exact c_div (by first | decide | omega) (by first | decide | omega)
  | exact c_pow (by first | decide | omega) (by first | decide | omega) (by first | decide | omega)
  | omega)
local macro_rules | `(tactic| walk_at "ne") => `(tactic| first
  | assumption
  | (refine Ne.symm ?_; assumption)
  | (refine' Flow.ne ?nh ?nn; (case nn => assumption); (case nh => walk_at "fl"))
  | (refine Ne.symm ?_; refine' Flow.ne ?nh ?nn; (case nn => assumption); (case nh => walk_at "fl"))
  | (refine' ne_of_none ?nh ?nn; (case nn => assumption); (case nh => walk_at "at"))
  | (refine Ne.symm ?_; refine' ne_of_none ?nh ?nn; (case nn => assumption); (case nh => walk_at "at")))
local macro_rules | `(tactic| walk_at "at") => `(tactic| first
  | assumption
  | (refine Same.up (by assumption) ?_; walk_at "at")
  | (refine Keep.up (by assumption) (by walk_at "ne") ?_; walk_at "at"))
local macro_rules | `(tactic| walk_at "fl") => `(tactic| first
  | assumption
  | (refine Flow.same (by assumption) ?_; walk_at "fl")
  | (refine Flow.keep (by assumption) (by walk_at "ne") ?_; walk_at "fl"))
local macro_rules | `(tactic| walk_at "fr") => `(tactic| first
  | assumption
  | (refine same_free (by assumption) ?_; walk_at "fr")
  | (refine Keep.free (by assumption) (by walk_at "ne") ?_; walk_at "fr"))
local macro_rules | `(tactic| walk_at "kp") => `(tactic| first
  | assumption
  | exact Keep.refl _ _
  | (refine Keep.trans ?_ (by assumption); walk_at "kp")
  | (refine Keep.trans ?_ (Keep.same (by assumption)); walk_at "kp"))
local macro_rules | `(tactic| walk_at "sm") => `(tactic| first
  | assumption
  | exact L2.Same.refl _
  | (refine L2.Same.trans ?_ (by assumption); walk_at "sm"))
local macro_rules | `(tactic| walk_at "sz") => `(tactic| first | exact Nat.le_of_ble_eq_true rfl | omega)
local macro_rules | `(tactic| walk_at "new") => `(tactic| (intro p np; generalize hE : upd _ p _ = H2; have s2 := new_same np hE; have h2 := new_at hE; clear hE))
local macro_rules | `(tactic| walk_at "newx") => `(tactic| (intro e d na nd hda; generalize hE : upd (upd _ d _) e _ = H2; have s2 := newx_same na nd hE; have h2 := newx_at hE; have h3 := newx_d hda hE; clear hE))
local macro_rules | `(tactic| walk_at "s1") => `(tactic| first
  | with_reducible refine s_seq ?_
  | with_reducible refine s_asg ?_
  | with_reducible refine s_name ?_
  | with_reducible refine s_ret ?_
  | with_reducible refine s_c ?_
  | ((with_reducible refine' s_var ?hv ?_); (case hv => rfl))
  | with_reducible refine s_op ?_
  | with_reducible refine s_un ?_
  | with_reducible refine s_ifS ?_
  | with_reducible refine s_cb ?_
  | with_reducible refine s_cons ?_
  | with_reducible refine s_nil ?_
  | with_reducible refine s_call ?_
  | with_reducible refine s_test ?_
  | with_reducible refine s_tB ?_
  | with_reducible refine s_bl ?_
  | with_reducible refine s_and ?_
  | with_reducible refine s_or ?_
  | with_reducible refine s_not ?_
  | with_reducible refine s_andV ?_
  | with_reducible refine s_orV ?_
  | with_reducible refine s_notV ?_
  | with_reducible refine s_blV ?_
  | with_reducible refine s_if ?_
  | with_reducible refine s_tup ?_
  | with_reducible refine s_lst ?_
  | with_reducible refine s_drop ?_
  | with_reducible refine s_next ?_
  | with_reducible refine s_sub ?_
  | with_reducible refine s_bm ?_
  | with_reducible refine s_callK ?_
  | with_reducible refine s_brk ?_
  | with_reducible refine s_cont ?_
  | with_reducible refine r_I0 ?_
  | with_reducible refine r_U ?_
  | with_reducible refine r_eqI ?_
  | with_reducible refine r_neI ?_
  | with_reducible refine r_isB ?_
  | with_reducible refine r_notB ?_
  | with_reducible refine i_t ?_
  | with_reducible refine i_f ?_
  | with_reducible refine i_nt ?_
  | with_reducible refine i_nf ?_
  | ((with_reducible refine' r_I ?hc ?_); (case hc => walk_at "cond"))
  | (with_reducible refine .inl ⟨_, rfl, ?_⟩)
  | (with_reducible refine ⟨_, rfl, ?_⟩)
  | ((with_reducible refine' r_ixL ?hx ?ha ?_); (case hx => walk_at "at"); (case ha => rfl))
  | ((with_reducible refine' r_ixT ?hx ?ha ?_); (case hx => walk_at "at"); (case ha => rfl))
  | ((with_reducible refine' r_setL ?hx ?ha ?_); (case hx => walk_at "at"); (case ha => rfl); intro H2 k2 h2; (try dsimp only [List.set, Int.toNat] at h2))
  | ((with_reducible refine' r_app ?hx ?hl ?_); (case hx => walk_at "at"); (case hl => first | exact Nat.lt_of_ble_eq_true rfl | omega); intro H2 k2 h2)
  | ((with_reducible refine' ty_list ?hx ?_); (case hx => walk_at "at"))
  | (refine And.intro (by (with_reducible show _ ≤ sizeLine); walk_at "sz") ?_; walk_at "new")
  | with_reducible refine s_exv ?_
  | walk_at "newx")
local macro_rules | `(tactic| walk_at "sx") => `(tactic| repeat (walk_at "s1"))
local macro_rules | `(tactic| walk_at "s2") => `(tactic| first
  | ((with_reducible refine' r_ixG ?hx ?hn ?_); (case hx => walk_at "at"); (case hn => omega))
  | ((with_reducible refine' r_ixGT ?hx ?hn ?_); (case hx => walk_at "at"); (case hn => omega))
  | (with_reducible refine ig_cons (fun hix => ?_) (fun hix => ?_))
  | ((with_reducible refine ig_nil ?_); omega)
  | ((with_reducible refine' i_T ?hc ?_); (case hc => omega))
  | ((with_reducible refine' i_F ?hc ?_); (case hc => omega))
  | (with_reducible refine i_2 (fun hc => ?_) (fun hc => ?_))
  | (with_reducible refine i_n2 (fun hc => ?_) (fun hc => ?_)))
local macro_rules | `(tactic| walk_at "go") => `(tactic| repeat' (first | walk_at "s1" | walk_at "s2"))

local macro_rules | `(tactic| walk_at "s1") => `(tactic| first
  | with_reducible refine s_chain ?_
  | with_reducible refine s_fldS ?_
  | with_reducible refine s_fld ?_
  | with_reducible refine s_dIn ?_
  | with_reducible refine s_dNotIn ?_
  | with_reducible refine s_sl ?_
  | with_reducible refine s_noPart ?_
  | with_reducible refine s_part ?_
  | with_reducible refine s_meth ?_
  | with_reducible refine s_make ?_)

abbrev All : Addr → Prop := fun _ => True
section
variable {P : Program} {w : World} {K : PySem.W.Frag} {mg : Str → Option Value} {base : Heap} {A : Ad}
/-- elements of which one may ask whether they are ints -/
def Es (K : PySem.W.Frag) (H : Hp) (xs : List V) : Prop := ∀ x ∈ xs, NI K H x
theorem es_nats {H : Hp} (js : List Nat) : Es K H (js.map nv) := fun x hx => by
  obtain ⟨n, _, rfl⟩ := List.mem_map.mp hx
  exact ni_int _
theorem es_app {H : Hp} {ys zs : List V} (a : Es K H ys) (b : Es K H zs) : Es K H (ys ++ zs) := fun x hx => (List.mem_append.mp hx).elim (a x) (b x)
theorem es_one {H : Hp} {x : V} (a : NI K H x) : Es K H [x] := fun y hy => by
  rw [List.mem_singleton.mp hy]
  exact a
/-- a value one may ask, its kind known -/
def GW (K : PySem.W.Frag) (H : Hp) (v : V) : Prop := (Kn K H All v ∧ isT H v = false) ∨ ∃ p xs, v = .ref p ∧ H p = some (.tup xs) ∧ Es K H xs ∧ xs.length < 1000
theorem GW.gv {H : Hp} {v : V} (h : GW K H v) : GV K H v := by
  rcases h with ⟨k, e⟩ | h
  · exact .inl ⟨by have z := in_tK k; rw [e] at z; exact z, e⟩
  · exact .inr h
theorem GW.same {H H' : Hp} (e : Same H H') {v : V} (h : GW K H v) : GW K H' v := by
  rcases h with ⟨k, t⟩ | ⟨p, xs, rfl, hp, es, sz⟩
  · refine .inl ⟨k.up (fun _ _ => trivial) fun b o _ q => e _ _ q, ?_⟩
    cases k with
    | lst h _ => exact isT_of (e _ _ h)
    | tup h _ =>
      rw [isT_of h] at t
      cases t
    | exc ha _ _ _ _ => exact isT_of (e _ _ ha)
    | _ => rfl
  · exact .inr ⟨p, xs, rfl, e _ _ hp, fun x hx => ni_same e (es x hx), sz⟩
theorem gv_tup {H : Hp} {p : Addr} {xs : List V} (h : H p = some (.tup xs)) (e : Es K H xs) (sz : xs.length < 1000) : GW K H (.ref p) := .inr ⟨p, xs, rfl, h, e, sz⟩
theorem gv_kn {H : Hp} {x : V} (k : Kn K H All x) (h : isT H x = false) : GW K H x := .inl ⟨k, h⟩
theorem gv_lst {H : Hp} {p : Addr} {xs : List V} (h : H p = some (.lst xs)) : GW K H (.ref p) := gv_kn (.lst h trivial) (isT_of h)
theorem r_cut {H : Hp} {Q : VK} {p : Addr} {xs : List V} {lo hi : Option Int} (h : H p = some (.tup xs)) (q : ∀ p' H2 ys, Same H H2 → H2 p' = some (.tup ys) → (∀ y ∈ ys, y ∈ xs) → ys.length ≤ xs.length → Q (.ref p') H2) : rSlA K (.ref p) lo hi H Q := by
  have sub : ∀ y ∈ cutV xs lo hi, y ∈ xs := fun y hy => List.mem_of_mem_drop (List.mem_of_mem_take hy)
  refine ⟨p, xs, rfl, SqT.of h, fun z => q p H xs (L2.Same.refl H) h (fun y hy => hy) (Nat.le_refl _), fun _ p' np => q p' _ _ (Sx.Same.new np) upd_same sub (cutV_length xs lo hi)⟩
def spPut : Sp := fun vs H Q _ => ∃ (p : Addr) (i : Int) (x : V) (xs : List V), vs = [.ref p, .int i, x] ∧ H p = some (.tup xs) ∧ xs.length < 100 ∧ ∀ (q : Addr) (ys : List V) H', Same H H' → H' q = some (.tup ys) → (∀ y ∈ ys, y ∈ xs ∨ y = x) → ys.length < 300 → Q (.ref q) H'
theorem ok_put (T : Txt P K mg A) : FnOk P w K mg base CX0 1 A.a__law_put A.d__law_put ["value", "at", "part"] spPut := by
  refine T.F__law_put.ok sc__law_put (fun vs H Q E h => ?_) (fun cdv A' outer s H vs Q E hr h => ?_)
  · obtain ⟨p, i, x, xs, rfl, _⟩ := h
    rfl
  · obtain ⟨p, i, x, xs, rfl, hp0, sz, k⟩ := h
    have hp : True → H p = some (.tup xs) := fun _ => hp0
    clear hp0
    refine ⟨_, (pss_one (ps_ret (pe_op op_catA (pe_op op_catA (pe_slice sl_tupA (pv 0) po_none (po_some (pv 1))) (pe_tup (pa_cons (pv 2) pa_nil))) (pe_slice sl_tupA (pv 0) (po_some (pe_op op_add (pv 1) pe_int)) po_none)))), ?_⟩
    walk_at "sx"
    refine r_cut (hp trivial) fun p1 H2 ys s2 h2 m2 n2 => ?_
    walk_at "sx"
    rename_i p3 m3 H3 s3 h3
    refine r_cat (s3 _ _ h2) h3 (by rw [sizeLine_eq]; show _ + 1 ≤ _; omega) fun p4 H4 s4 h4 => ?_
    walk_at "sx"
    have s24 := s2.trans (s3.trans s4)
    refine r_cut (s24 _ _ (hp trivial)) fun p5 H5 zs s5 h5 m5 n5 => ?_
    refine r_cat (s5 _ _ h4) h5 (by rw [sizeLine_eq, List.length_append]; show (_ + 1) + _ ≤ _; omega) fun p6 H6 s6 h6 => ?_
    refine k p6 _ H6 (s24.trans (s5.trans s6)) h6 (fun y hy => ?_) (by rw [List.length_append, List.length_append]; show (_ + 1) + _ < _; omega)
    rcases List.mem_append.mp hy with h | h
    · rcases List.mem_append.mp h with h | h
      · exact .inl (m2 y h)
      · exact .inr (List.mem_singleton.mp h)
    · exact .inl (m5 y h)
theorem c_put {H : Hp} {Q : VK} {E : XK} {p : Addr} {i : Int} {x : V} {xs : List V} (h : H p = some (.tup xs)) (sz : xs.length < 100) (q : ∀ (q : Addr) (ys : List V) H', Same H H' → H' q = some (.tup ys) → (∀ y ∈ ys, y ∈ xs ∨ y = x) → ys.length < 300 → Q (.ref q) H') : spPut ([.ref p, .int i, x] ++ []) H Q E := ⟨p, i, x, xs, rfl, h, sz, q⟩
theorem menu10 {H : Hp} {p l1 t1 e d C : Addr} {xs : List V} {fs : List (Str × V)} {n : Int} (hp : H p = some (.tup xs)) (hl : H l1 = some (.lst [])) (ht : H t1 = some (.tup [.ref p])) (he : H e = some (exo e C (some d))) (hd : H d = some (.xd fs)) (ex : ExK K C) {i : Int} (l : 0 ≤ i) (u : i < 10) :
    ∃ v, atI [V.non, V.bl true, V.int n, V.str (Str.ofString ""), V.str (Str.ofString "01"), V.ref l1, V.str (Str.ofString "0"), V.ref t1, V.int (-1), V.ref e] i = some v ∧ GW K H v := by
  have h : i = 0 ∨ i = 1 ∨ i = 2 ∨ i = 3 ∨ i = 4 ∨ i = 5 ∨ i = 6 ∨ i = 7 ∨ i = 8 ∨ i = 9 := by omega
  rcases h with rfl | rfl | rfl | rfl | rfl | rfl | rfl | rfl | rfl | rfl
  · exact ⟨_, rfl, gv_kn .non rfl⟩
  · exact ⟨_, rfl, gv_kn (.bl _) rfl⟩
  · exact ⟨_, rfl, gv_kn (.int _) rfl⟩
  · exact ⟨_, rfl, gv_kn (.str _) rfl⟩
  · exact ⟨_, rfl, gv_kn (.str _) rfl⟩
  · exact ⟨_, rfl, gv_lst hl⟩
  · exact ⟨_, rfl, gv_kn (.str _) rfl⟩
  · exact ⟨_, rfl, gv_tup ht (es_one (ni_kn (B := All) (.tup hp trivial))) (show 1 < 1000 by decide)⟩
  · exact ⟨_, rfl, gv_kn (.int _) rfl⟩
  · exact ⟨_, rfl, gv_kn (.exc he hd ex trivial trivial) (isT_of he)⟩
theorem menu4 {H : Hp} {t0 t1 t2 t3 t4 : Addr} (h0 : H t0 = some (.tup [.int 0])) (h1 : H t1 = some (.tup [.int 1])) (h2 : H t2 = some (.tup [.bl true])) (h3 : H t3 = some (.tup [])) (h4 : H t4 = some (.tup [.ref t3])) {i : Int} (l : 0 ≤ i) (u : i < 4) :
    ∃ v, atI [V.ref t0, V.ref t1, V.ref t2, V.ref t4] i = some v ∧ GW K H v := by
  have h : i = 0 ∨ i = 1 ∨ i = 2 ∨ i = 3 := by omega
  rcases h with rfl | rfl | rfl | rfl
  · exact ⟨_, rfl, gv_tup h0 (es_one (ni_int _)) (show 1 < 1000 by decide)⟩
  · exact ⟨_, rfl, gv_tup h1 (es_one (ni_int _)) (show 1 < 1000 by decide)⟩
  · exact ⟨_, rfl, gv_tup h2 (es_one (ni_kn (B := All) (.bl _))) (show 1 < 1000 by decide)⟩
  · exact ⟨_, rfl, gv_tup h4 (es_one (ni_kn (B := All) (.tup h3 trivial))) (show 1 < 1000 by decide)⟩
theorem menu5 {a b c d e : Int} {i : Int} (l : 0 ≤ i) (u : i < 5) : ∃ j : Int, atI [V.int a, V.int b, V.int c, V.int d, V.int e] i = some (.int j) := by
  have h : i = 0 ∨ i = 1 ∨ i = 2 ∨ i = 3 ∨ i = 4 := by omega
  rcases h with rfl | rfl | rfl | rfl | rfl <;> exact ⟨_, rfl⟩
theorem menu7 {H : Hp} {t0 t1 l1 e d C : Addr} {fs : List (Str × V)} (h0 : H t0 = some (.tup [.int 0])) (h1 : H t1 = some (.tup [])) (hl : H l1 = some (.lst [.int 1])) (he : H e = some (exo e C (some d))) (hd : H d = some (.xd fs)) (ex : ExK K C) {i : Int} (l : 0 ≤ i) (u : i < 7) :
    ∃ v, atI [V.non, V.str (Str.ofString "0"), V.str (Str.ofString "1"), V.ref t0, V.ref t1, V.ref l1, V.ref e] i = some v ∧ NI K H v := by
  have h : i = 0 ∨ i = 1 ∨ i = 2 ∨ i = 3 ∨ i = 4 ∨ i = 5 ∨ i = 6 := by omega
  rcases h with rfl | rfl | rfl | rfl | rfl | rfl | rfl
  · exact ⟨_, rfl, ni_kn (B := All) .non⟩
  · exact ⟨_, rfl, ni_kn (B := All) (.str _)⟩
  · exact ⟨_, rfl, ni_kn (B := All) (.str _)⟩
  · exact ⟨_, rfl, ni_kn (B := All) (.tup h0 trivial)⟩
  · exact ⟨_, rfl, ni_kn (B := All) (.tup h1 trivial)⟩
  · exact ⟨_, rfl, ni_kn (B := All) (.lst hl trivial)⟩
  · exact ⟨_, rfl, ni_kn (B := All) (.exc he hd ex trivial trivial)⟩
def spSpoilt (K : PySem.W.Frag) : Sp := fun vs H Q _ => ∃ (a p : Addr) (js : List Nat) (n : Nat), vs = [.ref a, .ref p, .int n] ∧ Flow H a ∧ Ns H p js ∧ p ≠ a ∧ js.length ≤ 8 ∧ ∀ v H', Flow H' a → Keep a H H' → GW K H' v → Q v H'
theorem ok_spoilt (T : Txt P K mg A) : FnOk P w K mg base CX0 2 A.a__law_spoilt A.d__law_spoilt ["flow", "value", "size"] (spSpoilt K) := by
  refine T.F__law_spoilt.ok sc__law_spoilt (fun vs H Q E h => ?_) (fun cdv A' outer s H vs Q E hr h => ?_)
  · obtain ⟨a, p, js, n, rfl, _⟩ := h
    rfl
  · obtain ⟨a, p, js, n, rfl, hF, hp0, npa, sz, k⟩ := h
    have G__law_take := ok_take (w := w) (base := base) T
    have G__law_put := ok_put (w := w) (base := base) T
    have EX := T.E_InvalidNumber
    have hp : True → H p = some (.tup (js.map nv)) := fun _ => hp0
    have lm : (js.map nv).length ≤ 8 := by rw [List.length_map]; exact sz
    clear hp0
    refine ⟨_, (pss_cons (ps_set (i := 3) sc__law_spoilt.nd rfl (Or.inl rfl) (pe_call G__law_take (hr.mono (by decide)) rfl T.g__law_take T.F__law_take.kp (B__law_take T) .nil pass0 (pa_cons (pv 0) (pa_cons pe_int pa_nil))))
  (pss_cons (ps_set (i := 4) sc__law_spoilt.nd rfl (Or.inl rfl) (pe_call G__law_take (hr.mono (by decide)) rfl T.g__law_take T.F__law_take.kp (B__law_take T) .nil pass0 (pa_cons (pv 0) (pa_cons (pe_callB (call_max2 rfl) (by rfl) T.n_max (by decide +kernel) (pa_cons pe_int (pa_cons (pe_callB call_len (by rfl) T.n_len (by decide +kernel) (pa_cons (pv 1) pa_nil)) pa_nil))) pa_nil))))
  (pss_cons (ps_if (pt_cmpR op_lt (pv 3) pe_int (nomark _)) (pss_one (ps_ret (pv 1))) pss_nil)
  (pss_cons (ps_if (pt_cmpR op_eq (pv 3) pe_int (nomark _)) (pss_one (ps_ret (pe_callTy call_list_of (by rfl) T.n_list (by decide +kernel) (pa_cons (pv 1) pa_nil)))) pss_nil)
  (pss_cons (ps_if (pt_cmpR op_eq (pv 3) pe_int (nomark _)) (pss_one (ps_ret (pe_op op_catA (pv 1) (pe_tup (pa_cons (pe_call G__law_take (hr.mono (by decide)) rfl T.g__law_take T.F__law_take.kp (B__law_take T) .nil pass0 (pa_cons (pv 0) (pa_cons pe_int pa_nil))) pa_nil))))) pss_nil)
  (pss_cons (ps_if (pt_cmpR op_eq (pv 3) pe_int (nomark _)) (pss_one (ps_ret (pe_op op_catA (pe_slice sl_tupA (pv 1) po_none (po_some (pv 4))) (pe_slice sl_tupA (pv 1) (po_some (pe_op op_add (pv 4) pe_int)) po_none)))) pss_nil)
  (pss_cons (ps_if (pt_cmpR op_eq (pv 3) pe_int (nomark _)) (pss_one (ps_ret (pe_ix ix_seq (pe_lst (pa_cons pe_non (pa_cons pe_bl (pa_cons (pv 2) (pa_cons pe_str (pa_cons pe_str (pa_cons (pe_lst pa_nil) (pa_cons pe_str (pa_cons (pe_tup (pa_cons (pv 1) pa_nil)) (pa_cons (pe_un un_neg pe_int) (pa_cons (Sup_value.pe_supV T.X_InvalidNumber hr (pa_cons pe_int pa_nil)) pa_nil))))))))))) (pe_call G__law_take (hr.mono (by decide)) rfl T.g__law_take T.F__law_take.kp (B__law_take T) .nil pass0 (pa_cons (pv 0) (pa_cons pe_int pa_nil))) (fun _ _ => rfl)))) pss_nil)
  (pss_cons (ps_if (pt_cmpR op_eq (pv 3) pe_int (nomark _)) (pss_one (ps_ret (pe_op op_catA (pv 1) (pe_tup (pa_cons (pv 2) pa_nil))))) pss_nil)
  (pss_cons (ps_if (pt_cmpR op_eq (pv 3) pe_int (nomark _)) (pss_one (ps_ret (pe_revT (pv 1)))) pss_nil)
  (pss_cons (ps_if (pt_cmpR op_eq (pv 3) pe_int (nomark _)) (pss_one (ps_ret (pe_op op_catA (pe_slice sl_tupA (pv 1) po_none (po_some (pe_op op_add (pv 4) pe_int))) (pe_slice sl_tupA (pv 1) (po_some (pv 4)) po_none)))) pss_nil)
  (pss_cons (ps_if (pt_cmpR op_eq (pe_callB call_len (by rfl) T.n_len (by decide +kernel) (pa_cons (pv 1) pa_nil)) pe_int (nomark _)) (pss_one (ps_ret (pe_ix ix_seq (pe_lst (pa_cons (pe_tup (pa_cons pe_int pa_nil)) (pa_cons (pe_tup (pa_cons pe_int pa_nil)) (pa_cons (pe_tup (pa_cons pe_bl pa_nil)) (pa_cons (pe_tup (pa_cons (pe_tup pa_nil) pa_nil)) pa_nil))))) (pe_call G__law_take (hr.mono (by decide)) rfl T.g__law_take T.F__law_take.kp (B__law_take T) .nil pass0 (pa_cons (pv 0) (pa_cons pe_int pa_nil))) (fun _ _ => rfl)))) pss_nil)
  (pss_cons (ps_if (pt_cmpR op_eq (pv 3) pe_int (nomark _)) (pss_one (ps_ret (pe_call G__law_put (hr.mono (by decide)) rfl T.g__law_put T.F__law_put.kp (B__law_put T) .nil pass0 (pa_cons (pv 1) (pa_cons (pv 4) (pa_cons (pe_cmpR op_eq (pe_ix ix_seq (pv 1) (pv 4) (fun _ _ => rfl)) pe_int (nomark _)) pa_nil)))))) pss_nil)
  (pss_cons (ps_if (pt_cmpR op_eq (pv 3) pe_int (nomark _)) (pss_one (ps_ret (pe_call G__law_put (hr.mono (by decide)) rfl T.g__law_put T.F__law_put.kp (B__law_put T) .nil pass0 (pa_cons (pv 1) (pa_cons (pv 4) (pa_cons (pe_ix ix_seq (pe_lst (pa_cons pe_int (pa_cons (pe_un un_neg pe_int) (pa_cons (pv 2) (pa_cons pe_int (pa_cons (pe_op op_add (pe_ix ix_seq (pv 1) (pv 4) (fun _ _ => rfl)) pe_int) pa_nil)))))) (pe_call G__law_take (hr.mono (by decide)) rfl T.g__law_take T.F__law_take.kp (B__law_take T) .nil pass0 (pa_cons (pv 0) (pa_cons pe_int pa_nil))) (fun _ _ => rfl)) pa_nil)))))) pss_nil)
  (pss_cons (ps_if (pt_cmpR op_eq (pv 3) pe_int (nomark _)) (pss_one (ps_ret (pe_call G__law_put (hr.mono (by decide)) rfl T.g__law_put T.F__law_put.kp (B__law_put T) .nil pass0 (pa_cons (pv 1) (pa_cons (pv 4) (pa_cons (pe_ix ix_seq (pe_lst (pa_cons pe_non (pa_cons pe_str (pa_cons pe_str (pa_cons (pe_tup (pa_cons pe_int pa_nil)) (pa_cons (pe_tup pa_nil) (pa_cons (pe_lst (pa_cons pe_int pa_nil)) (pa_cons (Sup_value.pe_supV T.X_InvalidNumber hr (pa_cons pe_int pa_nil)) pa_nil)))))))) (pe_call G__law_take (hr.mono (by decide)) rfl T.g__law_take T.F__law_take.kp (B__law_take T) .nil pass0 (pa_cons (pv 0) (pa_cons pe_int pa_nil))) (fun _ _ => rfl)) pa_nil)))))) pss_nil)
  (pss_one (ps_ret (pe_call G__law_put (hr.mono (by decide)) rfl T.g__law_put T.F__law_put.kp (B__law_put T) .nil pass0 (pa_cons (pv 1) (pa_cons pe_int (pa_cons (pe_un un_neg pe_int) pa_nil)))))))))))))))))))), ?_⟩
    walk_at "sx"
    refine c_take hF (by decide) (by decide) (fun d1 H0 l1 u1 F0 K0 => ?_)
    have hp0 : True → H0 p = some (.tup (js.map nv)) := fun _ => K0 _ _ npa (hp trivial)
    walk_at "sx"
    refine ⟨_, _, rfl, .inr ⟨_, SqT.of (hp0 trivial), rfl⟩, ?_⟩
    walk_at "sx"
    refine ⟨_, _, rfl, ?_⟩
    obtain ⟨mx, emx, m1, m2, m3⟩ : ∃ mx : Int, mx = (if ((js.map nv).length : Int) > 1 then ((js.map nv).length : Int) else 1) ∧ 1 ≤ mx ∧ mx ≤ 8 ∧ (js ≠ [] → mx = js.length) := ⟨_, rfl, by split <;> omega, by split <;> omega, fun ne => by
      have := List.length_pos_iff.mpr ne
      rw [List.length_map]
      split <;> omega⟩
    rw [← emx]
    clear emx
    walk_at "sx"
    refine c_take F0 (by omega) (by omega) fun d Hd ld ud Fd Kd => ?_
    obtain ⟨j, rfl⟩ : ∃ j : Nat, d = (j : Int) := ⟨d.toNat, by omega⟩
    have hpd : True → Hd p = some (.tup (js.map nv)) := fun _ => Kd _ _ npa (hp0 trivial)
    have Kd0 : Keep a H Hd := K0.trans Kd
    have en : ∀ {H' : Hp} {ys : List V}, (∀ y ∈ ys, y ∈ js.map nv) → Es K H' ys := fun {H' ys} s x hx => es_nats js x (s x hx)
    have fin : ∀ {v : V} {H' : Hp}, Same Hd H' → GW K H' v → Q v H' := fun {v H'} s g => k v H' (Fd.same s) (Kd0.trans (Keep.same s)) g
    walk_at "sx"
    refine i_2 (fun c0 => ?_) (fun c0 => ?_)
    · walk_at "sx"
      exact fin (L2.Same.refl _) (gv_tup (hpd trivial) (es_nats js) (by omega))
    walk_at "sx"
    refine i_2 (fun c4 => ?_) (fun c4 => ?_)
    · walk_at "sx"
      refine ⟨p, _, rfl, .inr (SqT.of (hpd trivial)), fun l nl => ?_⟩
      exact fin (Same.new nl) (gv_lst upd_same)
    walk_at "sx"
    refine i_2 (fun c5 => ?_) (fun c5 => ?_)
    · walk_at "sx"
      refine c_take Fd (by decide) (by decide) fun d2 H2 l2 u2 F2 K2 => ?_
      walk_at "sx"
      rename_i pt mt Gt tt gt
      refine r_cat (tt _ _ (K2 _ _ npa (hpd trivial))) gt (by rw [sizeLine_eq]; show _ + 1 ≤ _; omega) fun p2 H3 s3 h3 => ?_
      exact k _ _ (F2.same (tt.trans s3)) (Kd0.trans (K2.trans (Keep.same (tt.trans s3)))) (gv_tup h3 (es_app (es_nats js) (es_one (ni_int _))) (by rw [List.length_append]; show _ + 1 < _; omega))
    walk_at "sx"
    refine i_2 (fun c6 => ?_) (fun c6 => ?_)
    · walk_at "sx"
      refine r_cut (hpd trivial) fun p1 H2 ys s2 h2 m2 n2 => ?_
      walk_at "sx"
      refine r_cut (s2 _ _ (hpd trivial)) fun p3 H3 zs s3 h3 m3 n3 => ?_
      refine r_cat (s3 _ _ h2) h3 (by rw [sizeLine_eq]; omega) fun p4 H4 s4 h4 => ?_
      exact fin (s2.trans (s3.trans s4)) (gv_tup h4 (es_app (en m2) (en m3)) (by rw [List.length_append]; omega))
    walk_at "sx"
    refine i_2 (fun c7 => ?_) (fun c7 => ?_)
    · walk_at "sx"
      rename_i l1' n1 G1 t1 g1 q2 n2 G2 t2 g2 e d ne' nd hde G3 t3 g3 g3d q4 n4 G4 t4 g4
      have f1 := Fd.same t1
      have f2 := f1.same t2
      have f3 := f2.same t3
      refine c_take (f3.same t4) (by decide) (by decide) fun d2 H2 l2 u2 F2 K2 => ?_
      obtain ⟨v, ev, gv⟩ := menu10 (n := n) (K2 _ _ npa ((t1.trans (t2.trans (t3.trans t4))) _ _ (hpd trivial))) (K2 _ _ (Fd.ne n1).symm ((t2.trans (t3.trans t4)) _ _ g1)) (K2 _ _ (f1.ne n2).symm ((t3.trans t4) _ _ g2)) (K2 _ _ (f2.ne ne').symm (t4 _ _ g3)) (K2 _ _ (f2.ne nd).symm (t4 _ _ g3d)) EX l2 u2
      refine r_ixL (K2 _ _ (f3.ne n4).symm g4) ev ?_
      exact k v H2 F2 (Kd0.trans ((Keep.same (t1.trans (t2.trans (t3.trans t4)))).trans K2)) gv
    walk_at "sx"
    refine i_2 (fun c8 => ?_) (fun c8 => ?_)
    · walk_at "sx"
      rename_i pt mt Gt tt gt
      refine r_cat (tt _ _ (hpd trivial)) gt (by rw [sizeLine_eq]; show _ + 1 ≤ _; omega) fun p2 H3 s3 h3 => ?_
      exact fin (tt.trans s3) (gv_tup h3 (es_app (es_nats js) (es_one (ni_int _))) (by rw [List.length_append]; show _ + 1 < _; omega))
    walk_at "sx"
    refine i_2 (fun c9 => ?_) (fun c9 => ?_)
    · walk_at "sx"
      refine ⟨_, rfl, p, _, rfl, SqT.of (hpd trivial), fun p' np => ?_⟩
      exact fin (Same.new np) (gv_tup upd_same (en fun y hy => List.mem_reverse.mp hy) (by rw [List.length_reverse]; omega))
    walk_at "sx"
    refine i_2 (fun c10 => ?_) (fun c10 => ?_)
    · walk_at "sx"
      refine r_cut (hpd trivial) fun p1 H2 ys s2 h2 m2 n2 => ?_
      walk_at "sx"
      refine r_cut (s2 _ _ (hpd trivial)) fun p3 H3 zs s3 h3 m3 n3 => ?_
      refine r_cat (s3 _ _ h2) h3 (by rw [sizeLine_eq]; omega) fun p4 H4 s4 h4 => ?_
      exact fin (s2.trans (s3.trans s4)) (gv_tup h4 (es_app (en m2) (en m3)) (by rw [List.length_append]; omega))
    walk_at "sx"
    refine ⟨_, _, rfl, .inr ⟨_, SqT.of (hpd trivial), rfl⟩, ?_⟩
    walk_at "sx"
    refine i_2 (fun c11 => ?_) (fun c11 => ?_)
    · walk_at "sx"
      rename_i q0 e0 G0 t0 g0 q1 e1 G1 t1 g1 q2 e2 G2 t2 g2 q3 e3 G3 t3 g3 q4 e4 G4 t4 g4 q5 e5 G5 t5 g5
      have S : Same Hd G5 := t0.trans (t1.trans (t2.trans (t3.trans (t4.trans t5))))
      refine c_take (Fd.same S) (by decide) (by decide) fun d2 H2 l2 u2 F2 K2 => ?_
      have f0 := Fd.same t0
      have f1 := f0.same t1
      have f2 := f1.same t2
      have f3 := f2.same t3
      have f4 := f3.same t4
      obtain ⟨v, ev, gv⟩ := menu4 (K2 _ _ (Fd.ne e0).symm ((t1.trans (t2.trans (t3.trans (t4.trans t5)))) _ _ g0)) (K2 _ _ (f0.ne e1).symm ((t2.trans (t3.trans (t4.trans t5))) _ _ g1)) (K2 _ _ (f1.ne e2).symm ((t3.trans (t4.trans t5)) _ _ g2)) (K2 _ _ (f2.ne e3).symm ((t4.trans t5) _ _ g3)) (K2 _ _ (f3.ne e4).symm (t5 _ _ g4)) l2 u2
      refine r_ixL (K2 _ _ (f4.ne e5).symm g5) ev ?_
      exact k v H2 F2 (Kd0.trans ((Keep.same S).trans K2)) gv
    have ne : js ≠ [] := fun e => c11 (by rw [e]; rfl)
    have ej := m3 ne
    obtain ⟨z, hz⟩ : ∃ z, js[j]? = some z := ⟨_, List.getElem?_eq_getElem (by omega)⟩
    have az : atI (js.map nv) (j : Int) = some (.int (z : Nat)) := atI_nat (by rw [List.getElem?_map, hz]; rfl)
    have put : ∀ {x : V} {G : Hp} {i : Int}, Flow G a → Keep a H G → Ns G p js → (∀ {G'}, Same G G' → NI K G' x) → spPut ([.ref p, .int i, x] ++ []) G Q E0 := fun {x G i} f kk hn hx => c_put hn (by omega) fun q ys H' s' hq mem ly => k _ _ (f.same s') (kk.trans (Keep.same s')) (gv_tup hq (fun y hy => (mem y hy).elim (fun h => es_nats js y h) fun e => e ▸ hx s') (by omega))
    walk_at "sx"
    refine i_2 (fun c12 => ?_) (fun c12 => ?_)
    · walk_at "sx"
      refine r_ixT (hpd trivial) az ?_
      walk_at "sx"
      exact put Fd Kd0 (hpd trivial) fun _ => ni_kn (B := All) (.bl _)
    walk_at "sx"
    refine i_2 (fun c13 => ?_) (fun c13 => ?_)
    · walk_at "sx"
      refine r_ixT (hpd trivial) az ?_
      walk_at "sx"
      rename_i q0 e0 G0 t0 g0
      refine c_take (Fd.same t0) (by decide) (by decide) fun d2 H2 l2 u2 F2 K2 => ?_
      obtain ⟨i', ei⟩ := menu5 l2 u2
      refine r_ixL (K2 _ _ (Fd.ne e0).symm g0) ei ?_
      walk_at "sx"
      exact put F2 (Kd0.trans ((Keep.same t0).trans K2)) (K2 _ _ npa (t0 _ _ (hpd trivial))) fun _ => ni_int _
    walk_at "sx"
    refine i_2 (fun c14 => ?_) (fun c14 => ?_)
    · walk_at "sx"
      rename_i q0 n0 G0 t0 g0 q1 n1 G1 t1 g1 q2 n2 G2 t2 g2 e d ne' nd hde G3 t3 g3 g3d q4 n4 G4 t4 g4
      have f0 := Fd.same t0
      have f1 := f0.same t1
      have f2 := f1.same t2
      have f3 := f2.same t3
      have S := t0.trans (t1.trans (t2.trans (t3.trans t4)))
      refine c_take (f3.same t4) (by decide) (by decide) fun d2 H2 l2 u2 F2 K2 => ?_
      have z0 := K2 _ _ (Fd.ne n0).symm ((t1.trans (t2.trans (t3.trans t4))) _ _ g0)
      have z1 := K2 _ _ (f0.ne n1).symm ((t2.trans (t3.trans t4)) _ _ g1)
      have z2 := K2 _ _ (f1.ne n2).symm ((t3.trans t4) _ _ g2)
      have z3 := K2 _ _ (f2.ne ne').symm (t4 _ _ g3)
      have z4 := K2 _ _ (f2.ne nd).symm (t4 _ _ g3d)
      obtain ⟨v, ev, gv⟩ := menu7 z0 z1 z2 z3 z4 EX l2 u2
      refine r_ixL (K2 _ _ (f3.ne n4).symm g4) ev ?_
      walk_at "sx"
      exact put F2 (Kd0.trans ((Keep.same S).trans K2)) (K2 _ _ npa (S _ _ (hpd trivial))) fun s' => ni_same s' gv
    walk_at "sx"
    exact put Fd Kd0 (hpd trivial) fun _ => ni_int _
end
end K04

set_option Elab.async false
set_option linter.all false
set_option maxRecDepth 100000
set_option maxHeartbeats 4000000
namespace K04
open PySem L2 Sx
local macro_rules | `(tactic| walk_at "cond") => `(tactic| first
  | assumption
  | decide
  | exact c_mul_r (by first | decide | omega) (by first | decide | omega)
  | exact c_mul_l (by first | decide | omega) (by first | decide | omega)
  | exact c_div (by first | decide | omega) (by first | decide | omega)
  | exact c_pow (by first | decide | omega) (by first | decide | omega) (by first | decide | omega)
  | omega)
local macro_rules | `(tactic| walk_at "ne") => `(tactic| first
  | assumption
  | (refine Ne.symm ?_; assumption)
  | (refine' Flow.ne ?nh ?nn; (case nn => assumption); (case nh => walk_at "fl"))
  | (refine Ne.symm ?_; refine' Flow.ne ?nh ?nn; (case nn => assumption); (case nh => walk_at "fl"))
  | (refine' ne_of_none ?nh ?nn; (case nn => assumption); (case nh => walk_at "at"))
  | (refine Ne.symm ?_; refine' ne_of_none ?nh ?nn; (case nn => assumption); (case nh => walk_at "at")))
local macro_rules | `(tactic| walk_at "at") => `(tactic| first
  | assumption
  | (refine Same.up (by assumption) ?_; walk_at "at")
  | (refine Keep.up (by assumption) (by walk_at "ne") ?_; walk_at "at"))
local macro_rules | `(tactic| walk_at "fl") => `(tactic| first
  | assumption
  | (refine Flow.same (by assumption) ?_; walk_at "fl")
  | (refine Flow.keep (by assumption) (by walk_at "ne") ?_; walk_at "fl"))
local macro_rules | `(tactic| walk_at "fr") => `(tactic| first
  | assumption
  | (refine same_free (by assumption) ?_; walk_at "fr")
  | (refine Keep.free (by assumption) (by walk_at "ne") ?_; walk_at "fr"))
local macro_rules | `(tactic| walk_at "kp") => `(tactic| first
  | assumption
  | exact Keep.refl _ _
  | (refine Keep.trans ?_ (by assumption); walk_at "kp")
  | (refine Keep.trans ?_ (Keep.same (by assumption)); walk_at "kp"))
local macro_rules | `(tactic| walk_at "sm") => `(tactic| first
  | assumption
  | exact L2.Same.refl _
  | (refine L2.Same.trans ?_ (by assumption); walk_at "sm"))
local macro_rules | `(tactic| walk_at "sz") => `(tactic| first | exact Nat.le_of_ble_eq_true rfl | omega)
local macro_rules | `(tactic| walk_at "new") => `(tactic| (intro p np; generalize hE : upd _ p _ = H2; have s2 := new_same np hE; have h2 := new_at hE; clear hE))
local macro_rules | `(tactic| walk_at "newx") => `(tactic| (intro e d na nd hda; generalize hE : upd (upd _ d _) e _ = H2; have s2 := newx_same na nd hE; have h2 := newx_at hE; have h3 := newx_d hda hE; clear hE))
local macro_rules | `(tactic| walk_at "s1") => `(tactic| first
  | with_reducible refine s_seq ?_
  | with_reducible refine s_asg ?_
  | with_reducible refine s_name ?_
  | with_reducible refine s_ret ?_
  | with_reducible refine s_c ?_
  | ((with_reducible refine' s_var ?hv ?_); (case hv => rfl))
  | with_reducible refine s_op ?_
  | with_reducible refine s_un ?_
  | with_reducible refine s_ifS ?_
  | with_reducible refine s_cb ?_
  | with_reducible refine s_cons ?_
  | with_reducible refine s_nil ?_
  | with_reducible refine s_call ?_
  | with_reducible refine s_test ?_
  | with_reducible refine s_tB ?_
  | with_reducible refine s_bl ?_
  | with_reducible refine s_and ?_
  | with_reducible refine s_or ?_
  | with_reducible refine s_not ?_
  | with_reducible refine s_andV ?_
  | with_reducible refine s_orV ?_
  | with_reducible refine s_notV ?_
  | with_reducible refine s_blV ?_
  | with_reducible refine s_if ?_
  | with_reducible refine s_tup ?_
  | with_reducible refine s_lst ?_
  | with_reducible refine s_drop ?_
  | with_reducible refine s_next ?_
  | with_reducible refine s_sub ?_
  | with_reducible refine s_bm ?_
  | with_reducible refine s_callK ?_
  | with_reducible refine s_brk ?_
  | with_reducible refine s_cont ?_
  | with_reducible refine r_I0 ?_
  | with_reducible refine r_U ?_
  | with_reducible refine r_eqI ?_
  | with_reducible refine r_neI ?_
  | with_reducible refine r_isB ?_
  | with_reducible refine r_notB ?_
  | with_reducible refine i_t ?_
  | with_reducible refine i_f ?_
  | with_reducible refine i_nt ?_
  | with_reducible refine i_nf ?_
  | ((with_reducible refine' r_I ?hc ?_); (case hc => walk_at "cond"))
  | (with_reducible refine .inl ⟨_, rfl, ?_⟩)
  | (with_reducible refine ⟨_, rfl, ?_⟩)
  | ((with_reducible refine' r_ixL ?hx ?ha ?_); (case hx => walk_at "at"); (case ha => rfl))
  | ((with_reducible refine' r_ixT ?hx ?ha ?_); (case hx => walk_at "at"); (case ha => rfl))
  | ((with_reducible refine' r_setL ?hx ?ha ?_); (case hx => walk_at "at"); (case ha => rfl); intro H2 k2 h2; (try dsimp only [List.set, Int.toNat] at h2))
  | ((with_reducible refine' r_app ?hx ?hl ?_); (case hx => walk_at "at"); (case hl => first | exact Nat.lt_of_ble_eq_true rfl | omega); intro H2 k2 h2)
  | ((with_reducible refine' ty_list ?hx ?_); (case hx => walk_at "at"))
  | (refine And.intro (by (with_reducible show _ ≤ sizeLine); walk_at "sz") ?_; walk_at "new")
  | with_reducible refine s_exv ?_
  | walk_at "newx")
local macro_rules | `(tactic| walk_at "sx") => `(tactic| repeat (walk_at "s1"))
local macro_rules | `(tactic| walk_at "s2") => `(tactic| first
  | ((with_reducible refine' r_ixG ?hx ?hn ?_); (case hx => walk_at "at"); (case hn => omega))
  | ((with_reducible refine' r_ixGT ?hx ?hn ?_); (case hx => walk_at "at"); (case hn => omega))
  | (with_reducible refine ig_cons (fun hix => ?_) (fun hix => ?_))
  | ((with_reducible refine ig_nil ?_); omega)
  | ((with_reducible refine' i_T ?hc ?_); (case hc => omega))
  | ((with_reducible refine' i_F ?hc ?_); (case hc => omega))
  | (with_reducible refine i_2 (fun hc => ?_) (fun hc => ?_))
  | (with_reducible refine i_n2 (fun hc => ?_) (fun hc => ?_)))
local macro_rules | `(tactic| walk_at "go") => `(tactic| repeat' (first | walk_at "s1" | walk_at "s2"))

local macro_rules | `(tactic| walk_at "s1") => `(tactic| first
  | with_reducible refine s_chain ?_
  | with_reducible refine s_fldS ?_
  | with_reducible refine s_fld ?_
  | with_reducible refine s_dIn ?_
  | with_reducible refine s_dNotIn ?_
  | with_reducible refine s_sl ?_
  | with_reducible refine s_noPart ?_
  | with_reducible refine s_part ?_
  | with_reducible refine s_meth ?_
  | with_reducible refine s_make ?_)

/-- tuples of numbers, each with its place -/
abbrev rN (q : Addr × List Nat) : V := .ref q.1
def NsAt (H : Hp) (ks : List (Addr × List Nat)) : Prop := ∀ q ∈ ks, Ns H q.1 q.2
theorem NsAt.same {H H' : Hp} {ks : List (Addr × List Nat)} (e : Same H H') (h : NsAt H ks) : NsAt H' ks := fun q hq => (h q hq).same e
theorem NsAt.app {H : Hp} {ks ls : List (Addr × List Nat)} (h : NsAt H ks) (g : NsAt H ls) : NsAt H (ks ++ ls) := fun q hq => (List.mem_append.mp hq).elim (h q) (g q)
theorem NsAt.one {H : Hp} {p : Addr} {js : List Nat} (h : Ns H p js) : NsAt H [(p, js)] := fun q hq => by
  rw [List.mem_singleton.mp hq]
  exact h
def bitsN (n c : Nat) : List Nat := (List.range n).map fun i => c / 2 ^ (n - 1 - i) % 2
def rowsOf (n : Nat) : List (List Nat) := (List.range (2 ^ n)).map (bitsN n)
section
variable {P : Program} {w : World} {K : PySem.W.Frag} {mg : Str → Option Value} {base : Heap} {A : Ad}
def spRowOf : Sp := fun vs H Q _ => ∃ (c n : Nat), vs = [.int c, .int n] ∧ n ≤ 8 ∧ c < 256 ∧ ∀ (p : Addr) H', Same H H' → Ns H' p (bitsN n c) → Q (.ref p) H'
theorem ok_rowOf (T : Txt P K mg A) : FnOk P w K mg base CX0 1 A.a_row_of A.d_row_of ["code", "size"] spRowOf := by
  refine T.F_row_of.ok sc_row_of (fun vs H Q E h => ?_) (fun cdv A' outer s H vs Q E hr h => ?_)
  · obtain ⟨c, n, rfl, _⟩ := h
    rfl
  · obtain ⟨c, n, rfl, sn, cn, k⟩ := h
    refine ⟨_, (pss_one (ps_ret (pe_callTy call_tuple_of (by rfl) T.n_tuple (by decide +kernel) (pa_cons (pe_lc (own := [("point", 2)]) (g := (gName 2)) (by rfl) sc_row_of.nd (pi_range1 rfl T.n_range (pa_cons (pv 1) pa_nil)) (blkOk_by (own := [("point", 2)]) (N := ["code", "size", "point"]) (sc := defScope s_row_of) (by decide +kernel)) (fun _ _ _ _ _ => (pg_name (i := 2) sc_row_of.nd rfl (Or.inl rfl))) (fun _ _ _ _ _ => pts_nil) (fun _ _ _ _ _ => (pe_op op_and (pe_op op_shr (pv 0) (pe_op op_sub (pe_op op_sub (pv 1) pe_int) (pv 2))) pe_int))) pa_nil)))), ?_⟩
    walk_at "sx"
    refine ⟨_, rfl, _, rfl, by omega, by omega, fun D hD => lc_range (lo := 0) (n := n) (fun i H' => Same H H' ∧ H' D = some (.lst (((bitsN n c).take i).map nv))) ⟨Same.new hD, upd_same⟩ ?_ ?_⟩
    · rintro i H' hi ⟨s', hd⟩
      refine s_name ⟨rfl, ?_⟩
      refine s_yes (i_t ?_)
      walk_at "sx"
      have ev : Builtin.bitAnd ((c : Int) / 2 ^ ((n : Int) - 1 - (0 + (i : Int))).toNat) 1 = ((c / 2 ^ (n - 1 - i) % 2 : Nat) : Int) := by
        rw [show ((n : Int) - 1 - (0 + (i : Int))).toNat = n - 1 - i by omega, show (2 : Int) ^ (n - 1 - i) = ((2 ^ (n - 1 - i) : Nat) : Int) by rw [Int.natCast_pow] <;> rfl, ← Int.natCast_ediv]
        unfold Builtin.bitAnd
        rw [decide_eq_true (Int.natCast_nonneg _)]
        show (((((c / 2 ^ (n - 1 - i) : Nat) : Int).toNat &&& (1 : Int).toNat : Nat) : Nat) : Int) = _
        rw [Int.toNat_natCast, show (1 : Int).toNat = 1 from rfl, Nat.and_one_is_mod]
      rw [ev]
      have eb : (bitsN n c)[i]? = some (c / 2 ^ (n - 1 - i) % 2) := by
        unfold bitsN
        rw [List.getElem?_map, List.getElem?_range hi]
        rfl
      refine ⟨_, hd, ?_, Sx.Same.put s' hD, ?_⟩
      · rw [List.length_map, List.length_take, sizeLine_eq]
        omega
      · rw [upd_same, List.take_succ, eb]
        simp
    · rintro H' ⟨s', hd⟩
      have e : (bitsN n c).take n = bitsN n c := List.take_of_length_le (by unfold bitsN; simp)
      rw [e] at hd
      walk_at "sx"
      refine ⟨D, _, rfl, .inl ⟨SqL.of hd, fun p np => ?_⟩⟩
      exact k p _ (s'.trans (Same.new np)) upd_same
def spRows : Sp := fun vs H Q _ => ∃ n : Nat, vs = [.int n] ∧ n ≤ 8 ∧ ∀ (p : Addr) (ks : List (Addr × List Nat)) H', Same H H' → H' p = some (.tup (ks.map rN)) → NsAt H' ks → ks.map (·.2) = rowsOf n → Q (.ref p) H'
theorem ok_rows (T : Txt P K mg A) : FnOk P w K mg base CX0 2 A.a_all_rows A.d_all_rows ["size"] spRows := by
  refine T.F_all_rows.ok sc_all_rows (fun vs H Q E h => ?_) (fun cdv A' outer s H vs Q E hr h => ?_)
  · obtain ⟨n, rfl, _⟩ := h
    rfl
  · obtain ⟨n, rfl, sn, k⟩ := h
    have G_row_of := ok_rowOf (w := w) (base := base) T
    refine ⟨_, (pss_one (ps_ret (pe_callTy call_tuple_of (by rfl) T.n_tuple (by decide +kernel) (pa_cons (pe_lc (own := [("code", 1)]) (g := (gName 1)) (by rfl) sc_all_rows.nd (pi_range1 rfl T.n_range (pa_cons (pe_op op_shl pe_int (pv 0)) pa_nil)) (blkOk_by (own := [("code", 1)]) (N := ["size", "code"]) (sc := defScope s_all_rows) (by decide +kernel)) (fun _ _ _ _ _ => (pg_name (i := 1) sc_all_rows.nd rfl (Or.inl rfl))) (fun _ _ _ _ _ => pts_nil) (fun _ _ _ _ _ => (pe_call G_row_of (hr.mono (by decide)) rfl T.g_row_of T.F_row_of.kp (B_row_of T) .nil pass0 (pa_cons (pv 1) (pa_cons (pv 0) pa_nil))))) pa_nil)))), ?_⟩
    walk_at "sx"
    unfold tLc iRng1
    walk_at "sx"
    obtain ⟨pp, epp⟩ : ∃ pp, pp = 2 ^ n := ⟨_, rfl⟩
    have p8 : pp ≤ 256 := by
      rw [epp]
      exact Nat.pow_le_pow_right (n := 2) (by decide) sn
    have ei : (1 : Int) * 2 ^ ((n : Int)).toNat = (pp : Int) := by
      rw [Int.toNat_natCast, Int.one_mul, epp, Int.natCast_pow]
      rfl
    rw [ei]
    refine ⟨by omega, by omega, ?_⟩
    rw [Int.toNat_natCast]
    refine fun D hD => lc_range (lo := 0) (n := pp) (fun i H' => Same H H' ∧ ∃ ks : List (Addr × List Nat), (True → H' D = some (.lst (ks.map rN))) ∧ NsAt H' ks ∧ ks.map (·.2) = (List.range i).map (bitsN n)) ⟨Same.new hD, [], fun _ => upd_same, (fun q (h : q ∈ []) => by cases h), rfl⟩ ?_ ?_
    · rintro i H' hi ⟨s', ks, hd, na, ek⟩
      have lk : ks.length = i := by
        have := congrArg List.length ek
        simpa using this
      refine s_name ⟨rfl, ?_⟩
      refine s_yes (i_t ?_)
      walk_at "sx"
      refine ⟨i, n, by rw [Int.zero_add]; rfl, sn, by omega, fun p H2 s2 h2 => ?_⟩
      have hd2 := s2 _ _ (hd trivial)
      have s3 : Same H2 (upd H2 D (.lst (ks.map rN ++ [.ref p]))) ∨ True := .inr trivial
      refine ⟨_, hd2, by rw [List.length_map, lk, sizeLine_eq]; omega, Sx.Same.put (s'.trans s2) hD, ks ++ [(p, bitsN n i)], fun _ => by rw [upd_same, List.map_append]; rfl, ?_, by rw [List.map_append, ek, List.range_succ, List.map_append]; rfl⟩
      have out : ∀ b xs, H2 b = some (.tup xs) → upd H2 D (.lst (ks.map rN ++ [.ref p])) b = some (.tup xs) := fun b xs e => by
        rw [upd_ne (fun z => by rw [z, hd2] at e; cases e)]
        exact e
      exact fun q hq => out _ _ ((na.same s2).app (NsAt.one h2) q hq)
    · rintro H' ⟨s', ks, hd, na, ek⟩
      walk_at "sx"
      refine ⟨D, _, rfl, .inl ⟨SqL.of (hd trivial), fun p np => ?_⟩⟩
      have s2 : Same H' (upd H' p (.tup (ks.map rN))) := Same.new np
      exact k p ks _ (s'.trans s2) upd_same (na.same s2) (by rw [ek, epp]; rfl)
end
end K04

set_option Elab.async false
set_option linter.all false
set_option maxRecDepth 100000
set_option maxHeartbeats 4000000
namespace K04
open PySem L2 Sx
local macro_rules | `(tactic| walk_at "cond") => `(tactic| first
  | assumption
  | decide
  | exact c_mul_r (by first | decide | omega) (by first | decide | omega)
  | exact c_mul_l (by first | decide | omega) (by first | decide | omega)
  | exact c_div (by first | decide | omega) (by first | decide | omega)
  | exact c_pow (by first | decide | omega) (by first | decide | omega) (by first | decide | omega)
  | omega)
local macro_rules | `(tactic| walk_at "ne") => `(tactic| first
  | assumption
  | (refine Ne.symm ?_; assumption)
  | (refine' Flow.ne ?nh ?nn; (case nn => assumption); (case nh => walk_at "fl"))
  | (refine Ne.symm ?_; refine' Flow.ne ?nh ?nn; (case nn => assumption); (case nh => walk_at "fl"))
  | (refine' ne_of_none ?nh ?nn; (case nn => assumption); (case nh => walk_at "at"))
  | (refine Ne.symm ?_; refine' ne_of_none ?nh ?nn; (case nn => assumption); (case nh => walk_at "at")))
local macro_rules | `(tactic| walk_at "at") => `(tactic| first
  | assumption
  | (refine Same.up (by assumption) ?_; walk_at "at")
  | (refine Keep.up (by assumption) (by walk_at "ne") ?_; walk_at "at"))
local macro_rules | `(tactic| walk_at "fl") => `(tactic| first
  | assumption
  | (refine Flow.same (by assumption) ?_; walk_at "fl")
  | (refine Flow.keep (by assumption) (by walk_at "ne") ?_; walk_at "fl"))
local macro_rules | `(tactic| walk_at "fr") => `(tactic| first
  | assumption
  | (refine same_free (by assumption) ?_; walk_at "fr")
  | (refine Keep.free (by assumption) (by walk_at "ne") ?_; walk_at "fr"))
local macro_rules | `(tactic| walk_at "kp") => `(tactic| first
  | assumption
  | exact Keep.refl _ _
  | (refine Keep.trans ?_ (by assumption); walk_at "kp")
  | (refine Keep.trans ?_ (Keep.same (by assumption)); walk_at "kp"))
local macro_rules | `(tactic| walk_at "sm") => `(tactic| first
  | assumption
  | exact L2.Same.refl _
  | (refine L2.Same.trans ?_ (by assumption); walk_at "sm"))
local macro_rules | `(tactic| walk_at "sz") => `(tactic| first | exact Nat.le_of_ble_eq_true rfl | omega)
local macro_rules | `(tactic| walk_at "new") => `(tactic| (intro p np; generalize hE : upd _ p _ = H2; have s2 := new_same np hE; have h2 := new_at hE; clear hE))
local macro_rules | `(tactic| walk_at "newx") => `(tactic| (intro e d na nd hda; generalize hE : upd (upd _ d _) e _ = H2; have s2 := newx_same na nd hE; have h2 := newx_at hE; have h3 := newx_d hda hE; clear hE))
local macro_rules | `(tactic| walk_at "s1") => `(tactic| first
  | with_reducible refine s_seq ?_
  | with_reducible refine s_asg ?_
  | with_reducible refine s_name ?_
  | with_reducible refine s_ret ?_
  | with_reducible refine s_c ?_
  | ((with_reducible refine' s_var ?hv ?_); (case hv => rfl))
  | with_reducible refine s_op ?_
  | with_reducible refine s_un ?_
  | with_reducible refine s_ifS ?_
  | with_reducible refine s_cb ?_
  | with_reducible refine s_cons ?_
  | with_reducible refine s_nil ?_
  | with_reducible refine s_call ?_
  | with_reducible refine s_test ?_
  | with_reducible refine s_tB ?_
  | with_reducible refine s_bl ?_
  | with_reducible refine s_and ?_
  | with_reducible refine s_or ?_
  | with_reducible refine s_not ?_
  | with_reducible refine s_andV ?_
  | with_reducible refine s_orV ?_
  | with_reducible refine s_notV ?_
  | with_reducible refine s_blV ?_
  | with_reducible refine s_if ?_
  | with_reducible refine s_tup ?_
  | with_reducible refine s_lst ?_
  | with_reducible refine s_drop ?_
  | with_reducible refine s_next ?_
  | with_reducible refine s_sub ?_
  | with_reducible refine s_bm ?_
  | with_reducible refine s_callK ?_
  | with_reducible refine s_brk ?_
  | with_reducible refine s_cont ?_
  | with_reducible refine r_I0 ?_
  | with_reducible refine r_U ?_
  | with_reducible refine r_eqI ?_
  | with_reducible refine r_neI ?_
  | with_reducible refine r_isB ?_
  | with_reducible refine r_notB ?_
  | with_reducible refine i_t ?_
  | with_reducible refine i_f ?_
  | with_reducible refine i_nt ?_
  | with_reducible refine i_nf ?_
  | ((with_reducible refine' r_I ?hc ?_); (case hc => walk_at "cond"))
  | (with_reducible refine .inl ⟨_, rfl, ?_⟩)
  | (with_reducible refine ⟨_, rfl, ?_⟩)
  | ((with_reducible refine' r_ixL ?hx ?ha ?_); (case hx => walk_at "at"); (case ha => rfl))
  | ((with_reducible refine' r_ixT ?hx ?ha ?_); (case hx => walk_at "at"); (case ha => rfl))
  | ((with_reducible refine' r_setL ?hx ?ha ?_); (case hx => walk_at "at"); (case ha => rfl); intro H2 k2 h2; (try dsimp only [List.set, Int.toNat] at h2))
  | ((with_reducible refine' r_app ?hx ?hl ?_); (case hx => walk_at "at"); (case hl => first | exact Nat.lt_of_ble_eq_true rfl | omega); intro H2 k2 h2)
  | ((with_reducible refine' ty_list ?hx ?_); (case hx => walk_at "at"))
  | (refine And.intro (by (with_reducible show _ ≤ sizeLine); walk_at "sz") ?_; walk_at "new")
  | with_reducible refine s_exv ?_
  | walk_at "newx")
local macro_rules | `(tactic| walk_at "sx") => `(tactic| repeat (walk_at "s1"))
local macro_rules | `(tactic| walk_at "s2") => `(tactic| first
  | ((with_reducible refine' r_ixG ?hx ?hn ?_); (case hx => walk_at "at"); (case hn => omega))
  | ((with_reducible refine' r_ixGT ?hx ?hn ?_); (case hx => walk_at "at"); (case hn => omega))
  | (with_reducible refine ig_cons (fun hix => ?_) (fun hix => ?_))
  | ((with_reducible refine ig_nil ?_); omega)
  | ((with_reducible refine' i_T ?hc ?_); (case hc => omega))
  | ((with_reducible refine' i_F ?hc ?_); (case hc => omega))
  | (with_reducible refine i_2 (fun hc => ?_) (fun hc => ?_))
  | (with_reducible refine i_n2 (fun hc => ?_) (fun hc => ?_)))
local macro_rules | `(tactic| walk_at "go") => `(tactic| repeat' (first | walk_at "s1" | walk_at "s2"))

local macro_rules | `(tactic| walk_at "s1") => `(tactic| first
  | with_reducible refine s_chain ?_
  | with_reducible refine s_fldS ?_
  | with_reducible refine s_fld ?_
  | with_reducible refine s_dIn ?_
  | with_reducible refine s_dNotIn ?_
  | with_reducible refine s_sl ?_
  | with_reducible refine s_noPart ?_
  | with_reducible refine s_part ?_
  | with_reducible refine s_meth ?_
  | with_reducible refine s_make ?_)

/-- all rows as the law makes them -/
def er : Nat → List (List Nat)
  | 0 => [[]]
  | k + 1 => (er k).map (· ++ [0]) ++ (er k).map (· ++ [1])
def codeN : List Nat → Nat
  | [] => 0
  | d :: r => d * 2 ^ r.length + codeN r
theorem code_nat : ∀ r : List Nat, TS.code 2 (r.map fun (x : Nat) => (x : Int)) = (codeN r : Int)
  | [] => rfl
  | d :: r => by
    show (d : Int) * 2 ^ (r.map fun (x : Nat) => (x : Int)).length + TS.code 2 (r.map fun (x : Nat) => (x : Int)) = _
    rw [code_nat r, List.length_map, show codeN (d :: r) = d * 2 ^ r.length + codeN r from rfl, Int.natCast_add, Int.natCast_mul, Int.natCast_pow]
    rfl
theorem perm_all : ∀ n : Fin 9, (rowsOf n.val).isPerm (er n.val) = true := by decide +kernel
theorem codes_all : ∀ n : Fin 9, (rowsOf n.val).map codeN = List.range (2 ^ n.val) := by decide +kernel
theorem rows_perm {n : Nat} (h : n ≤ 8) : (rowsOf n).Perm (er n) := List.isPerm_iff.mp (perm_all ⟨n, by omega⟩)
theorem rows_codes {n : Nat} (h : n ≤ 8) : (rowsOf n).map codeN = List.range (2 ^ n) := codes_all ⟨n, by omega⟩
theorem code_ix {n i : Nat} {r : List Nat} (h : n ≤ 8) (e : (rowsOf n)[i]? = some r) : codeN r = i := by
  have z : ((rowsOf n).map codeN)[i]? = some (codeN r) := by rw [List.getElem?_map, e]; rfl
  rw [rows_codes h] at z
  obtain ⟨hi, e2⟩ := List.getElem?_eq_some_iff.mp z
  rw [List.getElem_range] at e2
  exact e2.symm
theorem code_injN {n : Nat} {a b : List Nat} (h : n ≤ 8) (ha : a ∈ rowsOf n) (hb : b ∈ rowsOf n) (e : codeN a = codeN b) : a = b := by
  obtain ⟨i, hi⟩ := List.mem_iff_getElem?.mp ha
  obtain ⟨j, hj⟩ := List.mem_iff_getElem?.mp hb
  rw [code_ix h hi, code_ix h hj] at e
  subst e
  rw [hi] at hj
  exact Option.some.inj hj
/-- what sorting leaves of all rows -/
theorem rows_uniq {n : Nat} {rs : List (List Nat)} (h : n ≤ 8) (p : rs.Perm (er n)) (s : rs.Pairwise fun a b => codeN a ≤ codeN b) : rs = rowsOf n := by
  have pm : rs.Perm (rowsOf n) := p.trans (rows_perm h).symm
  refine List.Perm.eq_of_pairwise (le := fun a b => codeN a ≤ codeN b) (fun a b ha hb h1 h2 => ?_) s ?_ pm
  · exact code_injN h (pm.mem_iff.mp ha) hb (by omega)
  · have z : ((rowsOf n).map codeN).Pairwise (· ≤ ·) := by
      rw [rows_codes h]
      exact List.pairwise_lt_range.imp Nat.le_of_lt
    exact List.pairwise_map.mp z
theorem er_bits : ∀ {n : Nat} {r : List Nat}, r ∈ er n → r.length = n ∧ ∀ x ∈ r, x ≤ 1
  | 0, r, h => by
    rw [List.mem_singleton.mp h]
    exact ⟨rfl, fun x hx => nomatch hx⟩
  | n + 1, r, h => by
    have c : ∀ (d : Nat), d ≤ 1 → r ∈ (er n).map (· ++ [d]) → r.length = n + 1 ∧ ∀ x ∈ r, x ≤ 1 := fun d hd m => by
      obtain ⟨y, hy, rfl⟩ := List.mem_map.mp m
      obtain ⟨l, b⟩ := er_bits hy
      refine ⟨by rw [List.length_append, l]; rfl, fun x hx => ?_⟩
      rcases List.mem_append.mp hx with z | z
      · exact b x z
      · rw [List.mem_singleton.mp z]
        exact hd
    rcases List.mem_append.mp h with m | m
    · exact c 0 (by decide) m
    · exact c 1 (by decide) m
theorem er_len : ∀ n, (er n).length = 2 ^ n
  | 0 => rfl
  | n + 1 => by
    show (List.map _ (er n) ++ List.map _ (er n)).length = _
    rw [List.length_append, List.length_map, List.length_map, er_len n, Nat.pow_succ]
    omega
theorem perm_map {α β : Type} {f : α → β} {ys zs : List β} (h : ys.Perm zs) : ∀ qs : List α, zs = qs.map f → ∃ qs' : List α, qs'.Perm qs ∧ ys = qs'.map f := by
  induction h with
  | nil =>
    intro qs e
    cases qs with
    | nil => exact ⟨[], .refl _, rfl⟩
    | cons _ _ => cases e
  | cons x p ih =>
    intro qs e
    cases qs with
    | nil => cases e
    | cons q qs =>
      rw [List.map_cons] at e
      injection e with e1 e2
      obtain ⟨qs', hp, rfl⟩ := ih qs e2
      exact ⟨q :: qs', hp.cons q, by rw [e1]; rfl⟩
  | swap x y l =>
    intro qs e
    match qs, e with
    | q :: r :: qs, e =>
      rw [List.map_cons, List.map_cons] at e
      injection e with e1 e2
      injection e2 with e2 e3
      exact ⟨r :: q :: qs, .swap q r qs, by rw [e1, e2, e3]; rfl⟩
    | [_], e => simp at e
    | [], e => cases e
  | trans _ _ ih1 ih2 =>
    intro qs e
    obtain ⟨q2, p2, e2⟩ := ih2 qs e
    obtain ⟨q1, p1, e1⟩ := ih1 q2 e2
    exact ⟨q1, p1.trans p2, e1⟩
section
variable {P : Program} {w : World} {K : PySem.W.Frag} {mg : Str → Option Value} {base : Heap} {A : Ad}
theorem ok_erow (T : Txt P K mg A) : FnOk P w K mg base CX0 1 A.a__law_every_row A.d__law_every_row ["size"] spRows := by
  refine T.F__law_every_row.ok sc__law_every_row (fun vs H Q E h => ?_) (fun cdv A' outer s H vs Q E hr h => ?_)
  · obtain ⟨n, rfl, _⟩ := h
    rfl
  · obtain ⟨n, rfl, sn, k⟩ := h
    refine ⟨_, (pss_cons (ps_set (i := 1) sc__law_every_row.nd rfl (Or.inl rfl) (pe_lst (pa_cons (pe_tup pa_nil) pa_nil)))
  (pss_cons (ps_for PassesOwn.never rfl (pi_range1 rfl T.n_range (pa_cons (pv 0) pa_nil)) (pg_name (i := 2) sc__law_every_row.nd rfl (Or.inl rfl))
  (pss_one (ps_set (i := 1) sc__law_every_row.nd rfl (Or.inl rfl) (pe_op op_cat (pe_lc (own := [("row", 3)]) (g := (gName 3)) (by rfl) sc__law_every_row.nd (pi_list (pv 1)) (blkOk_by (own := [("row", 3)]) (N := ["size", "found", "k", "row"]) (sc := defScope s__law_every_row) (by decide +kernel)) (fun _ _ _ _ _ => (pg_name (i := 3) sc__law_every_row.nd rfl (Or.inl rfl))) (fun _ _ _ _ _ => pts_nil) (fun _ _ _ _ _ => (pe_op (r := rCatA K) op_catA (pv 3) (pe_tup (pa_cons pe_int pa_nil))))) (pe_lc (own := [("row", 3)]) (g := (gName 3)) (by rfl) sc__law_every_row.nd (pi_list (pv 1)) (blkOk_by (own := [("row", 3)]) (N := ["size", "found", "k", "row"]) (sc := defScope s__law_every_row) (by decide +kernel)) (fun _ _ _ _ _ => (pg_name (i := 3) sc__law_every_row.nd rfl (Or.inl rfl))) (fun _ _ _ _ _ => pts_nil) (fun _ _ _ _ _ => (pe_op (r := rCatA K) op_catA (pv 3) (pe_tup (pa_cons pe_int pa_nil)))))))))
  (pss_one (ps_ret (pe_callTy call_tuple_of (by rfl) T.n_tuple (by decide +kernel) (pa_cons (pe_callB cr_sortN (by rfl) T.n_sorted (by decide +kernel) (pa_cons (pv 1) pa_nil)) pa_nil)))))), ?_⟩
    walk_at "sx"
    rename_i p0 n0 H0 s0 h0 l1 n1 H1 s1 h1
    refine ⟨_, rfl, _, rfl, by omega, by omega, for_range (lo := 0) (n := n) (fun i σ H' => Same H H' ∧ ∃ (l : Addr) (ks : List (Addr × List Nat)) (v2 v3 : Option V), (True → H' l = some (.lst (ks.map rN))) ∧ NsAt H' ks ∧ ks.map (·.2) = er i ∧ σ = [some (.int n), some (.ref l), v2, v3]) ⟨s0.trans s1, l1, [(p0, [])], _, _, fun _ => h1, NsAt.one (s1 _ _ h0), rfl, rfl⟩ ?_ ?_⟩
    · rintro i σ H' hi ⟨s', l, ks, v2, v3, hl, na, ek, rfl⟩
      have lk : ks.length ≤ 256 := by
        have := congrArg List.length ek
        rw [List.length_map, er_len] at this
        rw [this]
        exact Nat.pow_le_pow_right (n := 2) (by decide) (show i ≤ 8 by omega)
      have comp : ∀ (d : Nat) (σ : L2.St) (G : Hp) (R : VK), Same H' G → σ = [some (.int n), some (.ref l), some (.int (0 + (i : Int))), v3] → (∀ (D : Addr) (ks' : List (Addr × List Nat)) G2, Same G G2 → G2 D = some (.lst (ks'.map rN)) → NsAt G2 ks' → ks'.map (·.2) = (er i).map (· ++ [d]) → R (.ref D) G2) →
          tLc (iList K (tVar 1)) (gName 3) tYes (tOp (rCatA K) (tVar 3) (tTup (tCons (tC (V.int d)) tNil))) [3] σ G R := by
        rintro d σ G R sG rfl kR
        refine ⟨_, rfl, l, rfl, ⟨_, SqL.of (sG _ _ (hl trivial))⟩, fun D hD => lc_list (K := K) (a := l) (xs := ks.map rN) (fun j G' => Same G G' ∧ ∃ ks' : List (Addr × List Nat), (True → G' D = some (.lst (ks'.map rN))) ∧ NsAt G' ks' ∧ ks'.map (·.2) = ((ks.take j).map (·.2)).map (· ++ [d])) ⟨Same.new hD, [], fun _ => upd_same, (fun q (h : q ∈ []) => by cases h), rfl⟩ (fun j G' _ h => SqL.of ((sG.trans h.1) _ _ (hl trivial))) ?_ ?_⟩
        · rintro j x G' hx ⟨s1', ks', hd, na', ek'⟩
          obtain ⟨q, hq, rfl⟩ : ∃ q, ks[j]? = some q ∧ rN q = x := by
            rw [List.getElem?_map] at hx
            exact Option.map_eq_some_iff.mp hx
          have hm := List.mem_of_getElem? hq
          have bq := er_bits (n := i) (r := q.2) (by rw [← ek]; exact List.mem_map.mpr ⟨q, hm, rfl⟩)
          have hj : j < ks.length := (List.getElem?_eq_some_iff.mp hq).1
          have lk' : ks'.length ≤ 256 := by
            have := congrArg List.length ek'
            rw [List.length_map, List.length_map, List.length_map, List.length_take] at this
            omega
          refine s_name ⟨rfl, ?_⟩
          refine s_yes (i_t ?_)
          walk_at "sx"
          rename_i pt nt G3 t3 g3
          refine r_cat (t3 _ _ (s1' _ _ (sG _ _ (na q hm)))) g3 (by rw [List.length_map, bq.1, sizeLine_eq]; show _ + 1 ≤ _; omega) fun p4 G4 s4 h4 => ?_
          have hd4 := s4 _ _ (t3 _ _ (hd trivial))
          refine ⟨_, hd4, by rw [List.length_map, sizeLine_eq]; omega, Sx.Same.put (s1'.trans (t3.trans s4)) hD, ks' ++ [(p4, q.2 ++ [d])], fun _ => by rw [upd_same, List.map_append]; rfl, ?_, by rw [List.map_append, ek', List.take_succ, hq]; simp⟩
          have out : ∀ b xs, G4 b = some (.tup xs) → upd G4 D (.lst (ks'.map rN ++ [.ref p4])) b = some (.tup xs) := fun b xs e => by
            rw [upd_ne (fun z => by rw [z, hd4] at e; cases e)]
            exact e
          have h4' : Ns G4 p4 (q.2 ++ [d]) := by
            show G4 p4 = some (.tup ((q.2 ++ [d]).map nv))
            rw [h4, List.map_append]
            rfl
          exact fun q' hq' => out _ _ ((na'.same (t3.trans s4)).app (NsAt.one h4') q' hq')
        · rintro G' ⟨s1', ks', hd, na', ek'⟩
          rw [List.length_map, List.take_length, ek] at ek'
          exact kR D ks' G' s1' (hd trivial) na' ek'
      walk_at "sx"
      refine comp 0 _ _ _ (L2.Same.refl _) rfl fun D1 k1 G1 t1 g1 a1 e1 => ?_
      refine comp 1 _ _ _ t1 rfl fun D2 k2 G2 t2 g2 a2 e2 => ?_
      have l1 : k1.length = (er i).length := by
        have := congrArg List.length e1
        simpa using this
      have l2 : k2.length = (er i).length := by
        have := congrArg List.length e2
        simpa using this
      have le : (er i).length = ks.length := by
        rw [← ek, List.length_map]
      refine ⟨D1, D2, _, _, rfl, rfl, t2 _ _ g1, g2, by rw [List.length_map, List.length_map, sizeLine_eq]; omega, fun p3 np3 => ?_⟩
      have t3 : Same G2 (upd G2 p3 (.lst (k1.map rN ++ k2.map rN))) := Same.new np3
      refine s_name ?_
      refine ⟨s'.trans (t1.trans (t2.trans t3)), p3, k1 ++ k2, _, _, fun _ => by rw [upd_same, List.map_append], ((a1.same t2).app a2).same t3, by rw [List.map_append, e1, e2]; rfl, rfl⟩
    · rintro σ H' ⟨s', l, ks, v2, v3, hl, na, ek, rfl⟩
      walk_at "sx"
      have lk : ks.length = 2 ^ n := by
        have := congrArg List.length ek
        rw [List.length_map, er_len] at this
        exact this
      have bits : ∀ q ∈ ks, q.2.length = n ∧ ∀ x ∈ q.2, x ≤ 1 := fun q hq => er_bits (by rw [← ek]; exact List.mem_map.mpr ⟨q, hq, rfl⟩)
      have cast : ∀ r : List Nat, r.map nv = (r.map fun (x : Nat) => (x : Int)).map V.int := fun r => by
        rw [List.map_map]
        rfl
      refine ⟨l, ks.map rN, n, 2, rfl, SqL.of (hl trivial), fun z => by rw [List.length_map, lk, z]; exact Nat.le_refl _, fun x hx => ?_, fun ys p pm pw np => ?_⟩
      · obtain ⟨q, hq, rfl⟩ := List.mem_map.mp hx
        obtain ⟨b1, b2⟩ := bits q hq
        refine ⟨q.2.map fun (x : Nat) => (x : Int), ⟨q.1, rfl, ?_⟩, by rw [List.length_map, b1], fun m hm => ?_⟩
        · rw [← cast]
          exact SqT.of (na q hq)
        · obtain ⟨y, hy, rfl⟩ := List.mem_map.mp hm
          have := b2 y hy
          omega
      · obtain ⟨ks', pk, rfl⟩ := perm_map pm ks rfl
        have na2 : NsAt H' ks' := fun q hq => na q (pk.mem_iff.mp hq)
        have er' : ks'.map (·.2) = rowsOf n := by
          refine rows_uniq sn (by rw [← ek]; exact pk.map _) (List.pairwise_map.mpr ?_)
          refine List.Pairwise.imp_of_mem (fun {a b} ha hb h => ?_) (List.pairwise_map.mp pw)
          have z := h (a.2.map fun (x : Nat) => (x : Int)) (b.2.map fun (x : Nat) => (x : Int)) ⟨a.1, rfl, by rw [← cast]; exact SqT.of (na2 a ha)⟩ ⟨b.1, rfl, by rw [← cast]; exact SqT.of (na2 b hb)⟩
          rw [code_nat, code_nat] at z
          omega
        have t1 : Same H' (upd H' p (.lst (ks'.map rN))) := Same.new np
        have g1 : (upd H' p (.lst (ks'.map rN))) p = some (.lst (ks'.map rN)) := upd_same
        generalize upd H' p (.lst (ks'.map rN)) = G at t1 g1 ⊢
        walk_at "sx"
        refine ⟨p, _, rfl, .inl ⟨SqL.of g1, fun p2 np2 => ?_⟩⟩
        have t2 : Same G (upd G p2 (.tup (ks'.map rN))) := Same.new np2
        exact k p2 ks' _ (s'.trans (t1.trans t2)) upd_same (na2.same (t1.trans t2)) er'
end
end K04

set_option Elab.async false
set_option linter.all false
set_option maxRecDepth 100000
set_option maxHeartbeats 1000000
namespace Cm
open PySem PySem.Spec PyProof.Rows L2
/-! the lots of k of n points, n and k at most 8, in their order -/
def run (n : Nat) : Nat → List Nat → List (List Nat)
  | 0, _ => []
  | f + 1, ix => ix :: match nextC n ix with
    | none => []
    | some y => run n f y
def cmb (n k : Nat) : List (List Nat) := if n < k then [] else run n 80 (List.range k)
def chainB (n k : Nat) (ls : List (List Nat)) : Bool :=
  (if n < k then ls.isEmpty else ls[0]? == some (List.range k)) && (List.range ls.length).all (fun i => ls[i + 1]? == nextC n (ls.getD i [])) && ls.all (fun ix => decide (ix.length ≤ 8) && ix.all (fun i => decide (i < n)))
theorem chain_of {n k : Nat} {ls : List (List Nat)} (h : chainB n k ls = true) (z : ls.length ≤ 1000) : Chain n k ls ∧ ∀ ix ∈ ls, ∀ i ∈ ix, i < n := by
  unfold chainB at h
  rw [Bool.and_eq_true, Bool.and_eq_true] at h
  obtain ⟨⟨h1, h2⟩, h3⟩ := h
  rw [List.all_eq_true] at h2 h3
  refine ⟨⟨?_, fun i ix e => ?_, fun ix hx => ?_, by rw [sizeLine_eq]; omega⟩, fun ix hx i hi => ?_⟩
  · by_cases c : n < k
    · rw [if_pos c] at h1
      exact .inl ⟨c, List.isEmpty_iff.mp h1⟩
    · rw [if_neg c] at h1
      exact .inr ⟨by omega, eq_of_beq h1⟩
  · obtain ⟨hi, e2⟩ := List.getElem?_eq_some_iff.mp e
    have z2 := eq_of_beq (h2 i (List.mem_range.mpr hi))
    have e3 : ls.getD i [] = ix := by
      rw [List.getD_eq_getElem?_getD, e]
      rfl
    rw [e3] at z2
    exact z2
  · have z2 := h3 ix hx
    rw [Bool.and_eq_true, decide_eq_true_eq] at z2
    omega
  · have z2 := h3 ix hx
    rw [Bool.and_eq_true, List.all_eq_true] at z2
    exact of_decide_eq_true (z2.2 i hi)
theorem cmb_ok : ∀ n : Fin 9, ∀ k : Fin 9, chainB n.val k.val (cmb n.val k.val) = true ∧ (cmb n.val k.val).length ≤ 70 := by decide +kernel
theorem chain_cmb {n k : Nat} (hn : n ≤ 8) (hk : k ≤ 8) : Chain n k (cmb n k) ∧ (∀ ix ∈ cmb n k, ∀ i ∈ ix, i < n) ∧ (cmb n k).length ≤ 70 := by
  obtain ⟨a, b⟩ := cmb_ok ⟨n, by omega⟩ ⟨k, by omega⟩
  obtain ⟨c, d⟩ := chain_of a (by omega)
  exact ⟨c, d, b⟩
end Cm
/-! walks of a comprehension with two clauses -/
namespace Sx
open PySem L2
theorem pi_listK {X : Cx} {tg l : Expr} {tl : TE} (K : PySem.W.Frag) (ht : PE X l tl) (hk : X.K = K) : PI X tg l (iList K tl) := by
  subst hk
  exact pi_list ht
theorem it_range {lo : Int} {n : Nat} {body : (Hp → Prop) → V → Hp → Prop} {Qd : Hp → Prop} {H1 : Hp} (Pv : Nat → Hp → Prop) (h0 : Pv 0 H1) (hs : ∀ i H, i < n → Pv i H → body (Pv (i + 1)) (.int (lo + (i : Nat))) H) (hd : ∀ H, Pv n H → Qd H) :
    ∃ W : Nat → Nat → Hp → Prop, (∃ m, W 0 m H1) ∧ ∀ i m H, W i m H → ((Itr lo n).stop i H ∧ Qd H) ∨ ((Itr lo n).go i H ∧ ∃ Nx : Hp → Prop, (∀ H', Nx H' → ∃ m', m' < m ∧ W (i + 1) m' H') ∧ ∀ x H', (Itr lo n).yld i H x H' → body Nx x H') := by
  refine ⟨fun i m H => m = n - i ∧ i ≤ n ∧ Pv i H, ⟨n, by simp, Nat.zero_le _, h0⟩, ?_⟩
  rintro i m H ⟨rfl, hi, p⟩
  by_cases h : i < n
  · refine .inr ⟨h, Pv (i + 1), fun H' p' => ⟨n - (i + 1), by omega, rfl, h, p'⟩, ?_⟩
    rintro x H' ⟨rfl, rfl⟩
    exact hs i _ h p
  · have e : i = n := by omega
    subst e
    exact .inl ⟨Nat.le_refl _, hd H p⟩
theorem it_list {K : PySem.W.Frag} {a : Addr} {xs : List V} {body : (Hp → Prop) → V → Hp → Prop} {Qd : Hp → Prop} {H1 : Hp} (Pv : Nat → Hp → Prop) (h0 : Pv 0 H1) (hl : ∀ i H, i ≤ xs.length → Pv i H → SqL K H a xs) (hs : ∀ i x H, xs[i]? = some x → Pv i H → body (Pv (i + 1)) x H) (hd : ∀ H, Pv xs.length H → Qd H) :
    ∃ W : Nat → Nat → Hp → Prop, (∃ m, W 0 m H1) ∧ ∀ i m H, W i m H → ((Itl K a).stop i H ∧ Qd H) ∨ ((Itl K a).go i H ∧ ∃ Nx : Hp → Prop, (∀ H', Nx H' → ∃ m', m' < m ∧ W (i + 1) m' H') ∧ ∀ x H', (Itl K a).yld i H x H' → body Nx x H') := by
  refine ⟨fun i m H => m = xs.length - i ∧ i ≤ xs.length ∧ Pv i H, ⟨xs.length, by simp, Nat.zero_le _, h0⟩, ?_⟩
  rintro i m H ⟨rfl, hi, p⟩
  have q := hl i H hi p
  by_cases hlt : i < xs.length
  · refine .inr ⟨⟨xs, xs[i], q, by simp [hlt]⟩, Pv (i + 1), fun H' p' => ⟨xs.length - (i + 1), by omega, rfl, hlt, p'⟩, fun x H' y => ?_⟩
    obtain ⟨e, y⟩ := y
    subst e
    exact hs i x _ (y xs q) p
  · have e : i = xs.length := by omega
    subst e
    exact .inl ⟨⟨xs, q, Nat.le_refl _⟩, hd H p⟩
end Sx

set_option Elab.async false
set_option linter.all false
set_option maxRecDepth 100000
set_option maxHeartbeats 4000000
namespace K04
open PySem L2 Sx
local macro_rules | `(tactic| walk_at "cond") => `(tactic| first
  | assumption
  | decide
  | exact c_mul_r (by first | decide | omega) (by first | decide | omega)
  | exact c_mul_l (by first | decide | omega) (by first | decide | omega)
  | exact c_div (by first | decide | omega) (by first | decide | omega)
  | exact c_pow (by first | decide | omega) (by first | decide | omega) (by first | decide | omega)
  | omega)
local macro_rules | `(tactic| walk_at "ne") => `(tactic| first
  | assumption
  | (refine Ne.symm ?_; assumption)
  | (refine' Flow.ne ?nh ?nn; (case nn => assumption); (case nh => walk_at "fl"))
  | (refine Ne.symm ?_; refine' Flow.ne ?nh ?nn; (case nn => assumption); (case nh => walk_at "fl"))
  | (refine' ne_of_none ?nh ?nn; (case nn => assumption); (case nh => walk_at "at"))
  | (refine Ne.symm ?_; refine' ne_of_none ?nh ?nn; (case nn => assumption); (case nh => walk_at "at")))
local macro_rules | `(tactic| walk_at "at") => `(tactic| first
  | assumption
  | (refine Same.up (by assumption) ?_; walk_at "at")
  | (refine Keep.up (by assumption) (by walk_at "ne") ?_; walk_at "at"))
local macro_rules | `(tactic| walk_at "fl") => `(tactic| first
  | assumption
  | (refine Flow.same (by assumption) ?_; walk_at "fl")
  | (refine Flow.keep (by assumption) (by walk_at "ne") ?_; walk_at "fl"))
local macro_rules | `(tactic| walk_at "fr") => `(tactic| first
  | assumption
  | (refine same_free (by assumption) ?_; walk_at "fr")
  | (refine Keep.free (by assumption) (by walk_at "ne") ?_; walk_at "fr"))
local macro_rules | `(tactic| walk_at "kp") => `(tactic| first
  | assumption
  | exact Keep.refl _ _
  | (refine Keep.trans ?_ (by assumption); walk_at "kp")
  | (refine Keep.trans ?_ (Keep.same (by assumption)); walk_at "kp"))
local macro_rules | `(tactic| walk_at "sm") => `(tactic| first
  | assumption
  | exact L2.Same.refl _
  | (refine L2.Same.trans ?_ (by assumption); walk_at "sm"))
local macro_rules | `(tactic| walk_at "sz") => `(tactic| first | exact Nat.le_of_ble_eq_true rfl | omega)
local macro_rules | `(tactic| walk_at "new") => `(tactic| (intro p np; generalize hE : upd _ p _ = H2; have s2 := new_same np hE; have h2 := new_at hE; clear hE))
local macro_rules | `(tactic| walk_at "newx") => `(tactic| (intro e d na nd hda; generalize hE : upd (upd _ d _) e _ = H2; have s2 := newx_same na nd hE; have h2 := newx_at hE; have h3 := newx_d hda hE; clear hE))
local macro_rules | `(tactic| walk_at "s1") => `(tactic| first
  | with_reducible refine s_seq ?_
  | with_reducible refine s_asg ?_
  | with_reducible refine s_name ?_
  | with_reducible refine s_ret ?_
  | with_reducible refine s_c ?_
  | ((with_reducible refine' s_var ?hv ?_); (case hv => rfl))
  | with_reducible refine s_op ?_
  | with_reducible refine s_un ?_
  | with_reducible refine s_ifS ?_
  | with_reducible refine s_cb ?_
  | with_reducible refine s_cons ?_
  | with_reducible refine s_nil ?_
  | with_reducible refine s_call ?_
  | with_reducible refine s_test ?_
  | with_reducible refine s_tB ?_
  | with_reducible refine s_bl ?_
  | with_reducible refine s_and ?_
  | with_reducible refine s_or ?_
  | with_reducible refine s_not ?_
  | with_reducible refine s_andV ?_
  | with_reducible refine s_orV ?_
  | with_reducible refine s_notV ?_
  | with_reducible refine s_blV ?_
  | with_reducible refine s_if ?_
  | with_reducible refine s_tup ?_
  | with_reducible refine s_lst ?_
  | with_reducible refine s_drop ?_
  | with_reducible refine s_next ?_
  | with_reducible refine s_sub ?_
  | with_reducible refine s_bm ?_
  | with_reducible refine s_callK ?_
  | with_reducible refine s_brk ?_
  | with_reducible refine s_cont ?_
  | with_reducible refine r_I0 ?_
  | with_reducible refine r_U ?_
  | with_reducible refine r_eqI ?_
  | with_reducible refine r_neI ?_
  | with_reducible refine r_isB ?_
  | with_reducible refine r_notB ?_
  | with_reducible refine i_t ?_
  | with_reducible refine i_f ?_
  | with_reducible refine i_nt ?_
  | with_reducible refine i_nf ?_
  | ((with_reducible refine' r_I ?hc ?_); (case hc => walk_at "cond"))
  | (with_reducible refine .inl ⟨_, rfl, ?_⟩)
  | (with_reducible refine ⟨_, rfl, ?_⟩)
  | ((with_reducible refine' r_ixL ?hx ?ha ?_); (case hx => walk_at "at"); (case ha => rfl))
  | ((with_reducible refine' r_ixT ?hx ?ha ?_); (case hx => walk_at "at"); (case ha => rfl))
  | ((with_reducible refine' r_setL ?hx ?ha ?_); (case hx => walk_at "at"); (case ha => rfl); intro H2 k2 h2; (try dsimp only [List.set, Int.toNat] at h2))
  | ((with_reducible refine' r_app ?hx ?hl ?_); (case hx => walk_at "at"); (case hl => first | exact Nat.lt_of_ble_eq_true rfl | omega); intro H2 k2 h2)
  | ((with_reducible refine' ty_list ?hx ?_); (case hx => walk_at "at"))
  | (refine And.intro (by (with_reducible show _ ≤ sizeLine); walk_at "sz") ?_; walk_at "new")
  | with_reducible refine s_exv ?_
  | walk_at "newx")
local macro_rules | `(tactic| walk_at "sx") => `(tactic| repeat (walk_at "s1"))
local macro_rules | `(tactic| walk_at "s2") => `(tactic| first
  | ((with_reducible refine' r_ixG ?hx ?hn ?_); (case hx => walk_at "at"); (case hn => omega))
  | ((with_reducible refine' r_ixGT ?hx ?hn ?_); (case hx => walk_at "at"); (case hn => omega))
  | (with_reducible refine ig_cons (fun hix => ?_) (fun hix => ?_))
  | ((with_reducible refine ig_nil ?_); omega)
  | ((with_reducible refine' i_T ?hc ?_); (case hc => omega))
  | ((with_reducible refine' i_F ?hc ?_); (case hc => omega))
  | (with_reducible refine i_2 (fun hc => ?_) (fun hc => ?_))
  | (with_reducible refine i_n2 (fun hc => ?_) (fun hc => ?_)))
local macro_rules | `(tactic| walk_at "go") => `(tactic| repeat' (first | walk_at "s1" | walk_at "s2"))

local macro_rules | `(tactic| walk_at "s1") => `(tactic| first
  | with_reducible refine s_chain ?_
  | with_reducible refine s_fldS ?_
  | with_reducible refine s_fld ?_
  | with_reducible refine s_dIn ?_
  | with_reducible refine s_dNotIn ?_
  | with_reducible refine s_sl ?_
  | with_reducible refine s_noPart ?_
  | with_reducible refine s_part ?_
  | with_reducible refine s_meth ?_
  | with_reducible refine s_make ?_)

/-- all lots of n points, those of fewer points ahead -/
def lotsOf (n m : Nat) : List (List Nat) := (List.range (m + 1)).flatMap fun k => Cm.cmb n k
theorem zip_rN : ∀ {as : List Addr} {ls : List (List Nat)}, as.length = ls.length → (as.zip ls).map rN = as.map V.ref ∧ (as.zip ls).map (·.2) = ls
  | [], [], _ => ⟨rfl, rfl⟩
  | [], _ :: _, h => by cases h
  | _ :: _, [], h => by cases h
  | a :: as, x :: ls, h => by
    obtain ⟨e1, e2⟩ := zip_rN (as := as) (ls := ls) (by simpa using h)
    exact ⟨by rw [List.zip_cons_cons, List.map_cons, e1]; rfl, by rw [List.zip_cons_cons, List.map_cons, e2]⟩
section
variable {P : Program} {w : World} {K : PySem.W.Frag} {mg : Str → Option Value} {base : Heap} {A : Ad}
def spLots : Sp := fun vs H Q _ => ∃ n k : Nat, vs = [.int n, .int k] ∧ n ≤ 8 ∧ k ≤ 8 ∧ ∀ (p : Addr) (ks : List (Addr × List Nat)) H', H p = none → Same H H' → H' p = some (.lst (ks.map rN)) → NsAt H' ks → ks.map (·.2) = Cm.cmb n k → ks.length ≤ 70 → Q (.ref p) H'
theorem ok_lots (T : Txt P K mg A) : FnOk P w K mg base CX0 1 A.a_lots_of A.d_lots_of ["size", "many"] spLots := by
  refine T.F_lots_of.ok sc_lots_of (fun vs H Q E h => ?_) (fun cdv A' outer s H vs Q E hr h => ?_)
  · obtain ⟨n, k, rfl, _⟩ := h
    rfl
  · obtain ⟨n, k, rfl, sn, sk, q⟩ := h
    refine ⟨_, (pss_one (ps_ret (Cm.pe_listCm rfl (by rfl) T.n_list (by rfl) T.m_combinations (by rfl) T.n_range (pv 0) (pv 1)))), ?_⟩
    walk_at "sx"
    obtain ⟨c1, c2, c3⟩ := Cm.chain_cmb sn sk
    refine s_var rfl ⟨⟨_, rfl⟩, s_var rfl ⟨n, k, rfl, rfl, by omega, by omega, Cm.cmb n k, c1, c2, fun p as H' np s' hp la hat => ?_⟩⟩
    obtain ⟨e1, e2⟩ := zip_rN la
    refine q p (as.zip (Cm.cmb n k)) H' np s' (by rw [e1]; exact hp) (fun z hz => ?_) e2 (by rw [List.length_zip]; omega)
    obtain ⟨j, hj⟩ := List.mem_iff_getElem?.mp hz
    rw [List.getElem?_zip_eq_some] at hj
    exact hat j z.1 z.2 hj.1 hj.2
def spLotsTo : Sp := fun vs H Q _ => ∃ n m : Nat, vs = [.int n, .int m] ∧ n ≤ 8 ∧ m ≤ n ∧ ∀ (p : Addr) (ks : List (Addr × List Nat)) H', Same H H' → H' p = some (.tup (ks.map rN)) → NsAt H' ks → ks.map (·.2) = lotsOf n m → Q (.ref p) H'
theorem ok_lotsTo (T : Txt P K mg A) : FnOk P w K mg base CX0 2 A.a_lots_to A.d_lots_to ["size", "most"] spLotsTo := by
  refine T.F_lots_to.ok sc_lots_to (fun vs H Q E h => ?_) (fun cdv A' outer s H vs Q E hr h => ?_)
  · obtain ⟨n, m, rfl, _⟩ := h
    rfl
  · obtain ⟨n, m, rfl, sn, sm, q⟩ := h
    have G_lots_of := ok_lots (w := w) (base := base) T
    refine ⟨_, (pss_one (ps_ret (pe_callTy call_tuple_of (by rfl) T.n_tuple (by decide +kernel) (pa_cons (pe_lc2 (own := [("many", 2), ("lot", 3)]) (vs1 := [3]) (g := (gName 2)) (g1 := (gName 3)) (by rfl) sc_lots_to.nd (pi_range1 rfl T.n_range (pa_cons (pe_op op_add (pe_callB (call_min2 rfl) (by rfl) T.n_min (by decide +kernel) (pa_cons (pv 0) (pa_cons (pv 1) pa_nil))) pe_int) pa_nil)) (blkOk_by (own := [("many", 2), ("lot", 3)]) (N := ["size", "most", "many", "lot"]) (sc := defScope s_lots_to) (by decide +kernel)) (by decide) (fun _ _ _ _ _ => (pg_name (i := 2) sc_lots_to.nd rfl (Or.inl rfl))) (fun _ _ _ _ _ => pts_nil) (fun _ _ _ _ _ => (pi_listK K (pe_call G_lots_of (hr.mono (by decide)) rfl T.g_lots_of T.F_lots_of.kp (B_lots_of T) .nil pass0 (pa_cons (pv 0) (pa_cons (pv 2) pa_nil))) rfl)) (fun _ _ _ _ _ => (pg_name (i := 3) sc_lots_to.nd rfl (Or.inl rfl))) (fun _ _ _ _ _ => pts_nil) (fun _ _ _ _ _ => (pv 3))) pa_nil)))), ?_⟩
    walk_at "sx"
    unfold tLc2 iRng1
    walk_at "sx"
    refine ⟨_, _, rfl, ?_⟩
    have em : (if (m : Int) < (n : Int) then (m : Int) else (n : Int)) = (m : Int) := by split <;> omega
    rw [em]
    walk_at "sx"
    refine ⟨by omega, by omega, ?_⟩
    rw [show ((m : Int) + 1).toNat = m + 1 by omega]
    refine fun D hD => it_range (lo := 0) (n := m + 1) (fun i H' => Same H H' ∧ ∃ ks : List (Addr × List Nat), (True → H' D = some (.lst (ks.map rN))) ∧ NsAt H' ks ∧ ks.map (·.2) = (List.range i).flatMap (fun k => Cm.cmb n k) ∧ ks.length ≤ 70 * i) ⟨Same.new hD, [], fun _ => upd_same, (fun q (h : q ∈ []) => by cases h), rfl, Nat.le_refl _⟩ ?_ ?_
    · rintro i H' hi ⟨s', ks, hd, na, ek, lk⟩
      refine s_name ⟨rfl, ?_⟩
      refine s_yes (i_t ?_)
      unfold iList
      walk_at "sx"
      refine ⟨n, i, by rw [Int.zero_add]; rfl, sn, by omega, fun p k2 H2 np s2 h2 n2 e2 l2 => ?_⟩
      have pD : p ≠ D := fun e => by
        rw [e, hd trivial] at np
        cases np
      have hd2 := s2 _ _ (hd trivial)
      have h2' : True → H2 p = some (.lst (k2.map rN)) := fun _ => h2
      clear h2
      refine ⟨p, rfl, ⟨_, SqL.of (h2' trivial)⟩, it_list (K := K) (a := p) (xs := k2.map rN) (fun j H3 => Keep D H2 H3 ∧ ∃ ls : List (Addr × List Nat), (True → H3 D = some (.lst (ls.map rN))) ∧ NsAt H3 ls ∧ ls = ks ++ k2.take j) ⟨Keep.refl _ _, ks, fun _ => hd2, na.same s2, by simp⟩ (fun j H3 _ h => SqL.of (h.1 _ _ pD (h2' trivial))) ?_ ?_⟩
      · rintro j x H3 hx ⟨s3, ls, hd3, na3, rfl⟩
        obtain ⟨z, hz, rfl⟩ : ∃ z, k2[j]? = some z ∧ rN z = x := by
          rw [List.getElem?_map] at hx
          exact Option.map_eq_some_iff.mp hx
        refine s_name ⟨rfl, ?_⟩
        refine s_yes (i_t ?_)
        walk_at "sx"
        have hd4 := hd3 trivial
        have out : ∀ b xs, H3 b = some (.tup xs) → upd H3 D (.lst ((ks ++ k2.take j).map rN ++ [rN z])) b = some (.tup xs) := fun b xs e => by
          rw [upd_ne (fun w => by rw [w, hd4] at e; cases e)]
          exact e
        have hm := List.mem_of_getElem? hz
        refine ⟨_, hd4, by rw [List.length_map, List.length_append, List.length_take, sizeLine_eq]; omega, ?_, ks ++ k2.take (j + 1), fun _ => by rw [upd_same, List.take_succ, hz]; simp, fun q' hq' => ?_, rfl⟩
        · exact s3.trans (put_keep rfl)
        · rcases List.mem_append.mp hq' with h | h
          · exact out _ _ (na3 q' (List.mem_append_left _ h))
          · have h2 := n2 q' (List.mem_of_mem_take h)
            exact out _ _ (s3 _ _ (fun e => by rw [e] at h2; rw [show H2 D = _ from h2] at hd2; cases hd2) h2)
      · rintro H3 ⟨s3, ls, hd3, na3, rfl⟩
        rw [List.length_map, List.take_length] at *
        refine ⟨Keep.toSame (s'.trans s2) hD s3, ks ++ k2, hd3, na3, ?_, by rw [List.length_append]; omega⟩
        rw [List.map_append, ek, e2, List.range_succ, List.flatMap_append]
        simp
    · rintro H' ⟨s', ks, hd, na, ek, lk⟩
      walk_at "sx"
      refine ⟨D, _, rfl, .inl ⟨SqL.of (hd trivial), fun p np => ?_⟩⟩
      have s2 : Same H' (upd H' p (.tup (ks.map rN))) := Same.new np
      exact q p ks _ (s'.trans s2) upd_same (na.same s2) ek
end
end K04

set_option Elab.async false
set_option linter.all false
set_option maxRecDepth 100000
set_option maxHeartbeats 4000000
namespace K04
open PySem L2 Sx
local macro_rules | `(tactic| walk_at "cond") => `(tactic| first
  | assumption
  | decide
  | exact c_mul_r (by first | decide | omega) (by first | decide | omega)
  | exact c_mul_l (by first | decide | omega) (by first | decide | omega)
  | exact c_div (by first | decide | omega) (by first | decide | omega)
  | exact c_pow (by first | decide | omega) (by first | decide | omega) (by first | decide | omega)
  | omega)
local macro_rules | `(tactic| walk_at "ne") => `(tactic| first
  | assumption
  | (refine Ne.symm ?_; assumption)
  | (refine' Flow.ne ?nh ?nn; (case nn => assumption); (case nh => walk_at "fl"))
  | (refine Ne.symm ?_; refine' Flow.ne ?nh ?nn; (case nn => assumption); (case nh => walk_at "fl"))
  | (refine' ne_of_none ?nh ?nn; (case nn => assumption); (case nh => walk_at "at"))
  | (refine Ne.symm ?_; refine' ne_of_none ?nh ?nn; (case nn => assumption); (case nh => walk_at "at")))
local macro_rules | `(tactic| walk_at "at") => `(tactic| first
  | assumption
  | (refine Same.up (by assumption) ?_; walk_at "at")
  | (refine Keep.up (by assumption) (by walk_at "ne") ?_; walk_at "at"))
local macro_rules | `(tactic| walk_at "fl") => `(tactic| first
  | assumption
  | (refine Flow.same (by assumption) ?_; walk_at "fl")
  | (refine Flow.keep (by assumption) (by walk_at "ne") ?_; walk_at "fl"))
local macro_rules | `(tactic| walk_at "fr") => `(tactic| first
  | assumption
  | (refine same_free (by assumption) ?_; walk_at "fr")
  | (refine Keep.free (by assumption) (by walk_at "ne") ?_; walk_at "fr"))
local macro_rules | `(tactic| walk_at "kp") => `(tactic| first
  | assumption
  | exact Keep.refl _ _
  | (refine Keep.trans ?_ (by assumption); walk_at "kp")
  | (refine Keep.trans ?_ (Keep.same (by assumption)); walk_at "kp"))
local macro_rules | `(tactic| walk_at "sm") => `(tactic| first
  | assumption
  | exact L2.Same.refl _
  | (refine L2.Same.trans ?_ (by assumption); walk_at "sm"))
local macro_rules | `(tactic| walk_at "sz") => `(tactic| first | exact Nat.le_of_ble_eq_true rfl | omega)
local macro_rules | `(tactic| walk_at "new") => `(tactic| (intro p np; generalize hE : upd _ p _ = H2; have s2 := new_same np hE; have h2 := new_at hE; clear hE))
local macro_rules | `(tactic| walk_at "newx") => `(tactic| (intro e d na nd hda; generalize hE : upd (upd _ d _) e _ = H2; have s2 := newx_same na nd hE; have h2 := newx_at hE; have h3 := newx_d hda hE; clear hE))
local macro_rules | `(tactic| walk_at "s1") => `(tactic| first
  | with_reducible refine s_seq ?_
  | with_reducible refine s_asg ?_
  | with_reducible refine s_name ?_
  | with_reducible refine s_ret ?_
  | with_reducible refine s_c ?_
  | ((with_reducible refine' s_var ?hv ?_); (case hv => rfl))
  | with_reducible refine s_op ?_
  | with_reducible refine s_un ?_
  | with_reducible refine s_ifS ?_
  | with_reducible refine s_cb ?_
  | with_reducible refine s_cons ?_
  | with_reducible refine s_nil ?_
  | with_reducible refine s_call ?_
  | with_reducible refine s_test ?_
  | with_reducible refine s_tB ?_
  | with_reducible refine s_bl ?_
  | with_reducible refine s_and ?_
  | with_reducible refine s_or ?_
  | with_reducible refine s_not ?_
  | with_reducible refine s_andV ?_
  | with_reducible refine s_orV ?_
  | with_reducible refine s_notV ?_
  | with_reducible refine s_blV ?_
  | with_reducible refine s_if ?_
  | with_reducible refine s_tup ?_
  | with_reducible refine s_lst ?_
  | with_reducible refine s_drop ?_
  | with_reducible refine s_next ?_
  | with_reducible refine s_sub ?_
  | with_reducible refine s_bm ?_
  | with_reducible refine s_callK ?_
  | with_reducible refine s_brk ?_
  | with_reducible refine s_cont ?_
  | with_reducible refine r_I0 ?_
  | with_reducible refine r_U ?_
  | with_reducible refine r_eqI ?_
  | with_reducible refine r_neI ?_
  | with_reducible refine r_isB ?_
  | with_reducible refine r_notB ?_
  | with_reducible refine i_t ?_
  | with_reducible refine i_f ?_
  | with_reducible refine i_nt ?_
  | with_reducible refine i_nf ?_
  | ((with_reducible refine' r_I ?hc ?_); (case hc => walk_at "cond"))
  | (with_reducible refine .inl ⟨_, rfl, ?_⟩)
  | (with_reducible refine ⟨_, rfl, ?_⟩)
  | ((with_reducible refine' r_ixL ?hx ?ha ?_); (case hx => walk_at "at"); (case ha => rfl))
  | ((with_reducible refine' r_ixT ?hx ?ha ?_); (case hx => walk_at "at"); (case ha => rfl))
  | ((with_reducible refine' r_setL ?hx ?ha ?_); (case hx => walk_at "at"); (case ha => rfl); intro H2 k2 h2; (try dsimp only [List.set, Int.toNat] at h2))
  | ((with_reducible refine' r_app ?hx ?hl ?_); (case hx => walk_at "at"); (case hl => first | exact Nat.lt_of_ble_eq_true rfl | omega); intro H2 k2 h2)
  | ((with_reducible refine' ty_list ?hx ?_); (case hx => walk_at "at"))
  | (refine And.intro (by (with_reducible show _ ≤ sizeLine); walk_at "sz") ?_; walk_at "new")
  | with_reducible refine s_exv ?_
  | walk_at "newx")
local macro_rules | `(tactic| walk_at "sx") => `(tactic| repeat (walk_at "s1"))
local macro_rules | `(tactic| walk_at "s2") => `(tactic| first
  | ((with_reducible refine' r_ixG ?hx ?hn ?_); (case hx => walk_at "at"); (case hn => omega))
  | ((with_reducible refine' r_ixGT ?hx ?hn ?_); (case hx => walk_at "at"); (case hn => omega))
  | (with_reducible refine ig_cons (fun hix => ?_) (fun hix => ?_))
  | ((with_reducible refine ig_nil ?_); omega)
  | ((with_reducible refine' i_T ?hc ?_); (case hc => omega))
  | ((with_reducible refine' i_F ?hc ?_); (case hc => omega))
  | (with_reducible refine i_2 (fun hc => ?_) (fun hc => ?_))
  | (with_reducible refine i_n2 (fun hc => ?_) (fun hc => ?_)))
local macro_rules | `(tactic| walk_at "go") => `(tactic| repeat' (first | walk_at "s1" | walk_at "s2"))

local macro_rules | `(tactic| walk_at "s1") => `(tactic| first
  | with_reducible refine s_chain ?_
  | with_reducible refine s_fldS ?_
  | with_reducible refine s_fld ?_
  | with_reducible refine s_dIn ?_
  | with_reducible refine s_dNotIn ?_
  | with_reducible refine s_sl ?_
  | with_reducible refine s_noPart ?_
  | with_reducible refine s_part ?_
  | with_reducible refine s_meth ?_
  | with_reducible refine s_make ?_)

/-- the law's own lots -/
def leastN (x : List Nat) : Nat := match x.getLast? with
  | none => 0
  | some y => y + 1
def grow (n : Nat) (x : List Nat) : List (List Nat) := (List.range (n - leastN x)).map fun t => x ++ [leastN x + t]
def lev (n : Nat) : Nat → List (List Nat)
  | 0 => [[]]
  | k + 1 => (lev n k).flatMap (grow n)
def every (n i : Nat) : List (List Nat) := (List.range i).flatMap (lev n)
theorem every_all : ∀ n : Fin 9, lotsOf n.val n.val = every n.val (n.val + 1) := by decide +kernel
theorem lev_all : ∀ n : Fin 9, ∀ i : Fin 9, (lev n.val i.val).length ≤ 70 ∧ (lev n.val i.val).all (fun x => decide (x.length = i.val) && x.all (fun y => decide (y < n.val))) = true := by decide +kernel
theorem every_eq {n : Nat} (h : n ≤ 8) : lotsOf n n = every n (n + 1) := every_all ⟨n, by omega⟩
theorem lev_len {n i : Nat} (h : n ≤ 8) (hi : i ≤ 8) : (lev n i).length ≤ 70 := (lev_all ⟨n, by omega⟩ ⟨i, by omega⟩).1
theorem lev_mem {n i : Nat} {x : List Nat} (h : n ≤ 8) (hi : i ≤ 8) (hx : x ∈ lev n i) : x.length = i ∧ ∀ y ∈ x, y < n := by
  have z := (lev_all ⟨n, by omega⟩ ⟨i, by omega⟩).2
  rw [List.all_eq_true] at z
  have z2 := z x hx
  rw [Bool.and_eq_true, decide_eq_true_eq, List.all_eq_true] at z2
  exact ⟨z2.1, fun y hy => of_decide_eq_true (z2.2 y hy)⟩
theorem atI_last (xs : List V) (x : V) : atI (xs ++ [x]) (-1) = some x := by
  unfold atI ixN
  rw [if_neg (by decide), List.length_append, List.length_singleton]
  rw [if_pos (by omega)]
  show (xs ++ [x])[((-1 : Int) + ((xs.length + 1 : Nat) : Int)).toNat]? = some x
  rw [show ((-1 : Int) + ((xs.length + 1 : Nat) : Int)).toNat = xs.length by omega]
  simp
section
variable {P : Program} {w : World} {K : PySem.W.Frag} {mg : Str → Option Value} {base : Heap} {A : Ad}
def spAllLots : Sp := fun vs H Q _ => ∃ n : Nat, vs = [.int n] ∧ n ≤ 8 ∧ ∀ (p : Addr) (ks : List (Addr × List Nat)) H', Same H H' → H' p = some (.tup (ks.map rN)) → NsAt H' ks → ks.map (·.2) = lotsOf n n → Q (.ref p) H'
theorem ok_allLots (T : Txt P K mg A) : FnOk P w K mg base CX0 3 A.a_all_lots A.d_all_lots ["size"] spAllLots := by
  refine T.F_all_lots.ok sc_all_lots (fun vs H Q E h => ?_) (fun cdv A' outer s H vs Q E hr h => ?_)
  · obtain ⟨n, rfl, _⟩ := h
    rfl
  · obtain ⟨n, rfl, sn, q⟩ := h
    have G_lots_to := ok_lotsTo (w := w) (base := base) T
    refine ⟨_, (pss_one (ps_ret (pe_call G_lots_to (hr.mono (by decide)) rfl T.g_lots_to T.F_lots_to.kp (B_lots_to T) .nil pass0 (pa_cons (pv 0) (pa_cons (pv 0) pa_nil))))), ?_⟩
    walk_at "sx"
    exact ⟨n, n, rfl, sn, Nat.le_refl _, q⟩
theorem ok_elot (T : Txt P K mg A) : FnOk P w K mg base CX0 1 A.a__law_every_lot A.d__law_every_lot ["size"] spAllLots := by
  refine T.F__law_every_lot.ok sc__law_every_lot (fun vs H Q E h => ?_) (fun cdv A' outer s H vs Q E hr h => ?_)
  · obtain ⟨n, rfl, _⟩ := h
    rfl
  · obtain ⟨n, rfl, sn, q⟩ := h
    refine ⟨_, (pss_cons (ps_set (i := 1) sc__law_every_lot.nd rfl (Or.inl rfl) (pe_lst pa_nil))
  (pss_cons (ps_set (i := 2) sc__law_every_lot.nd rfl (Or.inl rfl) (pe_lst (pa_cons (pe_tup pa_nil) pa_nil)))
  (pss_cons (ps_for PassesOwn.never rfl (pi_range1 rfl T.n_range (pa_cons (pe_op op_add (pv 0) pe_int) pa_nil)) (pg_name (i := 3) sc__law_every_lot.nd rfl (Or.inl rfl))
  (pss_cons (ps_set (i := 1) sc__law_every_lot.nd rfl (Or.inl rfl) (pe_op op_cat (pv 1) (pv 2)))
  (pss_cons (ps_set (i := 4) sc__law_every_lot.nd rfl (Or.inl rfl) (pe_lst pa_nil))
  (pss_cons (ps_for PassesOwn.never rfl (pi_list (pv 2)) (pg_name (i := 5) sc__law_every_lot.nd rfl (Or.inr rfl))
  (pss_cons (ps_set (i := 6) sc__law_every_lot.nd rfl (Or.inl rfl) pe_int)
  (pss_cons (ps_if (pt_cmpR op_gt (pe_callB call_len (by rfl) T.n_len (by decide +kernel) (pa_cons (pv 5) pa_nil)) pe_int (nomark _)) (pss_one (ps_set (i := 6) sc__law_every_lot.nd rfl (Or.inl rfl) (pe_op op_add (pe_ix (r := rIx K) ix_seq (pv 5) (pe_un un_neg pe_int) (fun _ _ => rfl)) pe_int))) pss_nil)
  (pss_one (ps_set (i := 4) sc__law_every_lot.nd rfl (Or.inl rfl) (pe_op op_cat (pv 4) (pe_lc (own := [("point", 7)]) (g := (gName 7)) (by rfl) sc__law_every_lot.nd (pi_range2 rfl T.n_range (pa_cons (pv 6) (pa_cons (pv 0) pa_nil))) (blkOk_by (own := [("point", 7)]) (N := ["size", "found", "level", "k", "grown", "lot", "least", "point"]) (sc := defScope s__law_every_lot) (by decide +kernel)) (fun _ _ _ _ _ => (pg_name (i := 7) sc__law_every_lot.nd rfl (Or.inl rfl))) (fun _ _ _ _ _ => pts_nil) (fun _ _ _ _ _ => (pe_op (r := rCatA K) op_catA (pv 5) (pe_tup (pa_cons (pv 7) pa_nil)))))))))))
  (pss_one (ps_set (i := 2) sc__law_every_lot.nd rfl (Or.inl rfl) (pv 4)))))))
  (pss_one (ps_ret (pe_callTy call_tuple_of (by rfl) T.n_tuple (by decide +kernel) (pa_cons (pv 1) pa_nil))))))), ?_⟩
    walk_at "sx"
    rename_i lf nf Hf sf hf p0 np0 H0 s0 h0 ll nl Hl sl hl
    unfold tFor iRng1
    walk_at "sx"
    refine ⟨by omega, by omega, ?_⟩
    rw [show ((n : Int) + 1).toNat = n + 1 by omega]
    refine for_range (lo := 0) (n := n + 1) (fun i σ H' => Same H H' ∧ ∃ (lf ll : Addr) (kf kl : List (Addr × List Nat)) (v3 v4 v5 v6 v7 : Option V), (True → H' lf = some (.lst (kf.map rN))) ∧ (True → H' ll = some (.lst (kl.map rN))) ∧ NsAt H' kf ∧ NsAt H' kl ∧ kf.map (·.2) = every n i ∧ kl.map (·.2) = lev n i ∧ kf.length ≤ 70 * i ∧ σ = [some (.int n), some (.ref lf), some (.ref ll), v3, v4, v5, v6, v7])
      ⟨sf.trans (s0.trans sl), lf, ll, [], [(p0, [])], _, _, _, _, _, fun _ => (s0.trans sl) _ _ hf, fun _ => hl, (fun q (h : q ∈ []) => by cases h), NsAt.one (sl _ _ h0), rfl, rfl, Nat.le_refl _, rfl⟩ ?_ ?_
    · rintro i σ H' hi ⟨s', lf, ll, kf, kl, v3, v4, v5, v6, v7, hf, hl, nf, nl, ef, el, cf, rfl⟩
      have ckl : kl.length ≤ 70 := by
        have := congrArg List.length el
        rw [List.length_map] at this
        rw [this]
        exact lev_len sn (by omega)
      walk_at "sx"
      refine ⟨lf, ll, _, _, rfl, rfl, hf trivial, hl trivial, by rw [List.length_map, List.length_map, sizeLine_eq]; omega, fun p1 np1 => ?_⟩
      generalize hE : upd H' p1 _ = H1
      have t1 := new_same np1 hE
      have g1 : H1 p1 = some (.lst ((kf ++ kl).map rN)) := by rw [new_at hE, List.map_append]
      clear hE
      walk_at "sx"
      rename_i lg ng G tg hg
      have S : Same H' G := t1.trans tg
      have fin : ∀ (lg : Addr) (kg : List (Addr × List Nat)) (G2 : Hp) (w5 w6 w7 : Option V), Same G G2 → G2 lg = some (.lst (kg.map rN)) → NsAt G2 kg → kg.map (·.2) = lev n (i + 1) →
          Same H G2 ∧ ∃ (lf ll : Addr) (kf kl : List (Addr × List Nat)) (v3 v4 v5 v6 v7 : Option V), (True → G2 lf = some (.lst (kf.map rN))) ∧ (True → G2 ll = some (.lst (kl.map rN))) ∧ NsAt G2 kf ∧ NsAt G2 kl ∧ kf.map (·.2) = every n (i + 1) ∧ kl.map (·.2) = lev n (i + 1) ∧ kf.length ≤ 70 * (i + 1) ∧ [some (.int n), some (.ref p1), some (.ref lg), some (.int (0 + (i : Int))), some (.ref lg), w5, w6, w7] = [some (.int n), some (.ref lf), some (.ref ll), v3, v4, v5, v6, v7] := fun lg kg G2 w5 w6 w7 s2 h2 n2 e2 =>
        ⟨s'.trans (S.trans s2), p1, lg, kf ++ kl, kg, _, _, _, _, _, fun _ => (tg.trans s2) _ _ g1, fun _ => h2, (nf.app nl).same (S.trans s2), n2, by
          rw [List.map_append, ef, el]
          unfold every
          rw [List.range_succ, List.flatMap_append]
          simp, e2, by rw [List.length_append]; omega, rfl⟩
      have hl1 : True → G ll = some (.lst (kl.map rN)) := fun _ => S _ _ (hl trivial)
      have nl1 := nl.same S
      refine ⟨_, rfl, ll, rfl, ⟨_, SqL.of (hl1 trivial)⟩, for_list (K := K) (a := ll) (xs := kl.map rN) (fun j σ G2 => Same G G2 ∧ ∃ (lg : Addr) (kg : List (Addr × List Nat)) (w5 w6 w7 : Option V), (True → G2 lg = some (.lst (kg.map rN))) ∧ NsAt G2 kg ∧ kg.map (·.2) = ((kl.take j).map (·.2)).flatMap (grow n) ∧ kg.length ≤ 8 * j ∧ σ = [some (.int n), some (.ref p1), some (.ref ll), some (.int (0 + (i : Int))), some (.ref lg), w5, w6, w7])
        ⟨L2.Same.refl _, lg, [], _, _, _, fun _ => hg, (fun q (h : q ∈ []) => by cases h), rfl, Nat.le_refl _, rfl⟩ (fun j σ G2 _ h => SqL.of (h.1 _ _ (hl1 trivial))) ?_ ?_⟩
      · rintro j x σ G2 hx ⟨s2, lg, kg, w5, w6, w7, hlg, ng, eg, cg, rfl⟩
        obtain ⟨z, hz, rfl⟩ : ∃ z, kl[j]? = some z ∧ rN z = x := by
          rw [List.getElem?_map] at hx
          exact Option.map_eq_some_iff.mp hx
        have hm := List.mem_of_getElem? hz
        have hj : j < kl.length := (List.getElem?_eq_some_iff.mp hz).1
        obtain ⟨b1, b2⟩ := lev_mem (n := n) (i := i) sn (by omega) (x := z.2) (by rw [← el]; exact List.mem_map.mpr ⟨z, hm, rfl⟩)
        have hz2 : True → G2 z.1 = some (.tup (z.2.map nv)) := fun _ => s2 _ _ (nl1 z hm)
        have rest : ∀ (le : Nat), le = leastN z.2 → le ≤ n → ∀ (σ : L2.St) (R : VK) (w7 : Option V), σ = [some (.int n), some (.ref p1), some (.ref ll), some (.int (0 + (i : Int))), some (.ref lg), some (.ref z.1), some (.int le), w7] → (∀ (lg2 : Addr) (k2 : List (Addr × List Nat)) (G3 : Hp), Same G2 G3 → G3 lg2 = some (.lst (k2.map rN)) → NsAt G3 k2 → k2.map (·.2) = kg.map (·.2) ++ grow n z.2 → k2.length ≤ 8 * (j + 1) → R (.ref lg2) G3) →
            tLc (iRng2 (tCons (tVar 6) (tCons (tVar 0) tNil))) (gName 7) tYes (tOp (rCatA K) (tVar 5) (tTup (tCons (tVar 7) tNil))) [7] σ G2 fun y H2 => rCat (.ref lg) y H2 R := by
          rintro le ele lle σ R w7 rfl kD
          unfold tLc iRng2
          walk_at "sx"
          refine ⟨_, _, rfl, ⟨by omega, by omega, by omega, by omega⟩, ?_⟩
          rw [show ((n : Int) - (le : Int)).toNat = n - le by omega]
          refine fun D' hD => lc_range (lo := (le : Int)) (n := n - le) (fun t G3 => Same G2 G3 ∧ ∃ k2 : List (Addr × List Nat), (True → G3 D' = some (.lst (k2.map rN))) ∧ NsAt G3 k2 ∧ k2.map (·.2) = (List.range t).map fun t => z.2 ++ [le + t]) ⟨Same.new hD, [], fun _ => upd_same, (fun q (h : q ∈ []) => by cases h), rfl⟩ ?_ ?_
          · rintro t G3 ht ⟨s3, k2, hd, n2, e2⟩
            have c2 : k2.length = t := by
              have := congrArg List.length e2
              simpa using this
            refine s_name ⟨rfl, ?_⟩
            refine s_yes (i_t ?_)
            walk_at "sx"
            rename_i pt npt G4 t4 g4
            refine r_cat (t4 _ _ (s3 _ _ (hz2 trivial))) g4 (by rw [List.length_map, b1, sizeLine_eq]; show _ + 1 ≤ _; omega) fun p5 G5 s5 h5 => ?_
            have hd5 := s5 _ _ (t4 _ _ (hd trivial))
            refine ⟨_, hd5, by rw [List.length_map, c2, sizeLine_eq]; omega, Sx.Same.put (s3.trans (t4.trans s5)) hD, k2 ++ [(p5, z.2 ++ [le + t])], fun _ => by rw [upd_same, List.map_append]; rfl, ?_, by rw [List.map_append, e2, List.range_succ, List.map_append]; rfl⟩
            have out : ∀ b xs, G5 b = some (.tup xs) → upd G5 D' (.lst (k2.map rN ++ [.ref p5])) b = some (.tup xs) := fun b xs e => by
              rw [upd_ne (fun w => by rw [w, hd5] at e; cases e)]
              exact e
            have h5' : Ns G5 p5 (z.2 ++ [le + t]) := by
              show G5 p5 = some (.tup ((z.2 ++ [le + t]).map nv))
              rw [h5, List.map_append, show (List.map nv [le + t]) = [V.int ((le : Int) + (t : Int))] by show [V.int ((le + t : Nat) : Int)] = _; rw [Int.natCast_add]]
            exact fun q' hq' => out _ _ ((n2.same (t4.trans s5)).app (NsAt.one h5') q' hq')
          · rintro G3 ⟨s3, k2, hd, n2, e2⟩
            have c2 : k2.length = n - le := by
              have := congrArg List.length e2
              simpa using this
            refine ⟨lg, D', _, _, rfl, rfl, s3 _ _ (hlg trivial), hd trivial, by rw [List.length_map, List.length_map, sizeLine_eq]; omega, fun p6 np6 => ?_⟩
            have t6 : Same G3 (upd G3 p6 (.lst (kg.map rN ++ k2.map rN))) := Same.new np6
            exact kD p6 (kg ++ k2) _ (s3.trans t6) (by rw [upd_same, List.map_append]) (((ng.same s3).app n2).same t6) (by rw [List.map_append, e2]; unfold grow; rw [← ele]) (by rw [List.length_append]; omega)
        walk_at "sx"
        have put : ∀ (lg2 : Addr) (k2 : List (Addr × List Nat)) (le : Nat) (w7 : Option V) (G3 : Hp), Same G2 G3 → G3 lg2 = some (.lst (k2.map rN)) → NsAt G3 k2 → k2.map (·.2) = kg.map (·.2) ++ grow n z.2 → k2.length ≤ 8 * (j + 1) →
            Same G G3 ∧ ∃ (lg : Addr) (kg : List (Addr × List Nat)) (w5 w6 w7' : Option V), (True → G3 lg = some (.lst (kg.map rN))) ∧ NsAt G3 kg ∧ kg.map (·.2) = ((kl.take (j + 1)).map (·.2)).flatMap (grow n) ∧ kg.length ≤ 8 * (j + 1) ∧ [some (.int n), some (.ref p1), some (.ref ll), some (.int (0 + (i : Int))), some (.ref lg2), some (.ref z.1), some (.int le), w7] = [some (.int n), some (.ref p1), some (.ref ll), some (.int (0 + (i : Int))), some (.ref lg), w5, w6, w7'] := fun lg2 k2 le w7 G3 s3 h3 n3 e3 c3 =>
          ⟨s2.trans s3, lg2, k2, _, _, _, fun _ => h3, n3, by rw [e3, eg, List.take_succ, hz]; simp, c3, rfl⟩
        refine ⟨_, _, rfl, .inr ⟨_, SqT.of (hz2 trivial), rfl⟩, ?_⟩
        walk_at "sx"
        rw [List.length_map]
        refine i_2 (fun c0 => ?_) (fun c0 => ?_)
        · obtain ⟨y, ys, e⟩ : ∃ ys y, z.2 = ys ++ [y] := ⟨z.2.dropLast, z.2.getLast (fun e => by rw [e] at c0; simp at c0), (List.dropLast_concat_getLast _).symm⟩
          have lastv : leastN z.2 = ys + 1 := by
            unfold leastN
            rw [e, List.getLast?_append]
            rfl
          have yl : ys < n := b2 ys (by rw [e]; simp)
          walk_at "sx"
          refine r_ixT (hz2 trivial) (v := .int (ys : Nat)) (by rw [e, List.map_append]; exact atI_last _ _) ?_
          walk_at "sx"
          rw [show ((ys : Int) + 1) = ((ys + 1 : Nat) : Int) by omega]
          refine rest (ys + 1) lastv.symm (by omega) _ _ _ rfl fun lg2 k2 G3 s3 h3 n3 e3 c3 => ?_
          refine s_name ?_
          exact put lg2 k2 (ys + 1) _ G3 s3 h3 n3 e3 c3
        · have e : z.2 = [] := List.eq_nil_of_length_eq_zero (by omega)
          walk_at "sx"
          refine rest 0 (by rw [e]; rfl) (Nat.zero_le _) _ _ _ rfl fun lg2 k2 G3 s3 h3 n3 e3 c3 => ?_
          refine s_name ?_
          exact put lg2 k2 0 _ G3 s3 h3 n3 e3 c3
      · rintro σ G2 ⟨s2, lg, kg, w5, w6, w7, hlg, ng, eg, cg, rfl⟩
        rw [List.length_map, List.take_length, el] at eg
        walk_at "sx"
        exact fin lg kg G2 w5 w6 w7 s2 (hlg trivial) ng eg
    · rintro σ H' ⟨s', lf, ll, kf, kl, v3, v4, v5, v6, v7, hf, hl, nf, nl, ef, el, cf, rfl⟩
      walk_at "sx"
      refine ⟨lf, _, rfl, .inl ⟨SqL.of (hf trivial), fun p np => ?_⟩⟩
      have s2 : Same H' (upd H' p (.tup (kf.map rN))) := Same.new np
      exact q p kf _ (s'.trans s2) upd_same (nf.same s2) (by rw [ef, every_eq sn])
end
end K04

set_option Elab.async false
set_option linter.all false
set_option maxRecDepth 100000
set_option maxHeartbeats 4000000
namespace K04
open PySem L2 Sx
local macro_rules | `(tactic| walk_at "cond") => `(tactic| first
  | assumption
  | decide
  | exact c_mul_r (by first | decide | omega) (by first | decide | omega)
  | exact c_mul_l (by first | decide | omega) (by first | decide | omega)
  | exact c_div (by first | decide | omega) (by first | decide | omega)
  | exact c_pow (by first | decide | omega) (by first | decide | omega) (by first | decide | omega)
  | omega)
local macro_rules | `(tactic| walk_at "ne") => `(tactic| first
  | assumption
  | (refine Ne.symm ?_; assumption)
  | (refine' Flow.ne ?nh ?nn; (case nn => assumption); (case nh => walk_at "fl"))
  | (refine Ne.symm ?_; refine' Flow.ne ?nh ?nn; (case nn => assumption); (case nh => walk_at "fl"))
  | (refine' ne_of_none ?nh ?nn; (case nn => assumption); (case nh => walk_at "at"))
  | (refine Ne.symm ?_; refine' ne_of_none ?nh ?nn; (case nn => assumption); (case nh => walk_at "at")))
local macro_rules | `(tactic| walk_at "at") => `(tactic| first
  | assumption
  | (refine Same.up (by assumption) ?_; walk_at "at")
  | (refine Keep.up (by assumption) (by walk_at "ne") ?_; walk_at "at"))
local macro_rules | `(tactic| walk_at "fl") => `(tactic| first
  | assumption
  | (refine Flow.same (by assumption) ?_; walk_at "fl")
  | (refine Flow.keep (by assumption) (by walk_at "ne") ?_; walk_at "fl"))
local macro_rules | `(tactic| walk_at "fr") => `(tactic| first
  | assumption
  | (refine same_free (by assumption) ?_; walk_at "fr")
  | (refine Keep.free (by assumption) (by walk_at "ne") ?_; walk_at "fr"))
local macro_rules | `(tactic| walk_at "kp") => `(tactic| first
  | assumption
  | exact Keep.refl _ _
  | (refine Keep.trans ?_ (by assumption); walk_at "kp")
  | (refine Keep.trans ?_ (Keep.same (by assumption)); walk_at "kp"))
local macro_rules | `(tactic| walk_at "sm") => `(tactic| first
  | assumption
  | exact L2.Same.refl _
  | (refine L2.Same.trans ?_ (by assumption); walk_at "sm"))
local macro_rules | `(tactic| walk_at "sz") => `(tactic| first | exact Nat.le_of_ble_eq_true rfl | omega)
local macro_rules | `(tactic| walk_at "new") => `(tactic| (intro p np; generalize hE : upd _ p _ = H2; have s2 := new_same np hE; have h2 := new_at hE; clear hE))
local macro_rules | `(tactic| walk_at "newx") => `(tactic| (intro e d na nd hda; generalize hE : upd (upd _ d _) e _ = H2; have s2 := newx_same na nd hE; have h2 := newx_at hE; have h3 := newx_d hda hE; clear hE))
local macro_rules | `(tactic| walk_at "s1") => `(tactic| first
  | with_reducible refine s_seq ?_
  | with_reducible refine s_asg ?_
  | with_reducible refine s_name ?_
  | with_reducible refine s_ret ?_
  | with_reducible refine s_c ?_
  | ((with_reducible refine' s_var ?hv ?_); (case hv => rfl))
  | with_reducible refine s_op ?_
  | with_reducible refine s_un ?_
  | with_reducible refine s_ifS ?_
  | with_reducible refine s_cb ?_
  | with_reducible refine s_cons ?_
  | with_reducible refine s_nil ?_
  | with_reducible refine s_call ?_
  | with_reducible refine s_test ?_
  | with_reducible refine s_tB ?_
  | with_reducible refine s_bl ?_
  | with_reducible refine s_and ?_
  | with_reducible refine s_or ?_
  | with_reducible refine s_not ?_
  | with_reducible refine s_andV ?_
  | with_reducible refine s_orV ?_
  | with_reducible refine s_notV ?_
  | with_reducible refine s_blV ?_
  | with_reducible refine s_if ?_
  | with_reducible refine s_tup ?_
  | with_reducible refine s_lst ?_
  | with_reducible refine s_drop ?_
  | with_reducible refine s_next ?_
  | with_reducible refine s_sub ?_
  | with_reducible refine s_bm ?_
  | with_reducible refine s_callK ?_
  | with_reducible refine s_brk ?_
  | with_reducible refine s_cont ?_
  | with_reducible refine r_I0 ?_
  | with_reducible refine r_U ?_
  | with_reducible refine r_eqI ?_
  | with_reducible refine r_neI ?_
  | with_reducible refine r_isB ?_
  | with_reducible refine r_notB ?_
  | with_reducible refine i_t ?_
  | with_reducible refine i_f ?_
  | with_reducible refine i_nt ?_
  | with_reducible refine i_nf ?_
  | ((with_reducible refine' r_I ?hc ?_); (case hc => walk_at "cond"))
  | (with_reducible refine .inl ⟨_, rfl, ?_⟩)
  | (with_reducible refine ⟨_, rfl, ?_⟩)
  | ((with_reducible refine' r_ixL ?hx ?ha ?_); (case hx => walk_at "at"); (case ha => rfl))
  | ((with_reducible refine' r_ixT ?hx ?ha ?_); (case hx => walk_at "at"); (case ha => rfl))
  | ((with_reducible refine' r_setL ?hx ?ha ?_); (case hx => walk_at "at"); (case ha => rfl); intro H2 k2 h2; (try dsimp only [List.set, Int.toNat] at h2))
  | ((with_reducible refine' r_app ?hx ?hl ?_); (case hx => walk_at "at"); (case hl => first | exact Nat.lt_of_ble_eq_true rfl | omega); intro H2 k2 h2)
  | ((with_reducible refine' ty_list ?hx ?_); (case hx => walk_at "at"))
  | (refine And.intro (by (with_reducible show _ ≤ sizeLine); walk_at "sz") ?_; walk_at "new")
  | with_reducible refine s_exv ?_
  | walk_at "newx")
local macro_rules | `(tactic| walk_at "sx") => `(tactic| repeat (walk_at "s1"))
local macro_rules | `(tactic| walk_at "s2") => `(tactic| first
  | ((with_reducible refine' r_ixG ?hx ?hn ?_); (case hx => walk_at "at"); (case hn => omega))
  | ((with_reducible refine' r_ixGT ?hx ?hn ?_); (case hx => walk_at "at"); (case hn => omega))
  | (with_reducible refine ig_cons (fun hix => ?_) (fun hix => ?_))
  | ((with_reducible refine ig_nil ?_); omega)
  | ((with_reducible refine' i_T ?hc ?_); (case hc => omega))
  | ((with_reducible refine' i_F ?hc ?_); (case hc => omega))
  | (with_reducible refine i_2 (fun hc => ?_) (fun hc => ?_))
  | (with_reducible refine i_n2 (fun hc => ?_) (fun hc => ?_)))
local macro_rules | `(tactic| walk_at "go") => `(tactic| repeat' (first | walk_at "s1" | walk_at "s2"))

local macro_rules | `(tactic| walk_at "s1") => `(tactic| first
  | with_reducible refine s_chain ?_
  | with_reducible refine s_fldS ?_
  | with_reducible refine s_fld ?_
  | with_reducible refine s_dIn ?_
  | with_reducible refine s_dNotIn ?_
  | with_reducible refine s_sl ?_
  | with_reducible refine s_noPart ?_
  | with_reducible refine s_part ?_
  | with_reducible refine s_meth ?_
  | with_reducible refine s_make ?_)

/-- alike, nested less than d deep -/
inductive Al (H : Hp) : Nat → V → V → Prop where
  | int {d : Nat} (i : Int) : Al H d (.int i) (.int i)
  | tup {d : Nat} {p q : Addr} {xs ys : List V} (hp : H p = some (.tup xs)) (hq : H q = some (.tup ys)) (l : xs.length = ys.length) (sz : ys.length < 1000) (a : ∀ (i : Nat) (x y : V), xs[i]? = some x → ys[i]? = some y → Al H d x y) : Al H (d + 1) (.ref p) (.ref q)
theorem Al.same {H H' : Hp} (e : Same H H') {d : Nat} {x y : V} (h : Al H d x y) : Al H' d x y := by
  induction h with
  | int i => exact .int i
  | tup hp hq l sz _ ih => exact .tup (e _ _ hp) (e _ _ hq) l sz ih
theorem al_ns {H : Hp} {d : Nat} {p q : Addr} {js : List Nat} (hp : Ns H p js) (hq : Ns H q js) (sz : js.length < 1000) : Al H (d + 1) (.ref p) (.ref q) := by
  refine .tup hp hq rfl (by rw [List.length_map]; exact sz) fun i x y hx hy => ?_
  rw [hx] at hy
  cases hy
  obtain ⟨n, _, rfl⟩ := List.mem_map.mp (List.mem_of_getElem? hx)
  exact .int _
theorem al_rows {H : Hp} {d : Nat} {p q : Addr} {ks ls : List (Addr × List Nat)} (hp : H p = some (.tup (ks.map rN))) (hq : H q = some (.tup (ls.map rN))) (nk : NsAt H ks) (nl : NsAt H ls) (e : ks.map (·.2) = ls.map (·.2)) (sz : ls.length < 1000) (sm : ∀ z ∈ ls, z.2.length < 1000) : Al H (d + 2) (.ref p) (.ref q) := by
  have el := congrArg List.length e
  rw [List.length_map, List.length_map] at el
  refine .tup hp hq (by rw [List.length_map, List.length_map, el]) (by rw [List.length_map]; exact sz) fun i x y hx hy => ?_
  rw [List.getElem?_map] at hx hy
  obtain ⟨a, ha, rfl⟩ := Option.map_eq_some_iff.mp hx
  obtain ⟨b, hb, rfl⟩ := Option.map_eq_some_iff.mp hy
  have z1 : (ks.map (·.2))[i]? = some a.2 := by rw [List.getElem?_map, ha]; rfl
  have z2 : (ls.map (·.2))[i]? = some b.2 := by rw [List.getElem?_map, hb]; rfl
  rw [e, z2] at z1
  have e2 := Option.some.inj z1
  have ma := nk a (List.mem_of_getElem? ha)
  rw [← e2] at ma
  exact al_ns ma (nl b (List.mem_of_getElem? hb)) (sm b (List.mem_of_getElem? hb))
section
variable {P : Program} {w : World} {K : PySem.W.Frag} {mg : Str → Option Value} {base : Heap} {A : Ad}
def spSame (d : Nat) : Sp := fun vs H Q _ => ∃ x y, vs = [x, y] ∧ Al H d x y ∧ ∀ H', Same H H' → Q (.bl true) H'
theorem ok_same (T : Txt P K mg A) : ∀ d, FnOk P w K mg base CX0 (d + 1) A.a__law_same A.d__law_same ["actual", "due"] (spSame d) := by
  intro d
  induction d with
  | zero =>
    refine T.F__law_same.ok sc__law_same (fun vs H Q E h => ?_) (fun cdv A' outer s H vs Q E hr h => ?_)
    · obtain ⟨x, y, rfl, _⟩ := h
      rfl
    · obtain ⟨x, y, rfl, al, k⟩ := h
      refine ⟨_, (pss_cons (ps_if (pt_val (pe_callB (id := "isinstance") (r := rIsiV K) call_isiV (by rfl) T.n_isinstance (by decide +kernel) (pa_cons (pv 1) (pa_cons (pe_bltn (v := .ty "tuple") (u := .type "tuple") (by rfl) T.n_tuple (by decide +kernel) rfl) pa_nil)))) (pss_cons (ps_if (PW.pt (pw_or (pt_not (pt_val (pe_callB (id := "isinstance") (r := rIsiV K) call_isiV (by rfl) T.n_isinstance (by decide +kernel) (pa_cons (pv 0) (pa_cons (pe_bltn (v := .ty "tuple") (u := .type "tuple") (by rfl) T.n_tuple (by decide +kernel) rfl) pa_nil))))) (pw_or1 (pt_cmpR op_ne (pe_callB call_len (by rfl) T.n_len (by decide +kernel) (pa_cons (pv 0) pa_nil)) (pe_callB call_len (by rfl) T.n_len (by decide +kernel) (pa_cons (pv 1) pa_nil)) (nomark _))))) (pss_one (ps_ret pe_bl)) pss_nil)
  (pss_cons ps_never
  (pss_one (ps_ret pe_bl)))) pss_nil)
  (pss_one (ps_ret (pe_and (pe_callB (id := "isinstance") (r := rIsiV K) call_isiV (by rfl) T.n_isinstance (by decide +kernel) (pa_cons (pv 0) (pa_cons (pe_bltn (v := .ty "int") (u := .type "int") (by rfl) T.n_int (by decide +kernel) rfl) pa_nil))) (pe_and (pe_not (pe_callB (id := "isinstance") (r := rIsiV K) call_isiV (by rfl) T.n_isinstance (by decide +kernel) (pa_cons (pv 0) (pa_cons (pe_bltn (v := .ty "bool") (u := .type "bool") (by rfl) T.n_bool (by decide +kernel) rfl) pa_nil)))) (pe_one (pe_cmpR op_eq (pv 0) (pv 1) (nomark _)))))))), ?_⟩
      have k' := k H (L2.Same.refl H)
      cases al with
      | int i =>
        walk_at "sx"
        refine isi_in (b := false) (in_int_t i) ?_
        walk_at "sx"
        refine isi_in (b := true) (in_int i) ?_
        walk_at "sx"
        refine isi_in (b := false) (in_int_b i) ?_
        walk_at "sx"
        rw [decide_eq_true rfl]
        exact k'
  | succ d ih =>
    refine T.F__law_same.ok sc__law_same (fun vs H Q E h => ?_) (fun cdv A' outer s H vs Q E hr h => ?_)
    · obtain ⟨x, y, rfl, _⟩ := h
      rfl
    · obtain ⟨x, y, rfl, al, k⟩ := h
      have G__law_same := ih
      refine ⟨_, (pss_cons (ps_if (pt_val (pe_callB (id := "isinstance") (r := rIsiV K) call_isiV (by rfl) T.n_isinstance (by decide +kernel) (pa_cons (pv 1) (pa_cons (pe_bltn (v := .ty "tuple") (u := .type "tuple") (by rfl) T.n_tuple (by decide +kernel) rfl) pa_nil)))) (pss_cons (ps_if (PW.pt (pw_or (pt_not (pt_val (pe_callB (id := "isinstance") (r := rIsiV K) call_isiV (by rfl) T.n_isinstance (by decide +kernel) (pa_cons (pv 0) (pa_cons (pe_bltn (v := .ty "tuple") (u := .type "tuple") (by rfl) T.n_tuple (by decide +kernel) rfl) pa_nil))))) (pw_or1 (pt_cmpR op_ne (pe_callB call_len (by rfl) T.n_len (by decide +kernel) (pa_cons (pv 0) pa_nil)) (pe_callB call_len (by rfl) T.n_len (by decide +kernel) (pa_cons (pv 1) pa_nil)) (nomark _))))) (pss_one (ps_ret pe_bl)) pss_nil)
  (pss_cons (ps_for PassesOwn.never rfl (pi_range1 rfl T.n_range (pa_cons (pe_callB call_len (by rfl) T.n_len (by decide +kernel) (pa_cons (pv 1) pa_nil)) pa_nil)) (pg_name (i := 2) sc__law_same.nd rfl (Or.inl rfl))
  (pss_one (ps_if (pt_not (pt_val (pe_call G__law_same hr rfl T.g__law_same T.F__law_same.kp (B__law_same T) .nil pass0 (pa_cons (pe_ix ix_seq (pv 0) (pv 2) (fun _ _ => rfl)) (pa_cons (pe_ix ix_seq (pv 1) (pv 2) (fun _ _ => rfl)) pa_nil))))) (pss_one (ps_ret pe_bl)) pss_nil)))
  (pss_one (ps_ret pe_bl)))) pss_nil)
  (pss_one (ps_ret (pe_and (pe_callB (id := "isinstance") (r := rIsiV K) call_isiV (by rfl) T.n_isinstance (by decide +kernel) (pa_cons (pv 0) (pa_cons (pe_bltn (v := .ty "int") (u := .type "int") (by rfl) T.n_int (by decide +kernel) rfl) pa_nil))) (pe_and (pe_not (pe_callB (id := "isinstance") (r := rIsiV K) call_isiV (by rfl) T.n_isinstance (by decide +kernel) (pa_cons (pv 0) (pa_cons (pe_bltn (v := .ty "bool") (u := .type "bool") (by rfl) T.n_bool (by decide +kernel) rfl) pa_nil)))) (pe_one (pe_cmpR op_eq (pv 0) (pv 1) (nomark _)))))))), ?_⟩
      have k' := k H (L2.Same.refl H)
      cases al with
      | int i =>
        walk_at "sx"
        refine isi_in (b := false) (in_int_t i) ?_
        walk_at "sx"
        refine isi_in (b := true) (in_int i) ?_
        walk_at "sx"
        refine isi_in (b := false) (in_int_b i) ?_
        walk_at "sx"
        rw [decide_eq_true rfl]
        exact k'
      | tup hp hq l sz a =>
        rename_i p q xs ys
        walk_at "sx"
        refine isi_in (b := true) (in_tup hq) ?_
        walk_at "sx"
        refine isi_in (b := true) (in_tup hp) ?_
        walk_at "sx"
        refine ⟨_, _, rfl, .inr ⟨_, SqT.of hp, rfl⟩, ?_⟩
        walk_at "sx"
        refine ⟨_, _, rfl, .inr ⟨_, SqT.of hq, rfl⟩, ?_⟩
        walk_at "sx"
        rw [l, decide_eq_true rfl]
        walk_at "sx"
        refine ⟨_, rfl, _, _, rfl, .inr ⟨_, SqT.of hq, rfl⟩, _, rfl, by omega, by omega, for_range (lo := 0) (n := ys.length) (fun i σ H' => Same H H' ∧ ∃ v, σ = [some (.ref p), some (.ref q), v]) ⟨L2.Same.refl H, none, rfl⟩ ?_ ?_⟩
        · rintro i σ H' hi ⟨s', v, rfl⟩
          have hx := List.getElem?_eq_getElem (show i < xs.length by omega)
          have hy := List.getElem?_eq_getElem hi
          walk_at "sx"
          refine r_ixT (s' _ _ hp) (atI_nat (by rw [Nat.zero_add]; exact hx)) ?_
          walk_at "sx"
          refine r_ixT (s' _ _ hq) (atI_nat (by rw [Nat.zero_add]; exact hy)) ?_
          walk_at "sx"
          refine ⟨_, _, rfl, (a i _ _ hx hy).same s', fun H2 s2 => ?_⟩
          walk_at "sx"
          exact ⟨s'.trans s2, _, rfl⟩
        · rintro σ H' ⟨s', v, rfl⟩
          walk_at "sx"
          exact k H' s'
end
end K04

set_option Elab.async false
set_option linter.all false
set_option maxRecDepth 100000
set_option maxHeartbeats 4000000
namespace K04
open PySem L2 Sx
local macro_rules | `(tactic| walk_at "cond") => `(tactic| first
  | assumption
  | decide
  | exact c_mul_r (by first | decide | omega) (by first | decide | omega)
  | exact c_mul_l (by first | decide | omega) (by first | decide | omega)
  | exact c_div (by first | decide | omega) (by first | decide | omega)
  | exact c_pow (by first | decide | omega) (by first | decide | omega) (by first | decide | omega)
  | omega)
local macro_rules | `(tactic| walk_at "ne") => `(tactic| first
  | assumption
  | (refine Ne.symm ?_; assumption)
  | (refine' Flow.ne ?nh ?nn; (case nn => assumption); (case nh => walk_at "fl"))
  | (refine Ne.symm ?_; refine' Flow.ne ?nh ?nn; (case nn => assumption); (case nh => walk_at "fl"))
  | (refine' ne_of_none ?nh ?nn; (case nn => assumption); (case nh => walk_at "at"))
  | (refine Ne.symm ?_; refine' ne_of_none ?nh ?nn; (case nn => assumption); (case nh => walk_at "at")))
local macro_rules | `(tactic| walk_at "at") => `(tactic| first
  | assumption
  | (refine Same.up (by assumption) ?_; walk_at "at")
  | (refine Keep.up (by assumption) (by walk_at "ne") ?_; walk_at "at"))
local macro_rules | `(tactic| walk_at "fl") => `(tactic| first
  | assumption
  | (refine Flow.same (by assumption) ?_; walk_at "fl")
  | (refine Flow.keep (by assumption) (by walk_at "ne") ?_; walk_at "fl"))
local macro_rules | `(tactic| walk_at "fr") => `(tactic| first
  | assumption
  | (refine same_free (by assumption) ?_; walk_at "fr")
  | (refine Keep.free (by assumption) (by walk_at "ne") ?_; walk_at "fr"))
local macro_rules | `(tactic| walk_at "kp") => `(tactic| first
  | assumption
  | exact Keep.refl _ _
  | (refine Keep.trans ?_ (by assumption); walk_at "kp")
  | (refine Keep.trans ?_ (Keep.same (by assumption)); walk_at "kp"))
local macro_rules | `(tactic| walk_at "sm") => `(tactic| first
  | assumption
  | exact L2.Same.refl _
  | (refine L2.Same.trans ?_ (by assumption); walk_at "sm"))
local macro_rules | `(tactic| walk_at "sz") => `(tactic| first | exact Nat.le_of_ble_eq_true rfl | omega)
local macro_rules | `(tactic| walk_at "new") => `(tactic| (intro p np; generalize hE : upd _ p _ = H2; have s2 := new_same np hE; have h2 := new_at hE; clear hE))
local macro_rules | `(tactic| walk_at "newx") => `(tactic| (intro e d na nd hda; generalize hE : upd (upd _ d _) e _ = H2; have s2 := newx_same na nd hE; have h2 := newx_at hE; have h3 := newx_d hda hE; clear hE))
local macro_rules | `(tactic| walk_at "s1") => `(tactic| first
  | with_reducible refine s_seq ?_
  | with_reducible refine s_asg ?_
  | with_reducible refine s_name ?_
  | with_reducible refine s_ret ?_
  | with_reducible refine s_c ?_
  | ((with_reducible refine' s_var ?hv ?_); (case hv => rfl))
  | with_reducible refine s_op ?_
  | with_reducible refine s_un ?_
  | with_reducible refine s_ifS ?_
  | with_reducible refine s_cb ?_
  | with_reducible refine s_cons ?_
  | with_reducible refine s_nil ?_
  | with_reducible refine s_call ?_
  | with_reducible refine s_test ?_
  | with_reducible refine s_tB ?_
  | with_reducible refine s_bl ?_
  | with_reducible refine s_and ?_
  | with_reducible refine s_or ?_
  | with_reducible refine s_not ?_
  | with_reducible refine s_andV ?_
  | with_reducible refine s_orV ?_
  | with_reducible refine s_notV ?_
  | with_reducible refine s_blV ?_
  | with_reducible refine s_if ?_
  | with_reducible refine s_tup ?_
  | with_reducible refine s_lst ?_
  | with_reducible refine s_drop ?_
  | with_reducible refine s_next ?_
  | with_reducible refine s_sub ?_
  | with_reducible refine s_bm ?_
  | with_reducible refine s_callK ?_
  | with_reducible refine s_brk ?_
  | with_reducible refine s_cont ?_
  | with_reducible refine r_I0 ?_
  | with_reducible refine r_U ?_
  | with_reducible refine r_eqI ?_
  | with_reducible refine r_neI ?_
  | with_reducible refine r_isB ?_
  | with_reducible refine r_notB ?_
  | with_reducible refine i_t ?_
  | with_reducible refine i_f ?_
  | with_reducible refine i_nt ?_
  | with_reducible refine i_nf ?_
  | ((with_reducible refine' r_I ?hc ?_); (case hc => walk_at "cond"))
  | (with_reducible refine .inl ⟨_, rfl, ?_⟩)
  | (with_reducible refine ⟨_, rfl, ?_⟩)
  | ((with_reducible refine' r_ixL ?hx ?ha ?_); (case hx => walk_at "at"); (case ha => rfl))
  | ((with_reducible refine' r_ixT ?hx ?ha ?_); (case hx => walk_at "at"); (case ha => rfl))
  | ((with_reducible refine' r_setL ?hx ?ha ?_); (case hx => walk_at "at"); (case ha => rfl); intro H2 k2 h2; (try dsimp only [List.set, Int.toNat] at h2))
  | ((with_reducible refine' r_app ?hx ?hl ?_); (case hx => walk_at "at"); (case hl => first | exact Nat.lt_of_ble_eq_true rfl | omega); intro H2 k2 h2)
  | ((with_reducible refine' ty_list ?hx ?_); (case hx => walk_at "at"))
  | (refine And.intro (by (with_reducible show _ ≤ sizeLine); walk_at "sz") ?_; walk_at "new")
  | with_reducible refine s_exv ?_
  | walk_at "newx")
local macro_rules | `(tactic| walk_at "sx") => `(tactic| repeat (walk_at "s1"))
local macro_rules | `(tactic| walk_at "s2") => `(tactic| first
  | ((with_reducible refine' r_ixG ?hx ?hn ?_); (case hx => walk_at "at"); (case hn => omega))
  | ((with_reducible refine' r_ixGT ?hx ?hn ?_); (case hx => walk_at "at"); (case hn => omega))
  | (with_reducible refine ig_cons (fun hix => ?_) (fun hix => ?_))
  | ((with_reducible refine ig_nil ?_); omega)
  | ((with_reducible refine' i_T ?hc ?_); (case hc => omega))
  | ((with_reducible refine' i_F ?hc ?_); (case hc => omega))
  | (with_reducible refine i_2 (fun hc => ?_) (fun hc => ?_))
  | (with_reducible refine i_n2 (fun hc => ?_) (fun hc => ?_)))
local macro_rules | `(tactic| walk_at "go") => `(tactic| repeat' (first | walk_at "s1" | walk_at "s2"))

local macro_rules | `(tactic| walk_at "s1") => `(tactic| first
  | with_reducible refine s_chain ?_
  | with_reducible refine s_fldS ?_
  | with_reducible refine s_fld ?_
  | with_reducible refine s_dIn ?_
  | with_reducible refine s_dNotIn ?_
  | with_reducible refine s_sl ?_
  | with_reducible refine s_noPart ?_
  | with_reducible refine s_part ?_
  | with_reducible refine s_meth ?_
  | with_reducible refine s_make ?_)

section
variable {P : Program} {w : World} {K : PySem.W.Frag} {mg : Str → Option Value} {base : Heap} {A : Ad}
theorem s_seqP {s rest : TS} {D : L2.Ends} {σ : L2.St} {H : Hp} (P : L2.St → Hp → Prop) (h1 : ∀ X : L2.St → Hp → Prop, (∀ σ' H', P σ' H' → X σ' H') → s { D with nx := X } σ H) (h2 : ∀ σ' H', P σ' H' → rest D σ' H') : tSeq s rest D σ H := h1 _ h2
theorem c_lotT {H : Hp} {v : V} {n : Nat} {js : List Nat} {Q : VK} {E : XK} (g : GW K H v) (h : Lot H n v js) (q : ∀ H', Same H H' → Q (.bl true) H') : spLot K [v, .int n] H Q E := ⟨v, n, rfl, g.gv, fun _ _ => q, fun z => absurd h (z js)⟩
theorem c_lotF {H : Hp} {v : V} {n : Nat} {Q : VK} {E : XK} (g : GW K H v) (h : ¬ ∃ js, Lot H n v js) (q : ∀ H', Same H H' → Q (.bl false) H') : spLot K [v, .int n] H Q E := ⟨v, n, rfl, g.gv, fun js z => absurd ⟨js, z⟩ h, fun _ => q⟩
theorem nolot {H H' : Hp} {v : V} {n : Nat} (g : GW K H v) (s : Same H H') (h : ¬ ∃ js, Lot H n v js) : ¬ ∃ js, Lot H' n v js := fun ⟨js, p, e, hp, pw, lt⟩ => by
  subst e
  rcases g with ⟨k, t⟩ | ⟨q, xs, e, hq, _, _⟩
  · cases k with
    | lst z _ =>
      rw [s _ _ z] at hp
      cases hp
    | tup z _ =>
      rw [isT_of z] at t
      cases t
    | exc ha _ _ _ _ =>
      rw [s _ _ ha] at hp
      cases hp
  · cases e
    have z := s _ _ hq
    rw [hp] at z
    injection z with z
    injection z with z
    exact h ⟨js, p, rfl, by rw [hq, ← z], pw, lt⟩
def spVals (K : PySem.W.Frag) : Sp := fun vs H Q _ => ∃ (l : Addr) (ns : List Int) (n m : Nat), vs = [.ref l, .int n, .int m] ∧ SqL K H l (ns.map V.int) ∧ n ≤ 8 ∧ m ≤ 8 ∧ ∀ H', Same H H' → Q (.bl true) H'
theorem ok_vals (T : Txt P K mg A) : FnOk P w K mg base CX0 6 A.a__law_values A.d__law_values ["script", "size", "turn"] (spVals K) := by
  refine T.F__law_values.ok sc__law_values (fun vs H Q E h => ?_) (fun cdv A' outer s H vs Q E hr h => ?_)
  · obtain ⟨l, ns, n, m, rfl, _⟩ := h
    rfl
  · obtain ⟨l, ns, n, m, rfl, hl, sn, sm, k⟩ := h
    have G__law_flow := ok_flow (w := w) (base := base) T
    have G__law_take := ok_take (w := w) (base := base) T
    have G__law_row := ok_dRow (w := w) (base := base) T
    have G__law_lot := ok_dLot (w := w) (base := base) T
    have G__law_spoilt := ok_spoilt (w := w) (base := base) T
    have G__law_truth := ok_truth (w := w) (base := base) T
    have G_is_row := ok_row (w := w) (base := base) T
    have G__law_is_row := ok_lrow (w := w) (base := base) T
    have G_is_lot := ok_lot (w := w) (base := base) T
    have G__law_is_lot := ok_llot (w := w) (base := base) T
    have G_read_at := ok_read (w := w) (base := base) T
    have G__law_same := ok_same (w := w) (base := base) T 1
    refine ⟨_, (pss_cons (ps_for PassesOwn.never rfl (pi_range2 rfl T.n_range (pa_cons pe_int (pa_cons pe_int pa_nil))) (pg_name (i := 3) sc__law_values.nd rfl (Or.inl rfl))
  (pss_cons (ps_set (i := 4) sc__law_values.nd rfl (Or.inl rfl) (pe_call G__law_flow (hr.mono (by decide)) rfl T.g__law_flow T.F__law_flow.kp (B__law_flow T) .nil pass0 (pa_cons (pv 0) (pa_cons (pv 3) pa_nil))))
  (pss_cons (ps_set (i := 5) sc__law_values.nd rfl (Or.inr rfl) (pe_call G__law_row (hr.mono (by decide)) rfl T.g__law_row T.F__law_row.kp (B__law_row T) .nil pass0 (pa_cons (pv 4) (pa_cons (pv 1) pa_nil))))
  (pss_cons (ps_set (i := 6) sc__law_values.nd rfl (Or.inl rfl) (pe_call G__law_lot (hr.mono (by decide)) rfl T.g__law_lot T.F__law_lot.kp (B__law_lot T) .nil pass0 (pa_cons (pv 4) (pa_cons (pv 1) pa_nil))))
  (pss_cons (ps_if (pt_cmpR op_eq (pe_call G__law_take (hr.mono (by decide)) rfl T.g__law_take T.F__law_take.kp (B__law_take T) .nil pass0 (pa_cons (pv 4) (pa_cons pe_int pa_nil))) pe_int (nomark _)) (pss_one (ps_set (i := 7) sc__law_values.nd rfl (Or.inl rfl) (pe_call G__law_spoilt (hr.mono (by decide)) rfl T.g__law_spoilt T.F__law_spoilt.kp (B__law_spoilt T) .nil pass0 (pa_cons (pv 4) (pa_cons (pv 5) (pa_cons (pv 1) pa_nil)))))) (pss_one (ps_set (i := 7) sc__law_values.nd rfl (Or.inl rfl) (pe_call G__law_spoilt (hr.mono (by decide)) rfl T.g__law_spoilt T.F__law_spoilt.kp (B__law_spoilt T) .nil pass0 (pa_cons (pv 4) (pa_cons (pv 6) (pa_cons (pv 1) pa_nil)))))))
  (pss_cons (ps_if (pt_not (pt_val (pe_call G__law_truth (hr.mono (by decide)) rfl T.g__law_truth T.F__law_truth.kp (B__law_truth T) .nil pass0 (pa_cons (pe_call G_is_row (hr.mono (by decide)) rfl T.g_is_row T.F_is_row.kp (B_is_row T) .nil pass0 (pa_cons (pv 7) (pa_cons (pv 1) pa_nil))) (pa_cons (pe_call G__law_is_row (hr.mono (by decide)) rfl T.g__law_is_row T.F__law_is_row.kp (B__law_is_row T) .nil pass0 (pa_cons (pv 7) (pa_cons (pv 1) pa_nil))) pa_nil))))) (pss_one (ps_ret pe_bl)) pss_nil)
  (pss_cons (ps_if (pt_not (pt_val (pe_call G__law_truth (hr.mono (by decide)) rfl T.g__law_truth T.F__law_truth.kp (B__law_truth T) .nil pass0 (pa_cons (pe_kw0 G_is_lot (hr.mono (by decide)) rfl T.g_is_lot T.F_is_lot.kp (KB_is_lot_size_value T) pass0 (pk_cons (pv 1) (pk_cons (pv 7) pk_nil))) (pa_cons (pe_call G__law_is_lot (hr.mono (by decide)) rfl T.g__law_is_lot T.F__law_is_lot.kp (B__law_is_lot T) .nil pass0 (pa_cons (pv 7) (pa_cons (pv 1) pa_nil))) pa_nil))))) (pss_one (ps_ret pe_bl)) pss_nil)
  (pss_cons (ps_if (PW.pt (pw_or (pt_not (pt_val (pe_call G__law_truth (hr.mono (by decide)) rfl T.g__law_truth T.F__law_truth.kp (B__law_truth T) .nil pass0 (pa_cons (pe_kw0 G_is_row (hr.mono (by decide)) rfl T.g_is_row T.F_is_row.kp (KB_is_row_size_value T) pass0 (pk_cons (pv 2) (pk_cons (pv 5) pk_nil))) (pa_cons (pe_cmpR op_eq (pv 1) (pv 2) (nomark _)) pa_nil))))) (pw_or1 (pt_not (pt_val (pe_call G__law_truth (hr.mono (by decide)) rfl T.g__law_truth T.F__law_truth.kp (B__law_truth T) .nil pass0 (pa_cons (pe_call G_is_lot (hr.mono (by decide)) rfl T.g_is_lot T.F_is_lot.kp (B_is_lot T) .nil pass0 (pa_cons (pv 6) (pa_cons (pv 1) pa_nil))) (pa_cons pe_bl pa_nil)))))))) (pss_one (ps_ret pe_bl)) pss_nil)
  (pss_cons (ps_if (pt_not (pt_val (pe_call G__law_truth (hr.mono (by decide)) rfl T.g__law_truth T.F__law_truth.kp (B__law_truth T) .nil pass0 (pa_cons (pe_call G_is_lot (hr.mono (by decide)) rfl T.g_is_lot T.F_is_lot.kp (B_is_lot T) .nil pass0 (pa_cons (pv 6) (pa_cons (pv 2) pa_nil))) (pa_cons (pe_call G__law_is_lot (hr.mono (by decide)) rfl T.g__law_is_lot T.F__law_is_lot.kp (B__law_is_lot T) .nil pass0 (pa_cons (pv 6) (pa_cons (pv 2) pa_nil))) pa_nil))))) (pss_one (ps_ret pe_bl)) pss_nil)
  (pss_cons (ps_set (i := 8) sc__law_values.nd rfl (Or.inl rfl) (pe_callTy call_tuple_of (by rfl) T.n_tuple (by decide +kernel) (pa_cons (pe_lc (own := [("point", 9)]) (g := (gName 9)) (by rfl) sc__law_values.nd (pi_tup (pv 6)) (blkOk_by (own := [("point", 9)]) (N := ["script", "size", "turn", "k", "flow", "row", "lot", "value", "due", "point"]) (sc := defScope s__law_values) (by decide +kernel)) (fun _ _ _ _ _ => (pg_name (i := 9) sc__law_values.nd rfl (Or.inl rfl))) (fun _ _ _ _ _ => pts_nil) (fun _ _ _ _ _ => (pe_ix (r := rIx K) ix_seq (pv 5) (pv 9) (fun _ _ => rfl)))) pa_nil)))
  (pss_one (ps_if (PW.pt (pw_or (pt_not (pt_val (pe_call G__law_same (hr.mono (by decide)) rfl T.g__law_same T.F__law_same.kp (B__law_same T) .nil pass0 (pa_cons (pe_call G_read_at (hr.mono (by decide)) rfl T.g_read_at T.F_read_at.kp (B_read_at T) .nil pass0 (pa_cons (pv 5) (pa_cons (pv 6) pa_nil))) (pa_cons (pv 8) pa_nil))))) (pw_or1 (pt_not (pt_val (pe_call G__law_same (hr.mono (by decide)) rfl T.g__law_same T.F__law_same.kp (B__law_same T) .nil pass0 (pa_cons (pe_kw0 G_read_at (hr.mono (by decide)) rfl T.g_read_at T.F_read_at.kp (KB_read_at_lot_row T) pass0 (pk_cons (pv 6) (pk_cons (pv 5) pk_nil))) (pa_cons (pv 8) pa_nil)))))))) (pss_one (ps_ret pe_bl)) pss_nil))))))))))))
  (pss_one (ps_ret pe_bl))), ?_⟩
    walk_at "sx"
    refine ⟨_, _, rfl, ⟨by decide, by decide, by decide, by decide⟩, for_range (lo := 1) (n := 8) (fun i σ H' => Same H H' ∧ ∃ (v3 v4 v5 v6 v7 v8 v9 : Option V), σ = [some (.ref l), some (.int n), some (.int m), v3, v4, v5, v6, v7, v8, v9]) ⟨L2.Same.refl _, _, _, _, _, _, _, _, rfl⟩ ?_ ?_⟩
    · rintro i σ H' hi ⟨s', v3, v4, v5, v6, v7, v8, v9, rfl⟩
      walk_at "sx"
      refine c_flow (by omega) (s'.seq hl) fun a H1 n1 s1 F1 => ?_
      walk_at "sx"
      refine ⟨a, n, rfl, F1, sn, fun pr r H2 na2 F2 K2 hr2 lr br => ?_⟩
      walk_at "sx"
      refine ⟨a, n, rfl, F2, sn, fun pl js H3 na3 F3 K3 hl3 pw bj lj => ?_⟩
      have hr3 := K3 _ _ na2 hr2
      have S13 : Same H' H3 := Keep.toSame s1 n1 (K2.trans K3)
      refine s_name ?_
      dsimp only
      refine s_seqP (fun σ' H5 => ∃ v : V, GW K H5 v ∧ Same H' H5 ∧ Ns H5 pr r ∧ Ns H5 pl js ∧ σ' = [some (.ref l), some (.int n), some (.int m), some (.int (1 + (i : Int))), some (.ref a), some (.ref pr), some (.ref pl), some v, v8, v9]) (fun X hX => ?_) ?_
      · walk_at "sx"
        refine c_take F3 (by decide) (by decide) fun d H4 l4 u4 F4 K4 => ?_
        have hr4 := K4 _ _ na2 hr3
        have hl4 := K4 _ _ na3 hl3
        have K14 := K2.trans (K3.trans K4)
        walk_at "sx"
        refine i_2 (fun c => ?_) (fun c => ?_)
        · walk_at "sx"
          refine ⟨a, pr, r, n, rfl, F4, hr4, na2, by omega, fun v H5 F5 K5 g => ?_⟩
          walk_at "sx"
          exact hX _ _ ⟨v, g, Keep.toSame s1 n1 (K14.trans K5), K5 _ _ na2 hr4, K5 _ _ na3 hl4, rfl⟩
        · walk_at "sx"
          refine ⟨a, pl, js, n, rfl, F4, hl4, na3, by omega, fun v H5 F5 K5 g => ?_⟩
          walk_at "sx"
          exact hX _ _ ⟨v, g, Keep.toSame s1 n1 (K14.trans K5), K5 _ _ na2 hr4, K5 _ _ na3 hl4, rfl⟩
      rintro _ H5 ⟨v, g, S5, hr5, hl5, rfl⟩
      have gr : ∀ {H6 : Hp}, Same H5 H6 → GW K H6 (.ref pr) := fun s6 => gv_tup (s6 _ _ hr5) (es_nats r) (by rw [List.length_map]; omega)
      have gl : ∀ {H6 : Hp}, Same H5 H6 → GW K H6 (.ref pl) := fun s6 => gv_tup (s6 _ _ hl5) (es_nats js) (by rw [List.length_map]; omega)
      refine s_seqP (fun σ' H6 => Same H5 H6 ∧ σ' = [some (.ref l), some (.int n), some (.int m), some (.int (1 + (i : Int))), some (.ref a), some (.ref pr), some (.ref pl), some v, v8, v9]) (fun X hX => ?_) ?_
      · walk_at "sx"
        rcases g.gv with ⟨no, t⟩ | ⟨p, xs, rfl, hp, es, sz⟩
        · refine ⟨v, n, rfl, .inl ⟨no, ?_⟩⟩
          walk_at "sx"
          refine ⟨v, n, rfl, .inl ⟨no, ?_⟩⟩
          walk_at "sx"
          refine ⟨false, rfl, ?_⟩
          walk_at "sx"
          exact hX _ _ ⟨L2.Same.refl _, rfl⟩
        · refine ⟨_, n, rfl, .inr ⟨p, xs, rfl, hp, es, sz, fun H6 s6 => ?_⟩⟩
          walk_at "sx"
          refine ⟨_, n, rfl, .inr ⟨p, xs, rfl, s6 _ _ hp, fun x hx => ni_same s6 (es x hx), sz, fun H7 s7 => ?_⟩⟩
          walk_at "sx"
          refine ⟨_, rfl, ?_⟩
          walk_at "sx"
          exact hX _ _ ⟨s6.trans s7, rfl⟩
      rintro _ H6 ⟨S6, rfl⟩
      have g6 := g.same S6
      refine s_seqP (fun σ' H8 => Same H6 H8 ∧ σ' = [some (.ref l), some (.int n), some (.int m), some (.int (1 + (i : Int))), some (.ref a), some (.ref pr), some (.ref pl), some v, v8, v9]) (fun X hX => ?_) ?_
      · walk_at "sx"
        by_cases hL : ∃ js', Lot H6 n v js'
        · obtain ⟨js', hL⟩ := hL
          refine c_lotT g6 hL fun H7 s7 => ?_
          walk_at "sx"
          refine c_lotT (g6.same s7) (hL.same s7) fun H8 s8 => ?_
          walk_at "sx"
          refine ⟨_, rfl, ?_⟩
          walk_at "sx"
          exact hX _ _ ⟨s7.trans s8, rfl⟩
        · refine c_lotF g6 hL fun H7 s7 => ?_
          walk_at "sx"
          refine c_lotF (g6.same s7) (nolot g6 s7 hL) fun H8 s8 => ?_
          walk_at "sx"
          refine ⟨_, rfl, ?_⟩
          walk_at "sx"
          exact hX _ _ ⟨s7.trans s8, rfl⟩
      rintro _ H8 ⟨S8, rfl⟩
      have S58 := S6.trans S8
      refine s_seqP (fun σ' H10 => Same H8 H10 ∧ σ' = [some (.ref l), some (.int n), some (.int m), some (.int (1 + (i : Int))), some (.ref a), some (.ref pr), some (.ref pl), some v, v8, v9]) (fun X hX => ?_) ?_
      · walk_at "sx"
        refine ⟨_, m, rfl, .inr ⟨pr, _, rfl, S58 _ _ hr5, es_nats r, by rw [List.length_map]; omega, fun H9 s9 => ?_⟩⟩
        walk_at "sx"
        have eb : (decide (((r.map nv).length : Int) = (m : Int)) && (r.map nv).all isBit) = decide ((n : Int) = (m : Int)) := by
          rw [List.length_map, lr]
          have al : (r.map nv).all isBit = true := by
            rw [List.all_eq_true]
            intro x hx
            obtain ⟨y, hy, rfl⟩ := List.mem_map.mp hx
            have := br y hy
            show (decide (0 ≤ (y : Int)) && decide ((y : Int) ≤ 1)) = true
            rw [decide_eq_true (by omega), decide_eq_true (by omega)]
            rfl
          rw [al, Bool.and_true]
        rw [eb]
        refine ⟨_, rfl, ?_⟩
        walk_at "sx"
        refine c_lotT (gl (S58.trans s9)) ⟨pl, rfl, (S58.trans s9) _ _ hl5, pw, bj⟩ fun H10 s10 => ?_
        walk_at "sx"
        refine ⟨_, rfl, ?_⟩
        walk_at "sx"
        exact hX _ _ ⟨s9.trans s10, rfl⟩
      rintro _ H10 ⟨S10, rfl⟩
      have S510 := S58.trans S10
      refine s_seqP (fun σ' H12 => Same H10 H12 ∧ σ' = [some (.ref l), some (.int n), some (.int m), some (.int (1 + (i : Int))), some (.ref a), some (.ref pr), some (.ref pl), some v, v8, v9]) (fun X hX => ?_) ?_
      · walk_at "sx"
        by_cases hL : ∃ js', Lot H10 m (.ref pl) js'
        · obtain ⟨js', hL⟩ := hL
          refine c_lotT (gl S510) hL fun H7 s7 => ?_
          walk_at "sx"
          refine c_lotT (gl (S510.trans s7)) (hL.same s7) fun H8 s8 => ?_
          walk_at "sx"
          refine ⟨_, rfl, ?_⟩
          walk_at "sx"
          exact hX _ _ ⟨s7.trans s8, rfl⟩
        · refine c_lotF (gl S510) hL fun H7 s7 => ?_
          walk_at "sx"
          refine c_lotF (gl (S510.trans s7)) (nolot (gl S510) s7 hL) fun H8 s8 => ?_
          walk_at "sx"
          refine ⟨_, rfl, ?_⟩
          walk_at "sx"
          exact hX _ _ ⟨s7.trans s8, rfl⟩
      rintro _ H12 ⟨S12, rfl⟩
      have S512 := S510.trans S12
      have hr12 : True → Ns H12 pr r := fun _ => hr5.same S512
      have hl12 : True → Ns H12 pl js := fun _ => hl5.same S512
      walk_at "sx"
      have bj' : ∀ j ∈ js, j < r.length := fun j hj => by
        rw [lr]
        exact bj j hj
      refine ⟨_, rfl, pl, rfl, ⟨_, SqT.of (hl12 trivial)⟩, fun D hD => lc_tup (K := K) (a := pl) (xs := js.map nv) (fun j H' => Same H12 H' ∧ H' D = some (.lst ((readN r (js.take j)).map nv))) ⟨Same.new hD, upd_same⟩ (fun j H' _ h => SqT.of (h.1 _ _ (hl12 trivial))) ?_ ?_⟩
      · rintro j x H' hx ⟨s', hD'⟩
        obtain ⟨y, hy, rfl⟩ : ∃ y, js[j]? = some y ∧ nv y = x := by
          rw [List.getElem?_map] at hx
          exact Option.map_eq_some_iff.mp hx
        have b := bj' y (List.mem_of_getElem? hy)
        refine s_name ⟨rfl, ?_⟩
        refine s_yes (i_t ?_)
        walk_at "sx"
        refine r_ixT (s' _ _ (hr12 trivial)) (v := nv (r.getD y 0)) (atI_nat (by rw [List.getElem?_map, List.getElem?_eq_getElem b]; simp [b])) ?_
        refine ⟨_, hD', ?_, Sx.Same.put s' hD, ?_⟩
        · rw [List.length_map]
          unfold readN
          rw [List.length_map, List.length_take, sizeLine_eq]
          omega
        · unfold readN
          rw [upd_same, List.take_succ, hy]
          simp
      · rintro H13 ⟨s13, hD'⟩
        rw [List.length_map, List.take_length] at hD'
        walk_at "sx"
        refine ⟨D, _, rfl, .inl ⟨SqL.of hD', fun pd npd => ?_⟩⟩
        have s14 : Same H13 (upd H13 pd (.tup ((readN r js).map nv))) := Same.new npd
        have g14 : Ns (upd H13 pd (.tup ((readN r js).map nv))) pd (readN r js) := upd_same
        generalize upd H13 pd (.tup ((readN r js).map nv)) = H14 at s14 g14 ⊢
        have t14 := s13.trans s14
        have lrd : (readN r js).length < 1000 := by unfold readN; rw [List.length_map]; omega
        walk_at "sx"
        refine ⟨pr, pl, r, js, rfl, (hr12 trivial).same t14, (hl12 trivial).same t14, bj', by omega, fun q1 H15 s15 g15 => ?_⟩
        walk_at "sx"
        refine ⟨_, _, rfl, al_ns g15 (g14.same s15) lrd, fun H16 s16 => ?_⟩
        walk_at "sx"
        refine ⟨pr, pl, r, js, rfl, (hr12 trivial).same (t14.trans (s15.trans s16)), (hl12 trivial).same (t14.trans (s15.trans s16)), bj', by omega, fun q2 H17 s17 g17 => ?_⟩
        walk_at "sx"
        refine ⟨_, _, rfl, al_ns g17 (g14.same (s15.trans (s16.trans s17))) lrd, fun H18 s18 => ?_⟩
        walk_at "sx"
        exact ⟨s'.trans (S5.trans (S512.trans (t14.trans (s15.trans (s16.trans (s17.trans s18)))))), _, _, _, _, _, _, _, rfl⟩
    · rintro σ H' ⟨s', v3, v4, v5, v6, v7, v8, v9, rfl⟩
      walk_at "sx"
      exact k H' s'
end
end K04

set_option Elab.async false
set_option linter.all false
set_option maxRecDepth 100000
set_option maxHeartbeats 4000000
namespace K04
open PySem L2 Sx
local macro_rules | `(tactic| walk_at "cond") => `(tactic| first
  | assumption
  | decide
  | exact c_mul_r (by first | decide | omega) (by first | decide | omega)
  | exact c_mul_l (by first | decide | omega) (by first | decide | omega)
  | exact c_div (by first | decide | omega) (by first | decide | omega)
  | exact c_pow (by first | decide | omega) (by first | decide | omega) (by first | decide | omega)
  | omega)
local macro_rules | `(tactic| walk_at "ne") => `(tactic| first
  | assumption
  | (refine Ne.symm ?_; assumption)
  | (refine' Flow.ne ?nh ?nn; (case nn => assumption); (case nh => walk_at "fl"))
  | (refine Ne.symm ?_; refine' Flow.ne ?nh ?nn; (case nn => assumption); (case nh => walk_at "fl"))
  | (refine' ne_of_none ?nh ?nn; (case nn => assumption); (case nh => walk_at "at"))
  | (refine Ne.symm ?_; refine' ne_of_none ?nh ?nn; (case nn => assumption); (case nh => walk_at "at")))
local macro_rules | `(tactic| walk_at "at") => `(tactic| first
  | assumption
  | (refine Same.up (by assumption) ?_; walk_at "at")
  | (refine Keep.up (by assumption) (by walk_at "ne") ?_; walk_at "at"))
local macro_rules | `(tactic| walk_at "fl") => `(tactic| first
  | assumption
  | (refine Flow.same (by assumption) ?_; walk_at "fl")
  | (refine Flow.keep (by assumption) (by walk_at "ne") ?_; walk_at "fl"))
local macro_rules | `(tactic| walk_at "fr") => `(tactic| first
  | assumption
  | (refine same_free (by assumption) ?_; walk_at "fr")
  | (refine Keep.free (by assumption) (by walk_at "ne") ?_; walk_at "fr"))
local macro_rules | `(tactic| walk_at "kp") => `(tactic| first
  | assumption
  | exact Keep.refl _ _
  | (refine Keep.trans ?_ (by assumption); walk_at "kp")
  | (refine Keep.trans ?_ (Keep.same (by assumption)); walk_at "kp"))
local macro_rules | `(tactic| walk_at "sm") => `(tactic| first
  | assumption
  | exact L2.Same.refl _
  | (refine L2.Same.trans ?_ (by assumption); walk_at "sm"))
local macro_rules | `(tactic| walk_at "sz") => `(tactic| first | exact Nat.le_of_ble_eq_true rfl | omega)
local macro_rules | `(tactic| walk_at "new") => `(tactic| (intro p np; generalize hE : upd _ p _ = H2; have s2 := new_same np hE; have h2 := new_at hE; clear hE))
local macro_rules | `(tactic| walk_at "newx") => `(tactic| (intro e d na nd hda; generalize hE : upd (upd _ d _) e _ = H2; have s2 := newx_same na nd hE; have h2 := newx_at hE; have h3 := newx_d hda hE; clear hE))
local macro_rules | `(tactic| walk_at "s1") => `(tactic| first
  | with_reducible refine s_seq ?_
  | with_reducible refine s_asg ?_
  | with_reducible refine s_name ?_
  | with_reducible refine s_ret ?_
  | with_reducible refine s_c ?_
  | ((with_reducible refine' s_var ?hv ?_); (case hv => rfl))
  | with_reducible refine s_op ?_
  | with_reducible refine s_un ?_
  | with_reducible refine s_ifS ?_
  | with_reducible refine s_cb ?_
  | with_reducible refine s_cons ?_
  | with_reducible refine s_nil ?_
  | with_reducible refine s_call ?_
  | with_reducible refine s_test ?_
  | with_reducible refine s_tB ?_
  | with_reducible refine s_bl ?_
  | with_reducible refine s_and ?_
  | with_reducible refine s_or ?_
  | with_reducible refine s_not ?_
  | with_reducible refine s_andV ?_
  | with_reducible refine s_orV ?_
  | with_reducible refine s_notV ?_
  | with_reducible refine s_blV ?_
  | with_reducible refine s_if ?_
  | with_reducible refine s_tup ?_
  | with_reducible refine s_lst ?_
  | with_reducible refine s_drop ?_
  | with_reducible refine s_next ?_
  | with_reducible refine s_sub ?_
  | with_reducible refine s_bm ?_
  | with_reducible refine s_callK ?_
  | with_reducible refine s_brk ?_
  | with_reducible refine s_cont ?_
  | with_reducible refine r_I0 ?_
  | with_reducible refine r_U ?_
  | with_reducible refine r_eqI ?_
  | with_reducible refine r_neI ?_
  | with_reducible refine r_isB ?_
  | with_reducible refine r_notB ?_
  | with_reducible refine i_t ?_
  | with_reducible refine i_f ?_
  | with_reducible refine i_nt ?_
  | with_reducible refine i_nf ?_
  | ((with_reducible refine' r_I ?hc ?_); (case hc => walk_at "cond"))
  | (with_reducible refine .inl ⟨_, rfl, ?_⟩)
  | (with_reducible refine ⟨_, rfl, ?_⟩)
  | ((with_reducible refine' r_ixL ?hx ?ha ?_); (case hx => walk_at "at"); (case ha => rfl))
  | ((with_reducible refine' r_ixT ?hx ?ha ?_); (case hx => walk_at "at"); (case ha => rfl))
  | ((with_reducible refine' r_setL ?hx ?ha ?_); (case hx => walk_at "at"); (case ha => rfl); intro H2 k2 h2; (try dsimp only [List.set, Int.toNat] at h2))
  | ((with_reducible refine' r_app ?hx ?hl ?_); (case hx => walk_at "at"); (case hl => first | exact Nat.lt_of_ble_eq_true rfl | omega); intro H2 k2 h2)
  | ((with_reducible refine' ty_list ?hx ?_); (case hx => walk_at "at"))
  | (refine And.intro (by (with_reducible show _ ≤ sizeLine); walk_at "sz") ?_; walk_at "new")
  | with_reducible refine s_exv ?_
  | walk_at "newx")
local macro_rules | `(tactic| walk_at "sx") => `(tactic| repeat (walk_at "s1"))
local macro_rules | `(tactic| walk_at "s2") => `(tactic| first
  | ((with_reducible refine' r_ixG ?hx ?hn ?_); (case hx => walk_at "at"); (case hn => omega))
  | ((with_reducible refine' r_ixGT ?hx ?hn ?_); (case hx => walk_at "at"); (case hn => omega))
  | (with_reducible refine ig_cons (fun hix => ?_) (fun hix => ?_))
  | ((with_reducible refine ig_nil ?_); omega)
  | ((with_reducible refine' i_T ?hc ?_); (case hc => omega))
  | ((with_reducible refine' i_F ?hc ?_); (case hc => omega))
  | (with_reducible refine i_2 (fun hc => ?_) (fun hc => ?_))
  | (with_reducible refine i_n2 (fun hc => ?_) (fun hc => ?_)))
local macro_rules | `(tactic| walk_at "go") => `(tactic| repeat' (first | walk_at "s1" | walk_at "s2"))

local macro_rules | `(tactic| walk_at "s1") => `(tactic| first
  | with_reducible refine s_chain ?_
  | with_reducible refine s_fldS ?_
  | with_reducible refine s_fld ?_
  | with_reducible refine s_dIn ?_
  | with_reducible refine s_dNotIn ?_
  | with_reducible refine s_sl ?_
  | with_reducible refine s_noPart ?_
  | with_reducible refine s_part ?_
  | with_reducible refine s_meth ?_
  | with_reducible refine s_make ?_)

theorem rows_size : ∀ n : Fin 9, (rowsOf n.val).length ≤ 256 ∧ (rowsOf n.val).all (fun r => decide (r.length ≤ 8)) = true := by decide +kernel
theorem lots_size : ∀ n : Fin 9, (lotsOf n.val n.val).length ≤ 256 ∧ (lotsOf n.val n.val).all (fun r => decide (r.length ≤ 8)) = true := by decide +kernel
theorem al_list {H : Hp} {p q : Addr} {ks ls : List (Addr × List Nat)} {rs : List (List Nat)} (hp : H p = some (.tup (ks.map rN))) (hq : H q = some (.tup (ls.map rN))) (nk : NsAt H ks) (nl : NsAt H ls) (e1 : ks.map (·.2) = rs) (e2 : ls.map (·.2) = rs) (sz : rs.length ≤ 256 ∧ rs.all (fun r => decide (r.length ≤ 8)) = true) : Al H 2 (.ref p) (.ref q) := by
  have l2 : ls.length = rs.length := by rw [← e2, List.length_map]
  refine al_rows hp hq nk nl (e1.trans e2.symm) (by omega) fun z hz => ?_
  have m : z.2 ∈ rs := by rw [← e2]; exact List.mem_map.mpr ⟨z, hz, rfl⟩
  have := of_decide_eq_true (List.all_eq_true.mp sz.2 _ m)
  omega
section
variable {P : Program} {w : World} {K : PySem.W.Frag} {mg : Str → Option Value} {base : Heap} {A : Ad}
def spAll (K : PySem.W.Frag) : Sp := fun vs H Q _ => ∃ (l : Addr) (ns : List Int), vs = [.ref l] ∧ SqL K H l (ns.map V.int) ∧ ∀ H', Q (.bl true) H'
theorem ok_all (T : Txt P K mg A) : FnOk P w K mg base CX0 10 A.a__law_all A.d__law_all ["script"] (spAll K) := by
  refine T.F__law_all.ok sc__law_all (fun vs H Q E h => ?_) (fun cdv A' outer s H vs Q E hr h => ?_)
  · obtain ⟨l, ns, rfl, _⟩ := h
    rfl
  · obtain ⟨l, ns, rfl, hl, k⟩ := h
    have G__law_flow := ok_flow (w := w) (base := base) T
    have G__law_take := ok_take (w := w) (base := base) T
    have G__law_values := ok_vals (w := w) (base := base) T
    have G__law_same := ok_same (w := w) (base := base) T 2
    have G_all_rows := ok_rows (w := w) (base := base) T
    have G__law_every_row := ok_erow (w := w) (base := base) T
    have G_all_lots := ok_allLots (w := w) (base := base) T
    have G__law_every_lot := ok_elot (w := w) (base := base) T
    refine ⟨_, (pss_cons (ps_set (i := 1) sc__law_all.nd rfl (Or.inl rfl) (pe_call G__law_flow (hr.mono (by decide)) rfl T.g__law_flow T.F__law_flow.kp (B__law_flow T) .nil pass0 (pa_cons (pv 0) (pa_cons pe_int pa_nil))))
  (pss_cons (ps_set (i := 2) sc__law_all.nd rfl (Or.inl rfl) (pe_call G__law_take (hr.mono (by decide)) rfl T.g__law_take T.F__law_take.kp (B__law_take T) .nil pass0 (pa_cons (pv 1) (pa_cons pe_int pa_nil))))
  (pss_cons (ps_set (i := 3) sc__law_all.nd rfl (Or.inl rfl) (pe_call G__law_take (hr.mono (by decide)) rfl T.g__law_take T.F__law_take.kp (B__law_take T) .nil pass0 (pa_cons (pv 1) (pa_cons pe_int pa_nil))))
  (pss_cons (ps_if (pt_not (pt_val (pe_call G__law_values (hr.mono (by decide)) rfl T.g__law_values T.F__law_values.kp (B__law_values T) .nil pass0 (pa_cons (pv 0) (pa_cons (pv 2) (pa_cons (pv 3) pa_nil)))))) (pss_one (ps_ret pe_bl)) pss_nil)
  (pss_cons (ps_if (pt_not (pt_val (pe_call G__law_same (hr.mono (by decide)) rfl T.g__law_same T.F__law_same.kp (B__law_same T) .nil pass0 (pa_cons (pe_call G_all_rows (hr.mono (by decide)) rfl T.g_all_rows T.F_all_rows.kp (B_all_rows T) .nil pass0 (pa_cons (pv 2) pa_nil)) (pa_cons (pe_call G__law_every_row (hr.mono (by decide)) rfl T.g__law_every_row T.F__law_every_row.kp (B__law_every_row T) .nil pass0 (pa_cons (pv 2) pa_nil)) pa_nil))))) (pss_one (ps_ret pe_bl)) pss_nil)
  (pss_cons (ps_if (pt_not (pt_val (pe_call G__law_same (hr.mono (by decide)) rfl T.g__law_same T.F__law_same.kp (B__law_same T) .nil pass0 (pa_cons (pe_call G_all_lots (hr.mono (by decide)) rfl T.g_all_lots T.F_all_lots.kp (B_all_lots T) .nil pass0 (pa_cons (pv 2) pa_nil)) (pa_cons (pe_call G__law_every_lot (hr.mono (by decide)) rfl T.g__law_every_lot T.F__law_every_lot.kp (B__law_every_lot T) .nil pass0 (pa_cons (pv 2) pa_nil)) pa_nil))))) (pss_one (ps_ret pe_bl)) pss_nil)
  (pss_cons (ps_if (pt_not (pt_val (pe_call G__law_same (hr.mono (by decide)) rfl T.g__law_same T.F__law_same.kp (B__law_same T) .nil pass0 (pa_cons (pe_kw0 G_all_rows (hr.mono (by decide)) rfl T.g_all_rows T.F_all_rows.kp (KB_all_rows_size T) pass0 (pk_cons (pv 3) pk_nil)) (pa_cons (pe_call G__law_every_row (hr.mono (by decide)) rfl T.g__law_every_row T.F__law_every_row.kp (B__law_every_row T) .nil pass0 (pa_cons (pv 3) pa_nil)) pa_nil))))) (pss_one (ps_ret pe_bl)) pss_nil)
  (pss_cons (ps_if (pt_not (pt_val (pe_call G__law_same (hr.mono (by decide)) rfl T.g__law_same T.F__law_same.kp (B__law_same T) .nil pass0 (pa_cons (pe_kw0 G_all_lots (hr.mono (by decide)) rfl T.g_all_lots T.F_all_lots.kp (KB_all_lots_size T) pass0 (pk_cons (pv 3) pk_nil)) (pa_cons (pe_call G__law_every_lot (hr.mono (by decide)) rfl T.g__law_every_lot T.F__law_every_lot.kp (B__law_every_lot T) .nil pass0 (pa_cons (pv 3) pa_nil)) pa_nil))))) (pss_one (ps_ret pe_bl)) pss_nil)
  (pss_one (ps_ret (pe_call G__law_values (hr.mono (by decide)) rfl T.g__law_values T.F__law_values.kp (B__law_values T) .nil pass0 (pa_cons (pv 0) (pa_cons (pv 2) (pa_cons (pv 2) pa_nil)))))))))))))), ?_⟩
    walk_at "sx"
    refine c_flow (by decide) hl fun a H1 n1 s1 F1 => ?_
    walk_at "sx"
    refine c_take F1 (by decide) (by decide) fun d2 H2 l2 u2 F2 K2 => ?_
    obtain ⟨n, rfl⟩ := Int.eq_ofNat_of_zero_le l2
    walk_at "sx"
    refine c_take F2 (by decide) (by decide) fun d3 H3 l3 u3 F3 K3 => ?_
    obtain ⟨m, rfl⟩ := Int.eq_ofNat_of_zero_le l3
    have s03 : Same H H3 := Keep.toSame s1 n1 (K2.trans K3)
    have sn : n ≤ 8 := by omega
    have sm : m ≤ 8 := by omega
    walk_at "sx"
    refine ⟨l, ns, n, m, rfl, s03.seq hl, sn, sm, fun H4 s4 => ?_⟩
    walk_at "sx"
    refine ⟨n, rfl, sn, fun p5 k5 H5 s5 h5 a5 e5 => ?_⟩
    walk_at "sx"
    refine ⟨n, rfl, sn, fun p6 k6 H6 s6 h6 a6 e6 => ?_⟩
    walk_at "sx"
    refine ⟨_, _, rfl, al_list (s6 _ _ h5) h6 (a5.same s6) a6 e5 e6 (rows_size ⟨n, by omega⟩), fun H7 s7 => ?_⟩
    walk_at "sx"
    refine ⟨n, rfl, sn, fun p5 k5 H8 s8 h5 a5 e5 => ?_⟩
    walk_at "sx"
    refine ⟨n, rfl, sn, fun p6 k6 H9 s9 h6 a6 e6 => ?_⟩
    walk_at "sx"
    refine ⟨_, _, rfl, al_list (s9 _ _ h5) h6 (a5.same s9) a6 e5 e6 (lots_size ⟨n, by omega⟩), fun H10 s10 => ?_⟩
    walk_at "sx"
    refine ⟨m, rfl, sm, fun p5 k5 H11 s11 h5 a5 e5 => ?_⟩
    walk_at "sx"
    refine ⟨m, rfl, sm, fun p6 k6 H12 s12 h6 a6 e6 => ?_⟩
    walk_at "sx"
    refine ⟨_, _, rfl, al_list (s12 _ _ h5) h6 (a5.same s12) a6 e5 e6 (rows_size ⟨m, by omega⟩), fun H13 s13 => ?_⟩
    walk_at "sx"
    refine ⟨m, rfl, sm, fun p5 k5 H14 s14 h5 a5 e5 => ?_⟩
    walk_at "sx"
    refine ⟨m, rfl, sm, fun p6 k6 H15 s15 h6 a6 e6 => ?_⟩
    walk_at "sx"
    refine ⟨_, _, rfl, al_list (s15 _ _ h5) h6 (a5.same s15) a6 e5 e6 (lots_size ⟨m, by omega⟩), fun H16 s16 => ?_⟩
    walk_at "sx"
    have S := s03.trans (s4.trans (s5.trans (s6.trans (s7.trans (s8.trans (s9.trans (s10.trans (s11.trans (s12.trans (s13.trans (s14.trans (s15.trans s16))))))))))))
    exact ⟨l, ns, n, n, rfl, S.seq hl, sn, sn, fun H17 _ => k H17⟩
end
end K04

set_option Elab.async false
set_option linter.all false
set_option maxRecDepth 100000
set_option maxHeartbeats 4000000
namespace K04
open PySem L2 Sx
local macro_rules | `(tactic| walk_at "cond") => `(tactic| first
  | assumption
  | decide
  | exact c_mul_r (by first | decide | omega) (by first | decide | omega)
  | exact c_mul_l (by first | decide | omega) (by first | decide | omega)
  | exact c_div (by first | decide | omega) (by first | decide | omega)
  | exact c_pow (by first | decide | omega) (by first | decide | omega) (by first | decide | omega)
  | omega)
local macro_rules | `(tactic| walk_at "ne") => `(tactic| first
  | assumption
  | (refine Ne.symm ?_; assumption)
  | (refine' Flow.ne ?nh ?nn; (case nn => assumption); (case nh => walk_at "fl"))
  | (refine Ne.symm ?_; refine' Flow.ne ?nh ?nn; (case nn => assumption); (case nh => walk_at "fl"))
  | (refine' ne_of_none ?nh ?nn; (case nn => assumption); (case nh => walk_at "at"))
  | (refine Ne.symm ?_; refine' ne_of_none ?nh ?nn; (case nn => assumption); (case nh => walk_at "at")))
local macro_rules | `(tactic| walk_at "at") => `(tactic| first
  | assumption
  | (refine Same.up (by assumption) ?_; walk_at "at")
  | (refine Keep.up (by assumption) (by walk_at "ne") ?_; walk_at "at"))
local macro_rules | `(tactic| walk_at "fl") => `(tactic| first
  | assumption
  | (refine Flow.same (by assumption) ?_; walk_at "fl")
  | (refine Flow.keep (by assumption) (by walk_at "ne") ?_; walk_at "fl"))
local macro_rules | `(tactic| walk_at "fr") => `(tactic| first
  | assumption
  | (refine same_free (by assumption) ?_; walk_at "fr")
  | (refine Keep.free (by assumption) (by walk_at "ne") ?_; walk_at "fr"))
local macro_rules | `(tactic| walk_at "kp") => `(tactic| first
  | assumption
  | exact Keep.refl _ _
  | (refine Keep.trans ?_ (by assumption); walk_at "kp")
  | (refine Keep.trans ?_ (Keep.same (by assumption)); walk_at "kp"))
local macro_rules | `(tactic| walk_at "sm") => `(tactic| first
  | assumption
  | exact L2.Same.refl _
  | (refine L2.Same.trans ?_ (by assumption); walk_at "sm"))
local macro_rules | `(tactic| walk_at "sz") => `(tactic| first | exact Nat.le_of_ble_eq_true rfl | omega)
local macro_rules | `(tactic| walk_at "new") => `(tactic| (intro p np; generalize hE : upd _ p _ = H2; have s2 := new_same np hE; have h2 := new_at hE; clear hE))
local macro_rules | `(tactic| walk_at "newx") => `(tactic| (intro e d na nd hda; generalize hE : upd (upd _ d _) e _ = H2; have s2 := newx_same na nd hE; have h2 := newx_at hE; have h3 := newx_d hda hE; clear hE))
local macro_rules | `(tactic| walk_at "s1") => `(tactic| first
  | with_reducible refine s_seq ?_
  | with_reducible refine s_asg ?_
  | with_reducible refine s_name ?_
  | with_reducible refine s_ret ?_
  | with_reducible refine s_c ?_
  | ((with_reducible refine' s_var ?hv ?_); (case hv => rfl))
  | with_reducible refine s_op ?_
  | with_reducible refine s_un ?_
  | with_reducible refine s_ifS ?_
  | with_reducible refine s_cb ?_
  | with_reducible refine s_cons ?_
  | with_reducible refine s_nil ?_
  | with_reducible refine s_call ?_
  | with_reducible refine s_test ?_
  | with_reducible refine s_tB ?_
  | with_reducible refine s_bl ?_
  | with_reducible refine s_and ?_
  | with_reducible refine s_or ?_
  | with_reducible refine s_not ?_
  | with_reducible refine s_andV ?_
  | with_reducible refine s_orV ?_
  | with_reducible refine s_notV ?_
  | with_reducible refine s_blV ?_
  | with_reducible refine s_if ?_
  | with_reducible refine s_tup ?_
  | with_reducible refine s_lst ?_
  | with_reducible refine s_drop ?_
  | with_reducible refine s_next ?_
  | with_reducible refine s_sub ?_
  | with_reducible refine s_bm ?_
  | with_reducible refine s_callK ?_
  | with_reducible refine s_brk ?_
  | with_reducible refine s_cont ?_
  | with_reducible refine r_I0 ?_
  | with_reducible refine r_U ?_
  | with_reducible refine r_eqI ?_
  | with_reducible refine r_neI ?_
  | with_reducible refine r_isB ?_
  | with_reducible refine r_notB ?_
  | with_reducible refine i_t ?_
  | with_reducible refine i_f ?_
  | with_reducible refine i_nt ?_
  | with_reducible refine i_nf ?_
  | ((with_reducible refine' r_I ?hc ?_); (case hc => walk_at "cond"))
  | (with_reducible refine .inl ⟨_, rfl, ?_⟩)
  | (with_reducible refine ⟨_, rfl, ?_⟩)
  | ((with_reducible refine' r_ixL ?hx ?ha ?_); (case hx => walk_at "at"); (case ha => rfl))
  | ((with_reducible refine' r_ixT ?hx ?ha ?_); (case hx => walk_at "at"); (case ha => rfl))
  | ((with_reducible refine' r_setL ?hx ?ha ?_); (case hx => walk_at "at"); (case ha => rfl); intro H2 k2 h2; (try dsimp only [List.set, Int.toNat] at h2))
  | ((with_reducible refine' r_app ?hx ?hl ?_); (case hx => walk_at "at"); (case hl => first | exact Nat.lt_of_ble_eq_true rfl | omega); intro H2 k2 h2)
  | ((with_reducible refine' ty_list ?hx ?_); (case hx => walk_at "at"))
  | (refine And.intro (by (with_reducible show _ ≤ sizeLine); walk_at "sz") ?_; walk_at "new")
  | with_reducible refine s_exv ?_
  | walk_at "newx")
local macro_rules | `(tactic| walk_at "sx") => `(tactic| repeat (walk_at "s1"))
local macro_rules | `(tactic| walk_at "s2") => `(tactic| first
  | ((with_reducible refine' r_ixG ?hx ?hn ?_); (case hx => walk_at "at"); (case hn => omega))
  | ((with_reducible refine' r_ixGT ?hx ?hn ?_); (case hx => walk_at "at"); (case hn => omega))
  | (with_reducible refine ig_cons (fun hix => ?_) (fun hix => ?_))
  | ((with_reducible refine ig_nil ?_); omega)
  | ((with_reducible refine' i_T ?hc ?_); (case hc => omega))
  | ((with_reducible refine' i_F ?hc ?_); (case hc => omega))
  | (with_reducible refine i_2 (fun hc => ?_) (fun hc => ?_))
  | (with_reducible refine i_n2 (fun hc => ?_) (fun hc => ?_)))
local macro_rules | `(tactic| walk_at "go") => `(tactic| repeat' (first | walk_at "s1" | walk_at "s2"))

local macro_rules | `(tactic| walk_at "s1") => `(tactic| first
  | with_reducible refine s_chain ?_
  | with_reducible refine s_fldS ?_
  | with_reducible refine s_fld ?_
  | with_reducible refine s_dIn ?_
  | with_reducible refine s_dNotIn ?_
  | with_reducible refine s_sl ?_
  | with_reducible refine s_noPart ?_
  | with_reducible refine s_part ?_
  | with_reducible refine s_meth ?_
  | with_reducible refine s_make ?_)

section
variable {P : Program} {w : World} {K : PySem.W.Frag} {mg : Str → Option Value} {base : Heap} {A : Ad}
def spLaw (K : PySem.W.Frag) : Sp := fun vs H Q _ => ∃ (a : Addr) (ns : List Int), vs = [.ref a] ∧ SqL K H a (ns.map V.int) ∧ ns.length ≤ 63 ∧ ∀ H', Q (.bl true) H'
theorem ok_law (T : Txt P K mg A) : FnOk P w K mg base CX0 12 A.a_law A.d_law ["script"] (spLaw K) := by
  refine T.F_law.ok sc_law (fun vs H Q E h => ?_) (fun cdv A' outer s H vs Q E hr h => ?_)
  · obtain ⟨a, ns, rfl, _⟩ := h
    rfl
  · obtain ⟨a, ns, rfl, hS, hn, k⟩ := h
    have G__law_all := ok_all (w := w) (base := base) T
    refine ⟨_, (pss_one (ps_try_thru0 (pss_one (ps_ret (pe_call G__law_all (hr.mono (by decide)) rfl T.g__law_all T.F__law_all.kp (B__law_all T) .nil pass0 (pa_cons (pv 0) pa_nil)))))), ?_⟩
    walk_at "sx"
    exact ⟨a, ns, rfl, hS, k⟩
end
abbrev sI_InvalidNumber : Stmt := inClass (top 18) 0
theorem all_mk {l : PySem.W.OpenLaw} {w : World} {K : PySem.W.Frag} {h : Heap} {mg : Str → Option Value} {fa : Addr} (X : K.In h) (G : h.Ns mainGlobals mg) (hfa : mg "law" = some (.ref fa))
    {f0 : Addr} {od0 an0 : Option Addr} {sl0 : Array (Option Value)} {oc0 kV0 dc0 pm0 cd0 ct0 : Value} {f1 : Addr} {od1 an1 : Option Addr} {sl1 : Array (Option Value)} {oc1 kV1 dc1 pm1 cd1 ct1 : Value} {f2 : Addr} {od2 an2 : Option Addr} {sl2 : Array (Option Value)} {oc2 kV2 dc2 pm2 cd2 ct2 : Value} {f3 : Addr} {od3 an3 : Option Addr} {sl3 : Array (Option Value)} {oc3 kV3 dc3 pm3 cd3 ct3 : Value} {f4 : Addr} {od4 an4 : Option Addr} {sl4 : Array (Option Value)} {oc4 kV4 dc4 pm4 cd4 ct4 : Value} {f5 : Addr} {od5 an5 : Option Addr} {sl5 : Array (Option Value)} {oc5 kV5 dc5 pm5 cd5 ct5 : Value} {f6 : Addr} {od6 an6 : Option Addr} {sl6 : Array (Option Value)} {oc6 kV6 dc6 pm6 cd6 ct6 : Value} {f7 : Addr} {od7 an7 : Option Addr} {sl7 : Array (Option Value)} {oc7 kV7 dc7 pm7 cd7 ct7 : Value} {f8 : Addr} {od8 an8 : Option Addr} {sl8 : Array (Option Value)} {oc8 kV8 dc8 pm8 cd8 ct8 : Value} {f9 : Addr} {od9 an9 : Option Addr} {sl9 : Array (Option Value)} {oc9 kV9 dc9 pm9 cd9 ct9 : Value} {f10 : Addr} {od10 an10 : Option Addr} {sl10 : Array (Option Value)} {oc10 kV10 dc10 pm10 cd10 ct10 : Value} {f11 : Addr} {od11 an11 : Option Addr} {sl11 : Array (Option Value)} {oc11 kV11 dc11 pm11 cd11 ct11 : Value} {f12 : Addr} {od12 an12 : Option Addr} {sl12 : Array (Option Value)} {oc12 kV12 dc12 pm12 cd12 ct12 : Value} {f13 : Addr} {od13 an13 : Option Addr} {sl13 : Array (Option Value)} {oc13 kV13 dc13 pm13 cd13 ct13 : Value} {f14 : Addr} {od14 an14 : Option Addr} {sl14 : Array (Option Value)} {oc14 kV14 dc14 pm14 cd14 ct14 : Value} {f15 : Addr} {od15 an15 : Option Addr} {sl15 : Array (Option Value)} {oc15 kV15 dc15 pm15 cd15 ct15 : Value} {f16 : Addr} {od16 an16 : Option Addr} {sl16 : Array (Option Value)} {oc16 kV16 dc16 pm16 cd16 ct16 : Value} {f17 : Addr} {od17 an17 : Option Addr} {sl17 : Array (Option Value)} {oc17 kV17 dc17 pm17 cd17 ct17 : Value} {f18 : Addr} {od18 an18 : Option Addr} {sl18 : Array (Option Value)} {oc18 kV18 dc18 pm18 cd18 ct18 : Value} {f19 : Addr} {od19 an19 : Option Addr} {sl19 : Array (Option Value)} {oc19 kV19 dc19 pm19 cd19 ct19 : Value} {f20 : Addr} {od20 an20 : Option Addr} {sl20 : Array (Option Value)} {oc20 kV20 dc20 pm20 cd20 ct20 : Value} {f21 : Addr} {od21 an21 : Option Addr} {sl21 : Array (Option Value)} {oc21 kV21 dc21 pm21 cd21 ct21 : Value} {f22 : Addr} {od22 an22 : Option Addr} {sl22 : Array (Option Value)} {oc22 kV22 dc22 pm22 cd22 ct22 : Value} {f23 : Addr} {od23 an23 : Option Addr} {sl23 : Array (Option Value)} {oc23 kV23 dc23 pm23 cd23 ct23 : Value} {f24 : Addr} {od24 an24 : Option Addr} {sl24 : Array (Option Value)} {oc24 kV24 dc24 pm24 cd24 ct24 : Value} {f25 : Addr} {od25 an25 : Option Addr} {sl25 : Array (Option Value)} {oc25 kV25 dc25 pm25 cd25 ct25 : Value} {f26 : Addr} {od26 an26 : Option Addr} {sl26 : Array (Option Value)} {oc26 kV26 dc26 pm26 cd26 ct26 : Value} {f27 : Addr} {od27 an27 : Option Addr} {sl27 : Array (Option Value)} {oc27 kV27 dc27 pm27 cd27 ct27 : Value} {C_InvalidNumber I_InvalidNumber : Addr} {nm_InvalidNumber q_InvalidNumber : Str} {N_InvalidNumber : Addr} {bs_InvalidNumber bm_InvalidNumber sub_InvalidNumber : List Value} {sn_InvalidNumber : List Str} {ab_InvalidNumber : Bool} {col_InvalidNumber : Option Bool} {dd_InvalidNumber : Option Addr} {k0_InvalidNumber k1_InvalidNumber k2_InvalidNumber k3_InvalidNumber k5_InvalidNumber : Option Value} {oi_InvalidNumber ci_InvalidNumber pi_InvalidNumber di_InvalidNumber : Value} {oo_InvalidNumber ai_InvalidNumber : Option Addr} {ca_InvalidNumber cc_InvalidNumber : Addr} {si2_InvalidNumber sj_InvalidNumber sk_InvalidNumber : Array (Option Value)} {cl1_InvalidNumber cl2_InvalidNumber : Value} {cd1_InvalidNumber cd2_InvalidNumber : Option Addr} {vs_InvalidNumber : Array Value} {tf_InvalidNumber : Tok} {file_InvalidNumber : Str}
    (a0 : PySem.W.nsIn K mainGlobals "is_an_integer" = some (some (.ref f0)))
    (l0 : K.lookup f0 = some ⟨oc0, od0, .func (PySem.W.fnOf "is_an_integer" "is_an_integer" (defArgs s_is_an_integer) (defBody s_is_an_integer) (defScope s_is_an_integer) .none kV0 dc0 pm0 an0 cd0 ct0), sl0⟩)
    (c0 : PySem.W.codeIn K cd0 "is_an_integer" = true)
    (k0 : PySem.W.keepIn K (.ref f0) = true)
    (a1 : PySem.W.nsIn K mainGlobals "is_number" = some (some (.ref f1)))
    (l1 : K.lookup f1 = some ⟨oc1, od1, .func (PySem.W.fnOf "is_number" "is_number" (defArgs s_is_number) (defBody s_is_number) (defScope s_is_number) .none kV1 dc1 pm1 an1 cd1 ct1), sl1⟩)
    (c1 : PySem.W.codeIn K cd1 "is_number" = true)
    (k1 : PySem.W.keepIn K (.ref f1) = true)
    (a2 : PySem.W.nsIn K mainGlobals "is_value" = some (some (.ref f2)))
    (l2 : K.lookup f2 = some ⟨oc2, od2, .func (PySem.W.fnOf "is_value" "is_value" (defArgs s_is_value) (defBody s_is_value) (defScope s_is_value) .none kV2 dc2 pm2 an2 cd2 ct2), sl2⟩)
    (c2 : PySem.W.codeIn K cd2 "is_value" = true)
    (k2 : PySem.W.keepIn K (.ref f2) = true)
    (a3 : PySem.W.nsIn K mainGlobals "is_point" = some (some (.ref f3)))
    (l3 : K.lookup f3 = some ⟨oc3, od3, .func (PySem.W.fnOf "is_point" "is_point" (defArgs s_is_point) (defBody s_is_point) (defScope s_is_point) .none kV3 dc3 pm3 an3 cd3 ct3), sl3⟩)
    (c3 : PySem.W.codeIn K cd3 "is_point" = true)
    (k3 : PySem.W.keepIn K (.ref f3) = true)
    (a4 : PySem.W.nsIn K mainGlobals "row_of" = some (some (.ref f4)))
    (l4 : K.lookup f4 = some ⟨oc4, od4, .func (PySem.W.fnOf "row_of" "row_of" (defArgs s_row_of) (defBody s_row_of) (defScope s_row_of) .none kV4 dc4 pm4 an4 cd4 ct4), sl4⟩)
    (c4 : PySem.W.codeIn K cd4 "row_of" = true)
    (k4 : PySem.W.keepIn K (.ref f4) = true)
    (a5 : PySem.W.nsIn K mainGlobals "is_row" = some (some (.ref f5)))
    (l5 : K.lookup f5 = some ⟨oc5, od5, .func (PySem.W.fnOf "is_row" "is_row" (defArgs s_is_row) (defBody s_is_row) (defScope s_is_row) .none kV5 dc5 pm5 an5 cd5 ct5), sl5⟩)
    (c5 : PySem.W.codeIn K cd5 "is_row" = true)
    (k5 : PySem.W.keepIn K (.ref f5) = true)
    (a6 : PySem.W.nsIn K mainGlobals "all_rows" = some (some (.ref f6)))
    (l6 : K.lookup f6 = some ⟨oc6, od6, .func (PySem.W.fnOf "all_rows" "all_rows" (defArgs s_all_rows) (defBody s_all_rows) (defScope s_all_rows) .none kV6 dc6 pm6 an6 cd6 ct6), sl6⟩)
    (c6 : PySem.W.codeIn K cd6 "all_rows" = true)
    (k6 : PySem.W.keepIn K (.ref f6) = true)
    (a7 : PySem.W.nsIn K mainGlobals "is_lot" = some (some (.ref f7)))
    (l7 : K.lookup f7 = some ⟨oc7, od7, .func (PySem.W.fnOf "is_lot" "is_lot" (defArgs s_is_lot) (defBody s_is_lot) (defScope s_is_lot) .none kV7 dc7 pm7 an7 cd7 ct7), sl7⟩)
    (c7 : PySem.W.codeIn K cd7 "is_lot" = true)
    (k7 : PySem.W.keepIn K (.ref f7) = true)
    (a8 : PySem.W.nsIn K mainGlobals "lots_of" = some (some (.ref f8)))
    (l8 : K.lookup f8 = some ⟨oc8, od8, .func (PySem.W.fnOf "lots_of" "lots_of" (defArgs s_lots_of) (defBody s_lots_of) (defScope s_lots_of) .none kV8 dc8 pm8 an8 cd8 ct8), sl8⟩)
    (c8 : PySem.W.codeIn K cd8 "lots_of" = true)
    (k8 : PySem.W.keepIn K (.ref f8) = true)
    (a9 : PySem.W.nsIn K mainGlobals "lots_to" = some (some (.ref f9)))
    (l9 : K.lookup f9 = some ⟨oc9, od9, .func (PySem.W.fnOf "lots_to" "lots_to" (defArgs s_lots_to) (defBody s_lots_to) (defScope s_lots_to) .none kV9 dc9 pm9 an9 cd9 ct9), sl9⟩)
    (c9 : PySem.W.codeIn K cd9 "lots_to" = true)
    (k9 : PySem.W.keepIn K (.ref f9) = true)
    (a10 : PySem.W.nsIn K mainGlobals "all_lots" = some (some (.ref f10)))
    (l10 : K.lookup f10 = some ⟨oc10, od10, .func (PySem.W.fnOf "all_lots" "all_lots" (defArgs s_all_lots) (defBody s_all_lots) (defScope s_all_lots) .none kV10 dc10 pm10 an10 cd10 ct10), sl10⟩)
    (c10 : PySem.W.codeIn K cd10 "all_lots" = true)
    (k10 : PySem.W.keepIn K (.ref f10) = true)
    (a11 : PySem.W.nsIn K mainGlobals "read_at" = some (some (.ref f11)))
    (l11 : K.lookup f11 = some ⟨oc11, od11, .func (PySem.W.fnOf "read_at" "read_at" (defArgs s_read_at) (defBody s_read_at) (defScope s_read_at) .none kV11 dc11 pm11 an11 cd11 ct11), sl11⟩)
    (c11 : PySem.W.codeIn K cd11 "read_at" = true)
    (k11 : PySem.W.keepIn K (.ref f11) = true)
    (a12 : PySem.W.nsIn K mainGlobals "_law_flow" = some (some (.ref f12)))
    (l12 : K.lookup f12 = some ⟨oc12, od12, .func (PySem.W.fnOf "_law_flow" "_law_flow" (defArgs s__law_flow) (defBody s__law_flow) (defScope s__law_flow) .none kV12 dc12 pm12 an12 cd12 ct12), sl12⟩)
    (c12 : PySem.W.codeIn K cd12 "_law_flow" = true)
    (k12 : PySem.W.keepIn K (.ref f12) = true)
    (a13 : PySem.W.nsIn K mainGlobals "_law_take" = some (some (.ref f13)))
    (l13 : K.lookup f13 = some ⟨oc13, od13, .func (PySem.W.fnOf "_law_take" "_law_take" (defArgs s__law_take) (defBody s__law_take) (defScope s__law_take) .none kV13 dc13 pm13 an13 cd13 ct13), sl13⟩)
    (c13 : PySem.W.codeIn K cd13 "_law_take" = true)
    (k13 : PySem.W.keepIn K (.ref f13) = true)
    (a14 : PySem.W.nsIn K mainGlobals "_law_row" = some (some (.ref f14)))
    (l14 : K.lookup f14 = some ⟨oc14, od14, .func (PySem.W.fnOf "_law_row" "_law_row" (defArgs s__law_row) (defBody s__law_row) (defScope s__law_row) .none kV14 dc14 pm14 an14 cd14 ct14), sl14⟩)
    (c14 : PySem.W.codeIn K cd14 "_law_row" = true)
    (k14 : PySem.W.keepIn K (.ref f14) = true)
    (a15 : PySem.W.nsIn K mainGlobals "_law_lot" = some (some (.ref f15)))
    (l15 : K.lookup f15 = some ⟨oc15, od15, .func (PySem.W.fnOf "_law_lot" "_law_lot" (defArgs s__law_lot) (defBody s__law_lot) (defScope s__law_lot) .none kV15 dc15 pm15 an15 cd15 ct15), sl15⟩)
    (c15 : PySem.W.codeIn K cd15 "_law_lot" = true)
    (k15 : PySem.W.keepIn K (.ref f15) = true)
    (a16 : PySem.W.nsIn K mainGlobals "_law_put" = some (some (.ref f16)))
    (l16 : K.lookup f16 = some ⟨oc16, od16, .func (PySem.W.fnOf "_law_put" "_law_put" (defArgs s__law_put) (defBody s__law_put) (defScope s__law_put) .none kV16 dc16 pm16 an16 cd16 ct16), sl16⟩)
    (c16 : PySem.W.codeIn K cd16 "_law_put" = true)
    (k16 : PySem.W.keepIn K (.ref f16) = true)
    (a17 : PySem.W.nsIn K mainGlobals "_law_spoilt" = some (some (.ref f17)))
    (l17 : K.lookup f17 = some ⟨oc17, od17, .func (PySem.W.fnOf "_law_spoilt" "_law_spoilt" (defArgs s__law_spoilt) (defBody s__law_spoilt) (defScope s__law_spoilt) .none kV17 dc17 pm17 an17 cd17 ct17), sl17⟩)
    (c17 : PySem.W.codeIn K cd17 "_law_spoilt" = true)
    (k17 : PySem.W.keepIn K (.ref f17) = true)
    (a18 : PySem.W.nsIn K mainGlobals "_law_is_number" = some (some (.ref f18)))
    (l18 : K.lookup f18 = some ⟨oc18, od18, .func (PySem.W.fnOf "_law_is_number" "_law_is_number" (defArgs s__law_is_number) (defBody s__law_is_number) (defScope s__law_is_number) .none kV18 dc18 pm18 an18 cd18 ct18), sl18⟩)
    (c18 : PySem.W.codeIn K cd18 "_law_is_number" = true)
    (k18 : PySem.W.keepIn K (.ref f18) = true)
    (a19 : PySem.W.nsIn K mainGlobals "_law_is_row" = some (some (.ref f19)))
    (l19 : K.lookup f19 = some ⟨oc19, od19, .func (PySem.W.fnOf "_law_is_row" "_law_is_row" (defArgs s__law_is_row) (defBody s__law_is_row) (defScope s__law_is_row) .none kV19 dc19 pm19 an19 cd19 ct19), sl19⟩)
    (c19 : PySem.W.codeIn K cd19 "_law_is_row" = true)
    (k19 : PySem.W.keepIn K (.ref f19) = true)
    (a20 : PySem.W.nsIn K mainGlobals "_law_is_lot" = some (some (.ref f20)))
    (l20 : K.lookup f20 = some ⟨oc20, od20, .func (PySem.W.fnOf "_law_is_lot" "_law_is_lot" (defArgs s__law_is_lot) (defBody s__law_is_lot) (defScope s__law_is_lot) .none kV20 dc20 pm20 an20 cd20 ct20), sl20⟩)
    (c20 : PySem.W.codeIn K cd20 "_law_is_lot" = true)
    (k20 : PySem.W.keepIn K (.ref f20) = true)
    (a21 : PySem.W.nsIn K mainGlobals "_law_same" = some (some (.ref f21)))
    (l21 : K.lookup f21 = some ⟨oc21, od21, .func (PySem.W.fnOf "_law_same" "_law_same" (defArgs s__law_same) (defBody s__law_same) (defScope s__law_same) .none kV21 dc21 pm21 an21 cd21 ct21), sl21⟩)
    (c21 : PySem.W.codeIn K cd21 "_law_same" = true)
    (k21 : PySem.W.keepIn K (.ref f21) = true)
    (a22 : PySem.W.nsIn K mainGlobals "_law_truth" = some (some (.ref f22)))
    (l22 : K.lookup f22 = some ⟨oc22, od22, .func (PySem.W.fnOf "_law_truth" "_law_truth" (defArgs s__law_truth) (defBody s__law_truth) (defScope s__law_truth) .none kV22 dc22 pm22 an22 cd22 ct22), sl22⟩)
    (c22 : PySem.W.codeIn K cd22 "_law_truth" = true)
    (k22 : PySem.W.keepIn K (.ref f22) = true)
    (a23 : PySem.W.nsIn K mainGlobals "_law_every_row" = some (some (.ref f23)))
    (l23 : K.lookup f23 = some ⟨oc23, od23, .func (PySem.W.fnOf "_law_every_row" "_law_every_row" (defArgs s__law_every_row) (defBody s__law_every_row) (defScope s__law_every_row) .none kV23 dc23 pm23 an23 cd23 ct23), sl23⟩)
    (c23 : PySem.W.codeIn K cd23 "_law_every_row" = true)
    (k23 : PySem.W.keepIn K (.ref f23) = true)
    (a24 : PySem.W.nsIn K mainGlobals "_law_every_lot" = some (some (.ref f24)))
    (l24 : K.lookup f24 = some ⟨oc24, od24, .func (PySem.W.fnOf "_law_every_lot" "_law_every_lot" (defArgs s__law_every_lot) (defBody s__law_every_lot) (defScope s__law_every_lot) .none kV24 dc24 pm24 an24 cd24 ct24), sl24⟩)
    (c24 : PySem.W.codeIn K cd24 "_law_every_lot" = true)
    (k24 : PySem.W.keepIn K (.ref f24) = true)
    (a25 : PySem.W.nsIn K mainGlobals "_law_values" = some (some (.ref f25)))
    (l25 : K.lookup f25 = some ⟨oc25, od25, .func (PySem.W.fnOf "_law_values" "_law_values" (defArgs s__law_values) (defBody s__law_values) (defScope s__law_values) .none kV25 dc25 pm25 an25 cd25 ct25), sl25⟩)
    (c25 : PySem.W.codeIn K cd25 "_law_values" = true)
    (k25 : PySem.W.keepIn K (.ref f25) = true)
    (a26 : PySem.W.nsIn K mainGlobals "_law_all" = some (some (.ref f26)))
    (l26 : K.lookup f26 = some ⟨oc26, od26, .func (PySem.W.fnOf "_law_all" "_law_all" (defArgs s__law_all) (defBody s__law_all) (defScope s__law_all) .none kV26 dc26 pm26 an26 cd26 ct26), sl26⟩)
    (c26 : PySem.W.codeIn K cd26 "_law_all" = true)
    (k26 : PySem.W.keepIn K (.ref f26) = true)
    (a27 : PySem.W.nsIn K mainGlobals "law" = some (some (.ref f27)))
    (l27 : K.lookup f27 = some ⟨oc27, od27, .func (PySem.W.fnOf "law" "law" (defArgs s_law) (defBody s_law) (defScope s_law) .none kV27 dc27 pm27 an27 cd27 ct27), sl27⟩)
    (c27 : PySem.W.codeIn K cd27 "law" = true)
    (k27 : PySem.W.keepIn K (.ref f27) = true)
    (gC_InvalidNumber : PySem.W.nsIn K mainGlobals "InvalidNumber" = some (some (.ref C_InvalidNumber)))
    (iC_InvalidNumber : PySem.W.findIn K (.ref C_InvalidNumber) "__init__" = some (some (.ref I_InvalidNumber)))
    (cl_InvalidNumber : K.lookup C_InvalidNumber = some (excClassObj nm_InvalidNumber q_InvalidNumber C_InvalidNumber N_InvalidNumber bs_InvalidNumber bm_InvalidNumber true sn_InvalidNumber sub_InvalidNumber ab_InvalidNumber col_InvalidNumber dd_InvalidNumber k0_InvalidNumber k1_InvalidNumber k2_InvalidNumber k3_InvalidNumber k5_InvalidNumber "ValueError.__new__"))
    (sa_InvalidNumber : PySem.W.findIn K (.ref C_InvalidNumber) "__setattr__" = some (some (.builtin "object.__setattr__")))
    (no_InvalidNumber : PySem.W.findIn K (.ref C_InvalidNumber) "value" = some none)
    (tI_InvalidNumber : PySem.W.typeIn K (.ref I_InvalidNumber) = some (.type "function"))
    (kC_InvalidNumber : PySem.W.keepIn K (.ref C_InvalidNumber) = true)
    (ex_InvalidNumber : PySem.W.subIn K (.ref C_InvalidNumber) (.type "BaseException") = some true)
    (ve_InvalidNumber : PySem.W.subIn K (.ref C_InvalidNumber) (.type "ValueError") = some true)
    (ty_InvalidNumber : PySem.W.typeIn K (.ref C_InvalidNumber) = some (.type "type"))
    (ga_InvalidNumber : PySem.W.findIn K (.ref C_InvalidNumber) "__getattribute__" = some (some (.builtin "BaseException.__getattribute__")))
    (gg_InvalidNumber : PySem.W.findIn K (.ref C_InvalidNumber) "__getattr__" = some none)
    (hd_InvalidNumber : PySem.W.hasDictIn K C_InvalidNumber = true)
    (mr_InvalidNumber : PySem.W.mroIn K C_InvalidNumber (.ref C_InvalidNumber) = some true)
    (mo_InvalidNumber : PySem.W.mroIn K C_InvalidNumber (.type "object") = some true)
    (co_InvalidNumber : PySem.W.findIn K (.ref C_InvalidNumber) "__class__" = some (some (.builtin "object.__class__")))
    (nint_InvalidNumber : PySem.W.subIn K (.ref C_InvalidNumber) (.type "int") = some false)
    (nbool_InvalidNumber : PySem.W.subIn K (.ref C_InvalidNumber) (.type "bool") = some false)
    (ntuple_InvalidNumber : PySem.W.subIn K (.ref C_InvalidNumber) (.type "tuple") = some false)
    (nstr_InvalidNumber : PySem.W.subIn K (.ref C_InvalidNumber) (.type "str") = some false)
    (nlist_InvalidNumber : PySem.W.subIn K (.ref C_InvalidNumber) (.type "list") = some false)
    (si_InvalidNumber : PySem.W.ks_superIn K C_InvalidNumber C_InvalidNumber "__init__" = some (some (.builtin "ValueError.__init__")))
    (li_InvalidNumber : K.lookup I_InvalidNumber = some ⟨oi_InvalidNumber, oo_InvalidNumber, .func (PySem.W.ksFn "__init__" "InvalidNumber.__init__" (defArgs sI_InvalidNumber) (defBody sI_InvalidNumber) (defScope sI_InvalidNumber) .none .none di_InvalidNumber pi_InvalidNumber ai_InvalidNumber (.ref ca_InvalidNumber) ci_InvalidNumber cc_InvalidNumber), si2_InvalidNumber⟩)
    (ci2_InvalidNumber : PySem.W.codeIn K (.ref ca_InvalidNumber) "InvalidNumber.__init__" = true)
    (lc_InvalidNumber : K.lookup ca_InvalidNumber = some ⟨cl1_InvalidNumber, cd1_InvalidNumber, .fields vs_InvalidNumber, sj_InvalidNumber⟩)
    (fi_InvalidNumber : vs_InvalidNumber[2]? = some (.str file_InvalidNumber tf_InvalidNumber))
    (ff_InvalidNumber : ((l.prog.main.file : Str) == file_InvalidNumber) = true)
    (lx_InvalidNumber : K.lookup cc_InvalidNumber = some ⟨cl2_InvalidNumber, cd2_InvalidNumber, .cell (some (.ref C_InvalidNumber)), sk_InvalidNumber⟩)
    (zs : PySem.W.nsIn K mainGlobals "super" = some none)
    (op : PySem.W.nsIn K cStatics "thirdparty.any" = some none)
    (ht : (l.prog.main.scope.names.lookup ("super" : Str)).isSome = false)
    (sp1 : PySem.W.specialIn K (.builtin "object.__class__") "__get__" = some (some (.builtin "getset_descriptor.__get__")))
    (sp2 : PySem.W.takesIn K (.builtin "object.__class__") = some true)
    (z_abs : PySem.W.nsIn K mainGlobals "abs" = some none)
    (z_all : PySem.W.nsIn K mainGlobals "all" = some none)
    (z_bool : PySem.W.nsIn K mainGlobals "bool" = some none)
    (z_int : PySem.W.nsIn K mainGlobals "int" = some none)
    (z_isinstance : PySem.W.nsIn K mainGlobals "isinstance" = some none)
    (z_len : PySem.W.nsIn K mainGlobals "len" = some none)
    (z_list : PySem.W.nsIn K mainGlobals "list" = some none)
    (z_max : PySem.W.nsIn K mainGlobals "max" = some none)
    (z_min : PySem.W.nsIn K mainGlobals "min" = some none)
    (z_range : PySem.W.nsIn K mainGlobals "range" = some none)
    (z_sorted : PySem.W.nsIn K mainGlobals "sorted" = some none)
    (z_tuple : PySem.W.nsIn K mainGlobals "tuple" = some none)
    (m_combinations : PySem.W.nsIn K mainGlobals "combinations" = some (some (.type "itertools.combinations")))
    (rv_InvalidNumber : PySem.HandSPX.refsVE bm_InvalidNumber = true) (sb_InvalidNumber : PySem.W.subIn K (.ref C_InvalidNumber) (.ref C_InvalidNumber) = some true)
    : ∃ fd : FuncData, (∀ (s : Shared) (v : Value), BindsTo s fd ⟨[v], []⟩ [("script", v)]) ∧ ∀ base : Heap, K.In base → base.Ns mainGlobals mg → FnOk l.prog w K mg base CX0 12 fa fd ["script"] (spLaw K) := by
  have e := hfa.symm.trans (PySem.W.mg_of X G a27)
  cases e
  have gs : mg "super" = none := PySem.W.mg_none_of X G zs
  have xt_InvalidNumber : PySem.SupX_value.XTxt l.prog K mg "InvalidNumber" C_InvalidNumber I_InvalidNumber := {
    gC := PySem.W.mg_of X G gC_InvalidNumber, nm := by decide +kernel, sup := gs, cls := ⟨_, _, _, _, _, _, _, _, _, _, _, _, _, _, _, cl_InvalidNumber, by assumption⟩, sa := sa_InvalidNumber, noN := no_InvalidNumber, iC := iC_InvalidNumber, tC := tI_InvalidNumber, kC := kC_InvalidNumber, exC := ex_InvalidNumber, veC := ve_InvalidNumber, tyC := ty_InvalidNumber
    te := PySem.W.exm_ref ex_InvalidNumber hd_InvalidNumber ty_InvalidNumber sb_InvalidNumber, xf := ⟨ga_InvalidNumber, gg_InvalidNumber, ex_InvalidNumber, hd_InvalidNumber⟩, sIn := si_InvalidNumber, opq := op, mro := mr_InvalidNumber, htop := ht
    fn := ⟨_, _, _, _, _, _, _, _, _, _, _, _, _, _, _, _, _, _, _, _, _, _, _, _, _, _, _, _, _, _, _, _, _, li_InvalidNumber, ci2_InvalidNumber, by decide +kernel, lc_InvalidNumber, fi_InvalidNumber, ff_InvalidNumber, lx_InvalidNumber⟩ }
  let A : Ad := ⟨f0, (PySem.W.fnOf "is_an_integer" "is_an_integer" (defArgs s_is_an_integer) (defBody s_is_an_integer) (defScope s_is_an_integer) .none kV0 dc0 pm0 an0 cd0 ct0), f1, (PySem.W.fnOf "is_number" "is_number" (defArgs s_is_number) (defBody s_is_number) (defScope s_is_number) .none kV1 dc1 pm1 an1 cd1 ct1), f2, (PySem.W.fnOf "is_value" "is_value" (defArgs s_is_value) (defBody s_is_value) (defScope s_is_value) .none kV2 dc2 pm2 an2 cd2 ct2), f3, (PySem.W.fnOf "is_point" "is_point" (defArgs s_is_point) (defBody s_is_point) (defScope s_is_point) .none kV3 dc3 pm3 an3 cd3 ct3), f4, (PySem.W.fnOf "row_of" "row_of" (defArgs s_row_of) (defBody s_row_of) (defScope s_row_of) .none kV4 dc4 pm4 an4 cd4 ct4), f5, (PySem.W.fnOf "is_row" "is_row" (defArgs s_is_row) (defBody s_is_row) (defScope s_is_row) .none kV5 dc5 pm5 an5 cd5 ct5), f6, (PySem.W.fnOf "all_rows" "all_rows" (defArgs s_all_rows) (defBody s_all_rows) (defScope s_all_rows) .none kV6 dc6 pm6 an6 cd6 ct6), f7, (PySem.W.fnOf "is_lot" "is_lot" (defArgs s_is_lot) (defBody s_is_lot) (defScope s_is_lot) .none kV7 dc7 pm7 an7 cd7 ct7), f8, (PySem.W.fnOf "lots_of" "lots_of" (defArgs s_lots_of) (defBody s_lots_of) (defScope s_lots_of) .none kV8 dc8 pm8 an8 cd8 ct8), f9, (PySem.W.fnOf "lots_to" "lots_to" (defArgs s_lots_to) (defBody s_lots_to) (defScope s_lots_to) .none kV9 dc9 pm9 an9 cd9 ct9), f10, (PySem.W.fnOf "all_lots" "all_lots" (defArgs s_all_lots) (defBody s_all_lots) (defScope s_all_lots) .none kV10 dc10 pm10 an10 cd10 ct10), f11, (PySem.W.fnOf "read_at" "read_at" (defArgs s_read_at) (defBody s_read_at) (defScope s_read_at) .none kV11 dc11 pm11 an11 cd11 ct11), f12, (PySem.W.fnOf "_law_flow" "_law_flow" (defArgs s__law_flow) (defBody s__law_flow) (defScope s__law_flow) .none kV12 dc12 pm12 an12 cd12 ct12), f13, (PySem.W.fnOf "_law_take" "_law_take" (defArgs s__law_take) (defBody s__law_take) (defScope s__law_take) .none kV13 dc13 pm13 an13 cd13 ct13), f14, (PySem.W.fnOf "_law_row" "_law_row" (defArgs s__law_row) (defBody s__law_row) (defScope s__law_row) .none kV14 dc14 pm14 an14 cd14 ct14), f15, (PySem.W.fnOf "_law_lot" "_law_lot" (defArgs s__law_lot) (defBody s__law_lot) (defScope s__law_lot) .none kV15 dc15 pm15 an15 cd15 ct15), f16, (PySem.W.fnOf "_law_put" "_law_put" (defArgs s__law_put) (defBody s__law_put) (defScope s__law_put) .none kV16 dc16 pm16 an16 cd16 ct16), f17, (PySem.W.fnOf "_law_spoilt" "_law_spoilt" (defArgs s__law_spoilt) (defBody s__law_spoilt) (defScope s__law_spoilt) .none kV17 dc17 pm17 an17 cd17 ct17), f18, (PySem.W.fnOf "_law_is_number" "_law_is_number" (defArgs s__law_is_number) (defBody s__law_is_number) (defScope s__law_is_number) .none kV18 dc18 pm18 an18 cd18 ct18), f19, (PySem.W.fnOf "_law_is_row" "_law_is_row" (defArgs s__law_is_row) (defBody s__law_is_row) (defScope s__law_is_row) .none kV19 dc19 pm19 an19 cd19 ct19), f20, (PySem.W.fnOf "_law_is_lot" "_law_is_lot" (defArgs s__law_is_lot) (defBody s__law_is_lot) (defScope s__law_is_lot) .none kV20 dc20 pm20 an20 cd20 ct20), f21, (PySem.W.fnOf "_law_same" "_law_same" (defArgs s__law_same) (defBody s__law_same) (defScope s__law_same) .none kV21 dc21 pm21 an21 cd21 ct21), f22, (PySem.W.fnOf "_law_truth" "_law_truth" (defArgs s__law_truth) (defBody s__law_truth) (defScope s__law_truth) .none kV22 dc22 pm22 an22 cd22 ct22), f23, (PySem.W.fnOf "_law_every_row" "_law_every_row" (defArgs s__law_every_row) (defBody s__law_every_row) (defScope s__law_every_row) .none kV23 dc23 pm23 an23 cd23 ct23), f24, (PySem.W.fnOf "_law_every_lot" "_law_every_lot" (defArgs s__law_every_lot) (defBody s__law_every_lot) (defScope s__law_every_lot) .none kV24 dc24 pm24 an24 cd24 ct24), f25, (PySem.W.fnOf "_law_values" "_law_values" (defArgs s__law_values) (defBody s__law_values) (defScope s__law_values) .none kV25 dc25 pm25 an25 cd25 ct25), f26, (PySem.W.fnOf "_law_all" "_law_all" (defArgs s__law_all) (defBody s__law_all) (defScope s__law_all) .none kV26 dc26 pm26 an26 cd26 ct26), fa, (PySem.W.fnOf "law" "law" (defArgs s_law) (defBody s_law) (defScope s_law) .none kV27 dc27 pm27 an27 cd27 ct27), C_InvalidNumber, I_InvalidNumber⟩
  have T : Txt l.prog K mg A := ⟨PySem.W.mg_of X G a0, fun_mk (st := s_is_an_integer) l0 c0 k0, PySem.W.mg_of X G a1, fun_mk (st := s_is_number) l1 c1 k1, PySem.W.mg_of X G a2, fun_mk (st := s_is_value) l2 c2 k2, PySem.W.mg_of X G a3, fun_mk (st := s_is_point) l3 c3 k3, PySem.W.mg_of X G a4, fun_mk (st := s_row_of) l4 c4 k4, PySem.W.mg_of X G a5, fun_mk (st := s_is_row) l5 c5 k5, PySem.W.mg_of X G a6, fun_mk (st := s_all_rows) l6 c6 k6, PySem.W.mg_of X G a7, fun_mk (st := s_is_lot) l7 c7 k7, PySem.W.mg_of X G a8, fun_mk (st := s_lots_of) l8 c8 k8, PySem.W.mg_of X G a9, fun_mk (st := s_lots_to) l9 c9 k9, PySem.W.mg_of X G a10, fun_mk (st := s_all_lots) l10 c10 k10, PySem.W.mg_of X G a11, fun_mk (st := s_read_at) l11 c11 k11, PySem.W.mg_of X G a12, fun_mk (st := s__law_flow) l12 c12 k12, PySem.W.mg_of X G a13, fun_mk (st := s__law_take) l13 c13 k13, PySem.W.mg_of X G a14, fun_mk (st := s__law_row) l14 c14 k14, PySem.W.mg_of X G a15, fun_mk (st := s__law_lot) l15 c15 k15, PySem.W.mg_of X G a16, fun_mk (st := s__law_put) l16 c16 k16, PySem.W.mg_of X G a17, fun_mk (st := s__law_spoilt) l17 c17 k17, PySem.W.mg_of X G a18, fun_mk (st := s__law_is_number) l18 c18 k18, PySem.W.mg_of X G a19, fun_mk (st := s__law_is_row) l19 c19 k19, PySem.W.mg_of X G a20, fun_mk (st := s__law_is_lot) l20 c20 k20, PySem.W.mg_of X G a21, fun_mk (st := s__law_same) l21 c21 k21, PySem.W.mg_of X G a22, fun_mk (st := s__law_truth) l22 c22 k22, PySem.W.mg_of X G a23, fun_mk (st := s__law_every_row) l23 c23 k23, PySem.W.mg_of X G a24, fun_mk (st := s__law_every_lot) l24 c24 k24, PySem.W.mg_of X G a25, fun_mk (st := s__law_values) l25 c25 k25, PySem.W.mg_of X G a26, fun_mk (st := s__law_all) l26 c26 k26, PySem.W.mg_of X G a27, fun_mk (st := s_law) l27 c27 k27, xt_InvalidNumber, ⟨⟨ga_InvalidNumber, gg_InvalidNumber, ex_InvalidNumber, hd_InvalidNumber, co_InvalidNumber, sp1, sp2, mo_InvalidNumber⟩, nint_InvalidNumber, nbool_InvalidNumber, ntuple_InvalidNumber, nstr_InvalidNumber, nlist_InvalidNumber⟩, PySem.W.mg_none_of X G z_abs, PySem.W.mg_none_of X G z_all, PySem.W.mg_none_of X G z_bool, PySem.W.mg_none_of X G z_int, PySem.W.mg_none_of X G z_isinstance, PySem.W.mg_none_of X G z_len, PySem.W.mg_none_of X G z_list, PySem.W.mg_none_of X G z_max, PySem.W.mg_none_of X G z_min, PySem.W.mg_none_of X G z_range, PySem.W.mg_none_of X G z_sorted, PySem.W.mg_none_of X G z_tuple, PySem.W.mg_of X G m_combinations⟩
  exact ⟨PySem.W.fnOf "law" "law" (defArgs s_law) (defBody s_law) (defScope s_law) .none kV27 dc27 pm27 an27 cd27 ct27, fun s v => .of_eq rfl, fun base _ _ => ok_law T⟩
theorem walk {l : PySem.W.OpenLaw} {q : Program} {loose : List Str} {XP : (Str → Option Value) → Heap → Prop} {YP : World → Heap → Prop} {d : DefRec} {K : Params → PySem.W.Frag} (hn : l.most = some 63) (hdf : d.params.defaults = [])
    (hY : ∀ (w : World) (h : Heap), YP w h → (K w.params).In h)
    (F : ∀ (w : World) (mg : Str → Option Value) (fa : Addr) (h : Heap), (K w.params).In h → h.Ns mainGlobals mg → mg d.name = some (.ref fa) →
      ∃ fd : FuncData, (∀ (s : Shared) (u : Value), BindsTo s fd ⟨[u], []⟩ [("script", u)]) ∧ ∀ base : Heap, (K w.params).In base → base.Ns mainGlobals mg → FnOk l.prog w (K w.params) mg base CX0 12 fa fd ["script"] (spLaw (K w.params))) :
    PySem.W.WalkO q loose XP YP l.row.toRowW d [] (fun f vs => PySem.call f vs) :=
  L2.walk_of (n := 63) (k := 12) (x := "script") (CX := fun _ => CX0) (sp := fun w => spLaw (K w.params)) hn (by decide) hdf ⟨rfl, by decide, by decide⟩ hY F (fun _ _ a ns hl _ hS => ⟨a, ns, rfl, hS, hl, fun _ => rfl⟩) fun _ _ _ _ _ z => z
end K04

set_option Elab.async false
set_option linter.all false
set_option maxRecDepth 100000
open PySem PySem.W PyProof.Rows
set_option maxRecDepth 100000 in
set_option maxHeartbeats 0 in
theorem PySem.Challenge.cw_nextguess_k04_rows_and_lots_holds : PySem.Challenge.rw_nextguess_k04_rows_and_lots.Holds := by
  w_on; o_law; k_head; (case hw => w_witness2)
  k_fill
  refine K04.walk (l := PySem.Challenge.rw_nextguess_k04_rows_and_lots) rfl rfl (fun w h Y => PySem.W.kIn_of Y) ?F
  case F =>
    intro w mg fa h KX G hmg
    refine' K04.all_mk KX G hmg ?a0 ?l0 ?c0 ?k0 ?a1 ?l1 ?c1 ?k1 ?a2 ?l2 ?c2 ?k2 ?a3 ?l3 ?c3 ?k3 ?a4 ?l4 ?c4 ?k4 ?a5 ?l5 ?c5 ?k5 ?a6 ?l6 ?c6 ?k6 ?a7 ?l7 ?c7 ?k7 ?a8 ?l8 ?c8 ?k8 ?a9 ?l9 ?c9 ?k9 ?a10 ?l10 ?c10 ?k10 ?a11 ?l11 ?c11 ?k11 ?a12 ?l12 ?c12 ?k12 ?a13 ?l13 ?c13 ?k13 ?a14 ?l14 ?c14 ?k14 ?a15 ?l15 ?c15 ?k15 ?a16 ?l16 ?c16 ?k16 ?a17 ?l17 ?c17 ?k17 ?a18 ?l18 ?c18 ?k18 ?a19 ?l19 ?c19 ?k19 ?a20 ?l20 ?c20 ?k20 ?a21 ?l21 ?c21 ?k21 ?a22 ?l22 ?c22 ?k22 ?a23 ?l23 ?c23 ?k23 ?a24 ?l24 ?c24 ?k24 ?a25 ?l25 ?c25 ?k25 ?a26 ?l26 ?c26 ?k26 ?a27 ?l27 ?c27 ?k27 ?gC_InvalidNumber ?iC_InvalidNumber ?cl_InvalidNumber ?sa_InvalidNumber ?no_InvalidNumber ?tI_InvalidNumber ?kC_InvalidNumber ?ex_InvalidNumber ?ve_InvalidNumber ?ty_InvalidNumber ?ga_InvalidNumber ?gg_InvalidNumber ?hd_InvalidNumber ?mr_InvalidNumber ?mo_InvalidNumber ?co_InvalidNumber ?nint_InvalidNumber ?nbool_InvalidNumber ?ntuple_InvalidNumber ?nstr_InvalidNumber ?nlist_InvalidNumber ?si_InvalidNumber ?li_InvalidNumber ?ci2_InvalidNumber ?lc_InvalidNumber ?fi_InvalidNumber ?ff_InvalidNumber ?lx_InvalidNumber ?zs ?op ?ht ?sp1 ?sp2 ?z_abs ?z_all ?z_bool ?z_int ?z_isinstance ?z_len ?z_list ?z_max ?z_min ?z_range ?z_sorted ?z_tuple ?m_combinations ?rv_InvalidNumber ?sb_InvalidNumber
    (case gC_InvalidNumber => k_is)
    (case a0 => k_is)
    (case l0 => k_is)
    (case c0 => k_is)
    (case k0 => k_is)
    (case a1 => k_is)
    (case l1 => k_is)
    (case c1 => k_is)
    (case k1 => k_is)
    (case a2 => k_is)
    (case l2 => k_is)
    (case c2 => k_is)
    (case k2 => k_is)
    (case a3 => k_is)
    (case l3 => k_is)
    (case c3 => k_is)
    (case k3 => k_is)
    (case a4 => k_is)
    (case l4 => k_is)
    (case c4 => k_is)
    (case k4 => k_is)
    (case a5 => k_is)
    (case l5 => k_is)
    (case c5 => k_is)
    (case k5 => k_is)
    (case a6 => k_is)
    (case l6 => k_is)
    (case c6 => k_is)
    (case k6 => k_is)
    (case a7 => k_is)
    (case l7 => k_is)
    (case c7 => k_is)
    (case k7 => k_is)
    (case a8 => k_is)
    (case l8 => k_is)
    (case c8 => k_is)
    (case k8 => k_is)
    (case a9 => k_is)
    (case l9 => k_is)
    (case c9 => k_is)
    (case k9 => k_is)
    (case a10 => k_is)
    (case l10 => k_is)
    (case c10 => k_is)
    (case k10 => k_is)
    (case a11 => k_is)
    (case l11 => k_is)
    (case c11 => k_is)
    (case k11 => k_is)
    (case a12 => k_is)
    (case l12 => k_is)
    (case c12 => k_is)
    (case k12 => k_is)
    (case a13 => k_is)
    (case l13 => k_is)
    (case c13 => k_is)
    (case k13 => k_is)
    (case a14 => k_is)
    (case l14 => k_is)
    (case c14 => k_is)
    (case k14 => k_is)
    (case a15 => k_is)
    (case l15 => k_is)
    (case c15 => k_is)
    (case k15 => k_is)
    (case a16 => k_is)
    (case l16 => k_is)
    (case c16 => k_is)
    (case k16 => k_is)
    (case a17 => k_is)
    (case l17 => k_is)
    (case c17 => k_is)
    (case k17 => k_is)
    (case a18 => k_is)
    (case l18 => k_is)
    (case c18 => k_is)
    (case k18 => k_is)
    (case a19 => k_is)
    (case l19 => k_is)
    (case c19 => k_is)
    (case k19 => k_is)
    (case a20 => k_is)
    (case l20 => k_is)
    (case c20 => k_is)
    (case k20 => k_is)
    (case a21 => k_is)
    (case l21 => k_is)
    (case c21 => k_is)
    (case k21 => k_is)
    (case a22 => k_is)
    (case l22 => k_is)
    (case c22 => k_is)
    (case k22 => k_is)
    (case a23 => k_is)
    (case l23 => k_is)
    (case c23 => k_is)
    (case k23 => k_is)
    (case a24 => k_is)
    (case l24 => k_is)
    (case c24 => k_is)
    (case k24 => k_is)
    (case a25 => k_is)
    (case l25 => k_is)
    (case c25 => k_is)
    (case k25 => k_is)
    (case a26 => k_is)
    (case l26 => k_is)
    (case c26 => k_is)
    (case k26 => k_is)
    (case a27 => k_is)
    (case l27 => k_is)
    (case c27 => k_is)
    (case k27 => k_is)
    (case iC_InvalidNumber => k_is)
    (case cl_InvalidNumber => k_is)
    (case sa_InvalidNumber => k_is)
    (case no_InvalidNumber => k_is)
    (case tI_InvalidNumber => k_is)
    (case kC_InvalidNumber => k_is)
    (case ex_InvalidNumber => k_is)
    (case ve_InvalidNumber => k_is)
    (case ty_InvalidNumber => k_is)
    (case ga_InvalidNumber => k_is)
    (case gg_InvalidNumber => k_is)
    (case hd_InvalidNumber => k_is)
    (case mr_InvalidNumber => k_is)
    (case mo_InvalidNumber => k_is)
    (case co_InvalidNumber => k_is)
    (case nint_InvalidNumber => k_is)
    (case nbool_InvalidNumber => k_is)
    (case ntuple_InvalidNumber => k_is)
    (case nstr_InvalidNumber => k_is)
    (case nlist_InvalidNumber => k_is)
    (case si_InvalidNumber => (first | ks_is | k_is))
    (case li_InvalidNumber => k_is)
    (case ci2_InvalidNumber => k_is)
    (case lc_InvalidNumber => k_is)
    (case fi_InvalidNumber => (first | rfl | decide +kernel))
    (case ff_InvalidNumber => (first | rfl | decide +kernel))
    (case lx_InvalidNumber => k_is)
    (case zs => k_is)
    (case op => k_is)
    (case ht => (first | rfl | decide +kernel))
    (case sp1 => k_is)
    (case sp2 => k_is)
    (case z_abs => k_is)
    (case z_all => k_is)
    (case z_bool => k_is)
    (case z_int => k_is)
    (case z_isinstance => k_is)
    (case z_len => k_is)
    (case z_list => k_is)
    (case z_max => k_is)
    (case z_min => k_is)
    (case z_range => k_is)
    (case z_sorted => k_is)
    (case z_tuple => k_is)
    (case m_combinations => k_is)
    (case rv_InvalidNumber => (first | decide +kernel | rfl | k_is))
    (case sb_InvalidNumber => k_is)
