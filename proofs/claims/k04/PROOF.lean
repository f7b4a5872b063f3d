import PyProof.Rows.All
import Wide.All
import OpenK.AllK
import Wide.FinOn
import HandS.ForMost
import HandS.Wide
import HandS.IsInst
import HandS.Defaults
import HandS.Codes
import PySem.Challenge.RW_carrylog_k04_edges_of_segments
set_option Elab.async false
set_option maxRecDepth 100000
/-! ### my words over the hand layer -/
namespace Cl
open PySem L2
/-- the built-in names that the law's text uses are still the built-ins -/
structure Bi (mg : Str → Option Value) : Prop where
  len : mg "len" = none
  abs : mg "abs" = none
  max : mg "max" = none
  min : mg "min" = none
  sum : mg "sum" = none
  all : mg "all" = none
  any : mg "any" = none
  range : mg "range" = none
  isinstance : mg "isinstance" = none
  intT : mg "int" = none
  strT : mg "str" = none
  boolT : mg "bool" = none
  listT : mg "list" = none
/-- a def of the text, by its name: what it promises -/
structure Dn (P : Program) (w : World) (K : PySem.W.Frag) (mg : Str → Option Value) (base : Heap) (x : Str) (k : Nat) (ps : List Str) (sp : Sp) (dvs : List V := []) : Prop where
  ex : ∃ (f : Addr) (fd : FuncData) (ds : List Value), FnOk P w K mg base CX0 k f fd ps sp ∧ mg x = some (.ref f) ∧ PySem.W.keepIn K (.ref f) = true ∧ Binds K fd ps ds ∧ Vals dvs ds
/-- the same called with keywords -/
structure Dk (P : Program) (w : World) (K : PySem.W.Frag) (mg : Str → Option Value) (base : Heap) (x : Str) (k : Nat) (ps : List Str) (sp : Sp) (n : Nat) (ks : List Str) (gV : List V → List V → List V) : Prop where
  ex : ∃ (f : Addr) (fd : FuncData) (g : List Value → List Value → List Value), FnOk P w K mg base CX0 k f fd ps sp ∧ mg x = some (.ref f) ∧ PySem.W.keepIn K (.ref f) = true ∧ KBn K fd ps n ks g gV
section
variable {X : Cx} {k n : Nat} {ps ks : List Str} {sp : Sp} {dvs : List V} {E : XK} {x : Str} {p pos : Pos} {e : Expr} {es : List Expr} {kws : List Keyword} {t tk : TA} {gV : List V → List V → List V}
theorem pe_dn (D : Dn X.prog X.w X.K X.mg X.base x k ps sp dvs) (hr : Room k X.A) (hg : Gl X x) (hx : Passes CX0 X E) (ha : PA X (e :: es) t)
    (hdb : (x == ("__debug__" : Str)) = false := by decide) (he : starEach (e :: es) X.env = (false, eval e X.env) :: starEach es X.env := by rfl)
    (hpl : (backTo pos (starEach es X.env)).any (·.1) = false := by rfl) : PE X (.Call (.Name x p) (e :: es) [] pos) (tCall sp dvs E t) := by
  obtain ⟨f, fd, ds, G, m, kp, b, v⟩ := D.ex
  exact pe_call G hr hg m kp b v hx ha hdb he hpl
theorem pe_dn0 (D : Dn X.prog X.w X.K X.mg X.base x k ps sp dvs) (hr : Room k X.A) (hg : Gl X x) (hx : Passes CX0 X E)
    (hdb : (x == ("__debug__" : Str)) = false := by decide) : PE X (.Call (.Name x p) [] [] pos) (tCall sp dvs E tNil) := by
  obtain ⟨f, fd, ds, G, m, kp, b, v⟩ := D.ex
  exact pe_call0 G hr hg m kp b v hx hdb
theorem pe_dk (D : Dk X.prog X.w X.K X.mg X.base x k ps sp n ks gV) (hr : Room k X.A) (hg : Gl X x) (hx : Passes CX0 X E) (ha : PA X (e :: es) t) (hkw : PK X kws tk)
    (hall : (backToKw pos (keywordEach kws X.env)).all (·.1.isSome) = true := by rfl) (hks : (backToKw pos (keywordEach kws X.env)).filterMap (·.1) = ks := by rfl)
    (hdb : (x == ("__debug__" : Str)) = false := by decide) (he : starEach (e :: es) X.env = (false, eval e X.env) :: starEach es X.env := by rfl)
    (hpl : ((backTo pos (starEach (e :: es) X.env)).any (·.1) || (backToKw pos (keywordEach kws X.env)).any (·.1.isNone)) = false := by rfl) :
    PE X (.Call (.Name x p) (e :: es) kws pos) (tCallN n ks.length sp gV E t tk) := by
  obtain ⟨f, fd, g, G, m, kp, b⟩ := D.ex
  exact pe_callN G hr hg m kp b hx ha hkw hall hks hdb he hpl
end
theorem mulB {i j : Int} (h1 : -100000000000000000000000000000000000000000000000000000000000000 ≤ i) (h2 : i ≤ 100000000000000000000000000000000000000000000000000000000000000) (h3 : -100000000000000000000000000000000000000000000000000000000000000 ≤ j) (h4 : j ≤ 100000000000000000000000000000000000000000000000000000000000000) : CMulW i j :=
  wide_mul (a := 220) (b := 220) (Nat.lt_of_le_of_lt (show i.natAbs ≤ 100000000000000000000000000000000000000000000000000000000000000 by omega) (by decide)) (Nat.lt_of_le_of_lt (show j.natAbs ≤ 100000000000000000000000000000000000000000000000000000000000000 by omega) (by decide)) (by decide) (by decide) (by decide)
theorem divB {i j : Int} (h : 0 < j) (h2 : j ≤ 100000000000000000000000000000000000000000000000000000000000000) : CDivW i j :=
  wide_div h (b := 220) (Nat.lt_of_le_of_lt (show j.natAbs ≤ 100000000000000000000000000000000000000000000000000000000000000 by omega) (by decide)) (by decide) (by decide)
theorem strB {i : Int} (h1 : -100000000000000000000000000000000000000000000000000000000000000 ≤ i) (h2 : i ≤ 100000000000000000000000000000000000000000000000000000000000000) : i.natAbs.log2 < 1920 :=
  Nat.lt_of_lt_of_le (PySem.Flt.log2_lt_of (k := 220) (by decide) (Nat.lt_of_le_of_lt (show i.natAbs ≤ 100000000000000000000000000000000000000000000000000000000000000 by omega) (by decide))) (by decide)
/-- all that was tracked but what stands at a is as it was -/
def But (a : Addr) (H H' : Hp) : Prop := ∀ b o, b ≠ a → H b = some o → H' b = some o
theorem But.refl (a : Addr) (H : Hp) : But a H H := fun _ _ _ h => h
theorem But.trans {a : Addr} {H H1 H2 : Hp} (x : But a H H1) (y : But a H1 H2) : But a H H2 := fun b o n h => y b o n (x b o n h)
theorem But.of {a : Addr} {H H' : Hp} (x : Same H H') : But a H H' := fun b o _ h => x b o h
theorem But.upd {a : Addr} {H : Hp} {o : HO} : But a H (upd H a o) := fun b u n h => by rw [upd_ne n]; exact h
theorem Same.upd {p : Addr} {H : Hp} {o : HO} (h : H p = none) : Same H (upd H p o) := fun b u e => by rw [upd_ne (ne_of_none e h)]; exact e
theorem itd {c A B : Prop} [Decidable c] (h1 : c → A) (h2 : ¬ c → B) : if decide c = true then A else B := by
  by_cases h : c
  · rw [decide_eq_true h]; exact iteT (h1 h)
  · rw [decide_eq_false h]; exact iteF (h2 h)
theorem itn {c A B : Prop} [Decidable c] (h1 : ¬ c → A) (h2 : c → B) : if (!decide c) = true then A else B := by
  by_cases h : c
  · rw [decide_eq_true h]; exact iteF (h2 h)
  · rw [decide_eq_false h]; exact iteT (h1 h)
theorem iti {a b : Int} {A B : Prop} (h1 : a = b → A) (h2 : a ≠ b → B) : if decide (V.int a = V.int b) = true then A else B :=
  itd (fun h => h1 (V.int.inj h)) (fun h => h2 fun e => h (by rw [e]))
theorem itni {a b : Int} {A B : Prop} (h1 : a ≠ b → A) (h2 : a = b → B) : if (!decide (V.int a = V.int b)) = true then A else B :=
  itn (fun h => h1 fun e => h (by rw [e])) (fun h => h2 (V.int.inj h))
theorem But.sub {a b : Addr} {H H1 H2 : Hp} {o : HO} (n : b ≠ a) (x : But a H H1) (h : H b = some o) : H1 b = some o := x b o n h
/-- a comprehension without tests whose element is reckoned without a trace: the new list is the old one, mapped -/
theorem lc_pure {K : PySem.W.Frag} {a D : Addr} {xs : List V} {g : TG} {te : TE} {vs : List Nat} {σ : L2.St} {H1 : Hp} {Qd : Hp → Prop} (f : V → V) (hx : SqL K H1 a xs) (hD : H1 D = none) (hlen : xs.length < 10000)
    (hs : ∀ (x : V) (H : Hp) (R : V → Hp → Prop), x ∈ xs → (∀ b o, H1 b = some o → H b = some o) → R (f x) H → g x (wipe σ vs) H fun σ2 H2 => wipe σ2 vs = wipe σ vs ∧ te σ2 H2 R) (hd : Qd (upd H1 D (.lst (xs.map f)))) :
    ∃ W : Nat → Nat → Hp → Prop, (∃ m, W 0 m (upd H1 D (.lst []))) ∧ ∀ i m H, W i m H →
      ((Itl K a).stop i H ∧ Qd H) ∨ ((Itl K a).go i H ∧ ∃ Nx : Hp → Prop, (∀ H', Nx H' → ∃ m', m' < m ∧ W (i + 1) m' H') ∧ ∀ x H', (Itl K a).yld i H x H' → g x (wipe σ vs) H' fun σ2 H2 => wipe σ2 vs = wipe σ vs ∧ tYes σ2 H2 fun b H3 =>
        if b = true then te σ2 H3 fun y H4 => ∃ acc, H4 D = some (.lst acc) ∧ acc.length < sizeLine ∧ Nx (upd H4 D (.lst (acc ++ [y]))) else Nx H3) := by
  refine lc_list (K := K) (a := a) (xs := xs) (fun i H => H = upd H1 D (.lst ((xs.take i).map f))) (by rw [List.take_zero]; rfl) (fun i H _ e => by rw [e]; exact Same.seq (Same.upd hD) hx) ?_ ?_
  · rintro i x H hi rfl
    have hm : x ∈ xs := List.mem_of_getElem? hi
    have hi2 := (List.getElem?_eq_some_iff.mp hi).1
    have key : ∀ R : V → Hp → Prop, R (f x) (upd H1 D (.lst ((xs.take i).map f))) → g x (wipe σ vs) (upd H1 D (.lst ((xs.take i).map f))) fun σ2 H2 => wipe σ2 vs = wipe σ vs ∧ te σ2 H2 R := fun R hR =>
      hs x _ R hm (fun b o e => Same.upd hD b o e) hR
    have k2 := key (fun y H4 => ∃ acc, H4 D = some (.lst acc) ∧ acc.length < sizeLine ∧ upd H4 D (.lst (acc ++ [y])) = upd H1 D (.lst ((xs.take (i + 1)).map f))) ⟨_, upd_same, ?_, ?_⟩
    · exact k2
    · rw [List.length_map, List.length_take]
      have : (10000 : Nat) ≤ sizeLine := by decide
      omega
    · rw [upd_upd]
      have e : xs.take (i + 1) = xs.take i ++ [x] := by
        rw [List.take_add_one, hi]; rfl
      rw [e, List.map_append]; rfl
  · rintro H rfl
    rw [List.take_length]
    exact hd
/-- a bag stands at a -/
def BagAt (H : Hp) (a : Addr) : Prop := ∃ c t s : Int, H a = some (.lst [.int c, .int t, .int s])
theorem BagAt.same {H H' : Hp} {a : Addr} (h : BagAt H a) (x : Same H H') : BagAt H' a := by
  obtain ⟨c, t, s, e⟩ := h
  exact ⟨c, t, s, x _ _ e⟩
/-! ### what the top has written -/
structure AtTop (K : PySem.W.Frag) (x qual : Str) (st : Stmt) (kws : List (Str × V)) : Prop where
  ex : ∃ (f : Addr) (fd : FuncData), PySem.W.nsIn K mainGlobals x = some (some (.ref f)) ∧ Fun K x qual st f fd ∧ FunD K x qual (defArgs st) (defBody st) (defScope st) [] kws f fd
section
variable {P : Program} {w : World} {K : PySem.W.Frag} {mg : Str → Option Value} {base : Heap} {x qual : Str} {st : Stmt} {ps : List Str} {k : Nat} {sp : Sp} {kws : List (Str × V)} {h : Heap}
theorem atTop0 {f : Addr} {oc : Value} {od an : Option Addr} {osl : Array (Option Value)} {kV doc pm cdv ct : Value} (a : PySem.W.nsIn K mainGlobals x = some (some (.ref f)))
    (l : K.lookup f = some ⟨oc, od, .func (PySem.W.fnOf x qual (defArgs st) (defBody st) (defScope st) .none kV doc pm an cdv ct), osl⟩) (c : PySem.W.codeIn K cdv qual = true) (p : PySem.W.keepIn K (.ref f) = true) : AtTop K x qual st [] :=
  ⟨f, _, a, fun_mk l c p, ⟨⟨oc, od, .none, kV, doc, pm, an, cdv, ct, osl, rfl, l, c, .inl ⟨rfl, rfl⟩, .inl rfl⟩, p⟩⟩
theorem atTop1 {f D : Addr} {oc : Value} {od an : Option Addr} {osl : Array (Option Value)} {doc pm cdv ct u : Value} {n : Str} {v : V} (a : PySem.W.nsIn K mainGlobals x = some (some (.ref f)))
    (l : K.lookup f = some ⟨oc, od, .func (PySem.W.fnOf x qual (defArgs st) (defBody st) (defScope st) .none (.ref D) doc pm an cdv ct), osl⟩) (c : PySem.W.codeIn K cdv qual = true) (p : PySem.W.keepIn K (.ref f) = true)
    (hk : PySem.W.nsIn K D n = some (some u)) (r : RelV v u) : AtTop K x qual st [(n, v)] :=
  ⟨f, _, a, fun_mk l c p, ⟨⟨oc, od, .none, .ref D, doc, pm, an, cdv, ct, osl, rfl, l, c, .inl ⟨rfl, rfl⟩, .inr ⟨D, rfl, fun q hq => by
    rcases List.mem_cons.mp hq with rfl | hq
    · exact ⟨u, hk, r⟩
    · cases hq⟩⟩, p⟩⟩
theorem AtTop.dn (t : AtTop K x qual st kws) (X : K.In h) (G : h.Ns mainGlobals mg)
    (hb : ∀ (kV doc pm : Value) (an : Option Addr) (cdv ct : Value) (us : List Value), us.length = ps.length → bindArgs (PySem.W.fnOf x qual (defArgs st) (defBody st) (defScope st) .none kV doc pm an cdv ct) ⟨us, []⟩ = pure (ps.zip us))
    (ok : ∀ (f : Addr) (fd : FuncData), Fun K x qual st f fd → FnOk P w K mg base CX0 k f fd ps sp) : Dn P w K mg base x k ps sp := by
  obtain ⟨f, fd, a, F, _⟩ := t.ex
  exact ⟨f, fd, [], ok f fd F, PySem.W.mg_of X G a, F.kp, F.binds hb, .nil⟩
/-- called without its keywords: all the defaults -/
theorem AtTop.dd (t : AtTop K x qual st kws) (X : K.In h) (G : h.Ns mainGlobals mg) (n : Nat) (hk : kws ≠ []) (hn : n + kws.length = ps.length)
    (hb : ∀ (D : Addr) (doc pm : Value) (an : Option Addr) (cdv ct : Value) (us ks : List Value), us.length = n → ks.length = kws.length →
      KwChain D ((kws.map (·.1)).zip ks) (bindArgs (PySem.W.fnOf x qual (defArgs st) (defBody st) (defScope st) .none (.ref D) doc pm an cdv ct) ⟨us, []⟩) (ps.zip (us ++ ks)))
    (ok : ∀ (f : Addr) (fd : FuncData), Fun K x qual st f fd → FnOk P w K mg base CX0 k f fd ps sp) : Dn P w K mg base x k ps sp (kws.map (·.2)) := by
  obtain ⟨f, fd, a, F, FD⟩ := t.ex
  obtain ⟨ds, v, b⟩ := FD.binds0 n hk hn hb
  exact ⟨f, fd, ds, ok f fd F, PySem.W.mg_of X G a, F.kp, b, v⟩
/-- called with all its keywords, in their order -/
theorem AtTop.dk (t : AtTop K x qual st kws) (X : K.In h) (G : h.Ns mainGlobals mg) (n : Nat) (ks : List Str)
    (hb : ∀ (kV doc pm : Value) (an : Option Addr) (cdv ct : Value) (us ws : List Value), us.length = n → ws.length = ks.length → bindArgs (PySem.W.fnOf x qual (defArgs st) (defBody st) (defScope st) .none kV doc pm an cdv ct) ⟨us, ks.zip ws⟩ = pure (ps.zip (us ++ ws)))
    (ok : ∀ (f : Addr) (fd : FuncData), Fun K x qual st f fd → FnOk P w K mg base CX0 k f fd ps sp) : Dk P w K mg base x k ps sp n ks (fun vs zs => vs ++ zs) := by
  obtain ⟨f, fd, a, F, _⟩ := t.ex
  obtain ⟨oc, od, kV, doc, pm, an, cdv, ct, osl, rfl, lk, hcd⟩ := F.ex
  exact ⟨f, _, fun us ws => us ++ ws, ok f _ F, PySem.W.mg_of X G a, F.kp, ⟨fun s us ws _ l1 l2 => .of_eq (hb kV doc pm an cdv ct us ws l1 l2), fun r1 r2 => r1.append r2⟩⟩
end
end Cl

open PySem L2 Cl
local macro_rules | `(tactic| walk_at "rd") => `(tactic| (repeat (first | refine ⟨_, rfl, ?_⟩ | refine ⟨_, _, rfl, rfl, ?_⟩ | refine ⟨_, _, rfl, ?_⟩ | refine ⟨_, _, _, rfl, ?_⟩ | refine ⟨_, _, _, _, rfl, ?_⟩ | refine ⟨.inr ⟨by decide, by decide⟩, ?_⟩ | refine ⟨.inl ⟨by decide, by decide⟩, ?_⟩ | refine ⟨⟨by decide, by decide⟩, ?_⟩ | refine ⟨⟨by decide, by decide, by decide⟩, ?_⟩ | refine ⟨(by show (0 : Int) < _; decide), ?_⟩ | refine ⟨rfl, ?_⟩ | refine .inl ⟨_, rfl, ?_⟩ | refine .inr ⟨_, rfl, ?_⟩)))
/-! ### the checks and the draws that all laws share -/
namespace Cl
def top (i : Nat) : Stmt := PySem.Challenge.pw_carrylog_k04_edges_of_segments.main.body.getD i (.Pass ⟨0, 0, 0, 0⟩)
abbrev sInvalidinputInit : Stmt := inClass (top 2) 0
abbrev sIsWhole : Stmt := top 4
abbrev sCheckLeast : Stmt := top 5
abbrev sSegmentShare : Stmt := top 7
abbrev sSegmentsLimit : Stmt := top 8
abbrev sLeastSegments : Stmt := top 9
abbrev sLeastSegmentBudget : Stmt := top 10
abbrev sDividedUp : Stmt := top 11
abbrev sSharedKeys : Stmt := top 12
abbrev sLawIsNumber : Stmt := top 14
abbrev sLawBag : Stmt := top 15
abbrev sLawTake : Stmt := top 16
abbrev sLawNumber : Stmt := top 17
abbrev sLawShare : Stmt := top 18
abbrev sLawMost : Stmt := top 19
abbrev sLawShareAgrees : Stmt := top 20
abbrev sLawMostAgrees : Stmt := top 21
abbrev sLawSegmentsAgree : Stmt := top 22
abbrev sLawBudgetAgrees : Stmt := top 23
abbrev sLawHouse : Stmt := top 24
abbrev sLawLimits : Stmt := top 25
abbrev sLawCase : Stmt := top 26
abbrev sLaw : Stmt := top 27
section
variable {P : Program} {w : World} {K : PySem.W.Frag} {mg : Str → Option Value} {base : Heap}
/-! is_whole, check_least, _law_is_number -/
def spIsWhole : Sp := fun vs H Q _ => ∃ (v : Int), vs = [.int v] ∧ Q (.bl true) H
theorem kit_ii (K : PySem.W.Frag) : PySem.W.kitOne K (.type "int") (.type "int") = some true := kit_ty (by decide +kernel)
theorem kit_ib (K : PySem.W.Frag) : PySem.W.kitOne K (.type "int") (.type "bool") = some false := kit_ty (by decide +kernel)
theorem scIsWhole : FnScope ["value"] ["value"] (defScope sIsWhole) := ⟨rfl, rfl, rfl, by decide +kernel, rfl, by decide +kernel, by decide +kernel⟩
theorem ok_is_whole {f : Addr} {fd : FuncData} (F : Fun K "is_whole" "is_whole" sIsWhole f fd) (B : Bi mg) : FnOk P w K mg base CX0 1 f fd ["value"] spIsWhole := by
  refine F.ok scIsWhole (fun vs H Q E h => ?_) (fun cdv A outer s H vs Q E hr h => ?_)
  · obtain ⟨v, rfl, _⟩ := h
    rfl
  · obtain ⟨v, rfl, k⟩ := h
    refine ⟨_, (pss_one (ps_ret (pe_and (pe_callB call_isi (by rfl) B.isinstance (by decide +kernel) (pa_cons (pv 0) (pa_cons (pe_bltn (v := .ty "int") (by rfl) B.intT (by decide +kernel) rfl) pa_nil))) (pe_one (pe_not (pe_callB call_isi (by rfl) B.isinstance (by decide +kernel) (pa_cons (pv 0) (pa_cons (pe_bltn (v := .ty "bool") (by rfl) B.boolT (by decide +kernel) rfl) pa_nil)))))))), ?_⟩
    refine ⟨_, rfl, _, _, _, _, _, rfl, .ty _, .base (.int _), kit_ii _, _, rfl, iteT ?_⟩
    exact ⟨_, rfl, _, _, _, _, _, rfl, .ty _, .base (.int _), kit_ib _, _, rfl, k⟩
def spCheckLeast : Sp := fun vs H Q _ => ∃ (v l : Int) (x : Str), vs = [.int v, .int l, .str x] ∧ l ≤ v ∧ Q .non H
theorem scCheckLeast : FnScope ["value", "least", "field"] ["value", "least", "field"] (defScope sCheckLeast) := ⟨rfl, rfl, rfl, by decide +kernel, rfl, by decide +kernel, by decide +kernel⟩
theorem ok_check_least {f : Addr} {fd : FuncData} (F : Fun K "check_least" "check_least" sCheckLeast f fd) (D_is_whole : Dn P w K mg base "is_whole" 1 ["value"] spIsWhole) : FnOk P w K mg base CX0 2 f fd ["value", "least", "field"] spCheckLeast := by
  refine F.ok scCheckLeast (fun vs H Q E h => ?_) (fun cdv A outer s H vs Q E hr h => ?_)
  · obtain ⟨v, l, x, rfl, _⟩ := h
    rfl
  · obtain ⟨v, l, x, rfl, hl, k⟩ := h
    refine ⟨_, (pss_one (ps_if (PW.pt (pw_or (pt_not (pt_val (pe_dn D_is_whole (hr.mono (by decide)) (by rfl) pass0 (pa_cons (pv 0) pa_nil)))) (pw_or1 (pt_cmpR op_lt (pv 0) (pv 1) (nomark _))))) (pss_one ps_never)
  pss_nil)), ?_⟩
    refine ⟨_, rfl, v, rfl, _, rfl, iteF ?_⟩
    walk_at "rd"
    rw [decide_eq_false (by omega)]
    exact iteF k
theorem scLawIsNumber : FnScope ["told"] ["told"] (defScope sLawIsNumber) := ⟨rfl, rfl, rfl, by decide +kernel, rfl, by decide +kernel, by decide +kernel⟩
theorem ok_is_number {f : Addr} {fd : FuncData} (F : Fun K "_law_is_number" "_law_is_number" sLawIsNumber f fd) (B : Bi mg) : FnOk P w K mg base CX0 1 f fd ["told"] spIsWhole := by
  refine F.ok scLawIsNumber (fun vs H Q E h => ?_) (fun cdv A outer s H vs Q E hr h => ?_)
  · obtain ⟨v, rfl, _⟩ := h
    rfl
  · obtain ⟨v, rfl, k⟩ := h
    refine ⟨_, (pss_one (ps_ret (pe_and (pe_callB call_isi (by rfl) B.isinstance (by decide +kernel) (pa_cons (pv 0) (pa_cons (pe_bltn (v := .ty "int") (by rfl) B.intT (by decide +kernel) rfl) pa_nil))) (pe_one (pe_not (pe_callB call_isi (by rfl) B.isinstance (by decide +kernel) (pa_cons (pv 0) (pa_cons (pe_bltn (v := .ty "bool") (by rfl) B.boolT (by decide +kernel) rfl) pa_nil)))))))), ?_⟩
    refine ⟨_, rfl, _, _, _, _, _, rfl, .ty _, .base (.int _), kit_ii _, _, rfl, iteT ?_⟩
    exact ⟨_, rfl, _, _, _, _, _, rfl, .ty _, .base (.int _), kit_ib _, _, rfl, k⟩
/-! the bag: what is drawn from it is any number of its range -/
def spTake : Sp := fun vs H Q _ => ∃ (a : Addr) (z : Int), vs = [.ref a, .int z] ∧ BagAt H a ∧ 1 ≤ z ∧ z ≤ 100000000000000000000000000000000000000000000000000000000000000 ∧ ∀ (d : Int) (H' : Hp), 0 ≤ d → d < z → BagAt H' a → But a H H' → Q (.int d) H'
theorem scLawTake : FnScope ["bag", "size", "digit", "found", "turn", "one", "two"] ["bag", "size"] (defScope sLawTake) := ⟨rfl, rfl, rfl, by decide +kernel, rfl, by decide +kernel, by decide +kernel⟩
theorem ok_take {f : Addr} {fd : FuncData} (F : Fun K "_law_take" "_law_take" sLawTake f fd) (B : Bi mg) : FnOk P w K mg base CX0 1 f fd ["bag", "size"] spTake := by
  refine F.ok scLawTake (fun vs H Q E h => ?_) (fun cdv A outer s H vs Q E hr h => ?_)
  · obtain ⟨a, z, rfl, _⟩ := h
    rfl
  · obtain ⟨a, z, rfl, ⟨c, t, s, ha⟩, z1, z2, k⟩ := h
    refine ⟨_, (pss_cons (ps_if (pt_cmpR op_gt (pe_ix ix_list (pv 0) pe_int (fun _ _ => rfl)) pe_int (nomark _)) (pss_cons (ps_set (i := 2) scLawTake.nd rfl (Or.inl rfl) (pe_op op_mod (pe_callTy call_int1 (by rfl) B.intT (by decide +kernel) (pa_cons (pe_ix ix_list (pv 0) pe_int (fun _ _ => rfl)) pa_nil)) (pv 1)))
  (pss_cons (ps_asg (pe_op op_fdivW (pe_ix ix_list (pv 0) pe_int (fun _ _ => rfl)) (pv 1)) (pg_sub (pv 0) pe_int set_list))
  (pss_one (ps_ret (pv 2)))))
  pss_nil)
  (pss_cons (ps_set (i := 3) scLawTake.nd rfl (Or.inl rfl) pe_int)
  (pss_cons (ps_for PassesOwn.never rfl (pi_range1 rfl B.range (pa_cons (pe_op op_add pe_int (pe_op op_fdiv (pe_callB call_len_str (by rfl) B.len PySem.boot_len (pa_cons (pe_callTy call_str_int (by rfl) B.strT (by decide +kernel) (pa_cons (pv 1) pa_nil)) pa_nil)) pe_int)) pa_nil)) (pg_name (i := 4) scLawTake.nd rfl (Or.inl rfl))
  (pss_cons (ps_asg (pe_op op_add (pe_ix ix_list (pv 0) pe_int (fun _ _ => rfl)) pe_int) (pg_sub (pv 0) pe_int set_list))
  (pss_cons (ps_set (i := 5) scLawTake.nd rfl (Or.inl rfl) (pe_op op_mod (pe_callTy call_int1 (by rfl) B.intT (by decide +kernel) (pa_cons (pe_op op_add (pe_op op_add (pe_op op_mul (pe_ix ix_list (pv 0) pe_int (fun _ _ => rfl)) pe_int) (pe_op op_mul (pe_ix ix_list (pv 0) pe_int (fun _ _ => rfl)) pe_int)) pe_int) pa_nil)) pe_int))
  (pss_cons (ps_set (i := 6) scLawTake.nd rfl (Or.inl rfl) (pe_op op_mod (pe_callTy call_int1 (by rfl) B.intT (by decide +kernel) (pa_cons (pe_op op_add (pe_op op_add (pe_op op_mulW (pv 5) (pv 5)) (pe_op op_mul (pe_ix ix_list (pv 0) pe_int (fun _ _ => rfl)) pe_int)) pe_int) pa_nil)) pe_int))
  (pss_one (ps_set (i := 3) scLawTake.nd rfl (Or.inl rfl) (pe_op op_add (pe_op op_mul (pv 3) pe_int) (pe_op op_fdiv (pe_op op_mod (pe_callTy call_int1 (by rfl) B.intT (by decide +kernel) (pa_cons (pe_op op_add (pe_op op_mulW (pv 6) (pv 6)) (pv 5)) pa_nil)) pe_int) pe_int))))))))
  (pss_one (ps_ret (pe_op op_mod (pe_callTy call_int1 (by rfl) B.intT (by decide +kernel) (pa_cons (pv 3) pa_nil)) (pv 1))))))), ?_⟩
    refine ⟨_, rfl, a, _, _, _, rfl, rfl, SqL.of ha, rfl, _, _, rfl, rfl, _, rfl, ?_⟩
    refine ite2 (fun _ => ?_) (fun _ => ?_)
    · refine ⟨_, rfl, a, _, _, _, rfl, rfl, SqL.of ha, rfl, .inl ⟨_, rfl, _, rfl, _, _, rfl, rfl, (by show (0 : Int) < z; omega), ?_⟩⟩
      refine ⟨_, rfl, a, _, _, _, rfl, rfl, SqL.of ha, rfl, _, rfl, _, _, rfl, rfl, divB (by omega) z2, ?_⟩
      refine ⟨_, rfl, a, _, _, 0, rfl, rfl, ha, rfl, _, rfl, ?_⟩
      exact k _ _ (Int.emod_nonneg _ (by omega)) (Int.emod_lt_of_pos _ (by omega)) ⟨_, _, _, upd_same⟩ But.upd
    · have hl := int_text_fits (strB (i := z) (by omega) z2)
      have hl2 : (PySem.sizeLine : Int) ≤ 100000000 := by rw [PySem.sizeLine_eq]; decide
      refine ⟨_, rfl, _, rfl, strB (by omega) z2, _, rfl, hl, ?_⟩
      walk_at "rd"
      refine ⟨?_, ?_, ?_⟩
      · have : 0 ≤ (((toString z : Str)).length : Int) / 7 := by omega
        omega
      · have : (((toString z : Str)).length : Int) ≤ 100000000 := Int.le_trans (Int.ofNat_le.mpr hl) hl2
        omega
      refine for_range (fun i σ H' => ∃ (x y u v : Option V) (n : Int), σ = [some (.ref a), some (.int z), x, some (.int n), y, u, v] ∧ BagAt H' a ∧ But a H H') ⟨_, _, _, _, 0, rfl, ⟨c, t, s, ha⟩, But.refl _ _⟩ ?_ ?_
      · rintro i σ H' _ ⟨x, y, u, v, n, rfl, ⟨c, t, s, ha⟩, hb⟩
        refine ⟨_, rfl, a, _, _, _, rfl, rfl, SqL.of ha, rfl, _, _, rfl, rfl, _, rfl, a, _, _, 1, rfl, rfl, ha, rfl, ?_⟩
        have ha' : upd H' a (.lst [.int c, .int (t + 1), .int s]) a = some (.lst [.int c, .int (t + 1), .int s]) := upd_same
        refine ⟨_, rfl, a, _, _, _, rfl, rfl, SqL.of ha', rfl, _, _, rfl, rfl, .inr ⟨by decide, by decide⟩, ?_⟩
        refine ⟨_, rfl, a, _, _, _, rfl, rfl, SqL.of ha', rfl, _, _, rfl, rfl, .inr ⟨by decide, by decide⟩, ?_⟩
        refine ⟨_, _, rfl, rfl, _, _, rfl, rfl, .inl ⟨_, rfl, _, _, rfl, rfl, (by show (0 : Int) < 2147483647; decide), ?_⟩⟩
        generalize hone : (s * 48271 + (t + 1) * 69621 + 12345) % 2147483647 = one
        have o1 : 0 ≤ one := by omega
        have o2 : one < 2147483647 := by omega
        refine ⟨_, rfl, _, rfl, _, _, rfl, rfl, mulB (by omega) (by omega) (by omega) (by omega), ?_⟩
        refine ⟨_, rfl, a, _, _, _, rfl, rfl, SqL.of ha', rfl, _, _, rfl, rfl, .inr ⟨by decide, by decide⟩, ?_⟩
        refine ⟨_, _, rfl, rfl, _, _, rfl, rfl, .inl ⟨_, rfl, _, _, rfl, rfl, (by show (0 : Int) < 2147483629; decide), ?_⟩⟩
        generalize htwo : (one * one + (t + 1) * 40692 + 777) % 2147483629 = two
        have w1 : 0 ≤ two := by omega
        have w2 : two < 2147483629 := by omega
        refine ⟨_, rfl, _, _, rfl, rfl, .inr ⟨by decide, by decide⟩, ?_⟩
        refine ⟨_, rfl, _, rfl, _, _, rfl, rfl, mulB (by omega) (by omega) (by omega) (by omega), ?_⟩
        refine ⟨_, rfl, _, _, rfl, rfl, .inl ⟨_, rfl, _, _, rfl, rfl, (by show (0 : Int) < 2147483587; decide), ?_⟩⟩
        refine ⟨_, _, rfl, rfl, ⟨by decide, by decide⟩, _, _, rfl, rfl, ?_⟩
        exact ⟨_, _, _, _, _, rfl, ⟨_, _, _, ha'⟩, hb.trans But.upd⟩
      · rintro σ H' ⟨x, y, u, v, n, rfl, hB, hb⟩
        refine ⟨_, rfl, .inl ⟨_, rfl, _, rfl, _, _, rfl, rfl, (by show (0 : Int) < z; omega), ?_⟩⟩
        exact k _ _ (Int.emod_nonneg _ (by omega)) (Int.emod_lt_of_pos _ (by omega)) hB hb
def spBag (K : PySem.W.Frag) : Sp := fun vs H Q _ => ∃ (a : Addr) (ns : List Int) (i : Nat), vs = [.ref a, .int i] ∧ SqL K H a (ns.map V.int) ∧ ∀ (p : Addr) (H' : Hp), H p = none → BagAt H' p → Same H H' → Q (.ref p) H'
theorem scLawBag : FnScope ["script", "k", "cell", "seed"] ["script", "k"] (defScope sLawBag) := ⟨rfl, rfl, rfl, by decide +kernel, rfl, by decide +kernel, by decide +kernel⟩
theorem ok_bag {f : Addr} {fd : FuncData} (F : Fun K "_law_bag" "_law_bag" sLawBag f fd) (B : Bi mg) : FnOk P w K mg base CX0 1 f fd ["script", "k"] (spBag K) := by
  refine F.ok scLawBag (fun vs H Q E h => ?_) (fun cdv A outer s H vs Q E hr h => ?_)
  · obtain ⟨a, ns, i, rfl, _⟩ := h
    rfl
  · obtain ⟨a, ns, i, rfl, hS, k⟩ := h
    refine ⟨_, (pss_cons (ps_set (i := 2) scLawBag.nd rfl (Or.inl rfl) pe_int)
  (pss_cons (ps_set (i := 3) scLawBag.nd rfl (Or.inl rfl) (pe_op op_add (pe_op op_mul (pe_op op_mod (pe_callTy call_int1 (by rfl) B.intT (by decide +kernel) (pa_cons (pe_callB (cr_sum rfl) (by rfl) B.sum (by decide +kernel) (pa_cons (pv 0) pa_nil)) pa_nil)) pe_int) pe_int) (pe_op op_mul pe_int (pv 1))))
  (pss_cons (ps_if (pt_cmpR op_lt (pv 1) (pe_callB call_len_seq (by rfl) B.len PySem.boot_len (pa_cons (pv 0) pa_nil)) (nomark _)) (pss_cons (ps_set (i := 2) scLawBag.nd rfl (Or.inl rfl) (pe_callB call_abs (by rfl) B.abs (by decide +kernel) (pa_cons (pe_callTy call_int1 (by rfl) B.intT (by decide +kernel) (pa_cons (pe_ix ix_list (pv 0) (pv 1) (fun _ _ => rfl)) pa_nil)) pa_nil)))
  (pss_one (ps_set (i := 3) scLawBag.nd rfl (Or.inl rfl) (pe_op op_add (pe_op op_add (pe_op op_mod (pe_callTy call_int1 (by rfl) B.intT (by decide +kernel) (pa_cons (pv 2) pa_nil)) pe_int) (pe_op op_mul pe_int (pe_callTy call_int1 (by rfl) B.intT (by decide +kernel) (pa_cons (pe_cmpR op_lt (pe_ix ix_list (pv 0) (pv 1) (fun _ _ => rfl)) pe_int (nomark _)) pa_nil)))) (pe_op op_mul pe_int (pv 1))))))
  pss_nil)
  (pss_cons (ps_if (pt_cmpR op_lt (pv 2) (pe_op op_pow pe_int pe_int) (nomark _)) (pss_one (ps_set (i := 2) scLawBag.nd rfl (Or.inl rfl) pe_int))
  pss_nil)
  (pss_one (ps_ret (pe_lst (pa_cons (pv 2) (pa_cons pe_int (pa_cons (pv 3) pa_nil)))))))))), ?_⟩
    refine ⟨_, rfl, _, _, rfl, hS, ?_⟩
    walk_at "rd"
    refine ⟨_, _, rfl, .inl hS, ?_⟩
    walk_at "rd"
    refine itd (fun h => ?_) (fun h => ?_)
    · have hi : i < (ns.map V.int).length := by omega
      obtain ⟨v, hv⟩ : ∃ v : Int, (ns.map V.int)[i]? = some (V.int v) := by
        rw [List.length_map] at hi
        exact ⟨ns[i], by rw [List.getElem?_map, List.getElem?_eq_getElem hi]; rfl⟩
      refine ⟨_, rfl, _, rfl, a, _, _, _, rfl, rfl, hS, atI_nat hv, ?_⟩
      walk_at "rd"
      refine ⟨a, _, _, _, rfl, rfl, hS, atI_nat hv, ?_⟩
      walk_at "rd"
      refine ite2 (fun _ => ?_) (fun _ => ?_)
      all_goals
        walk_at "rd"
        refine ⟨by show 3 ≤ sizeLine; decide, fun p hp => ?_⟩
        exact k p _ hp ⟨_, _, _, upd_same⟩ (Same.upd hp)
    · walk_at "rd"
      refine ⟨by show 3 ≤ sizeLine; decide, fun p hp => ?_⟩
      exact k p _ hp ⟨_, _, _, upd_same⟩ (Same.upd hp)
def spNumber : Sp := fun vs H Q _ => ∃ (a : Addr) (m : Int), vs = [.ref a, .int m] ∧ BagAt H a ∧ 0 ≤ m ∧ m ≤ 10000000000000000000000000000000000000000000000000000000000000 ∧ ∀ (d : Int) (H' : Hp), 0 ≤ d → d ≤ m → BagAt H' a → But a H H' → Q (.int d) H'
theorem scLawNumber : FnScope ["bag", "most", "way"] ["bag", "most"] (defScope sLawNumber) := ⟨rfl, rfl, rfl, by decide +kernel, rfl, by decide +kernel, by decide +kernel⟩
theorem ok_number {f : Addr} {fd : FuncData} (F : Fun K "_law_number" "_law_number" sLawNumber f fd) (B : Bi mg) (D__law_take : Dn P w K mg base "_law_take" 1 ["bag", "size"] spTake) : FnOk P w K mg base CX0 2 f fd ["bag", "most"] spNumber := by
  refine F.ok scLawNumber (fun vs H Q E h => ?_) (fun cdv A outer s H vs Q E hr h => ?_)
  · obtain ⟨a, m, rfl, _⟩ := h
    rfl
  · obtain ⟨a, m, rfl, hB, m0, m1, k⟩ := h
    refine ⟨_, (pss_cons (ps_set (i := 2) scLawNumber.nd rfl (Or.inl rfl) (pe_dn D__law_take (hr.mono (by decide)) (by rfl) pass0 (pa_cons (pv 0) (pa_cons pe_int pa_nil))))
  (pss_cons (ps_if (pt_cmpR op_lt (pv 2) pe_int (nomark _)) (pss_one (ps_ret (pe_callB (call_min2 rfl) (by rfl) B.min (by decide +kernel) (pa_cons (pv 1) (pa_cons (pe_dn D__law_take (hr.mono (by decide)) (by rfl) pass0 (pa_cons (pv 0) (pa_cons pe_int pa_nil))) pa_nil)))))
  pss_nil)
  (pss_cons (ps_if (pt_cmpR op_eq (pv 2) pe_int (nomark _)) (pss_one (ps_ret (pe_callB (call_min2 rfl) (by rfl) B.min (by decide +kernel) (pa_cons (pv 1) (pa_cons (pe_dn D__law_take (hr.mono (by decide)) (by rfl) pass0 (pa_cons (pv 0) (pa_cons pe_int pa_nil))) pa_nil)))))
  pss_nil)
  (pss_cons (ps_if (pt_cmpR op_eq (pv 2) pe_int (nomark _)) (pss_one (ps_ret (pe_op op_sub (pv 1) (pe_dn D__law_take (hr.mono (by decide)) (by rfl) pass0 (pa_cons (pv 0) (pa_cons (pe_callB (call_min2 rfl) (by rfl) B.min (by decide +kernel) (pa_cons (pe_op op_add (pv 1) pe_int) (pa_cons pe_int pa_nil))) pa_nil))))))
  pss_nil)
  (pss_cons (ps_if (pt_cmpR op_eq (pv 2) pe_int (nomark _)) (pss_one (ps_ret (pe_op op_fdivW (pe_dn D__law_take (hr.mono (by decide)) (by rfl) pass0 (pa_cons (pv 0) (pa_cons (pe_op op_add (pv 1) pe_int) pa_nil))) (pe_op op_add pe_int (pe_dn D__law_take (hr.mono (by decide)) (by rfl) pass0 (pa_cons (pv 0) (pa_cons (pe_op op_pow pe_int pe_int) pa_nil)))))))
  pss_nil)
  (pss_one (ps_ret (pe_dn D__law_take (hr.mono (by decide)) (by rfl) pass0 (pa_cons (pv 0) (pa_cons (pe_op op_add (pv 1) pe_int) pa_nil)))))))))), ?_⟩
    walk_at "rd"
    refine ⟨hB, by decide, by decide, fun way H1 _ _ hB1 b1 => ?_⟩
    walk_at "rd"
    refine itd (fun _ => ?_) (fun _ => ?_)
    · walk_at "rd"
      refine ⟨hB1, by decide, by decide, fun d H2 d0 d1 hB2 b2 => ?_⟩
      walk_at "rd"
      refine k _ _ ?_ ?_ hB2 (b1.trans b2)
      · split <;> omega
      · split <;> omega
    walk_at "rd"
    refine iti (fun _ => ?_) (fun _ => ?_)
    · walk_at "rd"
      refine ⟨hB1, by decide, by decide, fun d H2 d0 d1 hB2 b2 => ?_⟩
      walk_at "rd"
      refine k _ _ ?_ ?_ hB2 (b1.trans b2)
      · split <;> omega
      · split <;> omega
    walk_at "rd"
    refine iti (fun _ => ?_) (fun _ => ?_)
    · walk_at "rd"
      refine ⟨hB1, ?_, ?_, fun d H2 d0 d1 hB2 b2 => ?_⟩
      · split <;> omega
      · split <;> omega
      walk_at "rd"
      refine k _ _ ?_ ?_ hB2 (b1.trans b2)
      · split at d1 <;> omega
      · omega
    walk_at "rd"
    refine iti (fun _ => ?_) (fun _ => ?_)
    · walk_at "rd"
      refine ⟨hB1, by omega, by omega, fun d H2 d0 d1 hB2 b2 => ?_⟩
      walk_at "rd"
      refine ⟨hB2, by decide, by decide, fun e H3 e0 e1 hB3 b3 => ?_⟩
      have e2 : e < 1000000000000000 := e1
      walk_at "rd"
      refine ⟨divB (by omega) (by omega), k _ _ (Int.ediv_nonneg d0 (by omega)) ?_ hB3 ((b1.trans b2).trans b3)⟩
      exact Int.le_trans (Int.ediv_le_self _ d0) (by omega)
    walk_at "rd"
    exact ⟨hB1, by omega, by omega, fun d H2 d0 d1 hB2 b2 => k _ _ d0 (by omega) hB2 (b1.trans b2)⟩
end
end Cl

/-! ### the sums of segments -/
namespace Cl
def share (s b : Int) : Int := b * s / (b + 1) + 1
def up (t p : Int) : Int := (t + p - 1) / p
def keys (l : Int) (late : Bool) : Int := if late then l else l - 1
def lim (n s b : Int) (late : Bool) : Int := if late then (n - 1) * share s b else (n - 1) * share s b + 1
def fewest (l s b : Int) (late : Bool) : Int := 1 + up (keys l late) (share s b)
def leastB (l n s : Int) (late : Bool) : Option Int :=
  if keys l late = 0 then some 0 else if n = 1 then none else if s < up (keys l late) (n - 1) then none else some (up (up (keys l late) (n - 1) - 1) (s - up (keys l late) (n - 1) + 1))
def optV : Option Int → V
  | none => .non
  | some i => .int i
theorem share_b {s b : Int} (hs : 1 ≤ s) (hb : 0 ≤ b) : 1 ≤ share s b ∧ share s b ≤ s ∧ b * s < share s b * (b + 1) ∧ (share s b - 1) * (b + 1) ≤ b * s := by
  have h0 : 0 ≤ b * s := Int.mul_nonneg hb (by omega)
  have h1 : 0 ≤ b * s / (b + 1) := Int.ediv_nonneg h0 (by omega)
  have h2 : b * s / (b + 1) * (b + 1) ≤ b * s := Int.ediv_mul_le _ (by omega)
  have h3 : b * s < (b * s / (b + 1) + 1) * (b + 1) := Int.lt_ediv_add_one_mul_self _ (by omega)
  have h4 : b * s / (b + 1) < s := by
    refine Int.lt_of_mul_lt_mul_right (a := b + 1) (Int.lt_of_le_of_lt h2 ?_) (by omega)
    rw [Int.mul_add, Int.mul_comm s b]; omega
  unfold share
  refine ⟨by omega, by omega, h3, ?_⟩
  rw [Int.add_sub_cancel]; exact h2
theorem up_b {t p : Int} (hp : 0 < p) : up t p * p ≤ t + p - 1 ∧ t ≤ up t p * p := by
  have h2 : (t + p - 1) / p * p ≤ t + p - 1 := Int.ediv_mul_le _ (by omega)
  have h3 : t + p - 1 < ((t + p - 1) / p + 1) * p := Int.lt_ediv_add_one_mul_self _ hp
  rw [Int.add_mul] at h3
  unfold up
  omega
theorem up_nn {t p : Int} (hp : 0 < p) (ht : 0 ≤ t) : 0 ≤ up t p := Int.ediv_nonneg (by omega) (by omega)
theorem up_le {t p : Int} (hp : 0 < p) (ht : 0 ≤ t) : up t p ≤ t := by
  have h1 := (up_b (t := t) hp).1
  have h0 := up_nn (t := t) hp ht
  rcases Int.lt_or_le t (up t p) with h | h
  · have h5 : (t + 1) * p ≤ up t p * p := Int.mul_le_mul_of_nonneg_right (by omega) (by omega)
    have h6 : t * 1 ≤ t * p := Int.mul_le_mul_of_nonneg_left (by omega) ht
    rw [Int.add_mul] at h5
    omega
  · exact h
theorem up_min {t p k : Int} (hp : 0 < p) (h : t ≤ k * p) : up t p ≤ k := by
  have h1 := (up_b (t := t) hp).1
  rcases Int.lt_or_le k (up t p) with h2 | h2
  · have h5 : (k + 1) * p ≤ up t p * p := Int.mul_le_mul_of_nonneg_right (by omega) (by omega)
    rw [Int.add_mul] at h5
    omega
  · exact h2
theorem lim_eq (n s b : Int) (late : Bool) : lim n s b late = (n - 1) * share s b + 1 - (if late then 1 else 0) := by
  cases late <;> simp [lim]
/-- share s b ≥ k says that b is large enough for k -/
theorem share_ge {s b k : Int} (hs : 1 ≤ s) (hb : 0 ≤ b) : k ≤ share s b ↔ (k - 1) * (b + 1) ≤ b * s := by
  obtain ⟨_, _, h3, h4⟩ := share_b hs hb
  constructor
  · intro h
    exact Int.le_trans (Int.mul_le_mul_of_nonneg_right (by omega) (by omega)) h4
  · intro h
    rcases Int.lt_or_le (share s b) k with h5 | h5
    · have h6 : share s b * (b + 1) ≤ (k - 1) * (b + 1) := Int.mul_le_mul_of_nonneg_right (by omega) (by omega)
      omega
    · exact h5
theorem fewest_ok {l s b : Int} {late : Bool} (hl : 1 ≤ l) (hs : 1 ≤ s) (hb : 0 ≤ b) : 1 ≤ fewest l s b late ∧ l ≤ lim (fewest l s b late) s b late ∧ (1 < fewest l s b late → lim (fewest l s b late - 1) s b late < l) := by
  obtain ⟨h1, h2, _, _⟩ := share_b hs hb
  have hk : 0 ≤ keys l late := by unfold keys; split <;> omega
  have u1 := up_b (t := keys l late) (p := share s b) (by omega)
  have u0 := up_nn (t := keys l late) (p := share s b) (by omega) hk
  have e : fewest l s b late - 1 = up (keys l late) (share s b) := by unfold fewest; omega
  have e2 : fewest l s b late - 1 - 1 = up (keys l late) (share s b) - 1 := by omega
  refine ⟨by unfold fewest; omega, ?_, fun h => ?_⟩
  · unfold lim
    rw [e]
    unfold keys at *
    split <;> simp_all <;> omega
  · unfold lim
    rw [e2, Int.sub_mul]
    unfold keys at *
    split <;> simp_all <;> omega
theorem leastB_none {l n s : Int} {late : Bool} (hl : 1 ≤ l) (hn : 1 ≤ n) (hs : 1 ≤ s) (h : (n - 1) * s + 1 - (if late then 1 else 0) < l) : leastB l n s late = none := by
  have hk : (n - 1) * s < keys l late := by
    unfold keys
    split <;> simp_all <;> omega
  have h0 : 0 ≤ (n - 1) * s := Int.mul_nonneg (by omega) (by omega)
  unfold leastB
  rw [if_neg (by omega)]
  split
  · rfl
  · have u := up_b (t := keys l late) (p := n - 1) (by omega)
    rw [if_pos]
    rcases Int.lt_or_le s (up (keys l late) (n - 1)) with h5 | h5
    · exact h5
    · have := Int.mul_le_mul_of_nonneg_right (c := n - 1) h5 (by omega)
      rw [Int.mul_comm s] at this
      omega
theorem leastB_some {l n s : Int} {late : Bool} (hl : 1 ≤ l) (hn : 1 ≤ n) (hs : 1 ≤ s) (h : ¬ (n - 1) * s + 1 - (if late then 1 else 0) < l) :
    ∃ b, leastB l n s late = some b ∧ 0 ≤ b ∧ b ≤ s ∧ l ≤ lim n s b late ∧ (0 < b → lim n s (b - 1) late < l) := by
  have hk : keys l late ≤ (n - 1) * s := by
    unfold keys
    split <;> simp_all <;> omega
  have hk0 : 0 ≤ keys l late := by unfold keys; split <;> omega
  have hlim : ∀ b, (l ≤ lim n s b late ↔ keys l late ≤ (n - 1) * share s b) := fun b => by
    unfold lim keys
    split <;> omega
  unfold leastB
  by_cases k0 : keys l late = 0
  · refine ⟨0, by rw [if_pos k0], by omega, by omega, ?_, fun h => by omega⟩
    rw [hlim, k0]
    have := (share_b hs (b := 0) (by omega)).1
    exact Int.mul_nonneg (by omega) (by omega)
  · rw [if_neg k0]
    have n1 : n ≠ 1 := fun e => by subst e; simp at hk; omega
    rw [if_neg n1]
    have hp : 0 < n - 1 := by omega
    have u := up_b (t := keys l late) (p := n - 1) hp
    have u1 : 1 ≤ up (keys l late) (n - 1) := by
      rcases Int.lt_or_le (up (keys l late) (n - 1)) 1 with h5 | h5
      · have := Int.mul_le_mul_of_nonneg_right (c := n - 1) (show up (keys l late) (n - 1) ≤ 0 by omega) (by omega)
        omega
      · exact h5
    have u2 : up (keys l late) (n - 1) ≤ s := up_min hp (by rw [Int.mul_comm]; exact hk)
    rw [if_neg (by omega)]
    generalize hw : up (keys l late) (n - 1) = w at *
    have v := up_b (t := w - 1) (p := s - w + 1) (by omega)
    have v0 := up_nn (t := w - 1) (p := s - w + 1) (by omega) (by omega)
    have v1 := up_le (t := w - 1) (p := s - w + 1) (by omega) (by omega)
    generalize hb : up (w - 1) (s - w + 1) = b at *
    have eqv : ∀ c, 0 ≤ c → (l ≤ lim n s c late ↔ w - 1 ≤ c * (s - w + 1)) := fun c hc => by
      rw [hlim]
      have e1 : keys l late ≤ (n - 1) * share s c ↔ w ≤ share s c := by
        constructor
        · intro h
          rw [← hw]
          exact up_min hp (by rw [Int.mul_comm]; exact h)
        · intro h
          have := Int.mul_le_mul_of_nonneg_right (c := n - 1) h (by omega)
          rw [Int.mul_comm (share s c)] at this
          omega
      rw [e1, share_ge hs hc]
      have x1 : c * (s - w + 1) = c * s - c * w + c := by rw [Int.mul_add, Int.mul_sub, Int.mul_one]
      have x2 : (w - 1) * (c + 1) = w * c + w - c - 1 := by rw [Int.sub_mul, Int.mul_add, Int.mul_one, Int.one_mul]; omega
      rw [x1, x2, Int.mul_comm w c]
      omega
    refine ⟨b, rfl, v0, by omega, (eqv b v0).mpr v.2, fun hb0 => ?_⟩
    rcases Int.lt_or_le (lim n s (b - 1) late) l with h5 | h5
    · exact h5
    · have := (eqv (b - 1) (by omega)).mp h5
      rw [Int.sub_mul, Int.one_mul] at this
      omega
end Cl

/-! ### the defs of law k04 -/
namespace Cl
section
variable {P : Program} {w : World} {K : PySem.W.Frag} {mg : Str → Option Value} {base : Heap}
def spShare : Sp := fun vs H Q _ => ∃ (s b : Int), vs = [.int s, .int b] ∧ 1 ≤ s ∧ s ≤ 10000000000000000000000000000000 ∧ 0 ≤ b ∧ b ≤ 10000000000000000000000000000000 ∧ Q (.int (share s b)) H
theorem scSegmentShare : FnScope ["size", "budget"] ["size", "budget"] (defScope sSegmentShare) := ⟨rfl, rfl, rfl, by decide +kernel, rfl, by decide +kernel, by decide +kernel⟩
theorem ok_segment_share {f : Addr} {fd : FuncData} (F : Fun K "segment_share" "segment_share" sSegmentShare f fd) (D_check_least : Dn P w K mg base "check_least" 2 ["value", "least", "field"] spCheckLeast) : FnOk P w K mg base CX0 3 f fd ["size", "budget"] spShare := by
  refine F.ok scSegmentShare (fun vs H Q E h => ?_) (fun cdv A outer s H vs Q E hr h => ?_)
  · obtain ⟨a, z, rfl, _⟩ := h
    rfl
  · obtain ⟨s, b, rfl, s1, s2, b1, b2, k⟩ := h
    refine ⟨_, (pss_cons (ps_expr (pe_dn D_check_least (hr.mono (by decide)) (by rfl) pass0 (pa_cons (pv 0) (pa_cons pe_int (pa_cons pe_str pa_nil)))))
  (pss_cons (ps_expr (pe_dn D_check_least (hr.mono (by decide)) (by rfl) pass0 (pa_cons (pv 1) (pa_cons pe_int (pa_cons pe_str pa_nil)))))
  (pss_one (ps_ret (pe_op op_add (pe_op op_fdivW (pe_op op_mulW (pv 1) (pv 0)) (pe_op op_add (pv 1) pe_int)) pe_int))))), ?_⟩
    walk_at "rd"
    refine ⟨s1, ?_⟩
    walk_at "rd"
    refine ⟨b1, ?_⟩
    walk_at "rd"
    refine ⟨mulB (by omega) (by omega) (by omega) (by omega), ?_⟩
    walk_at "rd"
    refine ⟨divB (by omega) (by omega), ?_⟩
    walk_at "rd"
    exact k
theorem scLawShare : FnScope ["size", "budget"] ["size", "budget"] (defScope sLawShare) := ⟨rfl, rfl, rfl, by decide +kernel, rfl, by decide +kernel, by decide +kernel⟩
theorem ok_law_share {f : Addr} {fd : FuncData} (F : Fun K "_law_share" "_law_share" sLawShare f fd) : FnOk P w K mg base CX0 1 f fd ["size", "budget"] spShare := by
  refine F.ok scLawShare (fun vs H Q E h => ?_) (fun cdv A outer s H vs Q E hr h => ?_)
  · obtain ⟨a, z, rfl, _⟩ := h
    rfl
  · obtain ⟨s, b, rfl, s1, s2, b1, b2, k⟩ := h
    refine ⟨_, (pss_one (ps_ret (pe_op op_add (pe_op op_fdivW (pe_op op_mulW (pv 1) (pv 0)) (pe_op op_add (pv 1) pe_int)) pe_int))), ?_⟩
    walk_at "rd"
    refine ⟨mulB (by omega) (by omega) (by omega) (by omega), ?_⟩
    walk_at "rd"
    refine ⟨divB (by omega) (by omega), ?_⟩
    walk_at "rd"
    exact k
def spUp : Sp := fun vs H Q _ => ∃ (t p : Int), vs = [.int t, .int p] ∧ 0 < p ∧ p ≤ 100000000000000000000000000000000 ∧ Q (.int (up t p)) H
theorem scDividedUp : FnScope ["total", "parts"] ["total", "parts"] (defScope sDividedUp) := ⟨rfl, rfl, rfl, by decide +kernel, rfl, by decide +kernel, by decide +kernel⟩
theorem ok_divided_up {f : Addr} {fd : FuncData} (F : Fun K "divided_up" "divided_up" sDividedUp f fd) : FnOk P w K mg base CX0 1 f fd ["total", "parts"] spUp := by
  refine F.ok scDividedUp (fun vs H Q E h => ?_) (fun cdv A outer s H vs Q E hr h => ?_)
  · obtain ⟨a, z, rfl, _⟩ := h
    rfl
  · obtain ⟨t, p, rfl, p1, p2, k⟩ := h
    refine ⟨_, (pss_one (ps_ret (pe_op op_fdivW (pe_op op_sub (pe_op op_add (pv 0) (pv 1)) pe_int) (pv 1)))), ?_⟩
    walk_at "rd"
    exact ⟨divB (by omega) (by omega), k⟩
def spKeys : Sp := fun vs H Q _ => ∃ (l : Int) (late : Bool), vs = [.int l, .bl late] ∧ Q (.int (keys l late)) H
theorem scSharedKeys : FnScope ["limit", "late"] ["limit", "late"] (defScope sSharedKeys) := ⟨rfl, rfl, rfl, by decide +kernel, rfl, by decide +kernel, by decide +kernel⟩
theorem ok_shared_keys {f : Addr} {fd : FuncData} (F : Fun K "_shared_keys" "_shared_keys" sSharedKeys f fd) : FnOk P w K mg base CX0 1 f fd ["limit", "late"] spKeys := by
  refine F.ok scSharedKeys (fun vs H Q E h => ?_) (fun cdv A outer s H vs Q E hr h => ?_)
  · obtain ⟨a, z, rfl, _⟩ := h
    rfl
  · obtain ⟨l, late, rfl, k⟩ := h
    refine ⟨_, (pss_one (ps_ret (pe_ifExp (pt_val (pv 1)) (pv 0) (pe_op op_sub (pv 0) pe_int)))), ?_⟩
    cases late
    · walk_at "rd"
      exact k
    · walk_at "rd"
      exact k
def spLim : Sp := fun vs H Q _ => ∃ (n s b : Int) (late : Bool), vs = [.int n, .int s, .int b, .bl late] ∧ 1 ≤ n ∧ n ≤ 10000000000000000000000000000000 ∧ 1 ≤ s ∧ s ≤ 10000000000000000000000000000000 ∧ 0 ≤ b ∧ b ≤ 10000000000000000000000000000000 ∧ Q (.int (lim n s b late)) H
theorem scSegmentsLimit : FnScope ["segments", "size", "budget", "late", "shares"] ["segments", "size", "budget", "late"] (defScope sSegmentsLimit) := ⟨rfl, rfl, rfl, by decide +kernel, rfl, by decide +kernel, by decide +kernel⟩
theorem ok_segments_limit {f : Addr} {fd : FuncData} (F : Fun K "segments_limit" "segments_limit" sSegmentsLimit f fd) (D_check_least : Dn P w K mg base "check_least" 2 ["value", "least", "field"] spCheckLeast)
    (D_segment_share : Dn P w K mg base "segment_share" 3 ["size", "budget"] spShare) : FnOk P w K mg base CX0 4 f fd ["segments", "size", "budget", "late"] spLim := by
  refine F.ok scSegmentsLimit (fun vs H Q E h => ?_) (fun cdv A outer s H vs Q E hr h => ?_)
  · obtain ⟨n, s, b, late, rfl, _⟩ := h
    rfl
  · obtain ⟨n, s, b, late, rfl, n1, n2, s1, s2, b1, b2, k⟩ := h
    obtain ⟨z1, z2, _, _⟩ := share_b s1 b1
    refine ⟨_, (pss_cons (ps_expr (pe_dn D_check_least (hr.mono (by decide)) (by rfl) pass0 (pa_cons (pv 0) (pa_cons pe_int (pa_cons pe_str pa_nil)))))
  (pss_cons (ps_set (i := 4) scSegmentsLimit.nd rfl (Or.inl rfl) (pe_op op_mulW (pe_op op_sub (pv 0) pe_int) (pe_dn D_segment_share (hr.mono (by decide)) (by rfl) pass0 (pa_cons (pv 1) (pa_cons (pv 2) pa_nil)))))
  (pss_one (ps_ret (pe_ifExp (pt_val (pv 3)) (pv 4) (pe_op op_add (pv 4) pe_int)))))), ?_⟩
    walk_at "rd"
    refine ⟨n1, ?_⟩
    walk_at "rd"
    refine ⟨s1, s2, b1, b2, ?_⟩
    walk_at "rd"
    refine ⟨mulB (by omega) (by omega) (by omega) (by omega), ?_⟩
    cases late
    · walk_at "rd"
      exact k
    · walk_at "rd"
      exact k
theorem scLawMost : FnScope ["segments", "size", "budget", "written_first"] ["segments", "size", "budget", "written_first"] (defScope sLawMost) := ⟨rfl, rfl, rfl, by decide +kernel, rfl, by decide +kernel, by decide +kernel⟩
theorem ok_law_most {f : Addr} {fd : FuncData} (F : Fun K "_law_most" "_law_most" sLawMost f fd) (B : Bi mg) (D__law_share : Dn P w K mg base "_law_share" 1 ["size", "budget"] spShare) : FnOk P w K mg base CX0 2 f fd ["segments", "size", "budget", "written_first"] spLim := by
  refine F.ok scLawMost (fun vs H Q E h => ?_) (fun cdv A outer s H vs Q E hr h => ?_)
  · obtain ⟨n, s, b, late, rfl, _⟩ := h
    rfl
  · obtain ⟨n, s, b, late, rfl, n1, n2, s1, s2, b1, b2, k⟩ := h
    obtain ⟨z1, z2, _, _⟩ := share_b s1 b1
    rw [lim_eq] at k
    refine ⟨_, (pss_one (ps_ret (pe_op op_sub (pe_op op_add (pe_op op_mulW (pe_op op_sub (pv 0) pe_int) (pe_dn D__law_share (hr.mono (by decide)) (by rfl) pass0 (pa_cons (pv 1) (pa_cons (pv 2) pa_nil)))) pe_int) (pe_callTy call_int1 (by rfl) B.intT (by decide +kernel) (pa_cons (pv 3) pa_nil))))), ?_⟩
    walk_at "rd"
    refine ⟨s1, s2, b1, b2, ?_⟩
    walk_at "rd"
    refine ⟨mulB (by omega) (by omega) (by omega) (by omega), ?_⟩
    walk_at "rd"
    exact k
def spFewest : Sp := fun vs H Q _ => ∃ (l s b : Int) (late : Bool), vs = [.int l, .int s, .int b, .bl late] ∧ 1 ≤ l ∧ l ≤ 10000000000000000000000000000000 ∧ 1 ≤ s ∧ s ≤ 10000000000000000000000000000000 ∧ 0 ≤ b ∧ b ≤ 10000000000000000000000000000000 ∧ Q (.int (fewest l s b late)) H
theorem scLeastSegments : FnScope ["limit", "size", "budget", "late"] ["limit", "size", "budget", "late"] (defScope sLeastSegments) := ⟨rfl, rfl, rfl, by decide +kernel, rfl, by decide +kernel, by decide +kernel⟩
theorem ok_least_segments {f : Addr} {fd : FuncData} (F : Fun K "least_segments" "least_segments" sLeastSegments f fd) (D_check_least : Dn P w K mg base "check_least" 2 ["value", "least", "field"] spCheckLeast)
    (D_divided_up : Dn P w K mg base "divided_up" 1 ["total", "parts"] spUp) (D__shared_keys : Dn P w K mg base "_shared_keys" 1 ["limit", "late"] spKeys) (D_segment_share : Dn P w K mg base "segment_share" 3 ["size", "budget"] spShare) : FnOk P w K mg base CX0 4 f fd ["limit", "size", "budget", "late"] spFewest := by
  refine F.ok scLeastSegments (fun vs H Q E h => ?_) (fun cdv A outer s H vs Q E hr h => ?_)
  · obtain ⟨n, s, b, late, rfl, _⟩ := h
    rfl
  · obtain ⟨l, s, b, late, rfl, l1, l2, s1, s2, b1, b2, k⟩ := h
    obtain ⟨z1, z2, _, _⟩ := share_b s1 b1
    refine ⟨_, (pss_cons (ps_expr (pe_dn D_check_least (hr.mono (by decide)) (by rfl) pass0 (pa_cons (pv 0) (pa_cons pe_int (pa_cons pe_str pa_nil)))))
  (pss_one (ps_ret (pe_op op_add pe_int (pe_dn D_divided_up (hr.mono (by decide)) (by rfl) pass0 (pa_cons (pe_dn D__shared_keys (hr.mono (by decide)) (by rfl) pass0 (pa_cons (pv 0) (pa_cons (pv 3) pa_nil))) (pa_cons (pe_dn D_segment_share (hr.mono (by decide)) (by rfl) pass0 (pa_cons (pv 1) (pa_cons (pv 2) pa_nil))) pa_nil))))))), ?_⟩
    walk_at "rd"
    refine ⟨l1, ?_⟩
    walk_at "rd"
    refine ⟨s1, s2, b1, b2, ?_⟩
    walk_at "rd"
    refine ⟨by omega, by omega, ?_⟩
    walk_at "rd"
    exact k
def spLeastB : Sp := fun vs H Q _ => ∃ (l n s : Int) (late : Bool), vs = [.int l, .int n, .int s, .bl late] ∧ 1 ≤ l ∧ l ≤ 10000000000000000000000000000000 ∧ 1 ≤ n ∧ n ≤ 10000000000000000000000000000000 ∧ 1 ≤ s ∧ s ≤ 10000000000000000000000000000000 ∧ Q (optV (leastB l n s late)) H
theorem scLeastSegmentBudget : FnScope ["limit", "segments", "size", "late", "keys", "share"] ["limit", "segments", "size", "late"] (defScope sLeastSegmentBudget) := ⟨rfl, rfl, rfl, by decide +kernel, rfl, by decide +kernel, by decide +kernel⟩
theorem ok_least_segment_budget {f : Addr} {fd : FuncData} (F : Fun K "least_segment_budget" "least_segment_budget" sLeastSegmentBudget f fd) (D_check_least : Dn P w K mg base "check_least" 2 ["value", "least", "field"] spCheckLeast)
    (D_divided_up : Dn P w K mg base "divided_up" 1 ["total", "parts"] spUp) (D__shared_keys : Dn P w K mg base "_shared_keys" 1 ["limit", "late"] spKeys) : FnOk P w K mg base CX0 3 f fd ["limit", "segments", "size", "late"] spLeastB := by
  refine F.ok scLeastSegmentBudget (fun vs H Q E h => ?_) (fun cdv A outer s H vs Q E hr h => ?_)
  · obtain ⟨n, s, b, late, rfl, _⟩ := h
    rfl
  · obtain ⟨l, n, s, late, rfl, l1, l2, n1, n2, s1, s2, k⟩ := h
    unfold leastB at k
    refine ⟨_, (pss_cons (ps_expr (pe_dn D_check_least (hr.mono (by decide)) (by rfl) pass0 (pa_cons (pv 0) (pa_cons pe_int (pa_cons pe_str pa_nil)))))
  (pss_cons (ps_expr (pe_dn D_check_least (hr.mono (by decide)) (by rfl) pass0 (pa_cons (pv 1) (pa_cons pe_int (pa_cons pe_str pa_nil)))))
  (pss_cons (ps_expr (pe_dn D_check_least (hr.mono (by decide)) (by rfl) pass0 (pa_cons (pv 2) (pa_cons pe_int (pa_cons pe_str pa_nil)))))
  (pss_cons (ps_set (i := 4) scLeastSegmentBudget.nd rfl (Or.inl rfl) (pe_dn D__shared_keys (hr.mono (by decide)) (by rfl) pass0 (pa_cons (pv 0) (pa_cons (pv 3) pa_nil))))
  (pss_cons (ps_if (pt_cmpR op_eq (pv 4) pe_int (nomark _)) (pss_one (ps_ret pe_int))
  pss_nil)
  (pss_cons (ps_if (pt_cmpR op_eq (pv 1) pe_int (nomark _)) (pss_one (ps_ret pe_non))
  pss_nil)
  (pss_cons (ps_set (i := 5) scLeastSegmentBudget.nd rfl (Or.inl rfl) (pe_dn D_divided_up (hr.mono (by decide)) (by rfl) pass0 (pa_cons (pv 4) (pa_cons (pe_op op_sub (pv 1) pe_int) pa_nil))))
  (pss_cons (ps_if (pt_cmpR op_gt (pv 5) (pv 2) (nomark _)) (pss_one (ps_ret pe_non))
  pss_nil)
  (pss_one (ps_ret (pe_dn D_divided_up (hr.mono (by decide)) (by rfl) pass0 (pa_cons (pe_op op_sub (pv 5) pe_int) (pa_cons (pe_op op_add (pe_op op_sub (pv 2) (pv 5)) pe_int) pa_nil))))))))))))), ?_⟩
    have hk : 0 ≤ keys l late ∧ keys l late ≤ l := by unfold keys; split <;> omega
    walk_at "rd"
    refine ⟨l1, ?_⟩
    walk_at "rd"
    refine ⟨n1, ?_⟩
    walk_at "rd"
    refine ⟨s1, ?_⟩
    walk_at "rd"
    refine iti (fun e => ?_) (fun e => ?_)
    · rw [if_pos e] at k
      walk_at "rd"
      exact k
    rw [if_neg e] at k
    walk_at "rd"
    refine iti (fun e => ?_) (fun e => ?_)
    · rw [if_pos e] at k
      walk_at "rd"
      exact k
    rw [if_neg e] at k
    walk_at "rd"
    refine ⟨by omega, by omega, ?_⟩
    have u0 := up_nn (t := keys l late) (p := n - 1) (by omega) hk.1
    walk_at "rd"
    refine itd (fun e => ?_) (fun e => ?_)
    · rw [if_pos e] at k
      walk_at "rd"
      exact k
    rw [if_neg e] at k
    walk_at "rd"
    refine ⟨by omega, by omega, ?_⟩
    exact k
def spTrue4 : Sp := fun vs H Q _ => ∃ (l s b : Int) (late : Bool), vs = [.int l, .int s, .int b, .bl late] ∧ 1 ≤ l ∧ l ≤ 10000000000000000000000000000000 ∧ 1 ≤ s ∧ s ≤ 10000000000000000000000000000000 ∧ 0 ≤ b ∧ b ≤ 10000000000000000000000000000000 ∧ ∀ H', Same H H' → Q (.bl true) H'
def spTrue2 : Sp := fun vs H Q _ => ∃ (s b : Int), vs = [.int s, .int b] ∧ 1 ≤ s ∧ s ≤ 10000000000000000000000000000000 ∧ 0 ≤ b ∧ b ≤ 10000000000000000000000000000000 ∧ Q (.bl true) H
theorem share_edge {s b : Int} (hs : 1 ≤ s) (hb : 1 ≤ b) : ¬ share s b + (share s b + b - 1) / b ≤ s ∧ share s b - 1 + (share s b + b - 2) / b ≤ s := by
  obtain ⟨h1, h2, h3, h4⟩ := share_b hs (show 0 ≤ b by omega)
  generalize hq : share s b = q at *
  have u := up_b (t := q) (p := b) (by omega)
  have v := up_b (t := q - 1) (p := b) (by omega)
  have e1 : (q + b - 1) / b = up q b := rfl
  have e2 : (q + b - 2) / b = up (q - 1) b := by unfold up; congr 1; omega
  rw [e1, e2]
  have x3 : q * (b + 1) = q * b + q := by rw [Int.mul_add, Int.mul_one]
  have x4 : (q - 1) * (b + 1) = q * b - b + q - 1 := by rw [Int.sub_mul, Int.mul_add, Int.mul_one, Int.one_mul]; omega
  rw [x3] at h3
  rw [x4] at h4
  constructor
  · intro h
    have := Int.mul_le_mul_of_nonneg_right (c := b) h (by omega)
    rw [Int.add_mul, Int.mul_comm s] at this
    omega
  · rcases Int.lt_or_le s (q - 1 + up (q - 1) b) with h | h
    · have := Int.mul_le_mul_of_nonneg_right (c := b) (show s + 1 ≤ q - 1 + up (q - 1) b by omega) (by omega)
      rw [Int.add_mul, Int.add_mul, Int.mul_comm s, Int.sub_mul] at this
      omega
    · exact h
theorem scLawShareAgrees : FnScope ["size", "budget", "told"] ["size", "budget"] (defScope sLawShareAgrees) := ⟨rfl, rfl, rfl, by decide +kernel, rfl, by decide +kernel, by decide +kernel⟩
theorem ok_share_agrees {f : Addr} {fd : FuncData} (F : Fun K "_law_share_agrees" "_law_share_agrees" sLawShareAgrees f fd) (D_segment_share : Dn P w K mg base "segment_share" 3 ["size", "budget"] spShare)
    (D__law_is_number : Dn P w K mg base "_law_is_number" 1 ["told"] spIsWhole) : FnOk P w K mg base CX0 4 f fd ["size", "budget"] spTrue2 := by
  refine F.ok scLawShareAgrees (fun vs H Q E h => ?_) (fun cdv A outer s H vs Q E hr h => ?_)
  · obtain ⟨s, b, rfl, _⟩ := h
    rfl
  · obtain ⟨s, b, rfl, s1, s2, b1, b2, k⟩ := h
    obtain ⟨z1, z2, z3, z4⟩ := share_b s1 b1
    refine ⟨_, (pss_cons (ps_set (i := 2) scLawShareAgrees.nd rfl (Or.inl rfl) (pe_dn D_segment_share (hr.mono (by decide)) (by rfl) pass0 (pa_cons (pv 0) (pa_cons (pv 1) pa_nil))))
  (pss_cons (ps_if (PW.pt (pw_or (pt_not (pt_val (pe_dn D__law_is_number (hr.mono (by decide)) (by rfl) pass0 (pa_cons (pv 2) pa_nil)))) (pw_or1 (pt_cmpR op_lt (pv 2) pe_int (nomark _))))) (pss_one (ps_ret pe_bl))
  pss_nil)
  (pss_cons (ps_if (PW.pt (pw_or (pt_cmpR op_ge (pe_op op_mulW (pv 1) (pv 0)) (pe_op op_mulW (pv 2) (pe_op op_add (pv 1) pe_int)) (nomark _)) (pw_or1 (pt_cmpR op_lt (pe_op op_mulW (pv 1) (pv 0)) (pe_op op_mulW (pe_op op_sub (pv 2) pe_int) (pe_op op_add (pv 1) pe_int)) (nomark _))))) (pss_one (ps_ret pe_bl))
  pss_nil)
  (pss_cons (ps_if (pt_cmpR op_eq (pv 1) pe_int (nomark _)) (pss_one (ps_ret (pe_cmpR op_eq (pv 2) pe_int (nomark _))))
  pss_nil)
  (pss_cons (ps_if (pt_cmpR op_le (pe_op op_add (pv 2) (pe_op op_fdivW (pe_op op_sub (pe_op op_add (pv 2) (pv 1)) pe_int) (pv 1))) (pv 0) (nomark _)) (pss_one (ps_ret pe_bl))
  pss_nil)
  (pss_one (ps_ret (pe_cmpR op_le (pe_op op_add (pe_op op_sub (pv 2) pe_int) (pe_op op_fdivW (pe_op op_sub (pe_op op_add (pv 2) (pv 1)) pe_int) (pv 1))) (pv 0) (nomark _))))))))), ?_⟩
    walk_at "rd"
    refine ⟨s1, s2, b1, b2, ?_⟩
    walk_at "rd"
    rw [decide_eq_false (by omega)]
    walk_at "rd"
    refine ⟨mulB (by omega) (by omega) (by omega) (by omega), ?_⟩
    walk_at "rd"
    refine ⟨mulB (by omega) (by omega) (by omega) (by omega), ?_⟩
    walk_at "rd"
    rw [decide_eq_false (by omega)]
    walk_at "rd"
    refine ⟨mulB (by omega) (by omega) (by omega) (by omega), ?_⟩
    walk_at "rd"
    refine ⟨mulB (by omega) (by omega) (by omega) (by omega), ?_⟩
    walk_at "rd"
    rw [decide_eq_false (by omega)]
    walk_at "rd"
    refine iti (fun e => ?_) (fun e => ?_)
    · walk_at "rd"
      have e1 : share s b = 1 := by
        subst e
        unfold share
        rw [Int.zero_mul]; rfl
      show Q (.bl (decide (V.int (share s b) = V.int 1))) _
      rw [e1]
      exact k
    obtain ⟨y1, y2⟩ := share_edge s1 (show 1 ≤ b by omega)
    walk_at "rd"
    refine ⟨divB (by omega) (by omega), ?_⟩
    walk_at "rd"
    rw [decide_eq_false y1]
    walk_at "rd"
    refine ⟨divB (by omega) (by omega), ?_⟩
    walk_at "rd"
    show Q (.bl (decide (share s b - 1 + (share s b + b - 2) / b ≤ s))) _
    rw [decide_eq_true y2]
    exact k
end
end Cl

/-! ### the parts of law k04 -/
namespace Cl
theorem eqq {R : V → Hp → Prop} {v : V} {H : Hp} (h : R (.bl true) H) : R (.bl (decide (v = v))) H := by
  rw [decide_eq_true rfl]; exact h
theorem allT1 {K : PySem.W.Frag} {H : Hp} {D : Addr} {xs : List V} (h : H D = some (.lst (xs.map fun _ => V.bl true))) : SqL K H D ((xs.map fun _ => true).map V.bl) := by
  rw [List.map_map]; exact SqL.of h
theorem allT2 {α : Type} {xs : List α} : (xs.map fun _ => true).all id = true := by simp
theorem all_true {K : PySem.W.Frag} {H : Hp} {D : Addr} {xs : List V} {Q : VK} (h : H D = some (.lst (xs.map fun _ => V.bl true))) (q : Q (.bl true) H) : rAll K [.ref D] H Q :=
  ⟨D, xs.map fun _ => true, rfl, allT1 h, by rw [allT2]; exact q⟩
def gV1 : List V → List V → List V := fun vs zs => vs ++ zs
section
variable {P : Program} {w : World} {K : PySem.W.Frag} {mg : Str → Option Value} {base : Heap}
theorem scLawMostAgrees : FnScope ["segments", "size", "budget", "written_first", "told", "due", "one"] ["segments", "size", "budget", "written_first"] (defScope sLawMostAgrees) := ⟨rfl, rfl, rfl, by decide +kernel, rfl, by decide +kernel, by decide +kernel⟩
theorem ok_most_agrees {f : Addr} {fd : FuncData} (F : Fun K "_law_most_agrees" "_law_most_agrees" sLawMostAgrees f fd) (B : Bi mg) (D__law_most : Dn P w K mg base "_law_most" 2 ["segments", "size", "budget", "written_first"] spLim)
    (D_segments_limit : Dn P w K mg base "segments_limit" 4 ["segments", "size", "budget", "late"] spLim [.bl false]) (K_segments_limit_late : Dk P w K mg base "segments_limit" 4 ["segments", "size", "budget", "late"] spLim 3 ["late"] gV1)
    (D__law_is_number : Dn P w K mg base "_law_is_number" 1 ["told"] spIsWhole) : FnOk P w K mg base CX0 5 f fd ["segments", "size", "budget", "written_first"] spTrue4 := by
  refine F.ok scLawMostAgrees (fun vs H Q E h => ?_) (fun cdv A outer s H vs Q E hr h => ?_)
  · obtain ⟨l, s, b, late, rfl, _⟩ := h
    rfl
  · obtain ⟨n, s, b, late, rfl, n1, n2, s1, s2, b1, b2, k⟩ := h
    refine ⟨_, (pss_cons (ps_set (i := 4) scLawMostAgrees.nd rfl (Or.inl rfl) (pe_lst (pa_cons (pe_dk K_segments_limit_late (hr.mono (by decide)) (by rfl) pass0 (pa_cons (pv 0) (pa_cons (pv 1) (pa_cons (pv 2) pa_nil))) (pk_cons (pv 3) pk_nil)) pa_nil)))
  (C8.pss_cut (ps_if (pt_not (pt_val (pv 3))) (pss_one (ps_expr (pe_bm PySem.F.plainAttrs_list PySem.F.slot_list_append PySem.F.type_list_append mt_append (pv 4) (pa_cons (pe_dn D_segments_limit (hr.mono (by decide)) (by rfl) pass0 (pa_cons (pv 0) (pa_cons (pv 1) (pa_cons (pv 2) pa_nil)))) pa_nil))))
  pss_nil)
  (pss_cons (ps_set (i := 5) scLawMostAgrees.nd rfl (Or.inr rfl) (pe_dn D__law_most (hr.mono (by decide)) (by rfl) pass0 (pa_cons (pv 0) (pa_cons (pv 1) (pa_cons (pv 2) (pa_cons (pv 3) pa_nil))))))
  (pss_one (ps_ret (pe_callB (cr_all rfl) (by rfl) B.all (by decide +kernel) (pa_cons (pe_lc (own := [("one", 6)]) (g := gName 6) rfl scLawMostAgrees.nd (pi_list (pv 4)) (blkOk_by (own := [("one", 6)]) (N := ["segments", "size", "budget", "written_first", "told", "due", "one"]) (sc := defScope sLawMostAgrees) (by decide +kernel)) (fun _ _ _ _ _ => pg_name (i := 6) scLawMostAgrees.nd rfl (Or.inl rfl)) (fun _ _ _ _ _ => pts_nil) (fun _ _ _ _ _ => (pe_and (pe_dn D__law_is_number (hr.mono (by decide)) (by rfl) pass0 (pa_cons (pv 6) pa_nil)) (pe_one (pe_cmpR op_eq (pv 6) (pv 5) (nomark _)))))) pa_nil))))))), ?_⟩
    walk_at "rd"
    refine ⟨n1, n2, s1, s2, b1, b2, ?_⟩
    refine ⟨by show 1 ≤ sizeLine; decide, fun l hl => ?_⟩
    have hL : upd H l (.lst [.int (lim n s b late)]) l = some (.lst [.int (lim n s b late)]) := upd_same
    refine ⟨fun σ1 H1 => ∃ xs, σ1 = [some (.int n), some (.int s), some (.int b), some (.bl late), some (.ref l), none, none] ∧ H1 l = some (.lst xs) ∧ Same H H1 ∧ (xs = [.int (lim n s b late)] ∨ xs = [.int (lim n s b late), .int (lim n s b late)]), ?_, ?_⟩
    · cases late
      · walk_at "rd"
        refine ⟨.inl ⟨rfl, _, SqL.of hL⟩, ?_⟩
        walk_at "rd"
        refine ⟨n1, n2, s1, s2, b1, b2, ?_⟩
        refine ⟨l, _, _, rfl, rfl, hL, (by show 1 < sizeLine; decide), _, rfl, upd_same, ?_, .inr rfl⟩
        rw [upd_upd]
        exact Same.upd hl
      · walk_at "rd"
        exact ⟨_, rfl, hL, Same.upd hl, .inl rfl⟩
    rintro σ1 H1 ⟨xs, rfl, hL, hS, hx⟩
    have hm : ∀ x, x ∈ xs → x = V.int (lim n s b late) := by
      rcases hx with rfl | rfl <;> simp
    have hlen : xs.length < 10000 := by
      rcases hx with rfl | rfl <;> simp
    walk_at "rd"
    refine ⟨n1, n2, s1, s2, b1, b2, ?_⟩
    refine ⟨_, rfl, l, rfl, ⟨_, SqL.of hL⟩, fun D hD => lc_pure (K := K) (xs := xs) (fun _ => .bl true) (SqL.of hL) hD hlen (fun x H' R hx' hk hR => ?_) (all_true upd_same (k _ (hS.trans (Same.upd hD))))⟩
    cases hm x hx'
    refine ⟨rfl, ?_⟩
    walk_at "rd"
    exact eqq hR
theorem scLawSegmentsAgree : FnScope ["limit", "size", "budget", "written_first", "told", "fewest", "one"] ["limit", "size", "budget", "written_first"] (defScope sLawSegmentsAgree) := ⟨rfl, rfl, rfl, by decide +kernel, rfl, by decide +kernel, by decide +kernel⟩
def spTrueS : Sp := fun vs H Q _ => ∃ (l s b : Int) (late : Bool), vs = [.int l, .int s, .int b, .bl late] ∧ 1 ≤ l ∧ l ≤ 1000000000000000000000000000000 ∧ 1 ≤ s ∧ s ≤ 1000000000000000000000000000000 ∧ 0 ≤ b ∧ b ≤ 1000000000000000000000000000000 ∧ ∀ H', Same H H' → Q (.bl true) H'
theorem ok_segments_agree {f : Addr} {fd : FuncData} (F : Fun K "_law_segments_agree" "_law_segments_agree" sLawSegmentsAgree f fd) (B : Bi mg) (D_least_segments : Dn P w K mg base "least_segments" 4 ["limit", "size", "budget", "late"] spFewest [.bl false])
    (K_least_segments_late : Dk P w K mg base "least_segments" 4 ["limit", "size", "budget", "late"] spFewest 3 ["late"] gV1) (D__law_most_agrees : Dn P w K mg base "_law_most_agrees" 5 ["segments", "size", "budget", "written_first"] spTrue4)
    (D__law_most : Dn P w K mg base "_law_most" 2 ["segments", "size", "budget", "written_first"] spLim) (D__law_is_number : Dn P w K mg base "_law_is_number" 1 ["told"] spIsWhole) : FnOk P w K mg base CX0 6 f fd ["limit", "size", "budget", "written_first"] spTrueS := by
  refine F.ok scLawSegmentsAgree (fun vs H Q E h => ?_) (fun cdv A outer s H vs Q E hr h => ?_)
  · obtain ⟨l, s, b, late, rfl, _⟩ := h
    rfl
  · obtain ⟨m, s, b, late, rfl, m1, m2, s1, s2, b1, b2, k⟩ := h
    obtain ⟨z1, z2, _, _⟩ := share_b s1 b1
    obtain ⟨f1, f2, f3⟩ := fewest_ok (late := late) m1 s1 b1
    have f4 : fewest m s b late ≤ m + 1 := by
      have hk : 0 ≤ keys m late ∧ keys m late ≤ m := by unfold keys; split <;> omega
      have := up_le (t := keys m late) (p := share s b) (by omega) hk.1
      unfold fewest; omega
    refine ⟨_, (pss_cons (ps_set (i := 4) scLawSegmentsAgree.nd rfl (Or.inl rfl) (pe_lst (pa_cons (pe_dk K_least_segments_late (hr.mono (by decide)) (by rfl) pass0 (pa_cons (pv 0) (pa_cons (pv 1) (pa_cons (pv 2) pa_nil))) (pk_cons (pv 3) pk_nil)) pa_nil)))
  (C8.pss_cut (ps_if (pt_not (pt_val (pv 3))) (pss_one (ps_expr (pe_bm PySem.F.plainAttrs_list PySem.F.slot_list_append PySem.F.type_list_append mt_append (pv 4) (pa_cons (pe_dn D_least_segments (hr.mono (by decide)) (by rfl) pass0 (pa_cons (pv 0) (pa_cons (pv 1) (pa_cons (pv 2) pa_nil)))) pa_nil))))
  pss_nil)
  (pss_cons (ps_if (PW.pt (pw_or (pt_not (pt_val (pe_callB (cr_all rfl) (by rfl) B.all (by decide +kernel) (pa_cons (pe_lc (own := [("one", 6)]) (g := gName 6) rfl scLawSegmentsAgree.nd (pi_list (pv 4)) (blkOk_by (own := [("one", 6)]) (N := ["limit", "size", "budget", "written_first", "told", "fewest", "one"]) (sc := defScope sLawSegmentsAgree) (by decide +kernel)) (fun _ _ _ _ _ => pg_name (i := 6) scLawSegmentsAgree.nd rfl (Or.inl rfl)) (fun _ _ _ _ _ => pts_nil) (fun _ _ _ _ _ => (pe_dn D__law_is_number (hr.mono (by decide)) (by rfl) pass0 (pa_cons (pv 6) pa_nil)))) pa_nil)))) (pw_or1 (pt_cmpR op_ne (pe_ix ix_list (pv 4) pe_int (fun _ _ => rfl)) (pe_ix ix_list (pv 4) (pe_op op_sub (pe_callB call_len_seq (by rfl) B.len PySem.boot_len (pa_cons (pv 4) pa_nil)) pe_int) (fun _ _ => rfl)) (nomark _))))) (pss_one (ps_ret pe_bl))
  pss_nil)
  (pss_cons (ps_set (i := 5) scLawSegmentsAgree.nd rfl (Or.inl rfl) (pe_ix ix_list (pv 4) pe_int (fun _ _ => rfl)))
  (pss_cons (ps_if (PW.pt (pw_or (pt_cmpR op_lt (pv 5) pe_int (nomark _)) (pw_or1 (pt_cmpR op_gt (pv 0) (pe_dn D__law_most (hr.mono (by decide)) (by rfl) pass0 (pa_cons (pv 5) (pa_cons (pv 1) (pa_cons (pv 2) (pa_cons (pv 3) pa_nil))))) (nomark _))))) (pss_one (ps_ret pe_bl))
  pss_nil)
  (pss_cons (ps_if (PW.pt (pw_and (pt_cmpR op_gt (pv 5) pe_int (nomark _)) (pw_and1 (pt_cmpR op_le (pv 0) (pe_dn D__law_most (hr.mono (by decide)) (by rfl) pass0 (pa_cons (pe_op op_sub (pv 5) pe_int) (pa_cons (pv 1) (pa_cons (pv 2) (pa_cons (pv 3) pa_nil))))) (nomark _))))) (pss_one (ps_ret pe_bl))
  pss_nil)
  (pss_one (ps_ret (pe_or (pe_cmpR op_gt (pv 5) (pe_op op_pow pe_int pe_int) (nomark _)) (pe_one (pe_dn D__law_most_agrees (hr.mono (by decide)) (by rfl) pass0 (pa_cons (pv 5) (pa_cons (pv 1) (pa_cons (pv 2) (pa_cons (pv 3) pa_nil))))))))))))))), ?_⟩
    walk_at "rd"
    refine ⟨m1, by omega, s1, by omega, b1, by omega, ?_⟩
    refine ⟨by show 1 ≤ sizeLine; decide, fun l hl => ?_⟩
    have hL : upd H l (.lst [.int (fewest m s b late)]) l = some (.lst [.int (fewest m s b late)]) := upd_same
    refine ⟨fun σ1 H1 => ∃ xs, σ1 = [some (.int m), some (.int s), some (.int b), some (.bl late), some (.ref l), none, none] ∧ H1 l = some (.lst xs) ∧ Same H H1 ∧ (xs = [.int (fewest m s b late)] ∨ xs = [.int (fewest m s b late), .int (fewest m s b late)]), ?_, ?_⟩
    · cases late
      · walk_at "rd"
        refine ⟨.inl ⟨rfl, _, SqL.of hL⟩, ?_⟩
        walk_at "rd"
        refine ⟨m1, by omega, s1, by omega, b1, by omega, ?_⟩
        refine ⟨l, _, _, rfl, rfl, hL, (by show 1 < sizeLine; decide), _, rfl, upd_same, ?_, .inr rfl⟩
        rw [upd_upd]
        exact Same.upd hl
      · walk_at "rd"
        exact ⟨_, rfl, hL, Same.upd hl, .inl rfl⟩
    rintro σ1 H1 ⟨xs, rfl, hL, hS, hx⟩
    have hm : ∀ x, x ∈ xs → x = V.int (fewest m s b late) := by
      rcases hx with rfl | rfl <;> simp
    have hlen : xs.length < 10000 := by
      rcases hx with rfl | rfl <;> simp
    refine ⟨_, rfl, l, rfl, ⟨_, SqL.of hL⟩, fun D hD => lc_pure (K := K) (xs := xs) (fun _ => .bl true) (SqL.of hL) hD hlen (fun x H' R hx' hk hR => ?_) ?_⟩
    · cases hm x hx'
      refine ⟨rfl, ?_⟩
      walk_at "rd"
      exact hR
    refine ⟨D, xs.map fun _ => true, rfl, allT1 upd_same, ?_⟩
    rw [allT2]
    have hL2 : upd H1 D (.lst (xs.map fun _ => V.bl true)) l = some (.lst xs) := Same.upd hD _ _ hL
    have hS2 := hS.trans (Same.upd (o := .lst (xs.map fun _ => V.bl true)) hD)
    generalize upd H1 D (.lst (xs.map fun _ => V.bl true)) = H2 at hL2 hS2 ⊢
    have a0 : atI xs 0 = some (.int (fewest m s b late)) := by rcases hx with rfl | rfl <;> rfl
    have a1 : atI xs ((xs.length : Int) - 1) = some (.int (fewest m s b late)) := by rcases hx with rfl | rfl <;> rfl
    walk_at "rd"
    refine ⟨l, _, _, _, rfl, rfl, SqL.of hL2, a0, ?_⟩
    walk_at "rd"
    refine ⟨l, _, rfl, .inl (SqL.of hL2), ?_⟩
    walk_at "rd"
    refine ⟨l, _, _, _, rfl, rfl, SqL.of hL2, a1, ?_⟩
    walk_at "rd"
    rw [decide_eq_true rfl]
    walk_at "rd"
    refine ⟨l, _, _, _, rfl, rfl, SqL.of hL2, a0, ?_⟩
    walk_at "rd"
    rw [decide_eq_false (by omega)]
    walk_at "rd"
    refine ⟨by omega, by omega, s1, by omega, b1, by omega, ?_⟩
    walk_at "rd"
    rw [decide_eq_false (by omega)]
    walk_at "rd"
    refine itd (fun h => ?_) (fun h => ?_)
    · walk_at "rd"
      refine ⟨by omega, by omega, s1, by omega, b1, by omega, ?_⟩
      walk_at "rd"
      rw [decide_eq_false (by have := f3 h; omega)]
      walk_at "rd"
      refine itd (fun h => ?_) (fun h => ?_)
      · exact k _ hS2
      · walk_at "rd"
        exact ⟨by omega, by omega, s1, by omega, b1, by omega, fun H' hS' => k _ (hS2.trans hS')⟩
    · walk_at "rd"
      refine itd (fun h => ?_) (fun h => ?_)
      · exact k _ hS2
      · walk_at "rd"
        exact ⟨by omega, by omega, s1, by omega, b1, by omega, fun H' hS' => k _ (hS2.trans hS')⟩
end
end Cl

namespace Cl
section
variable {P : Program} {w : World} {K : PySem.W.Frag} {mg : Str → Option Value} {base : Heap}
def spTrueB : Sp := fun vs H Q _ => ∃ (l n s : Int) (late : Bool), vs = [.int l, .int n, .int s, .bl late] ∧ 1 ≤ l ∧ l ≤ 1000000000000000000000000000000 ∧ 1 ≤ n ∧ n ≤ 1000000000000000000000000000000 ∧ 1 ≤ s ∧ s ≤ 1000000000000000000000000000000 ∧ ∀ H', Same H H' → Q (.bl true) H'
theorem scLawBudgetAgrees : FnScope ["limit", "segments", "size", "written_first", "told", "budget", "one"] ["limit", "segments", "size", "written_first"] (defScope sLawBudgetAgrees) := ⟨rfl, rfl, rfl, by decide +kernel, rfl, by decide +kernel, by decide +kernel⟩
theorem ok_budget_agrees {f : Addr} {fd : FuncData} (F : Fun K "_law_budget_agrees" "_law_budget_agrees" sLawBudgetAgrees f fd) (B : Bi mg) (D_least_segment_budget : Dn P w K mg base "least_segment_budget" 3 ["limit", "segments", "size", "late"] spLeastB [.bl false])
    (K_least_segment_budget_late : Dk P w K mg base "least_segment_budget" 3 ["limit", "segments", "size", "late"] spLeastB 3 ["late"] gV1) (D__law_most_agrees : Dn P w K mg base "_law_most_agrees" 5 ["segments", "size", "budget", "written_first"] spTrue4)
    (D__law_most : Dn P w K mg base "_law_most" 2 ["segments", "size", "budget", "written_first"] spLim) (D__law_is_number : Dn P w K mg base "_law_is_number" 1 ["told"] spIsWhole) : FnOk P w K mg base CX0 6 f fd ["limit", "segments", "size", "written_first"] spTrueB := by
  refine F.ok scLawBudgetAgrees (fun vs H Q E h => ?_) (fun cdv A outer s H vs Q E hr h => ?_)
  · obtain ⟨l, s, b, late, rfl, _⟩ := h
    rfl
  · obtain ⟨m, n, s, late, rfl, m1, m2, n1, n2, s1, s2, k⟩ := h
    refine ⟨_, (pss_cons (ps_set (i := 4) scLawBudgetAgrees.nd rfl (Or.inl rfl) (pe_lst (pa_cons (pe_dk K_least_segment_budget_late (hr.mono (by decide)) (by rfl) pass0 (pa_cons (pv 0) (pa_cons (pv 1) (pa_cons (pv 2) pa_nil))) (pk_cons (pv 3) pk_nil)) pa_nil)))
  (C8.pss_cut (ps_if (pt_not (pt_val (pv 3))) (pss_one (ps_expr (pe_bm PySem.F.plainAttrs_list PySem.F.slot_list_append PySem.F.type_list_append mt_append (pv 4) (pa_cons (pe_dn D_least_segment_budget (hr.mono (by decide)) (by rfl) pass0 (pa_cons (pv 0) (pa_cons (pv 1) (pa_cons (pv 2) pa_nil)))) pa_nil))))
  pss_nil)
  (pss_cons (ps_if (pt_cmpR op_gt (pv 0) (pe_op op_sub (pe_op op_add (pe_op op_mulW (pe_op op_sub (pv 1) pe_int) (pv 2)) pe_int) (pe_callTy call_int1 (by rfl) B.intT (by decide +kernel) (pa_cons (pv 3) pa_nil))) (nomark _)) (pss_one (ps_ret (pe_callB (cr_all rfl) (by rfl) B.all (by decide +kernel) (pa_cons (pe_lc (own := [("one", 6)]) (g := gName 6) rfl scLawBudgetAgrees.nd (pi_list (pv 4)) (blkOk_by (own := [("one", 6)]) (N := ["limit", "segments", "size", "written_first", "told", "budget", "one"]) (sc := defScope sLawBudgetAgrees) (by decide +kernel)) (fun _ _ _ _ _ => pg_name (i := 6) scLawBudgetAgrees.nd rfl (Or.inl rfl)) (fun _ _ _ _ _ => pts_nil) (fun _ _ _ _ _ => (pe_cmpR op_isN (pv 6) pe_non (nomark _)))) pa_nil))))
  pss_nil)
  (pss_cons (ps_if (PW.pt (pw_or (pt_not (pt_val (pe_callB (cr_all rfl) (by rfl) B.all (by decide +kernel) (pa_cons (pe_lc (own := [("one", 6)]) (g := gName 6) rfl scLawBudgetAgrees.nd (pi_list (pv 4)) (blkOk_by (own := [("one", 6)]) (N := ["limit", "segments", "size", "written_first", "told", "budget", "one"]) (sc := defScope sLawBudgetAgrees) (by decide +kernel)) (fun _ _ _ _ _ => pg_name (i := 6) scLawBudgetAgrees.nd rfl (Or.inl rfl)) (fun _ _ _ _ _ => pts_nil) (fun _ _ _ _ _ => (pe_dn D__law_is_number (hr.mono (by decide)) (by rfl) pass0 (pa_cons (pv 6) pa_nil)))) pa_nil)))) (pw_or1 (pt_cmpR op_ne (pe_ix ix_list (pv 4) pe_int (fun _ _ => rfl)) (pe_ix ix_list (pv 4) (pe_op op_sub (pe_callB call_len_seq (by rfl) B.len PySem.boot_len (pa_cons (pv 4) pa_nil)) pe_int) (fun _ _ => rfl)) (nomark _))))) (pss_one (ps_ret pe_bl))
  pss_nil)
  (pss_cons (ps_set (i := 5) scLawBudgetAgrees.nd rfl (Or.inl rfl) (pe_ix ix_list (pv 4) pe_int (fun _ _ => rfl)))
  (pss_cons (ps_if (PW.pt (pw_or (pt_cmpR op_lt (pv 5) pe_int (nomark _)) (pw_or1 (pt_cmpR op_gt (pv 0) (pe_dn D__law_most (hr.mono (by decide)) (by rfl) pass0 (pa_cons (pv 1) (pa_cons (pv 2) (pa_cons (pv 5) (pa_cons (pv 3) pa_nil))))) (nomark _))))) (pss_one (ps_ret pe_bl))
  pss_nil)
  (pss_cons (ps_if (PW.pt (pw_and (pt_cmpR op_gt (pv 5) pe_int (nomark _)) (pw_and1 (pt_cmpR op_le (pv 0) (pe_dn D__law_most (hr.mono (by decide)) (by rfl) pass0 (pa_cons (pv 1) (pa_cons (pv 2) (pa_cons (pe_op op_sub (pv 5) pe_int) (pa_cons (pv 3) pa_nil))))) (nomark _))))) (pss_one (ps_ret pe_bl))
  pss_nil)
  (pss_one (ps_ret (pe_or (pe_cmpR op_gt (pv 5) (pe_op op_pow pe_int pe_int) (nomark _)) (pe_one (pe_dn D__law_most_agrees (hr.mono (by decide)) (by rfl) pass0 (pa_cons (pv 1) (pa_cons (pv 2) (pa_cons (pv 5) (pa_cons (pv 3) pa_nil)))))))))))))))), ?_⟩
    walk_at "rd"
    refine ⟨m1, by omega, n1, by omega, s1, by omega, ?_⟩
    refine ⟨by show 1 ≤ sizeLine; decide, fun l hl => ?_⟩
    have hL : upd H l (.lst [optV (leastB m n s late)]) l = some (.lst [optV (leastB m n s late)]) := upd_same
    refine ⟨fun σ1 H1 => ∃ xs, σ1 = [some (.int m), some (.int n), some (.int s), some (.bl late), some (.ref l), none, none] ∧ H1 l = some (.lst xs) ∧ Same H H1 ∧ (xs = [optV (leastB m n s late)] ∨ xs = [optV (leastB m n s late), optV (leastB m n s late)]), ?_, ?_⟩
    · cases late
      · walk_at "rd"
        refine ⟨.inl ⟨rfl, _, SqL.of hL⟩, ?_⟩
        walk_at "rd"
        refine ⟨m1, by omega, n1, by omega, s1, by omega, ?_⟩
        refine ⟨l, _, _, rfl, rfl, hL, (by show 1 < sizeLine; decide), _, rfl, upd_same, ?_, .inr rfl⟩
        rw [upd_upd]
        exact Same.upd hl
      · walk_at "rd"
        exact ⟨_, rfl, hL, Same.upd hl, .inl rfl⟩
    rintro σ1 H1 ⟨xs, rfl, hL, hS, hx⟩
    have hm : ∀ x, x ∈ xs → x = optV (leastB m n s late) := by
      rcases hx with rfl | rfl <;> simp
    have hlen : xs.length < 10000 := by
      rcases hx with rfl | rfl <;> simp
    have il : (if late = true then (1 : Int) else 0) ≤ 1 ∧ 0 ≤ (if late = true then (1 : Int) else 0) := by cases late <;> decide
    walk_at "rd"
    refine ⟨mulB (by omega) (by omega) (by omega) (by omega), ?_⟩
    walk_at "rd"
    refine itd (fun h => ?_) (fun h => ?_)
    · have eN := leastB_none (late := late) m1 n1 s1 h
      refine ⟨_, rfl, l, rfl, ⟨_, SqL.of hL⟩, fun D hD => lc_pure (K := K) (xs := xs) (fun _ => .bl true) (SqL.of hL) hD hlen (fun x H' R hx' hk hR => ?_) (all_true upd_same (k _ (hS.trans (Same.upd hD))))⟩
      cases hm x hx'
      refine ⟨rfl, ?_⟩
      walk_at "rd"
      rw [eN]
      exact eqq (v := V.non) hR
    obtain ⟨b, eS, b0, b1, h1, h2⟩ := leastB_some (late := late) m1 n1 s1 h
    rw [eS] at hx hm
    walk_at "rd"
    refine ⟨⟨_, SqL.of hL⟩, fun D hD => lc_pure (K := K) (xs := xs) (fun _ => .bl true) (SqL.of hL) hD hlen (fun x H' R hx' hk hR => ?_) ?_⟩
    · cases hm x hx'
      refine ⟨rfl, ?_⟩
      walk_at "rd"
      exact hR
    refine ⟨D, xs.map fun _ => true, rfl, allT1 upd_same, ?_⟩
    rw [allT2]
    have hL2 : upd H1 D (.lst (xs.map fun _ => V.bl true)) l = some (.lst xs) := Same.upd hD _ _ hL
    have hS2 := hS.trans (Same.upd (o := .lst (xs.map fun _ => V.bl true)) hD)
    generalize upd H1 D (.lst (xs.map fun _ => V.bl true)) = H2 at hL2 hS2 ⊢
    have a0 : atI xs 0 = some (.int b) := by rcases hx with rfl | rfl <;> rfl
    have a1 : atI xs ((xs.length : Int) - 1) = some (.int b) := by rcases hx with rfl | rfl <;> rfl
    walk_at "rd"
    refine ⟨l, _, _, _, rfl, rfl, SqL.of hL2, a0, ?_⟩
    walk_at "rd"
    refine ⟨l, _, rfl, .inl (SqL.of hL2), ?_⟩
    walk_at "rd"
    refine ⟨l, _, _, _, rfl, rfl, SqL.of hL2, a1, ?_⟩
    walk_at "rd"
    rw [decide_eq_true rfl]
    walk_at "rd"
    refine ⟨l, _, _, _, rfl, rfl, SqL.of hL2, a0, ?_⟩
    walk_at "rd"
    rw [decide_eq_false (by omega)]
    walk_at "rd"
    refine ⟨n1, by omega, s1, by omega, b0, by omega, ?_⟩
    walk_at "rd"
    rw [decide_eq_false (by omega)]
    walk_at "rd"
    refine itd (fun h => ?_) (fun h => ?_)
    · walk_at "rd"
      refine ⟨n1, by omega, s1, by omega, by omega, by omega, ?_⟩
      walk_at "rd"
      rw [decide_eq_false (by have := h2 h; omega)]
      walk_at "rd"
      refine itd (fun h => ?_) (fun h => ?_)
      · exact k _ hS2
      · walk_at "rd"
        exact ⟨n1, by omega, s1, by omega, b0, by omega, fun H' hS' => k _ (hS2.trans hS')⟩
    · walk_at "rd"
      refine itd (fun h => ?_) (fun h => ?_)
      · exact k _ hS2
      · walk_at "rd"
        exact ⟨n1, by omega, s1, by omega, b0, by omega, fun H' hS' => k _ (hS2.trans hS')⟩
def spHouse : Sp := fun vs H Q _ => ∃ (a : Addr), vs = [.ref a] ∧ BagAt H a ∧ ∀ (p : Addr) (n s b : Int) (H' : Hp), H p = none → H' p = some (.tup [.int n, .int s, .int b]) → BagAt H' a → But a H H' → 1 ≤ n → n ≤ 1000000000000000000000000000000 → 1 ≤ s → s ≤ 1000000000000000000000000000000 → 0 ≤ b → b ≤ 1000000000000000000000000000000 → Q (.ref p) H'
theorem But.none {a p : Addr} {H H1 : Hp} (x : But a H H1) (ha : BagAt H1 a) (h : H1 p = Option.none) : H p = Option.none := by
  cases q : H p with
  | none => rfl
  | some o =>
    by_cases e : p = a
    · subst e
      obtain ⟨_, _, _, e2⟩ := ha
      rw [e2] at h; cases h
    · rw [x p o e q] at h; cases h
theorem scLawHouse : FnScope ["bag", "way", "segments", "size", "near", "budget"] ["bag"] (defScope sLawHouse) := ⟨rfl, rfl, rfl, by decide +kernel, rfl, by decide +kernel, by decide +kernel⟩
theorem ok_house {f : Addr} {fd : FuncData} (F : Fun K "_law_house" "_law_house" sLawHouse f fd) (B : Bi mg) (D__law_take : Dn P w K mg base "_law_take" 1 ["bag", "size"] spTake) (D__law_number : Dn P w K mg base "_law_number" 2 ["bag", "most"] spNumber) : FnOk P w K mg base CX0 3 f fd ["bag"] spHouse := by
  refine F.ok scLawHouse (fun vs H Q E h => ?_) (fun cdv A outer s H vs Q E hr h => ?_)
  · obtain ⟨l, rfl, _⟩ := h
    rfl
  · obtain ⟨a, rfl, hB, k⟩ := h
    refine ⟨_, (pss_cons (ps_set (i := 1) scLawHouse.nd rfl (Or.inl rfl) (pe_dn D__law_take (hr.mono (by decide)) (by rfl) pass0 (pa_cons (pv 0) (pa_cons pe_int pa_nil))))
  (C8.pss_cut (ps_if (pt_cmpR op_eq (pv 1) pe_int (nomark _)) (pss_cons (ps_set (i := 2) scLawHouse.nd rfl (Or.inl rfl) (pe_op op_add pe_int (pe_dn D__law_number (hr.mono (by decide)) (by rfl) pass0 (pa_cons (pv 0) (pa_cons (pe_op op_sub (pe_op op_pow pe_int pe_int) pe_int) pa_nil)))))
  (pss_one (ps_set (i := 3) scLawHouse.nd rfl (Or.inl rfl) (pe_op op_add pe_int (pe_dn D__law_number (hr.mono (by decide)) (by rfl) pass0 (pa_cons (pv 0) (pa_cons (pe_op op_sub (pe_op op_pow pe_int pe_int) pe_int) pa_nil)))))))
  (pss_one (ps_if (pt_cmpR op_eq (pv 1) pe_int (nomark _)) (pss_cons (ps_set (i := 2) scLawHouse.nd rfl (Or.inl rfl) (pe_op op_add pe_int (pe_dn D__law_take (hr.mono (by decide)) (by rfl) pass0 (pa_cons (pv 0) (pa_cons pe_int pa_nil)))))
  (pss_one (ps_set (i := 3) scLawHouse.nd rfl (Or.inl rfl) (pe_op op_add pe_int (pe_dn D__law_number (hr.mono (by decide)) (by rfl) pass0 (pa_cons (pv 0) (pa_cons (pe_op op_sub (pe_op op_pow pe_int pe_int) pe_int) pa_nil)))))))
  (pss_cons (ps_set (i := 2) scLawHouse.nd rfl (Or.inl rfl) (pe_op op_add pe_int (pe_dn D__law_take (hr.mono (by decide)) (by rfl) pass0 (pa_cons (pv 0) (pa_cons pe_int pa_nil)))))
  (pss_one (ps_set (i := 3) scLawHouse.nd rfl (Or.inl rfl) (pe_op op_add pe_int (pe_dn D__law_take (hr.mono (by decide)) (by rfl) pass0 (pa_cons (pv 0) (pa_cons pe_int pa_nil))))))))))
  (pss_cons (ps_set (i := 4) scLawHouse.nd rfl (Or.inl rfl) (pe_dn D__law_take (hr.mono (by decide)) (by rfl) pass0 (pa_cons (pv 0) (pa_cons pe_int pa_nil))))
  (C8.pss_cut (ps_if (pt_cmpR op_eq (pv 4) pe_int (nomark _)) (pss_one (ps_set (i := 5) scLawHouse.nd rfl (Or.inl rfl) (pe_dn D__law_number (hr.mono (by decide)) (by rfl) pass0 (pa_cons (pv 0) (pa_cons (pe_op op_pow pe_int pe_int) pa_nil)))))
  (pss_one (ps_if (pt_cmpR op_eq (pv 4) pe_int (nomark _)) (pss_one (ps_set (i := 5) scLawHouse.nd rfl (Or.inl rfl) (pe_callB (call_max2 rfl) (by rfl) B.max (by decide +kernel) (pa_cons pe_int (pa_cons (pe_op op_add (pe_op op_sub (pv 3) pe_int) (pe_dn D__law_take (hr.mono (by decide)) (by rfl) pass0 (pa_cons (pv 0) (pa_cons pe_int pa_nil)))) pa_nil)))))
  (pss_one (ps_if (pt_cmpR op_eq (pv 4) pe_int (nomark _)) (pss_one (ps_set (i := 5) scLawHouse.nd rfl (Or.inl rfl) (pe_op op_fdivW (pv 3) (pe_op op_add pe_int (pe_dn D__law_take (hr.mono (by decide)) (by rfl) pass0 (pa_cons (pv 0) (pa_cons pe_int pa_nil)))))))
  (pss_one (ps_set (i := 5) scLawHouse.nd rfl (Or.inl rfl) (pe_dn D__law_take (hr.mono (by decide)) (by rfl) pass0 (pa_cons (pv 0) (pa_cons pe_int pa_nil))))))))))
  (pss_one (ps_ret (pe_tup (pa_cons (pv 2) (pa_cons (pv 3) (pa_cons (pv 5) pa_nil)))))))))), ?_⟩
    walk_at "rd"
    refine ⟨hB, by decide, by decide, fun way H1 _ _ hB1 b1 => ?_⟩
    refine ⟨fun σ2 H2 => ∃ n s, σ2 = [some (.ref a), some (.int way), some (.int n), some (.int s), none, none] ∧ BagAt H2 a ∧ But a H H2 ∧ 1 ≤ n ∧ n ≤ 1000000000000000000000000000000 ∧ 1 ≤ s ∧ s ≤ 1000000000000000000000000000000, ?_, ?_⟩
    · walk_at "rd"
      refine iti (fun _ => ?_) (fun _ => ?_)
      · walk_at "rd"
        refine ⟨hB1, by decide, by decide, fun n H2 n0 n1 hB2 b2 => ?_⟩
        have n2 : n ≤ 100000000000000 - 1 := n1
        walk_at "rd"
        refine ⟨hB2, by decide, by decide, fun s H3 s0 s1 hB3 b3 => ?_⟩
        have s2 : s ≤ 1000000000000000 - 1 := s1
        walk_at "rd"
        exact ⟨hB3, (b1.trans b2).trans b3, by omega, by omega, by omega, by omega⟩
      walk_at "rd"
      refine iti (fun _ => ?_) (fun _ => ?_)
      · walk_at "rd"
        refine ⟨hB1, by decide, by decide, fun n H2 n0 n1 hB2 b2 => ?_⟩
        walk_at "rd"
        refine ⟨hB2, by decide, by decide, fun s H3 s0 s1 hB3 b3 => ?_⟩
        have s2 : s ≤ 1000000000000000000000000000000 - 1 := s1
        walk_at "rd"
        exact ⟨hB3, (b1.trans b2).trans b3, by omega, by omega, by omega, by omega⟩
      walk_at "rd"
      refine ⟨hB1, by decide, by decide, fun n H2 n0 n1 hB2 b2 => ?_⟩
      walk_at "rd"
      refine ⟨hB2, by decide, by decide, fun s H3 s0 s1 hB3 b3 => ?_⟩
      walk_at "rd"
      exact ⟨hB3, (b1.trans b2).trans b3, by omega, by omega, by omega, by omega⟩
    rintro σ2 H2 ⟨n, s, rfl, hB2, b2, n1, n2, s1, s2⟩
    walk_at "rd"
    refine ⟨hB2, by decide, by decide, fun near H3 _ _ hB3 b3 => ?_⟩
    refine ⟨fun σ4 H4 => ∃ b, σ4 = [some (.ref a), some (.int way), some (.int n), some (.int s), some (.int near), some (.int b)] ∧ BagAt H4 a ∧ But a H H4 ∧ 0 ≤ b ∧ b ≤ 1000000000000000000000000000000, ?_, ?_⟩
    · walk_at "rd"
      refine iti (fun _ => ?_) (fun _ => ?_)
      · walk_at "rd"
        refine ⟨hB3, by decide, by decide, fun d H4 d0 d1 hB4 b4 => ?_⟩
        have d2 : d ≤ 1000000000000000000000000000000 := d1
        exact ⟨_, rfl, hB4, (b2.trans b3).trans b4, by omega, by omega⟩
      walk_at "rd"
      refine iti (fun _ => ?_) (fun _ => ?_)
      · walk_at "rd"
        refine ⟨hB3, by decide, by decide, fun d H4 d0 d1 hB4 b4 => ?_⟩
        walk_at "rd"
        refine ⟨hB4, (b2.trans b3).trans b4, ?_, ?_⟩
        · split <;> omega
        · split <;> omega
      walk_at "rd"
      refine iti (fun _ => ?_) (fun _ => ?_)
      · walk_at "rd"
        refine ⟨hB3, by decide, by decide, fun d H4 d0 d1 hB4 b4 => ?_⟩
        walk_at "rd"
        refine ⟨divB (by omega) (by omega), ?_⟩
        refine ⟨_, rfl, hB4, (b2.trans b3).trans b4, Int.ediv_nonneg (by omega) (by omega), ?_⟩
        exact Int.le_trans (Int.ediv_le_self _ (by omega)) (by omega)
      walk_at "rd"
      refine ⟨hB3, by decide, by decide, fun d H4 d0 d1 hB4 b4 => ?_⟩
      exact ⟨_, rfl, hB4, (b2.trans b3).trans b4, by omega, by omega⟩
    rintro σ4 H4 ⟨b, rfl, hB4, b4, c1, c2⟩
    walk_at "rd"
    refine ⟨by show 3 ≤ sizeLine; decide, fun p hp => ?_⟩
    exact k p n s b _ (b4.none hB4 hp) upd_same (hB4.same (Same.upd hp)) (b4.trans (But.of (Same.upd hp))) n1 n2 s1 s2 c1 c2
end
end Cl

namespace Cl
def clip (x : Int) : Int := if (if x < (10 : Int) ^ (30 : Int).toNat then x else (10 : Int) ^ (30 : Int).toNat) > 1 then (if x < (10 : Int) ^ (30 : Int).toNat then x else (10 : Int) ^ (30 : Int).toNat) else 1
theorem clip_b (x : Int) : 1 ≤ clip x ∧ clip x ≤ 1000000000000000000000000000000 := by
  have e : (10 : Int) ^ (30 : Int).toNat = 1000000000000000000000000000000 := by decide
  unfold clip
  rw [e]
  split <;> split <;> omega
def clipV : V → V
  | .int i => .int (clip i)
  | v => v
theorem int_of_map {ns : List Int} {i : Nat} {y : V} (h : (ns.map V.int)[i]? = some y) : ∃ z, ns[i]? = some z ∧ y = V.int z := by
  rw [List.getElem?_map] at h
  cases e : ns[i]? with
  | none => rw [e] at h; cases h
  | some z => rw [e] at h; exact ⟨z, rfl, (Option.some.inj h).symm⟩
section
variable {P : Program} {w : World} {K : PySem.W.Frag} {mg : Str → Option Value} {base : Heap}
def spLimits : Sp := fun vs H Q _ => ∃ (a : Addr) (n s b : Int) (late : Bool), vs = [.ref a, .int n, .int s, .int b, .bl late] ∧ BagAt H a ∧ 1 ≤ n ∧ n ≤ 1000000000000000000000000000000 ∧ 1 ≤ s ∧ s ≤ 1000000000000000000000000000000 ∧ 0 ≤ b ∧ b ≤ 1000000000000000000000000000000 ∧
  ∀ (p : Addr) (ls : List Int) (H' : Hp), H p = none → H' p = some (.lst (ls.map V.int)) → (∀ x, x ∈ ls → 1 ≤ x ∧ x ≤ 1000000000000000000000000000000) → BagAt H' a → But a H H' → Q (.ref p) H'
theorem scLawLimits : FnScope ["bag", "segments", "size", "budget", "written_first", "edge", "greatest", "limits", "limit"] ["bag", "segments", "size", "budget", "written_first"] (defScope sLawLimits) := ⟨rfl, rfl, rfl, by decide +kernel, rfl, by decide +kernel, by decide +kernel⟩
theorem ok_limits {f : Addr} {fd : FuncData} (F : Fun K "_law_limits" "_law_limits" sLawLimits f fd) (B : Bi mg) (D__law_most : Dn P w K mg base "_law_most" 2 ["segments", "size", "budget", "written_first"] spLim)
    (D__law_take : Dn P w K mg base "_law_take" 1 ["bag", "size"] spTake) (D__law_number : Dn P w K mg base "_law_number" 2 ["bag", "most"] spNumber) : FnOk P w K mg base CX0 3 f fd ["bag", "segments", "size", "budget", "written_first"] spLimits := by
  refine F.ok scLawLimits (fun vs H Q E h => ?_) (fun cdv A outer s H vs Q E hr h => ?_)
  · obtain ⟨l, _, _, _, _, rfl, _⟩ := h
    rfl
  · obtain ⟨a, n, s, b, late, rfl, hB, n1, n2, s1, s2, b1, b2, k⟩ := h
    refine ⟨_, (pss_cons (ps_set (i := 5) scLawLimits.nd rfl (Or.inl rfl) (pe_dn D__law_most (hr.mono (by decide)) (by rfl) pass0 (pa_cons (pv 1) (pa_cons (pv 2) (pa_cons (pv 3) (pa_cons (pv 4) pa_nil))))))
  (pss_cons (ps_set (i := 6) scLawLimits.nd rfl (Or.inl rfl) (pe_op op_sub (pe_op op_add (pe_op op_mulW (pe_op op_sub (pv 1) pe_int) (pv 2)) pe_int) (pe_callTy call_int1 (by rfl) B.intT (by decide +kernel) (pa_cons (pv 4) pa_nil))))
  (pss_cons (ps_set (i := 7) scLawLimits.nd rfl (Or.inl rfl) (pe_lst (pa_cons (pv 5) (pa_cons (pe_op op_add (pv 5) pe_int) (pa_cons (pe_op op_add (pe_op op_sub (pv 5) pe_int) (pe_dn D__law_take (hr.mono (by decide)) (by rfl) pass0 (pa_cons (pv 0) (pa_cons pe_int pa_nil)))) (pa_cons (pv 6) (pa_cons (pe_op op_add (pv 6) pe_int) pa_nil)))))))
  (pss_cons (ps_expr (pe_bm PySem.F.plainAttrs_list PySem.F.slot_list_append PySem.F.type_list_append mt_append (pv 7) (pa_cons (pe_op op_add pe_int (pe_dn D__law_number (hr.mono (by decide)) (by rfl) pass0 (pa_cons (pv 0) (pa_cons (pe_op op_sub (pe_op op_pow pe_int pe_int) pe_int) pa_nil)))) pa_nil)))
  (pss_cons (ps_expr (pe_bm PySem.F.plainAttrs_list PySem.F.slot_list_append PySem.F.type_list_append mt_append (pv 7) (pa_cons (pe_op op_add pe_int (pe_dn D__law_take (hr.mono (by decide)) (by rfl) pass0 (pa_cons (pv 0) (pa_cons pe_int pa_nil)))) pa_nil)))
  (pss_one (ps_ret (pe_lc (own := [("limit", 8)]) (g := gName 8) rfl scLawLimits.nd (pi_list (pv 7)) (blkOk_by (own := [("limit", 8)]) (N := ["bag", "segments", "size", "budget", "written_first", "edge", "greatest", "limits", "limit"]) (sc := defScope sLawLimits) (by decide +kernel)) (fun _ _ _ _ _ => pg_name (i := 8) scLawLimits.nd rfl (Or.inl rfl)) (fun _ _ _ _ _ => pts_nil) (fun _ _ _ _ _ => (pe_callB (call_max2 rfl) (by rfl) B.max (by decide +kernel) (pa_cons pe_int (pa_cons (pe_callB (call_min2 rfl) (by rfl) B.min (by decide +kernel) (pa_cons (pe_op op_pow pe_int pe_int) (pa_cons (pv 8) pa_nil))) pa_nil)))))))))))), ?_⟩
    walk_at "rd"
    refine ⟨n1, by omega, s1, by omega, b1, by omega, ?_⟩
    walk_at "rd"
    refine ⟨mulB (by omega) (by omega) (by omega) (by omega), ?_⟩
    walk_at "rd"
    refine ⟨hB, by decide, by decide, fun d H1 d0 d1 hB1 c1 => ?_⟩
    walk_at "rd"
    refine ⟨by show 5 ≤ sizeLine; decide, fun l hl => ?_⟩
    have hB2 := hB1.same (Same.upd (o := HO.lst [.int (lim n s b late), .int (lim n s b late + 1), .int (lim n s b late - 1 + d), .int ((n - 1) * s + 1 - (if late = true then 1 else 0)), .int ((n - 1) * s + 1 - (if late = true then 1 else 0) + 1)]) hl)
    have c2 : But a H1 _ := But.of (Same.upd (o := HO.lst [.int (lim n s b late), .int (lim n s b late + 1), .int (lim n s b late - 1 + d), .int ((n - 1) * s + 1 - (if late = true then 1 else 0)), .int ((n - 1) * s + 1 - (if late = true then 1 else 0) + 1)]) hl)
    have la : l ≠ a := fun e => by
      subst e
      obtain ⟨_, _, _, e2⟩ := hB1
      rw [e2] at hl; cases hl
    refine ⟨_, rfl, .inl ⟨rfl, _, SqL.of upd_same⟩, ?_⟩
    walk_at "rd"
    refine ⟨hB2, by decide, by decide, fun d2 H2 _ _ hB3 c3 => ?_⟩
    walk_at "rd"
    refine ⟨l, _, _, rfl, rfl, c3 l _ la upd_same, (by show 5 < sizeLine; decide), ?_⟩
    have key : ∀ {o : HO}, BagAt (upd H2 l o) a := fun {o} => by
      obtain ⟨x, y, z, e⟩ := hB3
      exact ⟨x, y, z, by rw [upd_ne la.symm]; exact e⟩
    refine ⟨_, rfl, .inl ⟨rfl, _, SqL.of upd_same⟩, ?_⟩
    walk_at "rd"
    refine ⟨key, by decide, by decide, fun d3 H3 _ _ hB4 c4 => ?_⟩
    walk_at "rd"
    refine ⟨l, _, _, rfl, rfl, c4 l _ la upd_same, (by show 6 < sizeLine; decide), ?_⟩
    refine ⟨_, rfl, l, rfl, ⟨_, SqL.of upd_same⟩, fun D hD => lc_pure (K := K) clipV (SqL.of upd_same) hD (by show 7 < 10000; decide) (fun x H' R hx' hk hR => ?_) ?_⟩
    · have hi : ∃ i, x = V.int i := by
        simp at hx'
        rcases hx' with rfl | rfl | rfl | rfl | rfl | rfl | rfl <;> exact ⟨_, rfl⟩
      obtain ⟨i, rfl⟩ := hi
      refine ⟨rfl, ?_⟩
      walk_at "rd"
      exact hR
    · have hlH : H l = Option.none := c1.none hB1 hl
      have nlD : D ≠ l := fun e => by subst e; rw [upd_same] at hD; cases hD
      have hD3 : H3 D = Option.none := by rw [upd_ne nlD] at hD; exact hD
      have aD : a ≠ D := fun e => by
        subst e
        obtain ⟨_, _, _, e2⟩ := hB4
        rw [e2] at hD3; cases hD3
      have hDH : H D = Option.none := by
        cases q : H D with
        | none => rfl
        | some o =>
          have q1 := c1 D o aD.symm q
          have q2 := c2 D o aD.symm q1
          have q3 := c3 D o aD.symm q2
          have q4 := c4 D o aD.symm (by rw [upd_ne nlD]; exact q3)
          rw [q4] at hD3; cases hD3
      refine k D [clip (lim n s b late), clip (lim n s b late + 1), clip (lim n s b late - 1 + d), clip ((n - 1) * s + 1 - (if late = true then 1 else 0)), clip ((n - 1) * s + 1 - (if late = true then 1 else 0) + 1), clip (1 + d2), clip (1 + d3)] _ hDH upd_same ?_ ?_ ?_
      · intro x hx
        simp at hx
        rcases hx with rfl | rfl | rfl | rfl | rfl | rfl | rfl <;> exact clip_b _
      · obtain ⟨x, y, z, e⟩ := hB4
        exact ⟨x, y, z, by rw [upd_ne aD, upd_ne la.symm]; exact e⟩
      · intro c o hc e
        have nlc : c ≠ l := fun q => by rw [q, hlH] at e; cases e
        have nDc : c ≠ D := fun q => by rw [q, hDH] at e; cases e
        rw [upd_ne nDc, upd_ne nlc]
        refine c4 c o hc ?_
        rw [upd_ne nlc]
        exact c3 c o hc (c2 c o hc (c1 c o hc e))
def spCase : Sp := fun vs H Q _ => ∃ (a : Addr), vs = [.ref a] ∧ BagAt H a ∧ ∀ (H' : Hp), But a H H' → Q (.bl true) H'
theorem scLawCase : FnScope ["bag", "segments", "size", "budget", "written_first", "limit"] ["bag"] (defScope sLawCase) := ⟨rfl, rfl, rfl, by decide +kernel, rfl, by decide +kernel, by decide +kernel⟩
theorem ok_case {f : Addr} {fd : FuncData} (F : Fun K "_law_case" "_law_case" sLawCase f fd) (B : Bi mg) (D__law_house : Dn P w K mg base "_law_house" 3 ["bag"] spHouse) (D__law_share_agrees : Dn P w K mg base "_law_share_agrees" 4 ["size", "budget"] spTrue2)
    (D__law_limits : Dn P w K mg base "_law_limits" 3 ["bag", "segments", "size", "budget", "written_first"] spLimits) (D__law_most_agrees : Dn P w K mg base "_law_most_agrees" 5 ["segments", "size", "budget", "written_first"] spTrue4)
    (D__law_segments_agree : Dn P w K mg base "_law_segments_agree" 6 ["limit", "size", "budget", "written_first"] spTrueS) (D__law_budget_agrees : Dn P w K mg base "_law_budget_agrees" 6 ["limit", "segments", "size", "written_first"] spTrueB) : FnOk P w K mg base CX0 7 f fd ["bag"] spCase := by
  refine F.ok scLawCase (fun vs H Q E h => ?_) (fun cdv A outer s H vs Q E hr h => ?_)
  · obtain ⟨l, rfl, _⟩ := h
    rfl
  · obtain ⟨a, rfl, hB, k⟩ := h
    refine ⟨_, (pss_cons (ps_asg (pe_dn D__law_house (hr.mono (by decide)) (by rfl) pass0 (pa_cons (pv 0) pa_nil)) (pg_tup (by rfl) (pgs_cons (pg_name (i := 1) scLawCase.nd rfl (Or.inl rfl)) (pgs_cons (pg_name (i := 2) scLawCase.nd rfl (Or.inl rfl)) (pgs_cons (pg_name (i := 3) scLawCase.nd rfl (Or.inl rfl)) pgs_nil)))))
  (pss_cons (ps_if (pt_not (pt_val (pe_dn D__law_share_agrees (hr.mono (by decide)) (by rfl) pass0 (pa_cons (pv 2) (pa_cons (pv 3) pa_nil))))) (pss_one (ps_ret pe_bl))
  pss_nil)
  (pss_cons (ps_for PassesOwn.never rfl (pi_list (pe_lst (pa_cons pe_bl (pa_cons pe_bl pa_nil)))) (pg_name (i := 4) scLawCase.nd rfl (Or.inl rfl))
  (pss_cons (ps_if (pt_not (pt_val (pe_dn D__law_most_agrees (hr.mono (by decide)) (by rfl) pass0 (pa_cons (pv 1) (pa_cons (pv 2) (pa_cons (pv 3) (pa_cons (pv 4) pa_nil))))))) (pss_one (ps_ret pe_bl))
  pss_nil)
  (pss_one (ps_for PassesOwn.never rfl (pi_list (pe_dn D__law_limits (hr.mono (by decide)) (by rfl) pass0 (pa_cons (pv 0) (pa_cons (pv 1) (pa_cons (pv 2) (pa_cons (pv 3) (pa_cons (pv 4) pa_nil))))))) (pg_name (i := 5) scLawCase.nd rfl (Or.inl rfl))
  (pss_cons (ps_if (pt_not (pt_val (pe_dn D__law_segments_agree (hr.mono (by decide)) (by rfl) pass0 (pa_cons (pv 5) (pa_cons (pv 2) (pa_cons (pv 3) (pa_cons (pv 4) pa_nil))))))) (pss_one (ps_ret pe_bl))
  pss_nil)
  (pss_one (ps_if (pt_not (pt_val (pe_dn D__law_budget_agrees (hr.mono (by decide)) (by rfl) pass0 (pa_cons (pv 5) (pa_cons (pv 1) (pa_cons (pv 2) (pa_cons (pv 4) pa_nil))))))) (pss_one (ps_ret pe_bl))
  pss_nil)))))))
  (pss_one (ps_ret pe_bl))))), ?_⟩
    walk_at "rd"
    refine ⟨hB, fun p n s b H1 hp hT hB1 c1 n1 n2 s1 s2 b1 b2 => ?_⟩
    refine ⟨p, _, rfl, SqT.of hT, rfl, ?_⟩
    walk_at "rd"
    refine ⟨s1, by omega, b1, by omega, ?_⟩
    walk_at "rd"
    refine ⟨by show 2 ≤ sizeLine; decide, fun l hl => ?_⟩
    have la : l ≠ a := fun e => by
      subst e
      obtain ⟨_, _, _, e2⟩ := hB1
      rw [e2] at hl; cases hl
    have hlH : H l = Option.none := c1.none hB1 hl
    refine ⟨l, rfl, ⟨_, SqL.of upd_same⟩, for_list (K := K) (a := l) (xs := [.bl false, .bl true]) (fun i σ H' => ∃ (u v : Option V), σ = [some (.ref a), some (.int n), some (.int s), some (.int b), u, v] ∧ H' l = some (.lst [.bl false, .bl true]) ∧ BagAt H' a ∧ But a H H')
      ⟨_, _, rfl, upd_same, hB1.same (Same.upd hl), c1.trans (But.of (Same.upd hl))⟩ (fun i σ H' _ ⟨_, _, _, h, _⟩ => SqL.of h) ?_ ?_⟩
    · rintro i x σ H2 hi ⟨u, v, rfl, hL2, hB2, c2⟩
      obtain ⟨late, rfl⟩ : ∃ late, x = V.bl late := by
        have := List.mem_of_getElem? hi
        simp at this
        rcases this with rfl | rfl <;> exact ⟨_, rfl⟩
      walk_at "rd"
      refine ⟨n1, by omega, s1, by omega, b1, by omega, fun H3 e3 => ?_⟩
      walk_at "rd"
      refine ⟨a, n, s, b, late, rfl, hB2.same e3, n1, n2, s1, s2, b1, b2, fun q ls H4 hq hls hb hB4 c4 => ?_⟩
      have qa : q ≠ a := fun e => by
        subst e
        obtain ⟨_, _, _, e2⟩ := hB2.same e3
        rw [e2] at hq; cases hq
      have hL4 : H4 l = some (.lst [.bl false, .bl true]) := c4 l _ la (e3 _ _ hL2)
      have c5 : But a H H4 := (c2.trans (But.of e3)).trans c4
      refine ⟨q, rfl, ⟨_, SqL.of hls⟩, for_list (K := K) (a := q) (xs := ls.map V.int) (fun i σ H' => ∃ (v : Option V), σ = [some (.ref a), some (.int n), some (.int s), some (.int b), some (.bl late), v] ∧ Same H4 H')
        ⟨_, rfl, Same.refl _⟩ (fun i σ H' _ ⟨_, _, h⟩ => SqL.of (h _ _ hls)) ?_ ?_⟩
      · rintro j y σ H5 hj ⟨v, rfl, e5⟩
        obtain ⟨z, hz, rfl⟩ := int_of_map hj
        obtain ⟨z1, z2⟩ := hb z (List.mem_of_getElem? hz)
        walk_at "rd"
        refine ⟨z1, z2, s1, s2, b1, b2, fun H6 e6 => ?_⟩
        walk_at "rd"
        refine ⟨z1, z2, n1, n2, s1, s2, fun H7 e7 => ?_⟩
        walk_at "rd"
        exact (e5.trans e6).trans e7
      · rintro σ H5 ⟨v, rfl, e5⟩
        exact ⟨_, _, rfl, e5 _ _ hL4, hB4.same e5, c5.trans (But.of e5)⟩
    · rintro σ H2 ⟨u, v, rfl, hL2, hB2, c2⟩
      exact k _ c2
def spLaw (K : PySem.W.Frag) : Sp := fun vs H Q _ => ∃ (a : Addr) (ns : List Int), vs = [.ref a] ∧ SqL K H a (ns.map V.int) ∧ ns.length ≤ 63 ∧ ∀ H', Q (.bl true) H'
theorem scLaw : FnScope ["script", "k"] ["script"] (defScope sLaw) := ⟨rfl, rfl, rfl, by decide +kernel, rfl, by decide +kernel, by decide +kernel⟩
theorem ok_law {f : Addr} {fd : FuncData} (F : Fun K "law" "law" sLaw f fd) (B : Bi mg) (D__law_case : Dn P w K mg base "_law_case" 7 ["bag"] spCase) (D__law_bag : Dn P w K mg base "_law_bag" 1 ["script", "k"] (spBag K)) : FnOk P w K mg base CX0 8 f fd ["script"] (spLaw K) := by
  refine F.ok scLaw (fun vs H Q E h => ?_) (fun cdv A outer s H vs Q E hr h => ?_)
  · obtain ⟨a, ns, rfl, _⟩ := h
    rfl
  · obtain ⟨a, ns, rfl, hS, hl, k⟩ := h
    refine ⟨_, (pss_cons (ps_for PassesOwn.never rfl (pi_range1 rfl B.range (pa_cons (pe_callB (call_max2 rfl) (by rfl) B.max (by decide +kernel) (pa_cons pe_int (pa_cons (pe_callB (call_min2 rfl) (by rfl) B.min (by decide +kernel) (pa_cons pe_int (pa_cons (pe_callB call_len_seq (by rfl) B.len PySem.boot_len (pa_cons (pv 0) pa_nil)) pa_nil))) pa_nil))) pa_nil)) (pg_name (i := 1) scLaw.nd rfl (Or.inl rfl))
  (pss_one (ps_if (pt_not (pt_val (pe_dn D__law_case (hr.mono (by decide)) (by rfl) pass0 (pa_cons (pe_dn D__law_bag (hr.mono (by decide)) (by rfl) pass0 (pa_cons (pv 0) (pa_cons (pv 1) pa_nil))) pa_nil)))) (pss_one (ps_ret pe_bl))
  pss_nil)))
  (pss_one (ps_ret pe_bl))), ?_⟩
    refine ⟨_, rfl, a, _, rfl, .inl hS, ?_⟩
    walk_at "rd"
    have hn : (ns.map V.int).length ≤ 63 := by rw [List.length_map]; exact hl
    refine ⟨by split <;> split <;> omega, by split <;> split <;> omega, ?_⟩
    refine for_range (fun i σ H' => ∃ v : Option V, σ = [some (.ref a), v] ∧ Same H H') ⟨_, rfl, Same.refl _⟩ ?_ ?_
    · rintro i σ H1 hi ⟨v, rfl, e1⟩
      refine ⟨_, rfl, _, rfl, a, ns, i, by rw [Int.zero_add]; rfl, e1.seq hS, fun p H2 hp hB e2 => ?_⟩
      walk_at "rd"
      refine ⟨hB, fun H3 c3 => ?_⟩
      walk_at "rd"
      intro b o e
      refine c3 b o ?_ (e2 b o (e1 b o e))
      intro q
      rw [q] at e
      have := e1 _ _ e
      rw [hp] at this
      cases this
    · rintro σ H1 ⟨v, rfl, e1⟩
      exact k _
end
end Cl

namespace Cl
theorem all_mk {l : PySem.W.OpenLaw} {w : World} {K : PySem.W.Frag} {h : Heap} {mg : Str → Option Value} {fa : Addr} (X : K.In h) (G : h.Ns mainGlobals mg) (hfa : mg "law" = some (.ref fa))
    (t_is_whole : AtTop K "is_whole" "is_whole" sIsWhole [])
    (t_check_least : AtTop K "check_least" "check_least" sCheckLeast [])
    (t__law_is_number : AtTop K "_law_is_number" "_law_is_number" sLawIsNumber [])
    (t__law_take : AtTop K "_law_take" "_law_take" sLawTake [])
    (t__law_bag : AtTop K "_law_bag" "_law_bag" sLawBag [])
    (t__law_number : AtTop K "_law_number" "_law_number" sLawNumber [])
    (t_segment_share : AtTop K "segment_share" "segment_share" sSegmentShare [])
    (t__law_share : AtTop K "_law_share" "_law_share" sLawShare [])
    (t_divided_up : AtTop K "divided_up" "divided_up" sDividedUp [])
    (t__shared_keys : AtTop K "_shared_keys" "_shared_keys" sSharedKeys [])
    (t_segments_limit : AtTop K "segments_limit" "segments_limit" sSegmentsLimit [("late", V.bl false)])
    (t__law_most : AtTop K "_law_most" "_law_most" sLawMost [])
    (t_least_segments : AtTop K "least_segments" "least_segments" sLeastSegments [("late", V.bl false)])
    (t_least_segment_budget : AtTop K "least_segment_budget" "least_segment_budget" sLeastSegmentBudget [("late", V.bl false)])
    (t__law_share_agrees : AtTop K "_law_share_agrees" "_law_share_agrees" sLawShareAgrees [])
    (t__law_most_agrees : AtTop K "_law_most_agrees" "_law_most_agrees" sLawMostAgrees [])
    (t__law_segments_agree : AtTop K "_law_segments_agree" "_law_segments_agree" sLawSegmentsAgree [])
    (t__law_budget_agrees : AtTop K "_law_budget_agrees" "_law_budget_agrees" sLawBudgetAgrees [])
    (t__law_house : AtTop K "_law_house" "_law_house" sLawHouse [])
    (t__law_limits : AtTop K "_law_limits" "_law_limits" sLawLimits [])
    (t__law_case : AtTop K "_law_case" "_law_case" sLawCase [])
    (t_law : AtTop K "law" "law" sLaw [])
    (z_len : PySem.W.nsIn K mainGlobals "len" = some none)
    (z_abs : PySem.W.nsIn K mainGlobals "abs" = some none)
    (z_max : PySem.W.nsIn K mainGlobals "max" = some none)
    (z_min : PySem.W.nsIn K mainGlobals "min" = some none)
    (z_sum : PySem.W.nsIn K mainGlobals "sum" = some none)
    (z_all : PySem.W.nsIn K mainGlobals "all" = some none)
    (z_any : PySem.W.nsIn K mainGlobals "any" = some none)
    (z_range : PySem.W.nsIn K mainGlobals "range" = some none)
    (z_isinstance : PySem.W.nsIn K mainGlobals "isinstance" = some none)
    (z_intT : PySem.W.nsIn K mainGlobals "int" = some none)
    (z_strT : PySem.W.nsIn K mainGlobals "str" = some none)
    (z_boolT : PySem.W.nsIn K mainGlobals "bool" = some none)
    (z_listT : PySem.W.nsIn K mainGlobals "list" = some none)
    : ∃ fd : FuncData, (∀ (s : Shared) (v : Value), BindsTo s fd ⟨[v], []⟩ [("script", v)]) ∧ ∀ base : Heap, K.In base → base.Ns mainGlobals mg → FnOk l.prog w K mg base CX0 8 fa fd ["script"] (spLaw K) := by
  obtain ⟨f, fd, a, F, FD⟩ := t_law.ex
  have e := hfa.symm.trans (PySem.W.mg_of X G a)
  cases e
  have B : Bi mg := ⟨PySem.W.mg_none_of X G z_len, PySem.W.mg_none_of X G z_abs, PySem.W.mg_none_of X G z_max, PySem.W.mg_none_of X G z_min, PySem.W.mg_none_of X G z_sum, PySem.W.mg_none_of X G z_all, PySem.W.mg_none_of X G z_any, PySem.W.mg_none_of X G z_range, PySem.W.mg_none_of X G z_isinstance, PySem.W.mg_none_of X G z_intT, PySem.W.mg_none_of X G z_strT, PySem.W.mg_none_of X G z_boolT, PySem.W.mg_none_of X G z_listT⟩
  refine ⟨fd, fun s v => FD.bindsA (ps := ["script"]) (fun _ _ _ _ _ _ us hl => match us, hl with | [_], _ => rfl) s [v] rfl, fun base _ _ => ?_⟩
  have D_is_whole : Dn l.prog w K mg base "is_whole" 1 ["value"] spIsWhole := t_is_whole.dn X G (fun _ _ _ _ _ _ us hl => match us, hl with | [_], _ => rfl) (fun f fd F => ok_is_whole F B)
  have D_check_least : Dn l.prog w K mg base "check_least" 2 ["value", "least", "field"] spCheckLeast := t_check_least.dn X G (fun _ _ _ _ _ _ us hl => match us, hl with | [_, _, _], _ => rfl) (fun f fd F => ok_check_least F D_is_whole)
  have D__law_is_number : Dn l.prog w K mg base "_law_is_number" 1 ["told"] spIsWhole := t__law_is_number.dn X G (fun _ _ _ _ _ _ us hl => match us, hl with | [_], _ => rfl) (fun f fd F => ok_is_number F B)
  have D__law_take : Dn l.prog w K mg base "_law_take" 1 ["bag", "size"] spTake := t__law_take.dn X G (fun _ _ _ _ _ _ us hl => match us, hl with | [_, _], _ => rfl) (fun f fd F => ok_take F B)
  have D__law_bag : Dn l.prog w K mg base "_law_bag" 1 ["script", "k"] (spBag K) := t__law_bag.dn X G (fun _ _ _ _ _ _ us hl => match us, hl with | [_, _], _ => rfl) (fun f fd F => ok_bag F B)
  have D__law_number : Dn l.prog w K mg base "_law_number" 2 ["bag", "most"] spNumber := t__law_number.dn X G (fun _ _ _ _ _ _ us hl => match us, hl with | [_, _], _ => rfl) (fun f fd F => ok_number F B D__law_take)
  have D_segment_share : Dn l.prog w K mg base "segment_share" 3 ["size", "budget"] spShare := t_segment_share.dn X G (fun _ _ _ _ _ _ us hl => match us, hl with | [_, _], _ => rfl) (fun f fd F => ok_segment_share F D_check_least)
  have D__law_share : Dn l.prog w K mg base "_law_share" 1 ["size", "budget"] spShare := t__law_share.dn X G (fun _ _ _ _ _ _ us hl => match us, hl with | [_, _], _ => rfl) (fun f fd F => ok_law_share F)
  have D_divided_up : Dn l.prog w K mg base "divided_up" 1 ["total", "parts"] spUp := t_divided_up.dn X G (fun _ _ _ _ _ _ us hl => match us, hl with | [_, _], _ => rfl) (fun f fd F => ok_divided_up F)
  have D__shared_keys : Dn l.prog w K mg base "_shared_keys" 1 ["limit", "late"] spKeys := t__shared_keys.dn X G (fun _ _ _ _ _ _ us hl => match us, hl with | [_, _], _ => rfl) (fun f fd F => ok_shared_keys F)
  have D_segments_limit : Dn l.prog w K mg base "segments_limit" 4 ["segments", "size", "budget", "late"] spLim [.bl false] := t_segments_limit.dd X G 3 (by simp) rfl (fun _ _ _ _ _ _ us ks hl hk => match us, ks, hl, hk with | [_, _, _], [_], _, _ => ⟨_, _, _, _, _, _, rfl, rfl, rfl⟩) (fun f fd F => ok_segments_limit F D_check_least D_segment_share)
  have K_segments_limit_late : Dk l.prog w K mg base "segments_limit" 4 ["segments", "size", "budget", "late"] spLim 3 ["late"] gV1 := t_segments_limit.dk X G 3 ["late"] (fun _ _ _ _ _ _ us ws hl hk => match us, ws, hl, hk with | [_, _, _], [_], _, _ => rfl) (fun f fd F => ok_segments_limit F D_check_least D_segment_share)
  have D__law_most : Dn l.prog w K mg base "_law_most" 2 ["segments", "size", "budget", "written_first"] spLim := t__law_most.dn X G (fun _ _ _ _ _ _ us hl => match us, hl with | [_, _, _, _], _ => rfl) (fun f fd F => ok_law_most F B D__law_share)
  have D_least_segments : Dn l.prog w K mg base "least_segments" 4 ["limit", "size", "budget", "late"] spFewest [.bl false] := t_least_segments.dd X G 3 (by simp) rfl (fun _ _ _ _ _ _ us ks hl hk => match us, ks, hl, hk with | [_, _, _], [_], _, _ => ⟨_, _, _, _, _, _, rfl, rfl, rfl⟩) (fun f fd F => ok_least_segments F D_check_least D_divided_up D__shared_keys D_segment_share)
  have K_least_segments_late : Dk l.prog w K mg base "least_segments" 4 ["limit", "size", "budget", "late"] spFewest 3 ["late"] gV1 := t_least_segments.dk X G 3 ["late"] (fun _ _ _ _ _ _ us ws hl hk => match us, ws, hl, hk with | [_, _, _], [_], _, _ => rfl) (fun f fd F => ok_least_segments F D_check_least D_divided_up D__shared_keys D_segment_share)
  have D_least_segment_budget : Dn l.prog w K mg base "least_segment_budget" 3 ["limit", "segments", "size", "late"] spLeastB [.bl false] := t_least_segment_budget.dd X G 3 (by simp) rfl (fun _ _ _ _ _ _ us ks hl hk => match us, ks, hl, hk with | [_, _, _], [_], _, _ => ⟨_, _, _, _, _, _, rfl, rfl, rfl⟩) (fun f fd F => ok_least_segment_budget F D_check_least D_divided_up D__shared_keys)
  have K_least_segment_budget_late : Dk l.prog w K mg base "least_segment_budget" 3 ["limit", "segments", "size", "late"] spLeastB 3 ["late"] gV1 := t_least_segment_budget.dk X G 3 ["late"] (fun _ _ _ _ _ _ us ws hl hk => match us, ws, hl, hk with | [_, _, _], [_], _, _ => rfl) (fun f fd F => ok_least_segment_budget F D_check_least D_divided_up D__shared_keys)
  have D__law_share_agrees : Dn l.prog w K mg base "_law_share_agrees" 4 ["size", "budget"] spTrue2 := t__law_share_agrees.dn X G (fun _ _ _ _ _ _ us hl => match us, hl with | [_, _], _ => rfl) (fun f fd F => ok_share_agrees F D_segment_share D__law_is_number)
  have D__law_most_agrees : Dn l.prog w K mg base "_law_most_agrees" 5 ["segments", "size", "budget", "written_first"] spTrue4 := t__law_most_agrees.dn X G (fun _ _ _ _ _ _ us hl => match us, hl with | [_, _, _, _], _ => rfl) (fun f fd F => ok_most_agrees F B D__law_most D_segments_limit K_segments_limit_late D__law_is_number)
  have D__law_segments_agree : Dn l.prog w K mg base "_law_segments_agree" 6 ["limit", "size", "budget", "written_first"] spTrueS := t__law_segments_agree.dn X G (fun _ _ _ _ _ _ us hl => match us, hl with | [_, _, _, _], _ => rfl) (fun f fd F => ok_segments_agree F B D_least_segments K_least_segments_late D__law_most_agrees D__law_most D__law_is_number)
  have D__law_budget_agrees : Dn l.prog w K mg base "_law_budget_agrees" 6 ["limit", "segments", "size", "written_first"] spTrueB := t__law_budget_agrees.dn X G (fun _ _ _ _ _ _ us hl => match us, hl with | [_, _, _, _], _ => rfl) (fun f fd F => ok_budget_agrees F B D_least_segment_budget K_least_segment_budget_late D__law_most_agrees D__law_most D__law_is_number)
  have D__law_house : Dn l.prog w K mg base "_law_house" 3 ["bag"] spHouse := t__law_house.dn X G (fun _ _ _ _ _ _ us hl => match us, hl with | [_], _ => rfl) (fun f fd F => ok_house F B D__law_take D__law_number)
  have D__law_limits : Dn l.prog w K mg base "_law_limits" 3 ["bag", "segments", "size", "budget", "written_first"] spLimits := t__law_limits.dn X G (fun _ _ _ _ _ _ us hl => match us, hl with | [_, _, _, _, _], _ => rfl) (fun f fd F => ok_limits F B D__law_most D__law_take D__law_number)
  have D__law_case : Dn l.prog w K mg base "_law_case" 7 ["bag"] spCase := t__law_case.dn X G (fun _ _ _ _ _ _ us hl => match us, hl with | [_], _ => rfl) (fun f fd F => ok_case F B D__law_house D__law_share_agrees D__law_limits D__law_most_agrees D__law_segments_agree D__law_budget_agrees)
  exact ok_law F B D__law_case D__law_bag
theorem walk {l : PySem.W.OpenLaw} {q : Program} {loose : List Str} {XP : (Str → Option Value) → Heap → Prop} {YP : World → Heap → Prop} {d : DefRec} {K : Params → PySem.W.Frag} (hn : l.most = some 63) (hdf : d.params.defaults = [])
    (hY : ∀ (w : World) (h : Heap), YP w h → (K w.params).In h)
    (F : ∀ (w : World) (mg : Str → Option Value) (fa : Addr) (h : Heap), (K w.params).In h → h.Ns mainGlobals mg → mg d.name = some (.ref fa) →
      ∃ fd : FuncData, (∀ (s : Shared) (u : Value), BindsTo s fd ⟨[u], []⟩ [("script", u)]) ∧ ∀ base : Heap, (K w.params).In base → base.Ns mainGlobals mg → FnOk l.prog w (K w.params) mg base CX0 8 fa fd ["script"] (spLaw (K w.params))) :
    PySem.W.WalkO q loose XP YP l.row.toRowW d [] (fun f vs => PySem.call f vs) :=
  L2.walk_of (n := 63) (k := 8) (x := "script") (CX := fun _ => CX0) (sp := fun w => spLaw (K w.params)) hn (by decide) hdf ⟨rfl, by decide, by decide⟩ hY F (fun _ _ a ns hl _ hS => ⟨a, ns, rfl, hS, hl, fun _ => rfl⟩) fun _ _ _ _ _ z => z
end Cl
open PySem PySem.W PyProof.Rows
set_option maxRecDepth 100000 in
set_option maxHeartbeats 0 in
theorem PySem.Challenge.cw_carrylog_k04_edges_of_segments_holds : PySem.Challenge.rw_carrylog_k04_edges_of_segments.Holds := by
  w_on; o_law; k_head; (case hw => w_witness2)
  k_fill
  refine Cl.walk (l := PySem.Challenge.rw_carrylog_k04_edges_of_segments) rfl rfl (fun w h Y => PySem.W.kIn_of Y) ?F
  case F =>
    intro w mg fa h KX G hmg
    refine' Cl.all_mk KX G hmg ?t_is_whole ?t_check_least ?t__law_is_number ?t__law_take ?t__law_bag ?t__law_number ?t_segment_share ?t__law_share ?t_divided_up ?t__shared_keys ?t_segments_limit ?t__law_most ?t_least_segments ?t_least_segment_budget ?t__law_share_agrees ?t__law_most_agrees ?t__law_segments_agree ?t__law_budget_agrees ?t__law_house ?t__law_limits ?t__law_case ?t_law ?z_len ?z_abs ?z_max ?z_min ?z_sum ?z_all ?z_any ?z_range ?z_isinstance ?z_intT ?z_strT ?z_boolT ?z_listT
    (case t_is_whole => (refine' Cl.atTop0 ?xat_is_whole ?xlt_is_whole ?xct_is_whole ?xpt_is_whole; (case xat_is_whole => k_is); (case xlt_is_whole => k_is); (case xct_is_whole => k_is); (case xpt_is_whole => k_is)))
    (case t_check_least => (refine' Cl.atTop0 ?xat_check_least ?xlt_check_least ?xct_check_least ?xpt_check_least; (case xat_check_least => k_is); (case xlt_check_least => k_is); (case xct_check_least => k_is); (case xpt_check_least => k_is)))
    (case t__law_is_number => (refine' Cl.atTop0 ?xat__law_is_number ?xlt__law_is_number ?xct__law_is_number ?xpt__law_is_number; (case xat__law_is_number => k_is); (case xlt__law_is_number => k_is); (case xct__law_is_number => k_is); (case xpt__law_is_number => k_is)))
    (case t__law_take => (refine' Cl.atTop0 ?xat__law_take ?xlt__law_take ?xct__law_take ?xpt__law_take; (case xat__law_take => k_is); (case xlt__law_take => k_is); (case xct__law_take => k_is); (case xpt__law_take => k_is)))
    (case t__law_bag => (refine' Cl.atTop0 ?xat__law_bag ?xlt__law_bag ?xct__law_bag ?xpt__law_bag; (case xat__law_bag => k_is); (case xlt__law_bag => k_is); (case xct__law_bag => k_is); (case xpt__law_bag => k_is)))
    (case t__law_number => (refine' Cl.atTop0 ?xat__law_number ?xlt__law_number ?xct__law_number ?xpt__law_number; (case xat__law_number => k_is); (case xlt__law_number => k_is); (case xct__law_number => k_is); (case xpt__law_number => k_is)))
    (case t_segment_share => (refine' Cl.atTop0 ?xat_segment_share ?xlt_segment_share ?xct_segment_share ?xpt_segment_share; (case xat_segment_share => k_is); (case xlt_segment_share => k_is); (case xct_segment_share => k_is); (case xpt_segment_share => k_is)))
    (case t__law_share => (refine' Cl.atTop0 ?xat__law_share ?xlt__law_share ?xct__law_share ?xpt__law_share; (case xat__law_share => k_is); (case xlt__law_share => k_is); (case xct__law_share => k_is); (case xpt__law_share => k_is)))
    (case t_divided_up => (refine' Cl.atTop0 ?xat_divided_up ?xlt_divided_up ?xct_divided_up ?xpt_divided_up; (case xat_divided_up => k_is); (case xlt_divided_up => k_is); (case xct_divided_up => k_is); (case xpt_divided_up => k_is)))
    (case t__shared_keys => (refine' Cl.atTop0 ?xat__shared_keys ?xlt__shared_keys ?xct__shared_keys ?xpt__shared_keys; (case xat__shared_keys => k_is); (case xlt__shared_keys => k_is); (case xct__shared_keys => k_is); (case xpt__shared_keys => k_is)))
    (case t_segments_limit => (refine' Cl.atTop1 ?xat_segments_limit ?xlt_segments_limit ?xct_segments_limit ?xpt_segments_limit ?xk0t_segments_limit ?xr0t_segments_limit; (case xat_segments_limit => k_is); (case xlt_segments_limit => k_is); (case xct_segments_limit => k_is); (case xpt_segments_limit => k_is); (case xk0t_segments_limit => k_is); (case xr0t_segments_limit => first | rfl | exact ⟨_, rfl⟩)))
    (case t__law_most => (refine' Cl.atTop0 ?xat__law_most ?xlt__law_most ?xct__law_most ?xpt__law_most; (case xat__law_most => k_is); (case xlt__law_most => k_is); (case xct__law_most => k_is); (case xpt__law_most => k_is)))
    (case t_least_segments => (refine' Cl.atTop1 ?xat_least_segments ?xlt_least_segments ?xct_least_segments ?xpt_least_segments ?xk0t_least_segments ?xr0t_least_segments; (case xat_least_segments => k_is); (case xlt_least_segments => k_is); (case xct_least_segments => k_is); (case xpt_least_segments => k_is); (case xk0t_least_segments => k_is); (case xr0t_least_segments => first | rfl | exact ⟨_, rfl⟩)))
    (case t_least_segment_budget => (refine' Cl.atTop1 ?xat_least_segment_budget ?xlt_least_segment_budget ?xct_least_segment_budget ?xpt_least_segment_budget ?xk0t_least_segment_budget ?xr0t_least_segment_budget; (case xat_least_segment_budget => k_is); (case xlt_least_segment_budget => k_is); (case xct_least_segment_budget => k_is); (case xpt_least_segment_budget => k_is); (case xk0t_least_segment_budget => k_is); (case xr0t_least_segment_budget => first | rfl | exact ⟨_, rfl⟩)))
    (case t__law_share_agrees => (refine' Cl.atTop0 ?xat__law_share_agrees ?xlt__law_share_agrees ?xct__law_share_agrees ?xpt__law_share_agrees; (case xat__law_share_agrees => k_is); (case xlt__law_share_agrees => k_is); (case xct__law_share_agrees => k_is); (case xpt__law_share_agrees => k_is)))
    (case t__law_most_agrees => (refine' Cl.atTop0 ?xat__law_most_agrees ?xlt__law_most_agrees ?xct__law_most_agrees ?xpt__law_most_agrees; (case xat__law_most_agrees => k_is); (case xlt__law_most_agrees => k_is); (case xct__law_most_agrees => k_is); (case xpt__law_most_agrees => k_is)))
    (case t__law_segments_agree => (refine' Cl.atTop0 ?xat__law_segments_agree ?xlt__law_segments_agree ?xct__law_segments_agree ?xpt__law_segments_agree; (case xat__law_segments_agree => k_is); (case xlt__law_segments_agree => k_is); (case xct__law_segments_agree => k_is); (case xpt__law_segments_agree => k_is)))
    (case t__law_budget_agrees => (refine' Cl.atTop0 ?xat__law_budget_agrees ?xlt__law_budget_agrees ?xct__law_budget_agrees ?xpt__law_budget_agrees; (case xat__law_budget_agrees => k_is); (case xlt__law_budget_agrees => k_is); (case xct__law_budget_agrees => k_is); (case xpt__law_budget_agrees => k_is)))
    (case t__law_house => (refine' Cl.atTop0 ?xat__law_house ?xlt__law_house ?xct__law_house ?xpt__law_house; (case xat__law_house => k_is); (case xlt__law_house => k_is); (case xct__law_house => k_is); (case xpt__law_house => k_is)))
    (case t__law_limits => (refine' Cl.atTop0 ?xat__law_limits ?xlt__law_limits ?xct__law_limits ?xpt__law_limits; (case xat__law_limits => k_is); (case xlt__law_limits => k_is); (case xct__law_limits => k_is); (case xpt__law_limits => k_is)))
    (case t__law_case => (refine' Cl.atTop0 ?xat__law_case ?xlt__law_case ?xct__law_case ?xpt__law_case; (case xat__law_case => k_is); (case xlt__law_case => k_is); (case xct__law_case => k_is); (case xpt__law_case => k_is)))
    (case t_law => (refine' Cl.atTop0 ?xat_law ?xlt_law ?xct_law ?xpt_law; (case xat_law => k_is); (case xlt_law => k_is); (case xct_law => k_is); (case xpt_law => k_is)))
    (case z_len => k_is)
    (case z_abs => k_is)
    (case z_max => k_is)
    (case z_min => k_is)
    (case z_sum => k_is)
    (case z_all => k_is)
    (case z_any => k_is)
    (case z_range => k_is)
    (case z_isinstance => k_is)
    (case z_intT => k_is)
    (case z_strT => k_is)
    (case z_boolT => k_is)
    (case z_listT => k_is)
