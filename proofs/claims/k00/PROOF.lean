import PyProof.Rows.All
import Wide.All
import OpenK.AllK
import Wide.FinOn
import HandS.ForMost
import HandS.Wide
import HandS.IsInst
import HandS.Defaults
import HandS.Codes
import HandS.MakeKwOnly
import PySem.Challenge.RW_carrylog_k00_round_sums
import HandS.Star
import HandS.ClsMeth
import HandS.Property
import HandS.TupLe
import HandS.Sort
import HandS.Evl
import HandS.TupAny
import HandS.DeepEq
import KE.KTupSum
import KE.KMathG
import Flt.RightSqrt
import HandS.Struct
import HandS.Iter
import HandS.Walk
import PyProof.ReprHeads
import PyProof.StrHeap
import PyProof.CallFns
import HandS.RaiseMore
import PyProof.ReprLen
import PyProof.Rows.RegStrFacts
set_option Elab.async false
set_option maxRecDepth 100000
/-! ### my words over the hand layer -/
namespace Cl
open PySem L2
/-- the built-in names that the law's text uses are still the built-ins -/
structure Bi (mg : Str → Option Value) : Prop where
  len : mg "len" = none
  abs : mg "abs" = none
  max : mg "max" = none
  min : mg "min" = none
  sum : mg "sum" = none
  all : mg "all" = none
  any : mg "any" = none
  range : mg "range" = none
  isinstance : mg "isinstance" = none
  intT : mg "int" = none
  strT : mg "str" = none
  boolT : mg "bool" = none
  listT : mg "list" = none
  divmod : mg "divmod" = none
  tupleT : mg "tuple" = none
  reversed : mg "reversed" = none
  repr : mg "repr" = none
/-- a def of the text, by its name: what it promises -/
structure Dn (P : Program) (w : World) (K : PySem.W.Frag) (mg : Str → Option Value) (base : Heap) (x : Str) (k : Nat) (ps : List Str) (sp : Sp) (dvs : List V := []) : Prop where
  ex : ∃ (f : Addr) (fd : FuncData) (ds : List Value), FnOk P w K mg base CX0 k f fd ps sp ∧ mg x = some (.ref f) ∧ PySem.W.keepIn K (.ref f) = true ∧ Binds K fd ps ds ∧ Vals dvs ds
/-- the same called with keywords -/
structure Dk (P : Program) (w : World) (K : PySem.W.Frag) (mg : Str → Option Value) (base : Heap) (x : Str) (k : Nat) (ps : List Str) (sp : Sp) (n : Nat) (ks : List Str) (gV : List V → List V → List V) : Prop where
  ex : ∃ (f : Addr) (fd : FuncData) (g : List Value → List Value → List Value), FnOk P w K mg base CX0 k f fd ps sp ∧ mg x = some (.ref f) ∧ PySem.W.keepIn K (.ref f) = true ∧ KBn K fd ps n ks g gV
section
variable {X : Cx} {k n : Nat} {ps ks : List Str} {sp : Sp} {dvs : List V} {E : XK} {x : Str} {p pos : Pos} {e : Expr} {es : List Expr} {kws : List Keyword} {t tk : TA} {gV : List V → List V → List V}
theorem pe_dn (D : Dn X.prog X.w X.K X.mg X.base x k ps sp dvs) (hr : Room k X.A) (hg : Gl X x) (hx : Passes CX0 X E) (ha : PA X (e :: es) t)
    (hdb : (x == ("__debug__" : Str)) = false := by decide) (he : starEach (e :: es) X.env = (false, eval e X.env) :: starEach es X.env := by rfl)
    (hpl : (backTo pos (starEach es X.env)).any (·.1) = false := by rfl) : PE X (.Call (.Name x p) (e :: es) [] pos) (tCall sp dvs E t) := by
  obtain ⟨f, fd, ds, G, m, kp, b, v⟩ := D.ex
  exact pe_call G hr hg m kp b v hx ha hdb he hpl
theorem pe_dn0 (D : Dn X.prog X.w X.K X.mg X.base x k ps sp dvs) (hr : Room k X.A) (hg : Gl X x) (hx : Passes CX0 X E)
    (hdb : (x == ("__debug__" : Str)) = false := by decide) : PE X (.Call (.Name x p) [] [] pos) (tCall sp dvs E tNil) := by
  obtain ⟨f, fd, ds, G, m, kp, b, v⟩ := D.ex
  exact pe_call0 G hr hg m kp b v hx hdb
theorem pe_dk (D : Dk X.prog X.w X.K X.mg X.base x k ps sp n ks gV) (hr : Room k X.A) (hg : Gl X x) (hx : Passes CX0 X E) (ha : PA X (e :: es) t) (hkw : PK X kws tk)
    (hall : (backToKw pos (keywordEach kws X.env)).all (·.1.isSome) = true := by rfl) (hks : (backToKw pos (keywordEach kws X.env)).filterMap (·.1) = ks := by rfl)
    (hdb : (x == ("__debug__" : Str)) = false := by decide) (he : starEach (e :: es) X.env = (false, eval e X.env) :: starEach es X.env := by rfl)
    (hpl : ((backTo pos (starEach (e :: es) X.env)).any (·.1) || (backToKw pos (keywordEach kws X.env)).any (·.1.isNone)) = false := by rfl) :
    PE X (.Call (.Name x p) (e :: es) kws pos) (tCallN n ks.length sp gV E t tk) := by
  obtain ⟨f, fd, g, G, m, kp, b⟩ := D.ex
  exact pe_callN G hr hg m kp b hx ha hkw hall hks hdb he hpl
end
theorem mulB {i j : Int} (h1 : -100000000000000000000000000000000000000000000000000000000000000 ≤ i) (h2 : i ≤ 100000000000000000000000000000000000000000000000000000000000000) (h3 : -100000000000000000000000000000000000000000000000000000000000000 ≤ j) (h4 : j ≤ 100000000000000000000000000000000000000000000000000000000000000) : CMulW i j :=
  wide_mul (a := 220) (b := 220) (Nat.lt_of_le_of_lt (show i.natAbs ≤ 100000000000000000000000000000000000000000000000000000000000000 by omega) (by decide)) (Nat.lt_of_le_of_lt (show j.natAbs ≤ 100000000000000000000000000000000000000000000000000000000000000 by omega) (by decide)) (by decide) (by decide) (by decide)
theorem divB {i j : Int} (h : 0 < j) (h2 : j ≤ 100000000000000000000000000000000000000000000000000000000000000) : CDivW i j :=
  wide_div h (b := 220) (Nat.lt_of_le_of_lt (show j.natAbs ≤ 100000000000000000000000000000000000000000000000000000000000000 by omega) (by decide)) (by decide) (by decide)
theorem strB {i : Int} (h1 : -100000000000000000000000000000000000000000000000000000000000000 ≤ i) (h2 : i ≤ 100000000000000000000000000000000000000000000000000000000000000) : i.natAbs.log2 < 1920 :=
  Nat.lt_of_lt_of_le (PySem.Flt.log2_lt_of (k := 220) (by decide) (Nat.lt_of_le_of_lt (show i.natAbs ≤ 100000000000000000000000000000000000000000000000000000000000000 by omega) (by decide))) (by decide)
/-- all that was tracked but what stands at a is as it was -/
def But (a : Addr) (H H' : Hp) : Prop := ∀ b o, b ≠ a → H b = some o → H' b = some o
theorem But.refl (a : Addr) (H : Hp) : But a H H := fun _ _ _ h => h
theorem But.trans {a : Addr} {H H1 H2 : Hp} (x : But a H H1) (y : But a H1 H2) : But a H H2 := fun b o n h => y b o n (x b o n h)
theorem But.of {a : Addr} {H H' : Hp} (x : Same H H') : But a H H' := fun b o _ h => x b o h
theorem But.upd {a : Addr} {H : Hp} {o : HO} : But a H (upd H a o) := fun b u n h => by rw [upd_ne n]; exact h
theorem Same.upd {p : Addr} {H : Hp} {o : HO} (h : H p = none) : Same H (upd H p o) := fun b u e => by rw [upd_ne (ne_of_none e h)]; exact e
theorem itd {c A B : Prop} [Decidable c] (h1 : c → A) (h2 : ¬ c → B) : if decide c = true then A else B := by
  by_cases h : c
  · rw [decide_eq_true h]; exact iteT (h1 h)
  · rw [decide_eq_false h]; exact iteF (h2 h)
theorem itn {c A B : Prop} [Decidable c] (h1 : ¬ c → A) (h2 : c → B) : if (!decide c) = true then A else B := by
  by_cases h : c
  · rw [decide_eq_true h]; exact iteF (h2 h)
  · rw [decide_eq_false h]; exact iteT (h1 h)
theorem iti {a b : Int} {A B : Prop} (h1 : a = b → A) (h2 : a ≠ b → B) : if decide (V.int a = V.int b) = true then A else B :=
  itd (fun h => h1 (V.int.inj h)) (fun h => h2 fun e => h (by rw [e]))
theorem itni {a b : Int} {A B : Prop} (h1 : a ≠ b → A) (h2 : a = b → B) : if (!decide (V.int a = V.int b)) = true then A else B :=
  itn (fun h => h1 fun e => h (by rw [e])) (fun h => h2 (V.int.inj h))
theorem But.sub {a b : Addr} {H H1 H2 : Hp} {o : HO} (n : b ≠ a) (x : But a H H1) (h : H b = some o) : H1 b = some o := x b o n h
/-- a comprehension without tests whose element is reckoned without a trace: the new list is the old one, mapped -/
theorem lc_pure {K : PySem.W.Frag} {a D : Addr} {xs : List V} {g : TG} {te : TE} {vs : List Nat} {σ : L2.St} {H1 : Hp} {Qd : Hp → Prop} (f : V → V) (hx : SqL K H1 a xs) (hD : H1 D = none) (hlen : xs.length < 10000)
    (hs : ∀ (x : V) (H : Hp) (R : V → Hp → Prop), x ∈ xs → (∀ b o, H1 b = some o → H b = some o) → R (f x) H → g x (wipe σ vs) H fun σ2 H2 => wipe σ2 vs = wipe σ vs ∧ te σ2 H2 R) (hd : Qd (upd H1 D (.lst (xs.map f)))) :
    ∃ W : Nat → Nat → Hp → Prop, (∃ m, W 0 m (upd H1 D (.lst []))) ∧ ∀ i m H, W i m H →
      ((Itl K a).stop i H ∧ Qd H) ∨ ((Itl K a).go i H ∧ ∃ Nx : Hp → Prop, (∀ H', Nx H' → ∃ m', m' < m ∧ W (i + 1) m' H') ∧ ∀ x H', (Itl K a).yld i H x H' → g x (wipe σ vs) H' fun σ2 H2 => wipe σ2 vs = wipe σ vs ∧ tYes σ2 H2 fun b H3 =>
        if b = true then te σ2 H3 fun y H4 => ∃ acc, H4 D = some (.lst acc) ∧ acc.length < sizeLine ∧ Nx (upd H4 D (.lst (acc ++ [y]))) else Nx H3) := by
  refine lc_list (K := K) (a := a) (xs := xs) (fun i H => H = upd H1 D (.lst ((xs.take i).map f))) (by rw [List.take_zero]; rfl) (fun i H _ e => by rw [e]; exact Same.seq (Same.upd hD) hx) ?_ ?_
  · rintro i x H hi rfl
    have hm : x ∈ xs := List.mem_of_getElem? hi
    have hi2 := (List.getElem?_eq_some_iff.mp hi).1
    have key : ∀ R : V → Hp → Prop, R (f x) (upd H1 D (.lst ((xs.take i).map f))) → g x (wipe σ vs) (upd H1 D (.lst ((xs.take i).map f))) fun σ2 H2 => wipe σ2 vs = wipe σ vs ∧ te σ2 H2 R := fun R hR =>
      hs x _ R hm (fun b o e => Same.upd hD b o e) hR
    have k2 := key (fun y H4 => ∃ acc, H4 D = some (.lst acc) ∧ acc.length < sizeLine ∧ upd H4 D (.lst (acc ++ [y])) = upd H1 D (.lst ((xs.take (i + 1)).map f))) ⟨_, upd_same, ?_, ?_⟩
    · exact k2
    · rw [List.length_map, List.length_take]
      have : (10000 : Nat) ≤ sizeLine := by decide
      omega
    · rw [upd_upd]
      have e : xs.take (i + 1) = xs.take i ++ [x] := by
        rw [List.take_add_one, hi]; rfl
      rw [e, List.map_append]; rfl
  · rintro H rfl
    rw [List.take_length]
    exact hd
/-- what stays while a new list at D grows: all that H1 tracks -/
theorem grow_same {D : Addr} {H1 H : Hp} {o : HO} (hD : H1 D = none) (x : Same H1 H) : Same H1 (upd H D o) := fun b u e => by
  rw [upd_ne (ne_of_none e hD)]; exact x b u e
/-- a comprehension over a range; its element may make objects -/
theorem lc_growR {lo : Int} {n : Nat} {g : TG} {te : TE} {vs : List Nat} {σ : L2.St} {H1 : Hp} {D : Addr} {Qd : Hp → Prop} (f : Nat → V) (hD : H1 D = none) (hlen : n < 10000)
    (hs : ∀ (i : Nat) (H : Hp) (R : V → Hp → Prop), i < n → Same H1 H → (∀ H', Same H H' → R (f i) H') → g (.int (lo + i)) (wipe σ vs) H fun σ2 H2 => wipe σ2 vs = wipe σ vs ∧ te σ2 H2 R)
    (hd : ∀ H, Same H1 H → H D = some (.lst ((List.range n).map f)) → Qd H) :
    ∃ W : Nat → Nat → Hp → Prop, (∃ m, W 0 m (upd H1 D (.lst []))) ∧ ∀ i m H, W i m H →
      ((Itr lo n).stop i H ∧ Qd H) ∨ ((Itr lo n).go i H ∧ ∃ Nx : Hp → Prop, (∀ H', Nx H' → ∃ m', m' < m ∧ W (i + 1) m' H') ∧ ∀ x H', (Itr lo n).yld i H x H' → g x (wipe σ vs) H' fun σ2 H2 => wipe σ2 vs = wipe σ vs ∧ tYes σ2 H2 fun b H3 =>
        if b = true then te σ2 H3 fun y H4 => ∃ acc, H4 D = some (.lst acc) ∧ acc.length < sizeLine ∧ Nx (upd H4 D (.lst (acc ++ [y]))) else Nx H3) := by
  refine lc_range (lo := lo) (n := n) (fun i H => Same H1 H ∧ H D = some (.lst ((List.range i).map f))) ⟨grow_same hD (Same.refl H1), upd_same⟩ ?_ (fun H h => hd H h.1 h.2)
  rintro i H hi ⟨hS, hL⟩
  have key := hs i H (fun y H4 => ∃ acc, H4 D = some (.lst acc) ∧ acc.length < sizeLine ∧ (Same H1 (upd H4 D (.lst (acc ++ [y]))) ∧ upd H4 D (.lst (acc ++ [y])) D = some (.lst ((List.range (i + 1)).map f)))) hi hS fun H' hS' => ⟨_, hS' _ _ hL, ?_, grow_same hD (hS.trans hS'), ?_⟩
  · exact key
  · rw [List.length_map, List.length_range]
    have : (10000 : Nat) ≤ sizeLine := by decide
    omega
  · rw [upd_same, List.range_succ, List.map_append]; rfl
/-- .. with a test -/
theorem lc_filtR {lo : Int} {n : Nat} {g : TG} {tt : TT} {te : TE} {vs : List Nat} {σ : L2.St} {H1 : Hp} {D : Addr} {Qd : Hp → Prop} (f : Nat → V) (p : Nat → Bool) (hD : H1 D = none) (hlen : n < 10000)
    (hs : ∀ (i : Nat) (H : Hp) (R : V → Hp → Prop) (R0 : Hp → Prop), i < n → Same H1 H → (p i = true → ∀ H', Same H H' → R (f i) H') → (p i = false → ∀ H', Same H H' → R0 H') →
      g (.int (lo + i)) (wipe σ vs) H fun σ2 H2 => wipe σ2 vs = wipe σ vs ∧ tt σ2 H2 fun b H3 => if b = true then te σ2 H3 R else R0 H3)
    (hd : ∀ H, Same H1 H → H D = some (.lst (((List.range n).filter p).map f)) → Qd H) :
    ∃ W : Nat → Nat → Hp → Prop, (∃ m, W 0 m (upd H1 D (.lst []))) ∧ ∀ i m H, W i m H →
      ((Itr lo n).stop i H ∧ Qd H) ∨ ((Itr lo n).go i H ∧ ∃ Nx : Hp → Prop, (∀ H', Nx H' → ∃ m', m' < m ∧ W (i + 1) m' H') ∧ ∀ x H', (Itr lo n).yld i H x H' → g x (wipe σ vs) H' fun σ2 H2 => wipe σ2 vs = wipe σ vs ∧ tt σ2 H2 fun b H3 =>
        if b = true then te σ2 H3 fun y H4 => ∃ acc, H4 D = some (.lst acc) ∧ acc.length < sizeLine ∧ Nx (upd H4 D (.lst (acc ++ [y]))) else Nx H3) := by
  refine lc_range (lo := lo) (n := n) (fun i H => Same H1 H ∧ H D = some (.lst (((List.range i).filter p).map f))) ⟨grow_same hD (Same.refl H1), upd_same⟩ ?_ (fun H h => hd H h.1 h.2)
  rintro i H hi ⟨hS, hL⟩
  have e1 : (List.range (i + 1)).filter p = (List.range i).filter p ++ (if p i = true then [i] else []) := by
    rw [List.range_succ, List.filter_append, List.filter_cons, List.filter_nil]
  have key := hs i H (fun y H4 => ∃ acc, H4 D = some (.lst acc) ∧ acc.length < sizeLine ∧ (Same H1 (upd H4 D (.lst (acc ++ [y]))) ∧ upd H4 D (.lst (acc ++ [y])) D = some (.lst (((List.range (i + 1)).filter p).map f))))
    (fun H4 => Same H1 H4 ∧ H4 D = some (.lst (((List.range (i + 1)).filter p).map f))) hi hS (fun hp H' hS' => ⟨_, hS' _ _ hL, ?_, grow_same hD (hS.trans hS'), ?_⟩) (fun hp H' hS' => ⟨hS.trans hS', ?_⟩)
  · exact key
  · rw [List.length_map]
    have : (10000 : Nat) ≤ sizeLine := by decide
    have h2 := List.length_filter_le p (List.range i)
    rw [List.length_range] at h2
    omega
  · rw [upd_same, e1, if_pos hp, List.map_append]; rfl
  · rw [hS' _ _ hL, e1, if_neg (by rw [hp]; exact Bool.false_ne_true), List.append_nil]
/-- .. over a list that stands still -/
theorem lc_growL {K : PySem.W.Frag} {a D : Addr} {xs : List V} {g : TG} {te : TE} {vs : List Nat} {σ : L2.St} {H1 : Hp} {Qd : Hp → Prop} (f : V → V) (hx : SqL K H1 a xs) (hD : H1 D = none) (hlen : xs.length < 10000)
    (hs : ∀ (x : V) (H : Hp) (R : V → Hp → Prop), x ∈ xs → Same H1 H → (∀ H', Same H H' → R (f x) H') → g x (wipe σ vs) H fun σ2 H2 => wipe σ2 vs = wipe σ vs ∧ te σ2 H2 R)
    (hd : ∀ H, Same H1 H → H D = some (.lst (xs.map f)) → Qd H) :
    ∃ W : Nat → Nat → Hp → Prop, (∃ m, W 0 m (upd H1 D (.lst []))) ∧ ∀ i m H, W i m H →
      ((Itl K a).stop i H ∧ Qd H) ∨ ((Itl K a).go i H ∧ ∃ Nx : Hp → Prop, (∀ H', Nx H' → ∃ m', m' < m ∧ W (i + 1) m' H') ∧ ∀ x H', (Itl K a).yld i H x H' → g x (wipe σ vs) H' fun σ2 H2 => wipe σ2 vs = wipe σ vs ∧ tYes σ2 H2 fun b H3 =>
        if b = true then te σ2 H3 fun y H4 => ∃ acc, H4 D = some (.lst acc) ∧ acc.length < sizeLine ∧ Nx (upd H4 D (.lst (acc ++ [y]))) else Nx H3) := by
  refine lc_list (K := K) (a := a) (xs := xs) (fun i H => Same H1 H ∧ H D = some (.lst ((xs.take i).map f))) ⟨grow_same hD (Same.refl H1), upd_same⟩ (fun i H _ h => Same.seq h.1 hx) ?_ (fun H h => hd H h.1 (by rw [h.2, List.take_length]))
  rintro i x H hi ⟨hS, hL⟩
  have hi2 := (List.getElem?_eq_some_iff.mp hi).1
  have key := hs x H (fun y H4 => ∃ acc, H4 D = some (.lst acc) ∧ acc.length < sizeLine ∧ (Same H1 (upd H4 D (.lst (acc ++ [y]))) ∧ upd H4 D (.lst (acc ++ [y])) D = some (.lst ((xs.take (i + 1)).map f)))) (List.mem_of_getElem? hi) hS fun H' hS' => ⟨_, hS' _ _ hL, ?_, grow_same hD (hS.trans hS'), ?_⟩
  · exact key
  · rw [List.length_map, List.length_take]
    have : (10000 : Nat) ≤ sizeLine := by decide
    omega
  · rw [upd_same]
    have e : xs.take (i + 1) = xs.take i ++ [x] := by
      rw [List.take_add_one, hi]; rfl
    rw [e, List.map_append]; rfl
/-- a bag stands at a -/
def BagAt (H : Hp) (a : Addr) : Prop := ∃ c t s : Int, H a = some (.lst [.int c, .int t, .int s])
theorem BagAt.same {H H' : Hp} {a : Addr} (h : BagAt H a) (x : Same H H') : BagAt H' a := by
  obtain ⟨c, t, s, e⟩ := h
  exact ⟨c, t, s, x _ _ e⟩
/-- a comprehension over a range whose element draws from a bag: the ints that it makes, each of which P holds -/
theorem lc_bagR {lo : Int} {n : Nat} {g : TG} {te : TE} {vs : List Nat} {σ : L2.St} {H1 : Hp} {D a : Addr} {Qd : Hp → Prop} (P : Int → Prop) (hB : BagAt H1 a) (hD : H1 D = none) (hlen : n < 10000)
    (hs : ∀ (i : Nat) (H : Hp) (R : V → Hp → Prop), i < n → BagAt H a → But a H1 H → (∀ d H', P d → BagAt H' a → But a H H' → R (.int d) H') → g (.int (lo + i)) (wipe σ vs) H fun σ2 H2 => wipe σ2 vs = wipe σ vs ∧ te σ2 H2 R)
    (hd : ∀ (ls : List Int) (H : Hp), H D = some (.lst (ls.map V.int)) → ls.length = n → (∀ x, x ∈ ls → P x) → BagAt H a → But a H1 H → Qd H) :
    ∃ W : Nat → Nat → Hp → Prop, (∃ m, W 0 m (upd H1 D (.lst []))) ∧ ∀ i m H, W i m H →
      ((Itr lo n).stop i H ∧ Qd H) ∨ ((Itr lo n).go i H ∧ ∃ Nx : Hp → Prop, (∀ H', Nx H' → ∃ m', m' < m ∧ W (i + 1) m' H') ∧ ∀ x H', (Itr lo n).yld i H x H' → g x (wipe σ vs) H' fun σ2 H2 => wipe σ2 vs = wipe σ vs ∧ tYes σ2 H2 fun b H3 =>
        if b = true then te σ2 H3 fun y H4 => ∃ acc, H4 D = some (.lst acc) ∧ acc.length < sizeLine ∧ Nx (upd H4 D (.lst (acc ++ [y]))) else Nx H3) := by
  have nDa : D ≠ a := fun e => by
    subst e
    obtain ⟨_, _, _, e2⟩ := hB
    rw [e2] at hD; cases hD
  have bagU : ∀ {H : Hp} {o : HO}, BagAt H a → BagAt (upd H D o) a := fun {H o} hb => by
    obtain ⟨x, y, z, e⟩ := hb
    exact ⟨x, y, z, by rw [upd_ne nDa.symm]; exact e⟩
  have butU : ∀ {H : Hp} {o : HO}, But a H1 H → But a H1 (upd H D o) := fun {H o} hb b u nb e => by
    rw [upd_ne (ne_of_none e hD)]; exact hb b u nb e
  refine lc_range (lo := lo) (n := n) (fun i H => ∃ ls : List Int, H D = some (.lst (ls.map V.int)) ∧ ls.length = i ∧ (∀ x, x ∈ ls → P x) ∧ BagAt H a ∧ But a H1 H) ⟨[], upd_same, rfl, fun x hx => (by cases hx), bagU hB, butU (But.refl _ _)⟩ ?_ (fun H ⟨ls, h1, h2, h3, h4, h5⟩ => hd ls H h1 h2 h3 h4 h5)
  rintro i H hi ⟨ls, h1, h2, h3, h4, h5⟩
  have key := hs i H (fun y H4 => ∃ acc, H4 D = some (.lst acc) ∧ acc.length < sizeLine ∧ ∃ ls : List Int, upd H4 D (.lst (acc ++ [y])) D = some (.lst (ls.map V.int)) ∧ ls.length = i + 1 ∧ (∀ x, x ∈ ls → P x) ∧ BagAt (upd H4 D (.lst (acc ++ [y]))) a ∧ But a H1 (upd H4 D (.lst (acc ++ [y])))) hi h4 h5
    fun d H' hP hB' hb' => ⟨ls.map V.int, hb' D _ nDa h1, ?_, ls ++ [d], by rw [upd_same, List.map_append]; rfl, by rw [List.length_append, h2]; rfl, fun x hx => ?_, bagU hB', butU (h5.trans hb')⟩
  · exact key
  · rw [List.length_map]
    have : (10000 : Nat) ≤ sizeLine := by decide
    omega
  · rcases List.mem_append.mp hx with h | h
    · exact h3 x h
    · simp at h; subst h; exact hP
/-! ### what the top has written -/
structure AtTop (K : PySem.W.Frag) (x qual : Str) (st : Stmt) (kws : List (Str × V)) : Prop where
  ex : ∃ (f : Addr) (fd : FuncData), PySem.W.nsIn K mainGlobals x = some (some (.ref f)) ∧ Fun K x qual st f fd ∧ FunD K x qual (defArgs st) (defBody st) (defScope st) [] kws f fd
section
variable {P : Program} {w : World} {K : PySem.W.Frag} {mg : Str → Option Value} {base : Heap} {x qual : Str} {st : Stmt} {ps : List Str} {k : Nat} {sp : Sp} {kws : List (Str × V)} {h : Heap}
theorem atTop0 {f : Addr} {oc : Value} {od an : Option Addr} {osl : Array (Option Value)} {kV doc pm cdv ct : Value} (a : PySem.W.nsIn K mainGlobals x = some (some (.ref f)))
    (l : K.lookup f = some ⟨oc, od, .func (PySem.W.fnOf x qual (defArgs st) (defBody st) (defScope st) .none kV doc pm an cdv ct), osl⟩) (c : PySem.W.codeIn K cdv qual = true) (p : PySem.W.keepIn K (.ref f) = true) : AtTop K x qual st [] :=
  ⟨f, _, a, fun_mk l c p, ⟨⟨oc, od, .none, kV, doc, pm, an, cdv, ct, osl, rfl, l, c, .inl ⟨rfl, rfl⟩, .inl rfl⟩, p⟩⟩
theorem atTop1 {f D : Addr} {oc : Value} {od an : Option Addr} {osl : Array (Option Value)} {doc pm cdv ct u : Value} {n : Str} {v : V} (a : PySem.W.nsIn K mainGlobals x = some (some (.ref f)))
    (l : K.lookup f = some ⟨oc, od, .func (PySem.W.fnOf x qual (defArgs st) (defBody st) (defScope st) .none (.ref D) doc pm an cdv ct), osl⟩) (c : PySem.W.codeIn K cdv qual = true) (p : PySem.W.keepIn K (.ref f) = true)
    (hk : PySem.W.nsIn K D n = some (some u)) (r : RelV v u) : AtTop K x qual st [(n, v)] :=
  ⟨f, _, a, fun_mk l c p, ⟨⟨oc, od, .none, .ref D, doc, pm, an, cdv, ct, osl, rfl, l, c, .inl ⟨rfl, rfl⟩, .inr ⟨D, rfl, fun q hq => by
    rcases List.mem_cons.mp hq with rfl | hq
    · exact ⟨u, hk, r⟩
    · cases hq⟩⟩, p⟩⟩
theorem atTop2 {f D : Addr} {oc : Value} {od an : Option Addr} {osl : Array (Option Value)} {doc pm cdv ct u u1 : Value} {n n1 : Str} {v v1 : V} (a : PySem.W.nsIn K mainGlobals x = some (some (.ref f)))
    (l : K.lookup f = some ⟨oc, od, .func (PySem.W.fnOf x qual (defArgs st) (defBody st) (defScope st) .none (.ref D) doc pm an cdv ct), osl⟩) (c : PySem.W.codeIn K cdv qual = true) (p : PySem.W.keepIn K (.ref f) = true)
    (hk : PySem.W.nsIn K D n = some (some u)) (r : RelV v u) (hk1 : PySem.W.nsIn K D n1 = some (some u1)) (r1 : RelV v1 u1) : AtTop K x qual st [(n, v), (n1, v1)] :=
  ⟨f, _, a, fun_mk l c p, ⟨⟨oc, od, .none, .ref D, doc, pm, an, cdv, ct, osl, rfl, l, c, .inl ⟨rfl, rfl⟩, .inr ⟨D, rfl, fun q hq => by
    rcases List.mem_cons.mp hq with rfl | hq
    · exact ⟨u, hk, r⟩
    rcases List.mem_cons.mp hq with rfl | hq
    · exact ⟨u1, hk1, r1⟩
    · cases hq⟩⟩, p⟩⟩
theorem atTop3 {f D : Addr} {oc : Value} {od an : Option Addr} {osl : Array (Option Value)} {doc pm cdv ct u u1 u2 : Value} {n n1 n2 : Str} {v v1 v2 : V} (a : PySem.W.nsIn K mainGlobals x = some (some (.ref f)))
    (l : K.lookup f = some ⟨oc, od, .func (PySem.W.fnOf x qual (defArgs st) (defBody st) (defScope st) .none (.ref D) doc pm an cdv ct), osl⟩) (c : PySem.W.codeIn K cdv qual = true) (p : PySem.W.keepIn K (.ref f) = true)
    (hk : PySem.W.nsIn K D n = some (some u)) (r : RelV v u) (hk1 : PySem.W.nsIn K D n1 = some (some u1)) (r1 : RelV v1 u1) (hk2 : PySem.W.nsIn K D n2 = some (some u2)) (r2 : RelV v2 u2) : AtTop K x qual st [(n, v), (n1, v1), (n2, v2)] :=
  ⟨f, _, a, fun_mk l c p, ⟨⟨oc, od, .none, .ref D, doc, pm, an, cdv, ct, osl, rfl, l, c, .inl ⟨rfl, rfl⟩, .inr ⟨D, rfl, fun q hq => by
    rcases List.mem_cons.mp hq with rfl | hq
    · exact ⟨u, hk, r⟩
    rcases List.mem_cons.mp hq with rfl | hq
    · exact ⟨u1, hk1, r1⟩
    rcases List.mem_cons.mp hq with rfl | hq
    · exact ⟨u2, hk2, r2⟩
    · cases hq⟩⟩, p⟩⟩
/-- the arguments in the parameters' order: of each keyword-only one, whether it was written (which one of the call's) or lacks (which one of those) -/
def pick {α : Type} (sel : List (Sum Nat Nat)) (us mv ws : List α) : List α := us ++ sel.flatMap fun q => match q with | .inl i => (ws.drop i).take 1 | .inr j => (mv.drop j).take 1
abbrev kwp (sel : List (Sum Nat Nat)) (mz : List V) : List V → List V → List V := fun vs zs => pick sel vs mz zs
theorem pick_rel {vs mz zs : List V} {us mv ws : List Value} (r1 : Vals vs us) (r2 : Vals mz mv) (r3 : Vals zs ws) : ∀ sel : List (Sum Nat Nat), Vals (pick sel vs mz zs) (pick sel us mv ws) := fun sel => by
  refine r1.append ?_
  induction sel with
  | nil => exact .nil
  | cons q l ih =>
    rw [List.flatMap_cons, List.flatMap_cons]
    refine Vals.append ?_ ih
    cases q with
    | inl i => exact (r3.drop i).take 1
    | inr j => exact (r2.drop j).take 1
theorem AtTop.dn (t : AtTop K x qual st kws) (X : K.In h) (G : h.Ns mainGlobals mg)
    (hb : ∀ (kV doc pm : Value) (an : Option Addr) (cdv ct : Value) (us : List Value), us.length = ps.length → bindArgs (PySem.W.fnOf x qual (defArgs st) (defBody st) (defScope st) .none kV doc pm an cdv ct) ⟨us, []⟩ = pure (ps.zip us))
    (ok : ∀ (f : Addr) (fd : FuncData), Fun K x qual st f fd → FnOk P w K mg base CX0 k f fd ps sp) : Dn P w K mg base x k ps sp := by
  obtain ⟨f, fd, a, F, _⟩ := t.ex
  exact ⟨f, fd, [], ok f fd F, PySem.W.mg_of X G a, F.kp, F.binds hb, .nil⟩
/-- a def that calls itself: the knot is tied level by level -/
theorem AtTop.dnR (t : AtTop K x qual st kws) (X : K.In h) (G : h.Ns mainGlobals mg)
    (hb : ∀ (kV doc pm : Value) (an : Option Addr) (cdv ct : Value) (us : List Value), us.length = ps.length → bindArgs (PySem.W.fnOf x qual (defArgs st) (defBody st) (defScope st) .none kV doc pm an cdv ct) ⟨us, []⟩ = pure (ps.zip us))
    (ok : ∀ (f : Addr) (fd : FuncData), Fun K x qual st f fd → (∀ (j : Nat) (sq : Sp), FnOk P w K mg base CX0 j f fd ps sq → Dn P w K mg base x j ps sq) → FnOk P w K mg base CX0 k f fd ps sp) : Dn P w K mg base x k ps sp := by
  obtain ⟨f, fd, a, F, _⟩ := t.ex
  have I : ∀ (j : Nat) (sq : Sp), FnOk P w K mg base CX0 j f fd ps sq → Dn P w K mg base x j ps sq := fun j sq g => ⟨f, fd, [], g, PySem.W.mg_of X G a, F.kp, F.binds hb, .nil⟩
  exact I k sp (ok f fd F I)
/-- called without its keywords: all the defaults -/
theorem AtTop.dd (t : AtTop K x qual st kws) (X : K.In h) (G : h.Ns mainGlobals mg) (n : Nat) (hk : kws ≠ []) (hn : n + kws.length = ps.length)
    (hb : ∀ (D : Addr) (doc pm : Value) (an : Option Addr) (cdv ct : Value) (us ks : List Value), us.length = n → ks.length = kws.length →
      KwChain D ((kws.map (·.1)).zip ks) (bindArgs (PySem.W.fnOf x qual (defArgs st) (defBody st) (defScope st) .none (.ref D) doc pm an cdv ct) ⟨us, []⟩) (ps.zip (us ++ ks)))
    (ok : ∀ (f : Addr) (fd : FuncData), Fun K x qual st f fd → FnOk P w K mg base CX0 k f fd ps sp) : Dn P w K mg base x k ps sp (kws.map (·.2)) := by
  obtain ⟨f, fd, a, F, FD⟩ := t.ex
  obtain ⟨ds, v, b⟩ := FD.binds0 n hk hn hb
  exact ⟨f, fd, ds, ok f fd F, PySem.W.mg_of X G a, F.kp, b, v⟩
/-- called with all its keywords, in their order -/
theorem AtTop.dk (t : AtTop K x qual st kws) (X : K.In h) (G : h.Ns mainGlobals mg) (n : Nat) (ks : List Str)
    (hb : ∀ (kV doc pm : Value) (an : Option Addr) (cdv ct : Value) (us ws : List Value), us.length = n → ws.length = ks.length → bindArgs (PySem.W.fnOf x qual (defArgs st) (defBody st) (defScope st) .none kV doc pm an cdv ct) ⟨us, ks.zip ws⟩ = pure (ps.zip (us ++ ws)))
    (ok : ∀ (f : Addr) (fd : FuncData), Fun K x qual st f fd → FnOk P w K mg base CX0 k f fd ps sp) : Dk P w K mg base x k ps sp n ks (fun vs zs => vs ++ zs) := by
  obtain ⟨f, fd, a, F, _⟩ := t.ex
  obtain ⟨oc, od, kV, doc, pm, an, cdv, ct, osl, rfl, lk, hcd⟩ := F.ex
  exact ⟨f, _, fun us ws => us ++ ws, ok f _ F, PySem.W.mg_of X G a, F.kp, ⟨fun s us ws _ l1 l2 => .of_eq (hb kV doc pm an cdv ct us ws l1 l2), fun r1 r2 => r1.append r2⟩⟩
/-- called with some of its keywords: of the rest the defaults -/
theorem AtTop.dkp (t : AtTop K x qual st kws) (X : K.In h) (G : h.Ns mainGlobals mg) (n : Nat) (ks : List Str) (ms : List (Str × V)) (sel : List (Sum Nat Nat)) (hk : kws ≠ []) (hms : ∀ q ∈ ms, q ∈ kws)
    (hb : ∀ (D : Addr) (doc pm : Value) (an : Option Addr) (cdv ct : Value) (us mv ws : List Value), us.length = n → mv.length = ms.length → ws.length = ks.length →
      KwChain D ((ms.map (·.1)).zip mv) (bindArgs (PySem.W.fnOf x qual (defArgs st) (defBody st) (defScope st) .none (.ref D) doc pm an cdv ct) ⟨us, ks.zip ws⟩) (ps.zip (pick sel us mv ws)))
    (ok : ∀ (f : Addr) (fd : FuncData), Fun K x qual st f fd → FnOk P w K mg base CX0 k f fd ps sp) : Dk P w K mg base x k ps sp n ks (kwp sel (ms.map (·.2))) := by
  obtain ⟨f, fd, a, F, FD⟩ := t.ex
  obtain ⟨mv, b⟩ := FD.kbinds0 (ps := ps) n ks ms (fun us mv ws => pick sel us mv ws) hk hms (fun r1 r2 r3 => pick_rel r1 r2 r3 sel) hb
  exact ⟨f, fd, _, ok f fd F, PySem.W.mg_of X G a, F.kp, b⟩
end
end Cl

open PySem L2 Cl
local macro_rules | `(tactic| walk_at "rd") => `(tactic| (repeat (first | refine ⟨_, rfl, ?_⟩ | refine ⟨_, _, rfl, rfl, ?_⟩ | refine ⟨_, _, rfl, ?_⟩ | refine ⟨_, _, _, rfl, ?_⟩ | refine ⟨_, _, _, _, rfl, ?_⟩ | refine ⟨.inr ⟨by decide, by decide⟩, ?_⟩ | refine ⟨.inl ⟨by decide, by decide⟩, ?_⟩ | refine ⟨⟨by decide, by decide⟩, ?_⟩ | refine ⟨⟨by decide, by decide, by decide⟩, ?_⟩ | refine ⟨(by show (0 : Int) < _; decide), ?_⟩ | refine ⟨rfl, ?_⟩ | refine .inl ⟨_, rfl, ?_⟩ | refine .inr ⟨_, rfl, ?_⟩)))
/-! ### my rules: own __len__, __add__, __eq__, static methods, C(*xs) -/
namespace Cl
open StX ClX PyProof.Rows
section
variable {X : Cx} {CX : CXT} {k : Nat} {C f p g : Addr} {mc : Value} {fd : FuncData} {ps : List Str} {sp : Sp} {dvs : List V} {ds : List Value} {E : XK} {x m : Str} {pn pos apos : Pos} {e o : Expr} {es : List Expr} {te ta : TE} {t : TA} {pl : Sem Bool}
theorem call_lenO (F : FnOk X.prog X.w X.K X.mg X.base CX k f fd ps sp) (hr : Room (k + 1) X.A) (hs : PySem.W.findIn X.K (.ref C) "__len__" = some (some (.ref f))) (hf : PySem.W.isFn X.K (.ref f) = true) (hb : Binds X.K fd ps []) (hx : Passes CX X E) :
    CallR X (.builtin "len") (fun xs H Q => ∃ a dx fs, xs = [.ref a] ∧ H a = some (.ins C dx fs) ∧ sp [.ref a] H (fun v H' => ∃ n : Nat, v = .int n ∧ n < 4611686018427387904 ∧ Q (.int n) H') E) := by
  intro pins s σ H xs us Q I r h
  obtain ⟨a, dx, fs, rfl, ha, hq⟩ := h
  obtain ⟨u, rfl, r1⟩ := vals1 r
  cases r1
  obtain ⟨mA, O, _⟩ := ins_get I.hok ha
  obtain ⟨od, J, _⟩ := O.look
  obtain ⟨mm, hF⟩ := I.fr
  have hl := F.len _ _ _ _ hq
  refine PySem.W.len_K hF I.ok.mod.kin J hs hf ?_
  refine wpAny_call (codeAny_mono (F.run X.A.in1 X.stack s H ⟨[.ref a], []⟩ [.ref a] [.ref a] _ E hr.in1 I.env0.in1 (by
    have := hb s [.ref a] I.kIn (by simpa using hl)
    simpa using this) (.cons rfl .nil) hq) fun r s' hq => ?_)
  cases r with
  | error e => exact hx pins σ H s e s' I hq
  | ok fl =>
    cases fl with
    | ret w =>
      obtain ⟨z, H', I', rz, n, ez, hn, q⟩ := I.after hq
      subst ez
      obtain ⟨tk, rfl⟩ := rz
      exact ⟨⟨by omega, by omega⟩, .int n, H', I'.tok _, ⟨_, rfl⟩, q⟩
    | next => exact False.elim hq
    | brk => exact False.elim hq
    | cont => exact False.elim hq
theorem notNI {v : V} {u : Value} {Q : Value → Shared → Prop} {s : Shared} (r : RelV v u) (q : Q u s) : PySem.W.CmpBack Q u s := by
  cases v with
  | non => cases r; exact q
  | bl b => cases r; exact q
  | int i => obtain ⟨t, rfl⟩ := r; exact q
  | str i => obtain ⟨t, rfl⟩ := r; exact q
  | byt i => obtain ⟨t, rfl⟩ := r; exact q
  | flt i => obtain ⟨t, rfl⟩ := r; exact q
  | ref a => cases r; exact q
  | ty n => cases r; exact q
def rOwn2 (C : Addr) (sp : Sp) (E : XK) : R2 := fun x y H Q => ∃ a b dx dy fs gs, x = .ref a ∧ y = .ref b ∧ H a = some (.ins C dx fs) ∧ H b = some (.ins C dy gs) ∧ sp [.ref a, .ref b] H Q E
theorem op_addO (F : FnOk X.prog X.w X.K X.mg X.base CX k f fd ps sp) (hr : Room k X.A) (hc : PySem.W.selfFirst X.K C = true) (hs : PySem.W.findIn X.K (.ref C) "__add__" = some (some (.ref f))) (hf : PySem.W.isFn X.K (.ref f) = true) (hb : Binds X.K fd ps []) (hx : Passes CX X E) :
    OpR X (binaryOp .Add) (rOwn2 C sp E) := by
  intro pins s σ H x y v u Q I rx ry h
  obtain ⟨a, b, dx, dy, fs, gs, rfl, rfl, ha, hb2, hq⟩ := h
  cases rx
  cases ry
  obtain ⟨mA, J, _⟩ := ins_get I.hok ha
  obtain ⟨mB, J', _⟩ := ins_get I.hok hb2
  obtain ⟨od, J, _⟩ := J.look
  obtain ⟨od', J', _⟩ := J'.look
  obtain ⟨mm, hF⟩ := I.fr
  refine PySem.W.binop_K (op := .Add) hF I.ok.mod.kin J J'.type hc hs hf ?_
  exact thn (run_fn (us := [.ref a, .ref b]) (vs := [.ref a, .ref b]) (dvs := []) (ds := []) F hr hb .nil hx I (.cons rfl (.cons rfl .nil)) hq) fun w s' hw => by
    obtain ⟨z, H', I', rz, q⟩ := hw
    exact notNI rz ⟨z, H', I', rz, q⟩
theorem op_eqO (F : FnOk X.prog X.w X.K X.mg X.base CX k f fd ps sp) (hr : Room k X.A) (hs : PySem.W.findIn X.K (.ref C) "__eq__" = some (some (.ref f))) (hf : PySem.W.isFn X.K (.ref f) = true) (hb : Binds X.K fd ps []) (hx : Passes CX X E) :
    OpR X (compareOp .Eq) (rOwn2 C sp E) := by
  intro pins s σ H x y v u Q I rx ry h
  obtain ⟨a, b, dx, dy, fs, gs, rfl, rfl, ha, hb2, hq⟩ := h
  cases rx
  cases ry
  obtain ⟨mA, J, _⟩ := ins_get I.hok ha
  obtain ⟨mB, J', _⟩ := ins_get I.hok hb2
  obtain ⟨od, J, _⟩ := J.look
  obtain ⟨od', J', _⟩ := J'.look
  obtain ⟨mm, hF⟩ := I.fr
  show wpAny (model X.prog X.w) X.A (richCompare .Eq (.ref a) (.ref b)) (EP X pins σ Q) X.xe s
  refine PySem.W.cmp_K (op := .Eq) (tb := .ref C) hr.units0 hF I.ok.mod.kin J J'.type (by simp [PySem.W.notFirst]) hs hf ?_
  exact thn (run_fn (us := [.ref a, .ref b]) (vs := [.ref a, .ref b]) (dvs := []) (ds := []) F hr hb .nil hx I (.cons rfl (.cons rfl .nil)) hq) fun w s' hw => by
    obtain ⟨z, H', I', rz, q⟩ := hw
    exact notNI rz ⟨z, H', I', rz, q⟩
/-- C.m is a static method: its record at p, its def at g -/
structure SMet (K : PySem.W.Frag) (C : Addr) (mc : Value) (m : Str) (p g : Addr) : Prop where
  at_ : PySem.W.findCls K (.ref C) mc m = some (.get (.builtin "staticmethod.__get__") (.ref p) .none (.ref C))
  rc : ∃ rest, PySem.W.recIn K p "staticmethod" = some (.ref g :: rest)
def tSMeth (C : Addr) (sp : Sp) (dvs : List V) (E : XK) (ta : TE) (t : TA) : TE := fun σ H Q => ta σ H fun x H1 => x = .ref C ∧ t σ H1 fun vs H2 => sp (vs ++ dvs) H2 Q E
theorem pe_smeth (he : PE X o ta) (r : CRead X.K C mc) (c : SMet X.K C mc m p f) (F : FnOk X.prog X.w X.K X.mg X.base CX k f fd ps sp) (hr : Room k X.A) (hk : PySem.W.keepIn X.K (.ref f) = true) (hb : Binds X.K fd ps ds) (hd : Vals dvs ds) (hx : Passes CX X E) (ha : PA X (e :: es) t)
    (hst : starEach (e :: es) X.env = (false, eval e X.env) :: starEach es X.env := by rfl) (hpl : (backTo pos (starEach es X.env)).any (·.1) = false := by rfl)
    (ht : eval (.Call (.Attribute o m apos) (e :: es) [] pos) X.env = (do
      let ov ← eval o X.env
      standAt apos.atName
      let (f, first) ← holding [ov] (getMethod ov m pl)
      callWith pos f first (backTo pos (starEach (e :: es) X.env)) (backToKw pos (keywordEach [] X.env))) := by rfl) :
    PE X (.Call (.Attribute o m apos) (e :: es) [] pos) (tSMeth C sp dvs E ta t) := by
  refine ⟨fun pins s σ H Q I h => ?_⟩
  refine PySem.W.methodCall_KW (pl := pl) (thn (he.run pins s σ H _ I h) fun u s1 ⟨x, H1, I1, rx, ex, q⟩ => ?_) ht
  subst ex
  obtain rfl : u = Value.ref C := rx
  obtain ⟨rest, hp⟩ := c.rc
  refine PySem.W.method_cls I1.kIn r.ga ?_
  refine PySem.W.cls_bind I1.kIn r.rd c.at_ ?_
  refine wpAny_call (PySem.W.sm_get (s := { s1 with toks := s1.toks + 1 }) I1.kIn hp ?_)
  refine PySem.W.handed_on rfl ?_
  refine PySem.W.callWith_K (h₀ := X.base) I.ok.mod.kin hk (thn (ha.run pos pins _ σ H1 _ (I1.tok _) q) fun us s2 ⟨vs, H2, I2, r2, q2⟩ => ⟨I2.kIn, ?_⟩) hst hpl
  exact run_fn F hr hb hd hx I2 r2 q2
def tMakeS (K : PySem.W.Frag) (C : Addr) (sp : Sp) (E : XK) (te : TE) : TE := fun σ H Q => te σ H fun y H1 => ∃ a xs, y = V.ref a ∧ (SqT K H1 a xs ∨ SqL K H1 a xs) ∧
  ∀ x dx, H1 x = Option.none → H1 dx = Option.none → dx ≠ x → sp (V.ref x :: xs) (upd (upd H1 dx (.own x)) x (.ins C dx [])) (fun v H2 => v = .non ∧ Q (.ref x) H2) E
theorem pe_makeS {sp_ : Pos} (M : Mk X.K C f) (F : FnR X.prog X.w X.K X.mg X.base CX k f sp) (hr : Room (k + 1) X.A) (hg : Gl X x) (hm : X.mg x = some (.ref C)) (hx : Passes CX X E) (he : PE X e te) (hdb : (x == ("__debug__" : Str)) = false := by decide)
    (hst : starEach [.Starred e sp_] X.env = [(true, eval e X.env)] := by rfl) : PE X (.Call (.Name x pn) [.Starred e sp_] [] pos) (tMakeS X.K C sp E te) := by
  refine ⟨fun pins s σ H Q I h => ?_⟩
  refine wpAny_Call_Name_kw (ld_glob I hg hm ?_ hdb)
  refine PySem.W.callWith_S (h₀ := X.base) I.ok.mod.kin M.kp (thn (he.run pins s σ H _ I h) fun v s1 ⟨y, H1, I1, ry, a, xs, ey, hxs, q⟩ => ?_) hst
  subst ey
  obtain rfl : v = Value.ref a := ry
  exact star_any I1 hxs fun us s2 I2 rv => ⟨I2.kIn, run_makeR M F hr hx I2 rv q⟩
/-- sum(t) of a tuple of ints -/
def rSumT (K : PySem.W.Frag) : List V → Hp → VK → Prop := fun vs H Q => ∃ (a : Addr) (ns : List Int), vs = [V.ref a] ∧ SqT K H a (ns.map V.int) ∧ Q (.int ns.sum) H
theorem cr_sumT (hc : X.calm = true) : CallR X (.builtin "sum") (rSumT X.K) := by
  intro pins s σ H vs us Q I r h
  obtain ⟨a, ns, rfl, hs, q⟩ := h
  obtain ⟨its, rv, hl, _⟩ := I.tuple hs
  rw [Vals.ref1 r]
  have hi := rv.ints
  obtain ⟨xs, e⟩ := hi.allInts.items
  have hn : numsOf (intItems xs).toList = ns := by rw [← e]; exact hi.numsOf
  rw [nums_intItems] at hn
  rw [e] at hl
  refine PySem.W.ktm_sumG (I.ok.hd hc) hl fun h' tk t' hk => ?_
  rw [preSum_eq, List.take_of_length_le (by simp), hn]
  exact ⟨.int _, H, I.kept hk, ⟨_, rfl⟩, q⟩
/-! rules that say a new tuple by what can be read of it -/
def rSlE (K : PySem.W.Frag) : V → Option Int → Option Int → Hp → VK → Prop := fun x lo hi H Q => ∃ a xs, x = .ref a ∧ SqT K H a xs ∧ ∀ p H', SqT K H' p (cutV xs lo hi) → Same H H' → Q (.ref p) H'
theorem sl_tupE : SlR X (rSlE X.K) := by
  intro pins s σ H x v vl vu lo hi sl Q I rx hs pl pu h
  refine sl_tupA pins s σ H x v vl vu lo hi sl Q I rx hs pl pu ?_
  obtain ⟨a, xs, e, ha, q⟩ := h
  refine ⟨a, xs, e, ha, fun hw => ?_, fun _ p hp => ?_⟩
  · refine q a H ?_ (Same.refl H)
    obtain ⟨h1, h2⟩ := hw
    unfold cutV
    rw [h1, h2, Nat.sub_zero, List.drop_zero, List.take_length]
    exact ha
  · exact q p _ (SqT.of upd_same) (Same.upd hp)
def rCatE (K : PySem.W.Frag) : R2 := fun x y H Q => ∃ a b xs ys, x = .ref a ∧ y = .ref b ∧ SqT K H a xs ∧ SqT K H b ys ∧ xs.length + ys.length ≤ 10000 ∧ ∀ p H', SqT K H' p (xs ++ ys) → Same H H' → Q (.ref p) H'
theorem op_catE : OpR X (binaryOp .Add) (rCatE X.K) := by
  intro pins s σ H x y v u Q I rx ry h
  refine op_catA pins s σ H x y v u Q I rx ry ?_
  obtain ⟨a, b, xs, ys, e1, e2, ha, hb, hl, q⟩ := h
  refine ⟨a, b, xs, ys, e1, e2, ha, hb, Nat.le_trans hl (by decide), fun h1 => ?_, fun _ h2 => ?_, fun _ _ p hp => ?_⟩
  · exact q b H (by rw [h1]; exact hb) (Same.refl H)
  · exact q a H (by rw [h2, List.append_nil]; exact ha) (Same.refl H)
  · exact q p _ (SqT.of upd_same) (Same.upd hp)
end
/-! ### a class's defs by their names -/
structure ClsC (K : PySem.W.Frag) (mg : Str → Option Value) (x : Str) (C : Addr) : Prop where
  cl : Cls K C
  mg : mg x = some (.ref C)
  ic : C8.InsC K C
  sf : PySem.W.selfFirst K C = true
structure Mn (P : Program) (w : World) (K : PySem.W.Frag) (mg : Str → Option Value) (base : Heap) (C : Addr) (m : Str) (k : Nat) (ps : List Str) (sp : Sp) : Prop where
  ex : ∃ (f : Addr) (fd : FuncData), Meth K C m f ∧ FnOk P w K mg base CX0 k f fd ps sp ∧ Binds K fd ps []
structure Pn (P : Program) (w : World) (K : PySem.W.Frag) (mg : Str → Option Value) (base : Heap) (C : Addr) (m : Str) (k : Nat) (sp : Sp) : Prop where
  ex : ∃ (p g : Addr) (fd : FuncData), PropOf K C m p g ∧ FnOk P w K mg base CX0 k g fd ["self"] sp ∧ Binds K fd ["self"] []
structure Sn (P : Program) (w : World) (K : PySem.W.Frag) (mg : Str → Option Value) (base : Heap) (C : Addr) (m : Str) (k : Nat) (ps : List Str) (sp : Sp) : Prop where
  ex : ∃ (p f : Addr) (fd : FuncData) (mc : Value), CRead K C mc ∧ SMet K C mc m p f ∧ FnOk P w K mg base CX0 k f fd ps sp ∧ PySem.W.keepIn K (.ref f) = true ∧ Binds K fd ps []
structure Cn (P : Program) (w : World) (K : PySem.W.Frag) (mg : Str → Option Value) (base : Heap) (C : Addr) (k : Nat) (sp : Sp) : Prop where
  ex : ∃ (f : Addr), Mk K C f ∧ FnR P w K mg base CX0 k f sp
structure On (P : Program) (w : World) (K : PySem.W.Frag) (mg : Str → Option Value) (base : Heap) (C : Addr) (m : Str) (k : Nat) (ps : List Str) (sp : Sp) : Prop where
  ex : ∃ (f : Addr) (fd : FuncData), PySem.W.findIn K (.ref C) m = some (some (.ref f)) ∧ PySem.W.isFn K (.ref f) = true ∧ FnOk P w K mg base CX0 k f fd ps sp ∧ Binds K fd ps []
section
variable {X : Cx} {k : Nat} {C : Addr} {ps : List Str} {sp : Sp} {E : XK} {x m : Str} {pn pos apos : Pos} {e o : Expr} {es : List Expr} {te ta : TE} {t : TA} {pl : Sem Bool}
theorem pe_cls (c : ClsC X.K X.mg x C) (hg : Gl X x) (hd : (x == ("__debug__" : Str)) = false := by decide) : PE X (.Name x pos) (tC (.ref C)) := pe_glob (v := .ref C) hg c.mg rfl hd
theorem pe_mn (D : Mn X.prog X.w X.K X.mg X.base C m k ps sp) (cl : Cls X.K C) (hr : Room k X.A) (hx : Passes CX0 X E) (he : PE X o ta) (ha : PA X (e :: es) t)
    (hst : starEach (e :: es) X.env = (false, eval e X.env) :: starEach es X.env := by rfl) (hpl : (backTo pos (starEach es X.env)).any (·.1) = false := by rfl)
    (ht : eval (.Call (.Attribute o m apos) (e :: es) [] pos) X.env = (do
      let ov ← eval o X.env
      standAt apos.atName
      let (f, first) ← holding [ov] (getMethod ov m pl)
      callWith pos f first (backTo pos (starEach (e :: es) X.env)) (backToKw pos (keywordEach [] X.env))) := by rfl) :
    PE X (.Call (.Attribute o m apos) (e :: es) [] pos) (tMeth C m sp [] E ta t) := by
  obtain ⟨f, fd, M, F, b⟩ := D.ex
  exact pe_meth (pl := pl) he cl M F hr b .nil hx ha hst hpl ht
theorem pe_mn0 (D : Mn X.prog X.w X.K X.mg X.base C m k ps sp) (cl : Cls X.K C) (hr : Room k X.A) (hx : Passes CX0 X E) (he : PE X o ta)
    (ht : eval (.Call (.Attribute o m apos) [] [] pos) X.env = (do
      let ov ← eval o X.env
      standAt apos.atName
      let (f, first) ← holding [ov] (getMethod ov m pl)
      callWith pos f first (backTo pos (starEach [] X.env)) (backToKw pos (keywordEach [] X.env))) := by rfl) :
    PE X (.Call (.Attribute o m apos) [] [] pos) (tMeth C m sp [] E ta tNil) := by
  obtain ⟨f, fd, M, F, b⟩ := D.ex
  exact pe_meth0 (pl := pl) he cl M F hr b .nil hx ht
theorem pe_pn (D : Pn X.prog X.w X.K X.mg X.base C m k sp) (cl : Cls X.K C) (hr : Room (k + 1) X.A) (he : PE X o ta) (hab : attributeBase o m X.env (eval o X.env) = eval o X.env := by rfl) : PE X (.Attribute o m pos) (tProp C sp [] E0 ta) := by
  obtain ⟨p, g, fd, hp, F, b⟩ := D.ex
  exact pe_prop he cl hp F hr b .nil pass0 hab
theorem pe_sn (D : Sn X.prog X.w X.K X.mg X.base C m k ps sp) (hr : Room k X.A) (hx : Passes CX0 X E) (he : PE X o ta) (ha : PA X (e :: es) t)
    (hst : starEach (e :: es) X.env = (false, eval e X.env) :: starEach es X.env := by rfl) (hpl : (backTo pos (starEach es X.env)).any (·.1) = false := by rfl)
    (ht : eval (.Call (.Attribute o m apos) (e :: es) [] pos) X.env = (do
      let ov ← eval o X.env
      standAt apos.atName
      let (f, first) ← holding [ov] (getMethod ov m pl)
      callWith pos f first (backTo pos (starEach (e :: es) X.env)) (backToKw pos (keywordEach [] X.env))) := by rfl) :
    PE X (.Call (.Attribute o m apos) (e :: es) [] pos) (tSMeth C sp [] E ta t) := by
  obtain ⟨p, f, fd, mc, r, c, F, kp, b⟩ := D.ex
  exact pe_smeth (pl := pl) he r c F hr kp b .nil hx ha hst hpl ht
theorem pe_mkR (D : Cn X.prog X.w X.K X.mg X.base C k sp) (hr : Room (k + 1) X.A) (hg : Gl X x) (hm : X.mg x = some (.ref C)) (hx : Passes CX0 X E) (ha : PA X (e :: es) t) (hdb : (x == ("__debug__" : Str)) = false := by decide)
    (he : starEach (e :: es) X.env = (false, eval e X.env) :: starEach es X.env := by rfl) (hpl : (backTo pos (starEach es X.env)).any (·.1) = false := by rfl) : PE X (.Call (.Name x pn) (e :: es) [] pos) (tMakeR C sp E t) := by
  obtain ⟨f, M, F⟩ := D.ex
  exact pe_makeR M F hr hg hm hx ha hdb he hpl
theorem pe_mkS {sp_ : Pos} (D : Cn X.prog X.w X.K X.mg X.base C k sp) (hr : Room (k + 1) X.A) (hg : Gl X x) (hm : X.mg x = some (.ref C)) (hx : Passes CX0 X E) (he : PE X e te) (hdb : (x == ("__debug__" : Str)) = false := by decide)
    (hst : starEach [.Starred e sp_] X.env = [(true, eval e X.env)] := by rfl) : PE X (.Call (.Name x pn) [.Starred e sp_] [] pos) (tMakeS X.K C sp E te) := by
  obtain ⟨f, M, F⟩ := D.ex
  exact pe_makeS M F hr hg hm hx he hdb hst
theorem op_addN (D : On X.prog X.w X.K X.mg X.base C "__add__" k ps sp) (c : ClsC X.K X.mg x C) (hr : Room k X.A) : OpR X (binaryOp .Add) (rOwn2 C sp E0) := by
  obtain ⟨f, fd, a, i, F, b⟩ := D.ex
  exact op_addO F hr c.sf a i b pass0
theorem op_eqN (D : On X.prog X.w X.K X.mg X.base C "__eq__" k ps sp) (hr : Room k X.A) : OpR X (compareOp .Eq) (rOwn2 C sp E0) := by
  obtain ⟨f, fd, a, i, F, b⟩ := D.ex
  exact op_eqO F hr a i b pass0
def rLenO (C : Addr) (sp : Sp) : List V → Hp → VK → Prop := fun xs H Q => ∃ a dx fs, xs = [.ref a] ∧ H a = some (.ins C dx fs) ∧ sp [.ref a] H (fun v H' => ∃ n : Nat, v = .int n ∧ n < 4611686018427387904 ∧ Q (.int n) H') E0
theorem call_lenN (D : On X.prog X.w X.K X.mg X.base C "__len__" k ps sp) (hr : Room (k + 1) X.A) : CallR X (.builtin "len") (rLenO C sp) := by
  obtain ⟨f, fd, a, i, F, b⟩ := D.ex
  exact call_lenO F hr a i b pass0
/-! a range kept as a value, walked -/
def iRngV (tl : TE) : TI := fun σ H R => tl σ H fun x H1 => ∃ a lo hi, x = .ref a ∧ H1 a = some (.rng lo hi) ∧ (-(2 ^ 62) ≤ lo ∧ lo < 2 ^ 62 ∧ -(2 ^ 62) ≤ hi ∧ hi < 2 ^ 62) ∧ R (Itr lo (hi - lo).toNat) H1
theorem pi_rng {tg l : Expr} {tl : TE} (hl : PE X l tl) : PI X tg l (iRngV tl) := by
  refine ⟨fun pins s σ H R I h => ?_⟩
  refine thn (hl.run pins s σ H _ I h) fun v s1 ⟨x, H1, I1, r1, q1⟩ => ?_
  obtain ⟨a, lo, hi, e, ha, ⟨h1, h2, h3, h4⟩, q⟩ := q1
  subst e
  cases r1
  obtain ⟨t, u, w', hg⟩ := I1.hok a _ ha
  refine wpAny_pyIter_range (show IsRange _ _ _ _ _ _ _ _ from hg) (small_one h1 h2 h3 h4) ?_
  refine ⟨s1.heap.objs.size, [s1.heap.objs.size], _, _, H1, rfl, I1.kept (t' := s1.toks) fun b o e => Heap.get?_push_of_some _ e, turn_range _ lo (hi - lo).toNat, ?_, fun b hb => ?_, q⟩
  · have e1 : lo + ((0 : Nat) : Int) * 1 = lo := by simp
    have e2 : (((hi - lo).toNat : Nat) : Int) - ((0 : Nat) : Int) = Builtin.Range.rangeSize lo hi 1 := by rw [rangeSize_one]; split <;> omega
    show IsRangeIter _ _ (lo + ((0 : Nat) : Int) * 1) ((((hi - lo).toNat : Nat) : Int) - ((0 : Nat) : Int)) 1
    rw [e1, e2]
    exact Heap.get?_push_size _ rfl
  · have e : b = s1.heap.objs.size := by simpa using hb
    subst e
    exact I1.fpOk (Nat.le_refl _) (I1.hok.fresh (Nat.le_refl _))
/-! the rules that name the written part, with its name given (for the element of a comprehension) -/
theorem ix_listK (K : PySem.W.Frag) (h : X.K = K := by rfl) : IxR X (rIxL K) := h ▸ ix_list
theorem ix_tupK (K : PySem.W.Frag) (h : X.K = K := by rfl) : IxR X (rIxT K) := h ▸ ix_tup
def rLenK (K : PySem.W.Frag) : List V → Hp → VK → Prop := fun xs H Q => ∃ p ys, xs = [.ref p] ∧ (SqL K H p ys ∨ SqT K H p ys) ∧ Q (.int ys.length) H
theorem call_lenK (K : PySem.W.Frag) (h : X.K = K := by rfl) : CallR X (.builtin "len") (rLenK K) := h ▸ call_len_seq
theorem cr_sumK (K : PySem.W.Frag) (hc : X.calm = true) (h : X.K = K := by rfl) : CallR X (.builtin "sum") (rSum K) := h ▸ cr_sum hc
theorem cr_minK (K : PySem.W.Frag) (hc : X.calm = true) (h : X.K = K := by rfl) : CallR X (.builtin "min") (rMin K) := h ▸ cr_min hc
theorem call_isiK (K : PySem.W.Frag) (h : X.K = K := by rfl) : CallR X (.builtin "isinstance") (rIsi K) := h ▸ call_isi
theorem op_eqDK (K : PySem.W.Frag) (hu : X.A.units + 64 < cLine) (h : X.K = K := by rfl) : OpR X (compareOp .Eq) (rEqD K) := h ▸ op_eqD hu
def rIsqrt : List V → Hp → VK → Prop := fun vs H Q => ∃ a : Int, vs = [.int a] ∧ 0 ≤ a ∧ a < 2 ^ 64 ∧ ∀ r : Nat, r * r ≤ a.toNat → a.toNat < (r + 1) * (r + 1) → Q (.int (r : Int)) H
theorem cr_isqrt : CallR X (.builtin "math.isqrt") rIsqrt := by
  intro pins s σ H vs us Q I r h
  obtain ⟨a, rfl, h0, h1, q⟩ := h
  obtain ⟨u, rfl, t, rfl⟩ := Vals.one r
  have sp := PySem.Float64.isqrt_spec a.toNat
  exact PySem.W.mg_isqrt h0 h1 ⟨.int _, H, I.tok _, ⟨_, rfl⟩, q _ sp.1 sp.2⟩
theorem sl_listK (K : PySem.W.Frag) (h : X.K = K := by rfl) : SlR X (rSlL K) := h ▸ sl_list
theorem pe_fldK (K : PySem.W.Frag) {f : Str} (he : PE X e ta) (hb : attributeBase e f X.env (eval e X.env) = eval e X.env) (h : X.K = K := by rfl) : PE X (.Attribute e f pos) (tFld K ta f) := h ▸ pe_fld he hb
end
/-! ### what the top has written of a class -/
structure AtC (K : PySem.W.Frag) (x : Str) (C : Addr) : Prop where
  at_ : PySem.W.nsIn K mainGlobals x = some (some (.ref C))
  cl : Cls K C
  ic : C8.InsC K C
  sf : PySem.W.selfFirst K C = true
  made : PySem.W.makesIn K C = true
  kp : PySem.W.keepIn K (.ref C) = true
theorem atC {K : PySem.W.Frag} {x : Str} {C : Addr} (a : PySem.W.nsIn K mainGlobals x = some (some (.ref C))) (pg : PySem.W.plainGet K C Str.empty = true) (hd : PySem.W.hasDictIn K C = true) (po : PySem.W.plainOver K C = true) (sa : PySem.W.findIn K (.ref C) "__setattr__" = some (some (.builtin "object.__setattr__")))
    (ha : PySem.W.findIn K (.ref C) "__class__" = some (some (.builtin "object.__class__"))) (hn : PySem.W.specialIn K (.builtin "object.__class__") "__get__" = some (some (.builtin "getset_descriptor.__get__"))) (htk : PySem.W.takesIn K (.builtin "object.__class__") = some true)
    (hm : PySem.W.mroIn K C (.type "object") = some true) (sf : PySem.W.selfFirst K C = true) (mk : PySem.W.makesIn K C = true) (kp : PySem.W.keepIn K (.ref C) = true) : AtC K x C :=
  ⟨a, ⟨pg, hd, po, sa⟩, ⟨⟨pg, hd, po, sa⟩, ha, hn, htk, hm, by unfold PySem.W.kitOne; simp⟩, sf, mk, kp⟩
structure AtCls (K : PySem.W.Frag) (C : Addr) (m qual : Str) (st : Stmt) : Prop where
  ex : ∃ (f : Addr) (fd : FuncData), PySem.W.findIn K (.ref C) m = some (some (.ref f)) ∧ PySem.W.isFn K (.ref f) = true ∧ Fun K m qual st f fd
theorem atCls {K : PySem.W.Frag} {C f : Addr} {m qual : Str} {st : Stmt} {oc : Value} {od an : Option Addr} {osl : Array (Option Value)} {kV doc pm cdv ct : Value} (a : PySem.W.findIn K (.ref C) m = some (some (.ref f))) (i : PySem.W.isFn K (.ref f) = true)
    (l : K.lookup f = some ⟨oc, od, .func (PySem.W.fnOf m qual (defArgs st) (defBody st) (defScope st) .none kV doc pm an cdv ct), osl⟩) (c : PySem.W.codeIn K cdv qual = true) (p : PySem.W.keepIn K (.ref f) = true) : AtCls K C m qual st :=
  ⟨f, _, a, i, fun_mk l c p⟩
structure AtProp (K : PySem.W.Frag) (C : Addr) (m qual : Str) (st : Stmt) : Prop where
  ex : ∃ (p g : Addr) (fd : FuncData), PropOf K C m p g ∧ Fun K m qual st g fd
theorem atProp {K : PySem.W.Frag} {C p g : Addr} {m qual : Str} {st : Stmt} {oc : Value} {od an : Option Addr} {osl : Array (Option Value)} {kV doc pm cdv ct : Value} {rest : List Value} (a : PySem.W.findIn K (.ref C) m = some (some (.ref p))) (gt : PySem.W.specialIn K (.ref p) "__get__" = some (some (.builtin "property.__get__")))
    (tk : PySem.W.takesIn K (.ref p) = some true) (rc : PySem.W.recIn K p "property" = some (.ref g :: rest))
    (l : K.lookup g = some ⟨oc, od, .func (PySem.W.fnOf m qual (defArgs st) (defBody st) (defScope st) .none kV doc pm an cdv ct), osl⟩) (c : PySem.W.codeIn K cdv qual = true) (kp : PySem.W.keepIn K (.ref g) = true) : AtProp K C m qual st :=
  ⟨p, g, _, ⟨a, gt, tk, _, rc⟩, fun_mk l c kp⟩
structure AtStat (K : PySem.W.Frag) (C : Addr) (m qual : Str) (st : Stmt) : Prop where
  ex : ∃ (p g : Addr) (fd : FuncData) (mc : Value), CRead K C mc ∧ SMet K C mc m p g ∧ Fun K m qual st g fd
theorem atStat {K : PySem.W.Frag} {C p g : Addr} {m qual : Str} {st : Stmt} {oc mc : Value} {od an : Option Addr} {osl : Array (Option Value)} {kV doc pm cdv ct : Value} {rest : List Value} (_ty : PySem.W.typeIn K (.ref C) = some mc) (rd : PySem.W.readsIn K C mc = true)
    (ga : PySem.W.specialIn K (.ref C) "__getattribute__" = some (some (.builtin "type.__getattribute__"))) (fc : PySem.W.findCls K (.ref C) mc m = some (.get (.builtin "staticmethod.__get__") (.ref p) .none (.ref C))) (rc : PySem.W.recIn K p "staticmethod" = some (.ref g :: rest))
    (l : K.lookup g = some ⟨oc, od, .func (PySem.W.fnOf m qual (defArgs st) (defBody st) (defScope st) .none kV doc pm an cdv ct), osl⟩) (c : PySem.W.codeIn K cdv qual = true) (kp : PySem.W.keepIn K (.ref g) = true) : AtStat K C m qual st :=
  ⟨p, g, _, mc, ⟨rd, ga⟩, ⟨fc, _, rc⟩, fun_mk l c kp⟩
theorem cvAt {K : PySem.W.Frag} {C : Addr} {m : Str} {v : V} {mc u : Value} (_ty : PySem.W.typeIn K (.ref C) = some mc) (rd : PySem.W.readsIn K C mc = true)
    (ga : PySem.W.specialIn K (.ref C) "__getattribute__" = some (some (.builtin "type.__getattribute__"))) (fc : PySem.W.findCls K (.ref C) mc m = some (.val u)) (r : RelV v u) : ∃ mc u, CRead K C mc ∧ CVal K C mc m v u := ⟨mc, u, ⟨rd, ga⟩, ⟨fc, r⟩⟩
section
variable {P : Program} {w : World} {K : PySem.W.Frag} {mg : Str → Option Value} {base : Heap} {C : Addr} {x m qual : Str} {st : Stmt} {ps : List Str} {k : Nat} {sp : Sp} {h : Heap}
theorem AtC.cc (t : AtC K x C) (X : K.In h) (G : h.Ns mainGlobals mg) : ClsC K mg x C := ⟨t.cl, PySem.W.mg_of X G t.at_, t.ic, t.sf⟩
abbrev Bd (m qual : Str) (st : Stmt) (ps : List Str) : Prop := ∀ (kV doc pm : Value) (an : Option Addr) (cdv ct : Value) (us : List Value), us.length = ps.length → bindArgs (PySem.W.fnOf m qual (defArgs st) (defBody st) (defScope st) .none kV doc pm an cdv ct) ⟨us, []⟩ = pure (ps.zip us)
theorem AtCls.mn (t : AtCls K C m qual st) (hb : Bd m qual st ps) (ok : ∀ (f : Addr) (fd : FuncData), Fun K m qual st f fd → FnOk P w K mg base CX0 k f fd ps sp) : Mn P w K mg base C m k ps sp := by
  obtain ⟨f, fd, a, i, F⟩ := t.ex
  exact ⟨f, fd, ⟨a, i, F.kp⟩, ok f fd F, F.binds hb⟩
theorem AtCls.on (t : AtCls K C m qual st) (hb : Bd m qual st ps) (ok : ∀ (f : Addr) (fd : FuncData), Fun K m qual st f fd → FnOk P w K mg base CX0 k f fd ps sp) : On P w K mg base C m k ps sp := by
  obtain ⟨f, fd, a, i, F⟩ := t.ex
  exact ⟨f, fd, a, i, ok f fd F, F.binds hb⟩
theorem AtCls.cn (t : AtCls K C "__init__" qual st) (c : AtC K x C) (ok : ∀ (f : Addr) (fd : FuncData), Fun K "__init__" qual st f fd → FnR P w K mg base CX0 k f sp) : Cn P w K mg base C k sp := by
  obtain ⟨f, fd, a, i, F⟩ := t.ex
  exact ⟨f, ⟨c.made, a, i, c.kp⟩, ok f fd F⟩
theorem AtProp.pn (t : AtProp K C m qual st) (hb : Bd m qual st ["self"]) (ok : ∀ (f : Addr) (fd : FuncData), Fun K m qual st f fd → FnOk P w K mg base CX0 k f fd ["self"] sp) : Pn P w K mg base C m k sp := by
  obtain ⟨p, g, fd, a, F⟩ := t.ex
  exact ⟨p, g, fd, a, ok g fd F, F.binds hb⟩
theorem AtStat.sn (t : AtStat K C m qual st) (hb : Bd m qual st ps) (ok : ∀ (f : Addr) (fd : FuncData), Fun K m qual st f fd → FnOk P w K mg base CX0 k f fd ps sp) : Sn P w K mg base C m k ps sp := by
  obtain ⟨p, g, fd, mc, r, c, F⟩ := t.ex
  exact ⟨p, g, fd, mc, r, c, ok g fd F, F.kp, F.binds hb⟩
end
end Cl

/-! ### repr(a list of ints), whatever guards stand around -/
namespace Cl
open PySem
def held (g : List Code) (a : Addr) : Prop := ∃ (v : Value) (rest : List Value) (kw : List (Str × Value)), Code.builtin "list.__repr__.loop" ⟨v :: rest, kw⟩ ∈ g ∧ Builtin.List.listSameRef v (.ref a) = true
theorem held_any {Γ : Ctx} {g : List Code} {a : Addr} (e : guardsOf Γ.below = g) (hh : held g a) :
    (Γ.below.any fun q => match q with | (.builtin "list.__repr__.loop" ⟨v :: _, _⟩, _) => Builtin.List.listSameRef v (.ref a) | _ => false) = true := by
  obtain ⟨v, rest, kw, hin, hs⟩ := hh
  rw [← e] at hin
  unfold guardsOf at hin
  obtain ⟨hm, _⟩ := List.mem_filter.mp hin
  obtain ⟨⟨c, p⟩, hcp, ec⟩ := List.mem_map.mp hm
  obtain rfl : c = _ := ec
  exact List.any_eq_true.mpr ⟨_, hcp, hs⟩
section
variable {prog : Program} {w : World} {A : Around} {E : Value → Shared → Prop} {s : Shared} {a : Addr} {oa : Obj} {x : Value} {l : List Value} {na : Nat} {g : List Code}
theorem held_list {Q : Value → Shared → Prop} (hT : s.TypeIs (.ref a) "list") (hg : A.guards = some g) (hh : held g a) (e1 : s.heap.get? a = some oa) (e2 : oa.data = .seq (x :: l).toArray na)
    (q : ∀ u tk, Q (.str "[...]" u) { s with toks := tk }) : wpAny (model prog w) A (call (.builtin "list.__repr__") [.ref a]) Q E s := by
  refine wpAny_call (codeAny_call_builtin_own (plainId_quiet F.slot_list_repr.plain _) F.entry_list_repr (F.slot_list_repr.check _ _ _ _ _ _ _ _ hT (F.args_list_repr_1 _) fun Γ p hc hΓ => ?_))
  have hy := held_any (hΓ.2.2.2.1 g hg) hh
  show Sem.wp _ Γ (Builtin.listReprAt 0 ⟨[.ref a], []⟩) _ _ p s
  unfold Builtin.listReprAt
  simp [slotArgs, Builtin.List.listItems, seqItems?, Sem.wp_load_of (h := e1), e2, PySem.stack]
  have key : ∀ {c : Prop} {hd : Decidable c} {t1 t2 : Sem PySem.Fin} {P1 : PySem.Fin → Pos → Shared → Prop} {P2 : Value → Pos → Shared → Prop}, c → Sem.wp (model prog w) Γ t1 P1 P2 p s → Sem.wp (model prog w) Γ (@ite _ c hd t1 t2) P1 P2 p s := fun {c hd t1 t2 P1 P2} hc h => by
    rw [if_pos hc]; exact h
  refine key hy ?_
  have h2 : wpAny (model prog w) (A.under Γ.code) (do rule "list.__repr__.in-itself"; retStr "[...]")
      (fun fin s' => match fin with | .done f => (match (Except.ok f : Except Value Flow) with | .ok (.ret v) => Q v s' | .ok _ => False | .error e => E e s') | .again c' => False) (fun e s' => E e s') s := by
    refine wpAny_bind (wpAny_rule ?_)
    exact wpAny_bind (wpAny_mkStr (wpAny_pure (q _ _)))
  exact Sem.wp_mono _ Γ _ (fun fin p' s' h => by cases fin with
    | done f => exact h
    | again c => exact h.elim) (fun _ _ _ h => h) p s (h2 Γ p hΓ.in)
def itx (i : Int) : Str := Str.ofString (toString i)
open Classical in
noncomputable def rp (g : List Code) (a : Addr) (ns : List Int) : Str := if held g a then "[...]" else listText (ns.map itx)
theorem itx_sum : ∀ {ns : List Int}, (∀ i, i ∈ ns → i.natAbs.log2 < 1920) → ((ns.map itx).map (·.length)).sum ≤ 1921 * ns.length
  | [], _ => by simp
  | i :: ns, h => by
    have a := PyProof.Rows.int_text_len_1921 (h i List.mem_cons_self)
    have b := itx_sum (ns := ns) fun i hi => h i (List.mem_cons_of_mem _ hi)
    rw [List.map_cons, List.map_cons, List.sum_cons, List.length_cons]
    show (itx i).length + _ ≤ _
    have a' : (itx i).length ≤ 1921 := a
    omega
theorem repr_ints {Q : Value → Shared → Prop} {ns : List Int} (hu : A.units + 1 < cLine) (hg : A.guards = some g) (hT : s.TypeIs (.ref a) "list") (e1 : s.heap.get? a = some oa) (e2 : oa.data = .seq (x :: l).toArray na) (rv : L2.Vals (ns.map L2.V.int) (x :: l))
    (hz : ∀ i, i ∈ ns → i.natAbs.log2 < 1920) (hl : ns.length ≤ 1000) (q : ∀ (h' : Heap) u tk, (∀ b o, s.heap.get? b = some o → h'.get? b = some o) → Q (.str (rp g a ns) u) { s with heap := h', toks := tk }) : wpAny (model prog w) A (call (.builtin "repr") [.ref a]) Q E s := by
  refine call_repr_slot hu hT F.slot_list_repr.toG ?_
  by_cases hh : held g a
  · refine held_list hT hg hh e1 e2 fun u tk => ⟨_, _, rfl, ?_⟩
    have := q s.heap u tk fun _ _ e => e
    unfold rp at this
    rw [if_pos hh] at this
    exact this
  · have hlen : (ns.map itx).length = (x :: l).toArray.size := by
      have := rv.length
      rw [List.length_map] at this
      rw [List.length_map, List.size_toArray]
      exact this
    refine call_list_repr (ts := ns.map itx) hT (A := A.in1) (g := g) hg (fun v rest kw hin => ?_) e1 e2 hlen (fun i y hy => ?_) (fun h' u tk hk => ⟨_, _, rfl, ?_⟩) ?_
    · cases hs : Builtin.List.listSameRef v (.ref a) with
      | false => rfl
      | true => exact absurd ⟨v, rest, kw, hin, hs⟩ hh
    · have hi : i < ns.length := by
        have h3 := (Array.getElem?_eq_some_iff.mp hy).1
        rw [← hlen, List.length_map] at h3
        exact h3
      obtain ⟨u, hu2, ru⟩ := rv.get (i := i) (x := L2.V.int ns[i]) (by rw [List.getElem?_map, List.getElem?_eq_getElem hi]; rfl)
      have ey : y = u := by
        have : (x :: l).toArray[i]? = some u := by simpa using hu2
        rw [hy] at this
        exact Option.some.inj this
      obtain ⟨t, rfl⟩ := ru
      subst ey
      exact ⟨_, by rw [List.getElem?_map, List.getElem?_eq_getElem hi]; rfl, ReprIs.int t (hz _ (List.getElem_mem hi))⟩
    · have := q h' u tk hk
      unfold rp at this
      rw [if_neg hh] at this
      exact this
    · have h1 := listText_len_le (ns.map itx)
      have h2 := itx_sum hz
      rw [List.length_map] at h1
      have : (5000000 : Nat) ≤ sizeLine := by decide
      omega
end
end Cl
namespace Cl
open PySem L2
section
variable {X : Cx}
def rRp (g : List Code) : List V → Hp → VK → Prop := fun vs H Q => ∃ (a : Addr) (ns : List Int), vs = [.ref a] ∧ H a = some (.lst (ns.map V.int)) ∧ ns ≠ [] ∧ ns.length ≤ 1000 ∧ (∀ i, i ∈ ns → i.natAbs.log2 < 1920) ∧ Q (.str (rp g a ns)) H
theorem cr_repr {k : Nat} {g : List Code} (hr : Room k X.A) (hg : X.A.guards = some g) : CallR X (.builtin "repr") (rRp g) := by
  intro pins s σ H vs us Q I r h
  obtain ⟨a, ns, rfl, ha, hn, hl, hz, q⟩ := h
  rw [Vals.ref1 r]
  obtain ⟨_, its, n, rv, e⟩ := (show ObjOk X.prog X.w H s.heap a (.lst (ns.map V.int)) from I.hok a _ ha)
  cases its with
  | nil =>
    cases ns with
    | nil => exact absurd rfl hn
    | cons i ns => cases rv
  | cons x l =>
    refine repr_ints (ns := ns) (by have := hr.un; omega) hg ⟨_, e, rfl⟩ e rfl rv hz hl fun h' u tk hk => ?_
    exact ⟨.str _, H, I.kept hk, ⟨_, rfl⟩, q⟩
end
end Cl
/-! a def's body, read for each list of guards that may stand around -/
namespace Cl
open PySem L2
abbrev wg (X : Cx) (g : List Code) : Cx := { X with A := { X.A with guards := some g } }
section
variable {X : Cx} {g : List Code} {pins : List (Addr × Obj)} {σ : L2.St} {H : Hp} {s : Shared}
theorem ok_wg (ok : X.Ok) : (wg X g).Ok := by
  constructor
  all_goals first | exact ok.mod | exact ok.kind | exact ok.glob | exact ok.blt | exact ok.above | exact ok.inj | exact ok.has | exact ok.cab | exact ok.hd | exact ok.frames | exact ok.stk | exact ok.exf | exact ok.bs | exact ok.bsz | exact ok.noex | exact ok.exfs | exact ok.funs | exact ok.frf
theorem ok_gw (ok : (wg X g).Ok) : X.Ok := by
  constructor
  all_goals first | exact ok.mod | exact ok.kind | exact ok.glob | exact ok.blt | exact ok.above | exact ok.inj | exact ok.has | exact ok.cab | exact ok.hd | exact ok.frames | exact ok.stk | exact ok.exf | exact ok.bs | exact ok.bsz | exact ok.noex | exact ok.exfs | exact ok.funs | exact ok.frf
theorem inv_wg (I : Inv X pins σ H s) : Inv (wg X g) pins σ H s := by
  constructor
  all_goals first | exact ok_wg I.ok | exact I.os | exact I.bare | exact I.base | exact I.loc | exact I.cell | exact I.free | exact I.freeC | exact I.pin | exact I.hok | exact I.len
theorem inv_gw (I : Inv (wg X g) pins σ H s) : Inv X pins σ H s := by
  constructor
  all_goals first | exact ok_gw I.ok | exact I.os | exact I.bare | exact I.base | exact I.loc | exact I.cell | exact I.free | exact I.freeC | exact I.pin | exact I.hok | exact I.len
theorem sp_gw {D : Ends} {f : Flow} (h : SP (wg X g) pins D f s) : SP X pins D f s := by
  cases f with
  | next => obtain ⟨σ', H', I, q⟩ := h; exact ⟨σ', H', inv_gw I, q⟩
  | brk => obtain ⟨σ', H', I, q⟩ := h; exact ⟨σ', H', inv_gw I, q⟩
  | cont => obtain ⟨σ', H', I, q⟩ := h; exact ⟨σ', H', inv_gw I, q⟩
  | ret u => obtain ⟨v, σ', H', I, q⟩ := h; exact ⟨v, σ', H', inv_gw I, q⟩
theorem pss_g {body : List Stmt} {tg : List Code → TS} (h : ∀ g, PSs (wg X g) body (tg g)) : PSs X body (fun D σ H => ∀ g, tg g D σ H) := by
  refine ⟨fun pins s σ H D I q Γ p hΓ => ?_⟩
  have hin : Γ.In (wg X (Γ.code.guards ++ guardsOf Γ.below)).A := ⟨hΓ.1, hΓ.2.1, hΓ.2.2.1, fun g e => Option.some.inj e, hΓ.2.2.2.2⟩
  exact Sem.wp_mono _ Γ _ (fun f p' s' h => sp_gw h) (fun _ _ _ h => h) p s ((h _).run pins s σ H D (inv_wg I) (q _) Γ p hin)
theorem room_wg {k : Nat} {A : Around} (hr : Room k A) : Room k { A with guards := some g } := ⟨hr.hd, hr.dp, hr.un⟩
end
end Cl

/-! ### the checks and the draws that all laws share -/
namespace Cl
def top (i : Nat) : Stmt := PySem.Challenge.pw_carrylog_k00_round_sums.main.body.getD i (.Pass ⟨0, 0, 0, 0⟩)
abbrev sWall : Stmt := top 0
abbrev sInvalidinputInit : Stmt := inClass (top 3) 0
abbrev sIsWhole : Stmt := top 5
abbrev sCheckLeast : Stmt := top 6
abbrev sRoundInit : Stmt := inClass (top 8) 1
abbrev sRoundConstant : Stmt := inClass (top 8) 2
abbrev sRoundBudgets : Stmt := inClass (top 8) 3
abbrev sRoundLen : Stmt := inClass (top 8) 4
abbrev sRoundEq : Stmt := inClass (top 8) 5
abbrev sRoundAdd : Stmt := inClass (top 8) 6
abbrev sRoundAt : Stmt := inClass (top 8) 7
abbrev sRoundShifted : Stmt := inClass (top 8) 8
abbrev sRoundTotal : Stmt := inClass (top 8) 9
abbrev sRoundLeast : Stmt := inClass (top 8) 10
abbrev sRoundWorstStart : Stmt := inClass (top 8) 11
abbrev sRoundReach : Stmt := inClass (top 8) 12
abbrev sRoundTotals : Stmt := inClass (top 8) 13
abbrev sLawIsNumber : Stmt := top 10
abbrev sLawBag : Stmt := top 11
abbrev sLawTake : Stmt := top 12
abbrev sLawNumber : Stmt := top 13
abbrev sLawRow : Stmt := top 14
abbrev sLawRound : Stmt := top 15
abbrev sLawSum : Stmt := top 16
abbrev sLawMoved : Stmt := top 17
abbrev sLawHas : Stmt := top 18
abbrev sLawCount : Stmt := top 19
abbrev sLawAnswers : Stmt := top 20
abbrev sLawShifts : Stmt := top 21
abbrev sLawNear : Stmt := top 22
abbrev sLawEqual : Stmt := top 23
abbrev sLawAdded : Stmt := top 24
abbrev sLawCase : Stmt := top 25
abbrev sLaw : Stmt := top 26
section
variable {P : Program} {w : World} {K : PySem.W.Frag} {mg : Str → Option Value} {base : Heap}
/-! is_whole, check_least, _law_is_number -/
def spIsWhole : Sp := fun vs H Q _ => ∃ (v : Int), vs = [.int v] ∧ Q (.bl true) H
theorem kit_ii (K : PySem.W.Frag) : PySem.W.kitOne K (.type "int") (.type "int") = some true := kit_ty (by decide +kernel)
theorem kit_ib (K : PySem.W.Frag) : PySem.W.kitOne K (.type "int") (.type "bool") = some false := kit_ty (by decide +kernel)
theorem scIsWhole : FnScope ["value"] ["value"] (defScope sIsWhole) := ⟨rfl, rfl, rfl, by decide +kernel, rfl, by decide +kernel, by decide +kernel⟩
theorem ok_is_whole {f : Addr} {fd : FuncData} (F : Fun K "is_whole" "is_whole" sIsWhole f fd) (B : Bi mg) : FnOk P w K mg base CX0 1 f fd ["value"] spIsWhole := by
  refine F.ok scIsWhole (fun vs H Q E h => ?_) (fun cdv A outer s H vs Q E hr h => ?_)
  · obtain ⟨v, rfl, _⟩ := h
    rfl
  · obtain ⟨v, rfl, k⟩ := h
    refine ⟨_, (pss_one (ps_ret (pe_and (pe_callB call_isi (by rfl) B.isinstance (by decide +kernel) (pa_cons (pv 0) (pa_cons (pe_bltn (v := .ty "int") (by rfl) B.intT (by decide +kernel) rfl) pa_nil))) (pe_one (pe_not (pe_callB call_isi (by rfl) B.isinstance (by decide +kernel) (pa_cons (pv 0) (pa_cons (pe_bltn (v := .ty "bool") (by rfl) B.boolT (by decide +kernel) rfl) pa_nil)))))))), ?_⟩
    refine ⟨_, rfl, _, _, _, _, _, rfl, .ty _, .base (.int _), kit_ii _, _, rfl, iteT ?_⟩
    exact ⟨_, rfl, _, _, _, _, _, rfl, .ty _, .base (.int _), kit_ib _, _, rfl, k⟩
def spCheckLeast : Sp := fun vs H Q _ => ∃ (v l : Int) (x : Str), vs = [.int v, .int l, .str x] ∧ l ≤ v ∧ Q .non H
theorem scCheckLeast : FnScope ["value", "least", "field"] ["value", "least", "field"] (defScope sCheckLeast) := ⟨rfl, rfl, rfl, by decide +kernel, rfl, by decide +kernel, by decide +kernel⟩
theorem ok_check_least {f : Addr} {fd : FuncData} (F : Fun K "check_least" "check_least" sCheckLeast f fd) (D_is_whole : Dn P w K mg base "is_whole" 1 ["value"] spIsWhole) : FnOk P w K mg base CX0 2 f fd ["value", "least", "field"] spCheckLeast := by
  refine F.ok scCheckLeast (fun vs H Q E h => ?_) (fun cdv A outer s H vs Q E hr h => ?_)
  · obtain ⟨v, l, x, rfl, _⟩ := h
    rfl
  · obtain ⟨v, l, x, rfl, hl, k⟩ := h
    refine ⟨_, (pss_one (ps_if (PW.pt (pw_or (pt_not (pt_val (pe_dn D_is_whole (hr.mono (by decide)) (by rfl) pass0 (pa_cons (pv 0) pa_nil)))) (pw_or1 (pt_cmpR op_lt (pv 0) (pv 1) (nomark _))))) (pss_one ps_never)
  pss_nil)), ?_⟩
    refine ⟨_, rfl, v, rfl, _, rfl, iteF ?_⟩
    walk_at "rd"
    rw [decide_eq_false (by omega)]
    exact iteF k
theorem scLawIsNumber : FnScope ["told"] ["told"] (defScope sLawIsNumber) := ⟨rfl, rfl, rfl, by decide +kernel, rfl, by decide +kernel, by decide +kernel⟩
theorem ok_is_number {f : Addr} {fd : FuncData} (F : Fun K "_law_is_number" "_law_is_number" sLawIsNumber f fd) (B : Bi mg) : FnOk P w K mg base CX0 1 f fd ["told"] spIsWhole := by
  refine F.ok scLawIsNumber (fun vs H Q E h => ?_) (fun cdv A outer s H vs Q E hr h => ?_)
  · obtain ⟨v, rfl, _⟩ := h
    rfl
  · obtain ⟨v, rfl, k⟩ := h
    refine ⟨_, (pss_one (ps_ret (pe_and (pe_callB call_isi (by rfl) B.isinstance (by decide +kernel) (pa_cons (pv 0) (pa_cons (pe_bltn (v := .ty "int") (by rfl) B.intT (by decide +kernel) rfl) pa_nil))) (pe_one (pe_not (pe_callB call_isi (by rfl) B.isinstance (by decide +kernel) (pa_cons (pv 0) (pa_cons (pe_bltn (v := .ty "bool") (by rfl) B.boolT (by decide +kernel) rfl) pa_nil)))))))), ?_⟩
    refine ⟨_, rfl, _, _, _, _, _, rfl, .ty _, .base (.int _), kit_ii _, _, rfl, iteT ?_⟩
    exact ⟨_, rfl, _, _, _, _, _, rfl, .ty _, .base (.int _), kit_ib _, _, rfl, k⟩
/-! the bag: what is drawn from it is any number of its range -/
def spTake : Sp := fun vs H Q _ => ∃ (a : Addr) (z : Int), vs = [.ref a, .int z] ∧ BagAt H a ∧ 1 ≤ z ∧ z ≤ 100000000000000000000000000000000000000000000000000000000000000 ∧ ∀ (d : Int) (H' : Hp), 0 ≤ d → d < z → BagAt H' a → But a H H' → Q (.int d) H'
theorem scLawTake : FnScope ["bag", "size", "digit", "found", "turn", "one", "two"] ["bag", "size"] (defScope sLawTake) := ⟨rfl, rfl, rfl, by decide +kernel, rfl, by decide +kernel, by decide +kernel⟩
theorem ok_take {f : Addr} {fd : FuncData} (F : Fun K "_law_take" "_law_take" sLawTake f fd) (B : Bi mg) : FnOk P w K mg base CX0 1 f fd ["bag", "size"] spTake := by
  refine F.ok scLawTake (fun vs H Q E h => ?_) (fun cdv A outer s H vs Q E hr h => ?_)
  · obtain ⟨a, z, rfl, _⟩ := h
    rfl
  · obtain ⟨a, z, rfl, ⟨c, t, s, ha⟩, z1, z2, k⟩ := h
    refine ⟨_, (pss_cons (ps_if (pt_cmpR op_gt (pe_ix ix_list (pv 0) pe_int (fun _ _ => rfl)) pe_int (nomark _)) (pss_cons (ps_set (i := 2) scLawTake.nd rfl (Or.inl rfl) (pe_op op_mod (pe_callTy call_int1 (by rfl) B.intT (by decide +kernel) (pa_cons (pe_ix ix_list (pv 0) pe_int (fun _ _ => rfl)) pa_nil)) (pv 1)))
  (pss_cons (ps_asg (pe_op op_fdivW (pe_ix ix_list (pv 0) pe_int (fun _ _ => rfl)) (pv 1)) (pg_sub (pv 0) pe_int set_list))
  (pss_one (ps_ret (pv 2)))))
  pss_nil)
  (pss_cons (ps_set (i := 3) scLawTake.nd rfl (Or.inl rfl) pe_int)
  (pss_cons (ps_for PassesOwn.never rfl (pi_range1 rfl B.range (pa_cons (pe_op op_add pe_int (pe_op op_fdiv (pe_callB call_len_str (by rfl) B.len PySem.boot_len (pa_cons (pe_callTy call_str_int (by rfl) B.strT (by decide +kernel) (pa_cons (pv 1) pa_nil)) pa_nil)) pe_int)) pa_nil)) (pg_name (i := 4) scLawTake.nd rfl (Or.inl rfl))
  (pss_cons (ps_asg (pe_op op_add (pe_ix ix_list (pv 0) pe_int (fun _ _ => rfl)) pe_int) (pg_sub (pv 0) pe_int set_list))
  (pss_cons (ps_set (i := 5) scLawTake.nd rfl (Or.inl rfl) (pe_op op_mod (pe_callTy call_int1 (by rfl) B.intT (by decide +kernel) (pa_cons (pe_op op_add (pe_op op_add (pe_op op_mul (pe_ix ix_list (pv 0) pe_int (fun _ _ => rfl)) pe_int) (pe_op op_mul (pe_ix ix_list (pv 0) pe_int (fun _ _ => rfl)) pe_int)) pe_int) pa_nil)) pe_int))
  (pss_cons (ps_set (i := 6) scLawTake.nd rfl (Or.inl rfl) (pe_op op_mod (pe_callTy call_int1 (by rfl) B.intT (by decide +kernel) (pa_cons (pe_op op_add (pe_op op_add (pe_op op_mulW (pv 5) (pv 5)) (pe_op op_mul (pe_ix ix_list (pv 0) pe_int (fun _ _ => rfl)) pe_int)) pe_int) pa_nil)) pe_int))
  (pss_one (ps_set (i := 3) scLawTake.nd rfl (Or.inl rfl) (pe_op op_add (pe_op op_mul (pv 3) pe_int) (pe_op op_fdiv (pe_op op_mod (pe_callTy call_int1 (by rfl) B.intT (by decide +kernel) (pa_cons (pe_op op_add (pe_op op_mulW (pv 6) (pv 6)) (pv 5)) pa_nil)) pe_int) pe_int))))))))
  (pss_one (ps_ret (pe_op op_mod (pe_callTy call_int1 (by rfl) B.intT (by decide +kernel) (pa_cons (pv 3) pa_nil)) (pv 1))))))), ?_⟩
    refine ⟨_, rfl, a, _, _, _, rfl, rfl, SqL.of ha, rfl, _, _, rfl, rfl, _, rfl, ?_⟩
    refine ite2 (fun _ => ?_) (fun _ => ?_)
    · refine ⟨_, rfl, a, _, _, _, rfl, rfl, SqL.of ha, rfl, .inl ⟨_, rfl, _, rfl, _, _, rfl, rfl, (by show (0 : Int) < z; omega), ?_⟩⟩
      refine ⟨_, rfl, a, _, _, _, rfl, rfl, SqL.of ha, rfl, _, rfl, _, _, rfl, rfl, divB (by omega) z2, ?_⟩
      refine ⟨_, rfl, a, _, _, 0, rfl, rfl, ha, rfl, _, rfl, ?_⟩
      exact k _ _ (Int.emod_nonneg _ (by omega)) (Int.emod_lt_of_pos _ (by omega)) ⟨_, _, _, upd_same⟩ But.upd
    · have hl := int_text_fits (strB (i := z) (by omega) z2)
      have hl2 : (PySem.sizeLine : Int) ≤ 100000000 := by rw [PySem.sizeLine_eq]; decide
      refine ⟨_, rfl, _, rfl, strB (by omega) z2, _, rfl, hl, ?_⟩
      walk_at "rd"
      refine ⟨?_, ?_, ?_⟩
      · have : 0 ≤ (((toString z : Str)).length : Int) / 7 := by omega
        omega
      · have : (((toString z : Str)).length : Int) ≤ 100000000 := Int.le_trans (Int.ofNat_le.mpr hl) hl2
        omega
      refine for_range (fun i σ H' => ∃ (x y u v : Option V) (n : Int), σ = [some (.ref a), some (.int z), x, some (.int n), y, u, v] ∧ BagAt H' a ∧ But a H H') ⟨_, _, _, _, 0, rfl, ⟨c, t, s, ha⟩, But.refl _ _⟩ ?_ ?_
      · rintro i σ H' _ ⟨x, y, u, v, n, rfl, ⟨c, t, s, ha⟩, hb⟩
        refine ⟨_, rfl, a, _, _, _, rfl, rfl, SqL.of ha, rfl, _, _, rfl, rfl, _, rfl, a, _, _, 1, rfl, rfl, ha, rfl, ?_⟩
        have ha' : upd H' a (.lst [.int c, .int (t + 1), .int s]) a = some (.lst [.int c, .int (t + 1), .int s]) := upd_same
        refine ⟨_, rfl, a, _, _, _, rfl, rfl, SqL.of ha', rfl, _, _, rfl, rfl, .inr ⟨by decide, by decide⟩, ?_⟩
        refine ⟨_, rfl, a, _, _, _, rfl, rfl, SqL.of ha', rfl, _, _, rfl, rfl, .inr ⟨by decide, by decide⟩, ?_⟩
        refine ⟨_, _, rfl, rfl, _, _, rfl, rfl, .inl ⟨_, rfl, _, _, rfl, rfl, (by show (0 : Int) < 2147483647; decide), ?_⟩⟩
        generalize hone : (s * 48271 + (t + 1) * 69621 + 12345) % 2147483647 = one
        have o1 : 0 ≤ one := by omega
        have o2 : one < 2147483647 := by omega
        refine ⟨_, rfl, _, rfl, _, _, rfl, rfl, mulB (by omega) (by omega) (by omega) (by omega), ?_⟩
        refine ⟨_, rfl, a, _, _, _, rfl, rfl, SqL.of ha', rfl, _, _, rfl, rfl, .inr ⟨by decide, by decide⟩, ?_⟩
        refine ⟨_, _, rfl, rfl, _, _, rfl, rfl, .inl ⟨_, rfl, _, _, rfl, rfl, (by show (0 : Int) < 2147483629; decide), ?_⟩⟩
        generalize htwo : (one * one + (t + 1) * 40692 + 777) % 2147483629 = two
        have w1 : 0 ≤ two := by omega
        have w2 : two < 2147483629 := by omega
        refine ⟨_, rfl, _, _, rfl, rfl, .inr ⟨by decide, by decide⟩, ?_⟩
        refine ⟨_, rfl, _, rfl, _, _, rfl, rfl, mulB (by omega) (by omega) (by omega) (by omega), ?_⟩
        refine ⟨_, rfl, _, _, rfl, rfl, .inl ⟨_, rfl, _, _, rfl, rfl, (by show (0 : Int) < 2147483587; decide), ?_⟩⟩
        refine ⟨_, _, rfl, rfl, ⟨by decide, by decide⟩, _, _, rfl, rfl, ?_⟩
        exact ⟨_, _, _, _, _, rfl, ⟨_, _, _, ha'⟩, hb.trans But.upd⟩
      · rintro σ H' ⟨x, y, u, v, n, rfl, hB, hb⟩
        refine ⟨_, rfl, .inl ⟨_, rfl, _, rfl, _, _, rfl, rfl, (by show (0 : Int) < z; omega), ?_⟩⟩
        exact k _ _ (Int.emod_nonneg _ (by omega)) (Int.emod_lt_of_pos _ (by omega)) hB hb
def spBag (K : PySem.W.Frag) : Sp := fun vs H Q _ => ∃ (a : Addr) (ns : List Int) (i : Nat), vs = [.ref a, .int i] ∧ SqL K H a (ns.map V.int) ∧ ∀ (p : Addr) (H' : Hp), H p = none → BagAt H' p → Same H H' → Q (.ref p) H'
theorem scLawBag : FnScope ["script", "k", "cell", "seed"] ["script", "k"] (defScope sLawBag) := ⟨rfl, rfl, rfl, by decide +kernel, rfl, by decide +kernel, by decide +kernel⟩
theorem ok_bag {f : Addr} {fd : FuncData} (F : Fun K "_law_bag" "_law_bag" sLawBag f fd) (B : Bi mg) : FnOk P w K mg base CX0 1 f fd ["script", "k"] (spBag K) := by
  refine F.ok scLawBag (fun vs H Q E h => ?_) (fun cdv A outer s H vs Q E hr h => ?_)
  · obtain ⟨a, ns, i, rfl, _⟩ := h
    rfl
  · obtain ⟨a, ns, i, rfl, hS, k⟩ := h
    refine ⟨_, (pss_cons (ps_set (i := 2) scLawBag.nd rfl (Or.inl rfl) pe_int)
  (pss_cons (ps_set (i := 3) scLawBag.nd rfl (Or.inl rfl) (pe_op op_add (pe_op op_mul (pe_op op_mod (pe_callTy call_int1 (by rfl) B.intT (by decide +kernel) (pa_cons (pe_callB (cr_sum rfl) (by rfl) B.sum (by decide +kernel) (pa_cons (pv 0) pa_nil)) pa_nil)) pe_int) pe_int) (pe_op op_mul pe_int (pv 1))))
  (pss_cons (ps_if (pt_cmpR op_lt (pv 1) (pe_callB call_len_seq (by rfl) B.len PySem.boot_len (pa_cons (pv 0) pa_nil)) (nomark _)) (pss_cons (ps_set (i := 2) scLawBag.nd rfl (Or.inl rfl) (pe_callB call_abs (by rfl) B.abs (by decide +kernel) (pa_cons (pe_callTy call_int1 (by rfl) B.intT (by decide +kernel) (pa_cons (pe_ix ix_list (pv 0) (pv 1) (fun _ _ => rfl)) pa_nil)) pa_nil)))
  (pss_one (ps_set (i := 3) scLawBag.nd rfl (Or.inl rfl) (pe_op op_add (pe_op op_add (pe_op op_mod (pe_callTy call_int1 (by rfl) B.intT (by decide +kernel) (pa_cons (pv 2) pa_nil)) pe_int) (pe_op op_mul pe_int (pe_callTy call_int1 (by rfl) B.intT (by decide +kernel) (pa_cons (pe_cmpR op_lt (pe_ix ix_list (pv 0) (pv 1) (fun _ _ => rfl)) pe_int (nomark _)) pa_nil)))) (pe_op op_mul pe_int (pv 1))))))
  pss_nil)
  (pss_cons (ps_if (pt_cmpR op_lt (pv 2) (pe_op op_pow pe_int pe_int) (nomark _)) (pss_one (ps_set (i := 2) scLawBag.nd rfl (Or.inl rfl) pe_int))
  pss_nil)
  (pss_one (ps_ret (pe_lst (pa_cons (pv 2) (pa_cons pe_int (pa_cons (pv 3) pa_nil)))))))))), ?_⟩
    refine ⟨_, rfl, _, _, rfl, hS, ?_⟩
    walk_at "rd"
    refine ⟨_, _, rfl, .inl hS, ?_⟩
    walk_at "rd"
    refine itd (fun h => ?_) (fun h => ?_)
    · have hi : i < (ns.map V.int).length := by omega
      obtain ⟨v, hv⟩ : ∃ v : Int, (ns.map V.int)[i]? = some (V.int v) := by
        rw [List.length_map] at hi
        exact ⟨ns[i], by rw [List.getElem?_map, List.getElem?_eq_getElem hi]; rfl⟩
      refine ⟨_, rfl, _, rfl, a, _, _, _, rfl, rfl, hS, atI_nat hv, ?_⟩
      walk_at "rd"
      refine ⟨a, _, _, _, rfl, rfl, hS, atI_nat hv, ?_⟩
      walk_at "rd"
      refine ite2 (fun _ => ?_) (fun _ => ?_)
      all_goals
        walk_at "rd"
        refine ⟨by show 3 ≤ sizeLine; decide, fun p hp => ?_⟩
        exact k p _ hp ⟨_, _, _, upd_same⟩ (Same.upd hp)
    · walk_at "rd"
      refine ⟨by show 3 ≤ sizeLine; decide, fun p hp => ?_⟩
      exact k p _ hp ⟨_, _, _, upd_same⟩ (Same.upd hp)
def spNumber : Sp := fun vs H Q _ => ∃ (a : Addr) (m : Int), vs = [.ref a, .int m] ∧ BagAt H a ∧ 0 ≤ m ∧ m ≤ 10000000000000000000000000000000000000000000000000000000000000 ∧ ∀ (d : Int) (H' : Hp), 0 ≤ d → d ≤ m → BagAt H' a → But a H H' → Q (.int d) H'
theorem scLawNumber : FnScope ["bag", "most", "way"] ["bag", "most"] (defScope sLawNumber) := ⟨rfl, rfl, rfl, by decide +kernel, rfl, by decide +kernel, by decide +kernel⟩
theorem ok_number {f : Addr} {fd : FuncData} (F : Fun K "_law_number" "_law_number" sLawNumber f fd) (B : Bi mg) (D__law_take : Dn P w K mg base "_law_take" 1 ["bag", "size"] spTake) : FnOk P w K mg base CX0 2 f fd ["bag", "most"] spNumber := by
  refine F.ok scLawNumber (fun vs H Q E h => ?_) (fun cdv A outer s H vs Q E hr h => ?_)
  · obtain ⟨a, m, rfl, _⟩ := h
    rfl
  · obtain ⟨a, m, rfl, hB, m0, m1, k⟩ := h
    refine ⟨_, (pss_cons (ps_set (i := 2) scLawNumber.nd rfl (Or.inl rfl) (pe_dn D__law_take (hr.mono (by decide)) (by rfl) pass0 (pa_cons (pv 0) (pa_cons pe_int pa_nil))))
  (pss_cons (ps_if (pt_cmpR op_lt (pv 2) pe_int (nomark _)) (pss_one (ps_ret (pe_callB (call_min2 rfl) (by rfl) B.min (by decide +kernel) (pa_cons (pv 1) (pa_cons (pe_dn D__law_take (hr.mono (by decide)) (by rfl) pass0 (pa_cons (pv 0) (pa_cons pe_int pa_nil))) pa_nil)))))
  pss_nil)
  (pss_cons (ps_if (pt_cmpR op_eq (pv 2) pe_int (nomark _)) (pss_one (ps_ret (pe_callB (call_min2 rfl) (by rfl) B.min (by decide +kernel) (pa_cons (pv 1) (pa_cons (pe_dn D__law_take (hr.mono (by decide)) (by rfl) pass0 (pa_cons (pv 0) (pa_cons pe_int pa_nil))) pa_nil)))))
  pss_nil)
  (pss_cons (ps_if (pt_cmpR op_eq (pv 2) pe_int (nomark _)) (pss_one (ps_ret (pe_op op_sub (pv 1) (pe_dn D__law_take (hr.mono (by decide)) (by rfl) pass0 (pa_cons (pv 0) (pa_cons (pe_callB (call_min2 rfl) (by rfl) B.min (by decide +kernel) (pa_cons (pe_op op_add (pv 1) pe_int) (pa_cons pe_int pa_nil))) pa_nil))))))
  pss_nil)
  (pss_cons (ps_if (pt_cmpR op_eq (pv 2) pe_int (nomark _)) (pss_one (ps_ret (pe_op op_fdivW (pe_dn D__law_take (hr.mono (by decide)) (by rfl) pass0 (pa_cons (pv 0) (pa_cons (pe_op op_add (pv 1) pe_int) pa_nil))) (pe_op op_add pe_int (pe_dn D__law_take (hr.mono (by decide)) (by rfl) pass0 (pa_cons (pv 0) (pa_cons (pe_op op_pow pe_int pe_int) pa_nil)))))))
  pss_nil)
  (pss_one (ps_ret (pe_dn D__law_take (hr.mono (by decide)) (by rfl) pass0 (pa_cons (pv 0) (pa_cons (pe_op op_add (pv 1) pe_int) pa_nil)))))))))), ?_⟩
    walk_at "rd"
    refine ⟨hB, by decide, by decide, fun way H1 _ _ hB1 b1 => ?_⟩
    walk_at "rd"
    refine itd (fun _ => ?_) (fun _ => ?_)
    · walk_at "rd"
      refine ⟨hB1, by decide, by decide, fun d H2 d0 d1 hB2 b2 => ?_⟩
      walk_at "rd"
      refine k _ _ ?_ ?_ hB2 (b1.trans b2)
      · split <;> omega
      · split <;> omega
    walk_at "rd"
    refine iti (fun _ => ?_) (fun _ => ?_)
    · walk_at "rd"
      refine ⟨hB1, by decide, by decide, fun d H2 d0 d1 hB2 b2 => ?_⟩
      walk_at "rd"
      refine k _ _ ?_ ?_ hB2 (b1.trans b2)
      · split <;> omega
      · split <;> omega
    walk_at "rd"
    refine iti (fun _ => ?_) (fun _ => ?_)
    · walk_at "rd"
      refine ⟨hB1, ?_, ?_, fun d H2 d0 d1 hB2 b2 => ?_⟩
      · split <;> omega
      · split <;> omega
      walk_at "rd"
      refine k _ _ ?_ ?_ hB2 (b1.trans b2)
      · split at d1 <;> omega
      · omega
    walk_at "rd"
    refine iti (fun _ => ?_) (fun _ => ?_)
    · walk_at "rd"
      refine ⟨hB1, by omega, by omega, fun d H2 d0 d1 hB2 b2 => ?_⟩
      walk_at "rd"
      refine ⟨hB2, by decide, by decide, fun e H3 e0 e1 hB3 b3 => ?_⟩
      have e2 : e < 1000000000000000 := e1
      walk_at "rd"
      refine ⟨divB (by omega) (by omega), k _ _ (Int.ediv_nonneg d0 (by omega)) ?_ hB3 ((b1.trans b2).trans b3)⟩
      exact Int.le_trans (Int.ediv_le_self _ d0) (by omega)
    walk_at "rd"
    exact ⟨hB1, by omega, by omega, fun d H2 d0 d1 hB2 b2 => k _ _ d0 (by omega) hB2 (b1.trans b2)⟩
end
end Cl

/-! ### the class Round -/
namespace Cl
open StX ClX
/-- the budgets of a Round -/
structure Okb (bs : List Int) : Prop where
  l1 : 1 ≤ bs.length
  l2 : bs.length ≤ 12
  nn : ∀ b, b ∈ bs → 0 ≤ b ∧ b ≤ 10000000000000000000000000000000
def bF (t : Addr) : List (Str × V) := [("_budgets", .ref t)]
def RoundAt (C : Addr) (H : Hp) (r : Addr) (bs : List Int) : Prop := ∃ dx t, H r = some (.ins C dx (bF t)) ∧ H t = some (.tup (bs.map V.int))
theorem RoundAt.same {C r : Addr} {H H' : Hp} {bs : List Int} (h : RoundAt C H r bs) (x : Same H H') : RoundAt C H' r bs := by
  obtain ⟨dx, t, h1, h2⟩ := h
  exact ⟨dx, t, x _ _ h1, x _ _ h2⟩
theorem RoundAt.but {C a r : Addr} {H H' : Hp} {bs : List Int} (h : RoundAt C H r bs) (x : But a H H') (b : BagAt H a) : RoundAt C H' r bs := by
  obtain ⟨dx, t, h1, h2⟩ := h
  obtain ⟨_, _, _, e⟩ := b
  exact ⟨dx, t, x _ _ (ne_of h1 e (by intro q; cases q)) h1, x _ _ (ne_of h2 e (by intro q; cases q)) h2⟩
theorem no_ (m : Str) (h : (m == ("_budgets" : Str)) = false) (t : Addr) : (bF t).lookup m = none := by
  unfold bF
  rw [List.lookup_cons, h]
  rfl
structure CV (K : PySem.W.Frag) (C : Addr) (m : Str) (v : V) : Prop where
  ex : ∃ mc u, CRead K C mc ∧ CVal K C mc m v u
section
variable {P : Program} {w : World} {K : PySem.W.Frag} {mg : Str → Option Value} {base : Heap} {C : Addr}
/-! making one -/
def spInit (C : Addr) : Sp := fun vs H Q _ => ∃ (x dx : Addr) (bs : List Int), vs = .ref x :: bs.map V.int ∧ H x = some (.ins C dx []) ∧ Okb bs ∧
  ∀ (t : Addr) (H' : Hp), H t = none → H' x = some (.ins C dx (bF t)) → H' t = some (.tup (bs.map V.int)) → (∀ b o, b ≠ x → H b = some o → H' b = some o) → Q .non H'
theorem scRoundInit : FnScope ["self", "budgets", "budget"] ["self", "budgets"] (defScope sRoundInit) := ⟨rfl, rfl, rfl, by decide +kernel, rfl, by decide +kernel, by decide +kernel⟩
theorem ok_Round_init {f : Addr} {fd : FuncData} (F : Fun K "__init__" "Round.__init__" sRoundInit f fd) (B : Bi mg) (R_Round : ClsC K mg "Round" C) (N_Round : NoAttr K C "_budgets") (V_Round : CV K C "MOST" (.int 12))
    (D_check_least : Dn P w K mg base "check_least" 2 ["value", "least", "field"] spCheckLeast) : FnR P w K mg base CX0 3 f (spInit C) := by
  obtain ⟨oc, od, kV, doc, pm, an, cdv, ct, osl, rfl, lk, hcd⟩ := F.ex
  refine FnR.imp (fn_star (ps := ["self"]) (pv := "budgets") (sp := fun vs H Q _ => ∃ (x dx t : Addr) (bs : List Int), vs = [.ref x, .ref t] ∧ H x = some (.ins C dx []) ∧ H t = some (.tup (bs.map V.int)) ∧ Okb bs ∧
    ∀ (H' : Hp), H' x = some (.ins C dx (bF t)) → (∀ b o, b ≠ x → H b = some o → H' b = some o) → Q .non H') lk hcd scRoundInit cxUp_none (bind_star1 (B := fun us => bindArgs (PySem.W.fnOf "__init__" "Round.__init__" (defArgs sRoundInit) (defBody sRoundInit) (defScope sRoundInit) .none kV doc pm an cdv ct) ⟨us, []⟩) (p1 := "self") (pv := "budgets") (fun _ => rfl) (fun _ _ _ => rfl)) ?_) ?_
  · rintro A outer s H vs Q E hr ⟨x, dx, t, bs, rfl, hx, ht, ok, k⟩
    refine ⟨_, PSs.nox (pss_cons (ps_if (pt_not (pt_chain op_le op_le pe_int (pe_callB call_len_seq (by rfl) B.len PySem.boot_len (pa_cons (pv 1) pa_nil)) (pe_cval (pe_cls R_Round rfl)))) (pss_one ps_never)
  pss_nil)
  (pss_cons (ps_for PassesOwn.never rfl (pi_tup (pv 1)) (pg_name (i := 2) scRoundInit.nd rfl (Or.inl rfl))
  (pss_one (ps_expr (pe_dn D_check_least (hr.mono (by decide)) (by rfl) pass0 (pa_cons (pv 2) (pa_cons pe_int (pa_cons pe_str pa_nil)))))))
  (pss_one (ps_fld (pv 0) (pv 1) rfl)))), ?_⟩
    obtain ⟨mc, u, hrd, hcv⟩ := V_Round.ex
    have hl : (bs.map V.int).length = bs.length := List.length_map ..
    walk_at "rd"
    refine ⟨t, _, rfl, .inr (SqT.of ht), ?_⟩
    walk_at "rd"
    rw [decide_eq_true (by have := ok.l1; omega)]
    refine iteT ?_
    walk_at "rd"
    refine ⟨C, mc, _, u, rfl, hrd, hcv, ?_⟩
    walk_at "rd"
    rw [decide_eq_true (by have := ok.l2; omega)]
    walk_at "rd"
    refine ⟨⟨_, SqT.of ht⟩, for_tup (K := K) (a := t) (xs := bs.map V.int) (fun i σ H' => ∃ v, σ = [some (.ref x), some (.ref t), v] ∧ H' = H) ⟨_, rfl, rfl⟩ (fun i σ H' _ ⟨_, _, e⟩ => by rw [e]; exact SqT.of ht) ?_ ?_⟩
    · rintro i y σ H' hi ⟨v, rfl, rfl⟩
      obtain ⟨z, hz, rfl⟩ : ∃ z, bs[i]? = some z ∧ y = V.int z := by
        rw [List.getElem?_map] at hi
        cases e : bs[i]? with
        | none => rw [e] at hi; cases hi
        | some z => rw [e] at hi; exact ⟨z, rfl, (Option.some.inj hi).symm⟩
      walk_at "rd"
      exact ⟨(ok.nn z (List.mem_of_getElem? hz)).1, _, rfl, rfl⟩
    · rintro σ H' ⟨v, rfl, rfl⟩
      refine ⟨_, rfl, _, rfl, x, C, dx, _, rfl, hx, R_Round.cl, N_Round, (by show 0 < 1000; decide), ?_⟩
      exact k _ upd_same fun b o n e => by rw [upd_ne n]; exact e
  · rintro vs H Q E ⟨x, dx, bs, rfl, hx, ok, k⟩
    refine ⟨[.ref x], bs.map V.int, rfl, rfl, ?_, fun t ht => ⟨x, dx, t, bs, rfl, ?_, upd_same, ok, fun H' h1 h2 => ?_⟩⟩
    · rw [List.length_map]
      exact Nat.le_trans ok.l2 (by decide)
    · rw [upd_ne (ne_of_none hx ht)]; exact hx
    · have ntx : t ≠ x := (ne_of_none hx ht).symm
      refine k t H' ht h1 (h2 t _ ntx upd_same) fun b o n e => h2 b o n ?_
      rw [upd_ne (ne_of_none e ht)]; exact e
/-- what the reading of Round(..) asks, from what a caller has -/
theorem mkRound {vs : List V} {H : Hp} {Q : VK} {E : XK} (h : ∃ bs : List Int, vs = bs.map V.int ∧ Okb bs ∧ ∀ (x : Addr) (H' : Hp), H x = none → RoundAt C H' x bs → Same H H' → Q (.ref x) H') :
    ∀ x dx, H x = Option.none → H dx = Option.none → dx ≠ x → spInit C (V.ref x :: vs) (upd (upd H dx (.own x)) x (.ins C dx [])) (fun v H2 => v = .non ∧ Q (.ref x) H2) E := by
  obtain ⟨bs, rfl, ok, k⟩ := h
  intro x dx hx hdx nd
  refine ⟨x, dx, bs, rfl, upd_same, ok, fun t H' ht h1 h2 h3 => ⟨rfl, k x H' hx ⟨dx, t, h1, h2⟩ fun b o e => ?_⟩⟩
  refine h3 b o (ne_of_none e hx) ?_
  rw [upd_ne (ne_of_none e hx), upd_ne (ne_of_none e hdx)]
  exact e
theorem mkRoundX {vs : List V} {H : Hp} {Qx : Addr → Hp → Prop} {E : XK} (h : ∃ bs : List Int, vs = bs.map V.int ∧ Okb bs ∧ ∀ (x : Addr) (H' : Hp), H x = none → RoundAt C H' x bs → Same H H' → Qx x H') :
    ∀ x dx, H x = Option.none → H dx = Option.none → dx ≠ x → spInit C (V.ref x :: vs) (upd (upd H dx (.own x)) x (.ins C dx [])) (fun v H2 => v = .non ∧ Qx x H2) E := by
  obtain ⟨bs, rfl, ok, k⟩ := h
  intro x dx hx hdx nd
  refine ⟨x, dx, bs, rfl, upd_same, ok, fun t H' ht h1 h2 h3 => ⟨rfl, k x H' hx ⟨dx, t, h1, h2⟩ fun b o e => ?_⟩⟩
  refine h3 b o (ne_of_none e hx) ?_
  rw [upd_ne (ne_of_none e hx), upd_ne (ne_of_none e hdx)]
  exact e
def spConst (C : Addr) : Sp := fun vs H Q _ => ∃ (b : Int), vs = [.int b] ∧ 0 ≤ b ∧ b ≤ 10000000000000000000000000000000 ∧ ∀ (x : Addr) (H' : Hp), H x = none → RoundAt C H' x [b] → Same H H' → Q (.ref x) H'
theorem ok1 {b : Int} (h0 : 0 ≤ b) (h1 : b ≤ 10000000000000000000000000000000) : Okb [b] := ⟨by simp, by simp, fun x hx => by simp at hx; subst hx; exact ⟨h0, h1⟩⟩
theorem scRoundConstant : FnScope ["budget"] ["budget"] (defScope sRoundConstant) := ⟨rfl, rfl, rfl, by decide +kernel, rfl, by decide +kernel, by decide +kernel⟩
theorem ok_Round_constant {f : Addr} {fd : FuncData} (F : Fun K "constant" "Round.constant" sRoundConstant f fd) (R_Round : ClsC K mg "Round" C) (MK_Round : Cn P w K mg base C 3 (spInit C)) : FnOk P w K mg base CX0 5 f fd ["budget"] (spConst C) := by
  refine F.ok scRoundConstant (fun vs H Q E h => ?_) (fun cdv A outer s H vs Q E hr h => ?_)
  · obtain ⟨b, rfl, _⟩ := h
    rfl
  · obtain ⟨b, rfl, b0, b1, k⟩ := h
    refine ⟨_, (pss_one (ps_ret (pe_mkR MK_Round (hr.mono (by decide)) rfl R_Round.mg pass0 (pa_cons (pv 0) pa_nil)))), ?_⟩
    walk_at "rd"
    exact mkRound ⟨[b], rfl, ok1 b0 b1, k⟩
/-! its properties and methods -/
def spBudgets (C : Addr) : Sp := fun vs H Q _ => ∃ (r : Addr) (bs : List Int), vs = [.ref r] ∧ RoundAt C H r bs ∧ ∀ (p : Addr), H p = none → Q (.ref p) (upd H p (.lst (bs.map V.int)))
theorem scRoundBudgets : FnScope ["self"] ["self"] (defScope sRoundBudgets) := ⟨rfl, rfl, rfl, by decide +kernel, rfl, by decide +kernel, by decide +kernel⟩
theorem ok_Round_budgets {f : Addr} {fd : FuncData} (F : Fun K "budgets" "Round.budgets" sRoundBudgets f fd) (B : Bi mg) (R_Round : ClsC K mg "Round" C) (N_Round : NoAttr K C "_budgets") : FnOk P w K mg base CX0 1 f fd ["self"] (spBudgets C) := by
  refine F.ok scRoundBudgets (fun vs H Q E h => ?_) (fun cdv A outer s H vs Q E hr h => ?_)
  · obtain ⟨r, bs, rfl, _⟩ := h
    rfl
  · obtain ⟨r, bs, rfl, ⟨dx, t, h1, h2⟩, k⟩ := h
    refine ⟨_, (pss_one (ps_ret (pe_callTy call_list_of (by rfl) B.listT (by decide +kernel) (pa_cons (pe_fld (pv 0) rfl) pa_nil)))), ?_⟩
    refine ⟨_, rfl, r, C, dx, _, _, rfl, h1, R_Round.cl, N_Round, rfl, t, _, rfl, .inr (SqT.of h2), k⟩
def spLen (C : Addr) : Sp := fun vs H Q _ => ∃ (r : Addr) (bs : List Int), vs = [.ref r] ∧ RoundAt C H r bs ∧ Q (.int bs.length) H
theorem scRoundLen : FnScope ["self"] ["self"] (defScope sRoundLen) := ⟨rfl, rfl, rfl, by decide +kernel, rfl, by decide +kernel, by decide +kernel⟩
theorem ok_Round_len {f : Addr} {fd : FuncData} (F : Fun K "__len__" "Round.__len__" sRoundLen f fd) (B : Bi mg) (R_Round : ClsC K mg "Round" C) (N_Round : NoAttr K C "_budgets") : FnOk P w K mg base CX0 1 f fd ["self"] (spLen C) := by
  refine F.ok scRoundLen (fun vs H Q E h => ?_) (fun cdv A outer s H vs Q E hr h => ?_)
  · obtain ⟨r, bs, rfl, _⟩ := h
    rfl
  · obtain ⟨r, bs, rfl, ⟨dx, t, h1, h2⟩, k⟩ := h
    refine ⟨_, (pss_one (ps_ret (pe_callB call_len_seq (by rfl) B.len PySem.boot_len (pa_cons (pe_fld (pv 0) rfl) pa_nil)))), ?_⟩
    refine ⟨_, rfl, r, C, dx, _, _, rfl, h1, R_Round.cl, N_Round, rfl, t, _, rfl, .inr (SqT.of h2), ?_⟩
    have e : ((bs.map V.int).length : Int) = bs.length := by rw [List.length_map]
    rw [e]
    exact k
theorem eqvAll_ints : ∀ (as bs : List Int), PyData.eqvAll (as.map PyData.int) (bs.map PyData.int) = decide (as = bs)
  | [], [] => by simp [PyData.eqvAll]
  | [], b :: bs => by simp [PyData.eqvAll]
  | a :: as, [] => by simp [PyData.eqvAll]
  | a :: as, b :: bs => by
    simp only [List.map_cons, PyData.eqvAll, PyData.eqv, eqvAll_ints as bs, List.cons.injEq]
    by_cases h : a = b
    · subst h; simp
    · simp [h]
theorem dpAll_ints {K : PySem.W.Frag} {H : Hp} : ∀ (as : List Int), DpAll K H (as.map V.int) (as.map PyData.int)
  | [] => .nil
  | a :: as => .cons (.int a) (dpAll_ints as)
theorem lay_ints : ∀ (as : List Int), PyData.canLayAll0 (as.map PyData.int) = true
  | [] => rfl
  | a :: as => by simp only [List.map_cons, PyData.canLayAll0, PyData.canLay0, lay_ints as]; rfl
theorem dep_ints : ∀ (as : List Int), PyData.depthAll (as.map PyData.int) = 0
  | [] => rfl
  | a :: as => by simp only [List.map_cons, PyData.depthAll, PyData.depth, dep_ints as]; rfl
theorem shaped_tup (as : List Int) : SeqAt.shaped (.tuple (as.map PyData.int)) = true := by
  show (PyData.canLayAll0 (as.map PyData.int) && decide (PyData.depthAll (as.map PyData.int) + 1 ≤ 64)) = true
  rw [lay_ints, dep_ints]; rfl
theorem shaped_lst (as : List Int) : SeqAt.shaped (.list (as.map PyData.int)) = true := by
  show (PyData.canLayAll0 (as.map PyData.int) && decide (PyData.depthAll (as.map PyData.int) + 1 ≤ 64)) = true
  rw [lay_ints, dep_ints]; rfl
def spEqR (C : Addr) : Sp := fun vs H Q _ => ∃ (r q : Addr) (as bs : List Int), vs = [.ref r, .ref q] ∧ RoundAt C H r as ∧ RoundAt C H q bs ∧ Q (.bl (decide (as = bs))) H
theorem scRoundEq : FnScope ["self", "other"] ["self", "other"] (defScope sRoundEq) := ⟨rfl, rfl, rfl, by decide +kernel, rfl, by decide +kernel, by decide +kernel⟩
theorem ok_Round_eq {f : Addr} {fd : FuncData} (F : Fun K "__eq__" "Round.__eq__" sRoundEq f fd) (B : Bi mg) (R_Round : ClsC K mg "Round" C) (N_Round : NoAttr K C "_budgets") : FnOk P w K mg base CX0 1 f fd ["self", "other"] (spEqR C) := by
  refine F.ok scRoundEq (fun vs H Q E h => ?_) (fun cdv A outer s H vs Q E hr h => ?_)
  · obtain ⟨r, q, as, bs, rfl, _⟩ := h
    rfl
  · obtain ⟨r, q, as, bs, rfl, ⟨dx, t, h1, h2⟩, ⟨dy, u, g1, g2⟩, k⟩ := h
    refine ⟨_, (pss_one (ps_ret (pe_and (pe_callB (C8.call_isC R_Round.ic) (by rfl) B.isinstance (by decide +kernel) (pa_cons (pv 1) (pa_cons (pe_cls R_Round rfl) pa_nil))) (pe_one (pe_cmpR (op_eqD hr.units) (pe_fld (pv 0) rfl) (pe_fld (pv 1) rfl) (nomark _)))))), ?_⟩
    refine ⟨_, rfl, q, dy, _, rfl, g1, _, rfl, iteT ?_⟩
    refine ⟨_, rfl, r, C, dx, _, _, rfl, h1, R_Round.cl, N_Round, rfl, _, rfl, q, C, dy, _, _, rfl, g1, R_Round.cl, N_Round, rfl, .tuple (as.map .int), .tuple (bs.map .int), .tup (SqT.of h2) (dpAll_ints as), .tup (SqT.of g2) (dpAll_ints bs), ?_, ?_, ?_⟩
    · exact shaped_tup as
    · exact shaped_tup bs
    · show Q (.bl (PyData.eqvAll (as.map .int) (bs.map .int))) H
      rw [eqvAll_ints]
      exact k
def spAddR (C : Addr) : Sp := fun vs H Q _ => ∃ (r q : Addr) (as bs : List Int), vs = [.ref r, .ref q] ∧ RoundAt C H r as ∧ RoundAt C H q bs ∧ Okb as ∧ Okb bs ∧ as.length + bs.length ≤ 12 ∧ ∀ (x : Addr) (H' : Hp), H x = none → RoundAt C H' x (as ++ bs) → Same H H' → Q (.ref x) H'
theorem Okb.app {as bs : List Int} (a : Okb as) (b : Okb bs) (h : as.length + bs.length ≤ 12) : Okb (as ++ bs) :=
  ⟨by rw [List.length_append]; have := a.l1; omega, by rw [List.length_append]; exact h, fun x hx => (List.mem_append.mp hx).elim (a.nn x) (b.nn x)⟩
theorem scRoundAdd : FnScope ["self", "other", "both"] ["self", "other"] (defScope sRoundAdd) := ⟨rfl, rfl, rfl, by decide +kernel, rfl, by decide +kernel, by decide +kernel⟩
theorem ok_Round_add {f : Addr} {fd : FuncData} (F : Fun K "__add__" "Round.__add__" sRoundAdd f fd) (B : Bi mg) (R_Round : ClsC K mg "Round" C) (N_Round : NoAttr K C "_budgets") (MK_Round : Cn P w K mg base C 3 (spInit C)) : FnOk P w K mg base CX0 5 f fd ["self", "other"] (spAddR C) := by
  refine F.ok scRoundAdd (fun vs H Q E h => ?_) (fun cdv A outer s H vs Q E hr h => ?_)
  · obtain ⟨r, q, as, bs, rfl, _⟩ := h
    rfl
  · obtain ⟨r, q, as, bs, rfl, ⟨dx, t, h1, h2⟩, ⟨dy, u, g1, g2⟩, oa, ob, hl, k⟩ := h
    refine ⟨_, (pss_cons (ps_if (pt_not (pt_val (pe_callB (C8.call_isC R_Round.ic) (by rfl) B.isinstance (by decide +kernel) (pa_cons (pv 1) (pa_cons (pe_cls R_Round rfl) pa_nil))))) (pss_one ps_never)
  pss_nil)
  (pss_cons (ps_set (i := 2) scRoundAdd.nd rfl (Or.inl rfl) (pe_op op_catE (pe_fld (pv 0) rfl) (pe_fld (pv 1) rfl)))
  (pss_one (ps_ret (pe_mkS MK_Round (hr.mono (by decide)) rfl R_Round.mg pass0 (pv 2)))))), ?_⟩
    refine ⟨_, rfl, q, dy, _, rfl, g1, ?_⟩
    walk_at "rd"
    refine ⟨r, C, dx, _, _, rfl, h1, R_Round.cl, N_Round, rfl, ?_⟩
    refine ⟨_, rfl, q, C, dy, _, _, rfl, g1, R_Round.cl, N_Round, rfl, ?_⟩
    refine ⟨_, _, _, _, rfl, rfl, SqT.of h2, SqT.of g2, by rw [List.length_map, List.length_map]; omega, fun p H1 hp e1 => ?_⟩
    walk_at "rd"
    refine ⟨p, _, rfl, .inl hp, ?_⟩
    intro x dx' hx hdx nd
    exact mkRound (E := E0) ⟨as ++ bs, by rw [List.map_append], oa.app ob hl, fun x H2 hx h3 e2 => k x H2 (e1.free hx) h3 (e1.trans e2)⟩ x dx' hx hdx nd
def spAt (C : Addr) : Sp := fun vs H Q _ => ∃ (r : Addr) (bs : List Int) (t v : Int), vs = [.ref r, .int t] ∧ RoundAt C H r bs ∧ Okb bs ∧ 0 ≤ t ∧ bs[(t % bs.length).toNat]? = some v ∧ Q (.int v) H
theorem scRoundAt : FnScope ["self", "t"] ["self", "t"] (defScope sRoundAt) := ⟨rfl, rfl, rfl, by decide +kernel, rfl, by decide +kernel, by decide +kernel⟩
theorem ok_Round_at {f : Addr} {fd : FuncData} (F : Fun K "at" "Round.at" sRoundAt f fd) (B : Bi mg) (R_Round : ClsC K mg "Round" C) (N_Round : NoAttr K C "_budgets") (D_check_least : Dn P w K mg base "check_least" 2 ["value", "least", "field"] spCheckLeast) :
    FnOk P w K mg base CX0 3 f fd ["self", "t"] (spAt C) := by
  refine F.ok scRoundAt (fun vs H Q E h => ?_) (fun cdv A outer s H vs Q E hr h => ?_)
  · obtain ⟨r, bs, t, v, rfl, _⟩ := h
    rfl
  · obtain ⟨r, bs, m, v, rfl, ⟨dx, t, h1, h2⟩, ok, m0, hv, k⟩ := h
    refine ⟨_, (pss_cons (ps_expr (pe_dn D_check_least (hr.mono (by decide)) (by rfl) pass0 (pa_cons (pv 1) (pa_cons pe_int (pa_cons pe_str pa_nil)))))
  (pss_one (ps_ret (pe_ix ix_tup (pe_fld (pv 0) rfl) (pe_op op_mod (pv 1) (pe_callB call_len_seq (by rfl) B.len PySem.boot_len (pa_cons (pe_fld (pv 0) rfl) pa_nil))) (fun _ _ => rfl))))), ?_⟩
    have hl : (bs.map V.int).length = bs.length := List.length_map ..
    have l1 := ok.l1
    walk_at "rd"
    refine ⟨m0, ?_⟩
    refine ⟨_, rfl, r, C, dx, _, _, rfl, h1, R_Round.cl, N_Round, rfl, ?_⟩
    refine ⟨_, rfl, _, rfl, r, C, dx, _, _, rfl, h1, R_Round.cl, N_Round, rfl, t, _, rfl, .inr (SqT.of h2), ?_⟩
    refine ⟨_, _, rfl, rfl, (by show (0 : Int) < ((bs.map V.int).length : Int); omega), ?_⟩
    refine ⟨t, _, _, _, rfl, rfl, SqT.of h2, at_of (j := (m % bs.length).toNat) (v := .int v) ?_ ?_, k⟩
    · rw [hl]
      have := Int.emod_nonneg m (show (bs.length : Int) ≠ 0 by omega)
      omega
    · rw [List.getElem?_map, hv]; rfl
/-- the list from this place on, around -/
def rot (bs : List Int) (f : Nat) : List Int := bs.drop f ++ bs.take f
theorem rot_len {bs : List Int} {f : Nat} (h : f ≤ bs.length) : (rot bs f).length = bs.length := by
  unfold rot
  rw [List.length_append, List.length_drop, List.length_take]; omega
theorem Okb.rot {bs : List Int} {f : Nat} (o : Okb bs) (h : f ≤ bs.length) : Okb (rot bs f) :=
  ⟨by rw [rot_len h]; exact o.l1, by rw [rot_len h]; exact o.l2, fun b hb => o.nn b ((List.mem_append.mp hb).elim List.mem_of_mem_drop List.mem_of_mem_take)⟩
theorem cut_from {xs : List V} {f : Nat} : cutV xs (some (f : Int)) none = xs.drop f := by
  unfold cutV
  rw [HT.sIx_nat, HT.sIx_none]
  by_cases h : f ≤ xs.length
  · rw [Nat.min_eq_left h, List.take_of_length_le (by rw [List.length_drop]; omega)]
  · rw [Nat.min_eq_right (by omega), List.drop_length, List.drop_eq_nil_iff.mpr (by omega)]; simp
theorem cut_to {xs : List V} {f : Nat} : cutV xs none (some (f : Int)) = xs.take f := by
  unfold cutV
  rw [HT.sIx_nat, HT.sIx_none, Nat.sub_zero, List.drop_zero]
  by_cases h : f ≤ xs.length
  · rw [Nat.min_eq_left h]
  · rw [Nat.min_eq_right (by omega), List.take_length, List.take_of_length_le (by omega)]
theorem cut_both {xs : List V} {f g : Nat} (h : g ≤ xs.length) (h2 : f ≤ g) : cutV xs (some (f : Int)) (some (g : Int)) = (xs.drop f).take (g - f) := by
  unfold cutV
  rw [HT.sIx_nat, HT.sIx_nat, Nat.min_eq_left h, Nat.min_eq_left (by omega)]
def spShifted (C : Addr) : Sp := fun vs H Q _ => ∃ (r : Addr) (bs : List Int) (m : Int), vs = [.ref r, .int m] ∧ RoundAt C H r bs ∧ Okb bs ∧ 0 ≤ m ∧ ∀ (x : Addr) (H' : Hp), H x = none → RoundAt C H' x (rot bs (m % bs.length).toNat) → Same H H' → Q (.ref x) H'
theorem scRoundShifted : FnScope ["self", "phase", "first", "turned"] ["self", "phase"] (defScope sRoundShifted) := ⟨rfl, rfl, rfl, by decide +kernel, rfl, by decide +kernel, by decide +kernel⟩
theorem ok_Round_shifted {f : Addr} {fd : FuncData} (F : Fun K "shifted" "Round.shifted" sRoundShifted f fd) (B : Bi mg) (R_Round : ClsC K mg "Round" C) (N_Round : NoAttr K C "_budgets") (MK_Round : Cn P w K mg base C 3 (spInit C))
    (D_check_least : Dn P w K mg base "check_least" 2 ["value", "least", "field"] spCheckLeast) : FnOk P w K mg base CX0 5 f fd ["self", "phase"] (spShifted C) := by
  refine F.ok scRoundShifted (fun vs H Q E h => ?_) (fun cdv A outer s H vs Q E hr h => ?_)
  · obtain ⟨r, bs, t, rfl, _⟩ := h
    rfl
  · obtain ⟨r, bs, m, rfl, ⟨dx, t, h1, h2⟩, ok, m0, k⟩ := h
    refine ⟨_, (pss_cons (ps_expr (pe_dn D_check_least (hr.mono (by decide)) (by rfl) pass0 (pa_cons (pv 1) (pa_cons pe_int (pa_cons pe_str pa_nil)))))
  (pss_cons (ps_set (i := 2) scRoundShifted.nd rfl (Or.inl rfl) (pe_op op_mod (pv 1) (pe_callB call_len_seq (by rfl) B.len PySem.boot_len (pa_cons (pe_fld (pv 0) rfl) pa_nil))))
  (pss_cons (ps_set (i := 3) scRoundShifted.nd rfl (Or.inl rfl) (pe_op op_catE (pe_slice sl_tupE (pe_fld (pv 0) rfl) (po_some (pv 2)) po_none) (pe_slice sl_tupE (pe_fld (pv 0) rfl) po_none (po_some (pv 2)))))
  (pss_one (ps_ret (pe_mkS MK_Round (hr.mono (by decide)) rfl R_Round.mg pass0 (pv 3))))))), ?_⟩
    have hl : (bs.map V.int).length = bs.length := List.length_map ..
    have l1 := ok.l1
    have f0 := Int.emod_nonneg m (show (bs.length : Int) ≠ 0 by omega)
    have f1 := Int.emod_lt_of_pos m (show (0 : Int) < bs.length by omega)
    obtain ⟨f, hf⟩ : ∃ f : Nat, m % bs.length = (f : Int) := ⟨(m % bs.length).toNat, by omega⟩
    have ef : (m % bs.length).toNat = f := by omega
    rw [ef] at k
    walk_at "rd"
    refine ⟨m0, ?_⟩
    refine ⟨_, rfl, _, rfl, r, C, dx, _, _, rfl, h1, R_Round.cl, N_Round, rfl, t, _, rfl, .inr (SqT.of h2), ?_⟩
    refine ⟨_, _, rfl, rfl, (by show (0 : Int) < ((bs.map V.int).length : Int); omega), ?_⟩
    refine ⟨_, rfl, r, C, dx, _, _, rfl, h1, R_Round.cl, N_Round, rfl, _, rfl, _, rfl, t, _, rfl, SqT.of h2, fun p H1 hp e1 => ?_⟩
    refine ⟨_, rfl, r, C, dx, _, _, rfl, e1 _ _ h1, R_Round.cl, N_Round, rfl, _, rfl, _, rfl, t, _, rfl, SqT.of (e1 _ _ h2), fun q H2 hq e2 => ?_⟩
    have hp2 : SqT K H2 p (cutV (bs.map V.int) (some (m % ((bs.map V.int).length : Int))) none) := Evl.ex_t e2 hp
    rw [hl, hf] at hp2 hq
    rw [cut_from] at hp2
    rw [cut_to] at hq
    refine ⟨p, q, _, _, rfl, rfl, hp2, hq, ?_, fun o H3 ho e3 => ?_⟩
    · rw [List.length_drop, List.length_take]
      have := ok.l2
      omega
    walk_at "rd"
    refine ⟨o, _, rfl, .inl ho, ?_⟩
    intro x dx' hx hdx nd
    refine mkRound (E := E0) ⟨rot bs f, ?_, ok.rot (by omega), fun x H4 hx h3 e4 => k x H4 (e1.free (e2.free (e3.free hx))) h3 (((e1.trans e2).trans e3).trans e4)⟩ x dx' hx hdx nd
    unfold rot
    rw [List.map_append, List.map_drop, List.map_take]
/-- what total reckons -/
def tot (bs : List Int) (s c : Int) : Int := c / bs.length * bs.sum + (((bs ++ bs).drop (s % bs.length).toNat).take (c % bs.length).toNat).sum
theorem sum_le : ∀ {bs : List Int} {M : Int}, (∀ b, b ∈ bs → 0 ≤ b ∧ b ≤ M) → 0 ≤ bs.sum ∧ bs.sum ≤ bs.length * M
  | [], M, _ => by simp
  | b :: bs, M, h => by
    have h1 := h b List.mem_cons_self
    have h2 := sum_le (bs := bs) (M := M) fun x hx => h x (List.mem_cons_of_mem _ hx)
    rw [List.sum_cons, List.length_cons]
    have e : ((bs.length + 1 : Nat) : Int) * M = bs.length * M + M := by rw [Int.natCast_add, Int.add_mul]; simp
    rw [e]
    omega
theorem Okb.sum_b {bs : List Int} (o : Okb bs) : 0 ≤ bs.sum ∧ bs.sum ≤ 1000000000000000000000000000000000 := by
  have h := sum_le o.nn
  have l2 := o.l2
  have : (bs.length : Int) * 10000000000000000000000000000000 ≤ 12 * 10000000000000000000000000000000 := Int.mul_le_mul_of_nonneg_right (by omega) (by decide)
  omega
def spTotal (C : Addr) : Sp := fun vs H Q _ => ∃ (r : Addr) (bs : List Int) (s c : Int), vs = [.ref r, .int s, .int c] ∧ RoundAt C H r bs ∧ Okb bs ∧ 0 ≤ s ∧ 0 ≤ c ∧ c ≤ 1000000000000000000000000000000000000000000000000000000000000 ∧ ∀ (H' : Hp), Same H H' → Q (.int (tot bs s c)) H'
theorem scRoundTotal : FnScope ["self", "start", "count", "whole", "rest", "first", "twice"] ["self", "start", "count"] (defScope sRoundTotal) := ⟨rfl, rfl, rfl, by decide +kernel, rfl, by decide +kernel, by decide +kernel⟩
theorem ok_Round_total {f : Addr} {fd : FuncData} (F : Fun K "total" "Round.total" sRoundTotal f fd) (B : Bi mg) (R_Round : ClsC K mg "Round" C) (N_Round : NoAttr K C "_budgets") (D_check_least : Dn P w K mg base "check_least" 2 ["value", "least", "field"] spCheckLeast) :
    FnOk P w K mg base CX0 3 f fd ["self", "start", "count"] (spTotal C) := by
  refine F.ok scRoundTotal (fun vs H Q E h => ?_) (fun cdv A outer s H vs Q E hr h => ?_)
  · obtain ⟨r, bs, s, c, rfl, _⟩ := h
    rfl
  · obtain ⟨r, bs, st, c, rfl, ⟨dx, t, h1, h2⟩, ok, s0, c0, c1, k⟩ := h
    refine ⟨_, (pss_cons (ps_expr (pe_dn D_check_least (hr.mono (by decide)) (by rfl) pass0 (pa_cons (pv 1) (pa_cons pe_int (pa_cons pe_str pa_nil)))))
  (pss_cons (ps_expr (pe_dn D_check_least (hr.mono (by decide)) (by rfl) pass0 (pa_cons (pv 2) (pa_cons pe_int (pa_cons pe_str pa_nil)))))
  (pss_cons (ps_asg (pe_callB call_divmod (by rfl) B.divmod (by decide +kernel) (pa_cons (pv 2) (pa_cons (pe_callB call_len_seq (by rfl) B.len PySem.boot_len (pa_cons (pe_fld (pv 0) rfl) pa_nil)) pa_nil))) (pg_tup (by rfl) (pgs_cons (pg_name (i := 3) scRoundTotal.nd rfl (Or.inl rfl)) (pgs_cons (pg_name (i := 4) scRoundTotal.nd rfl (Or.inl rfl)) pgs_nil))))
  (pss_cons (ps_set (i := 5) scRoundTotal.nd rfl (Or.inl rfl) (pe_op op_mod (pv 1) (pe_callB call_len_seq (by rfl) B.len PySem.boot_len (pa_cons (pe_fld (pv 0) rfl) pa_nil))))
  (pss_cons (ps_set (i := 6) scRoundTotal.nd rfl (Or.inl rfl) (pe_op op_catE (pe_fld (pv 0) rfl) (pe_fld (pv 0) rfl)))
  (pss_one (ps_ret (pe_op op_add (pe_op op_mulW (pv 3) (pe_callB (cr_sumT rfl) (by rfl) B.sum (by decide +kernel) (pa_cons (pe_fld (pv 0) rfl) pa_nil))) (pe_callB (cr_sumT rfl) (by rfl) B.sum (by decide +kernel) (pa_cons (pe_slice sl_tupE (pv 6) (po_some (pv 5)) (po_some (pe_op op_add (pv 5) (pv 4)))) pa_nil)))))))))), ?_⟩
    have hl : (bs.map V.int).length = bs.length := List.length_map ..
    have l1 := ok.l1
    have l2 := ok.l2
    have ln : (0 : Int) < bs.length := by omega
    walk_at "rd"
    refine ⟨s0, ?_⟩
    walk_at "rd"
    refine ⟨c0, ?_⟩
    refine ⟨_, rfl, _, rfl, r, C, dx, _, _, rfl, h1, R_Round.cl, N_Round, rfl, t, _, rfl, .inr (SqT.of h2), ?_⟩
    refine ⟨_, _, rfl, ⟨by omega, by omega⟩, fun p hp => ?_⟩
    refine ⟨p, _, rfl, SqT.of upd_same, rfl, _, _, rfl, _, _, rfl, rfl, ?_⟩
    have e1 : Same H (upd H p (.tup [V.int (c / ((bs.map V.int).length : Int)), V.int (c % ((bs.map V.int).length : Int))])) := Same.upd hp
    generalize upd H p (.tup [V.int (c / ((bs.map V.int).length : Int)), V.int (c % ((bs.map V.int).length : Int))]) = H1 at e1 ⊢
    refine ⟨_, rfl, _, rfl, r, C, dx, _, _, rfl, e1 _ _ h1, R_Round.cl, N_Round, rfl, t, _, rfl, .inr (SqT.of (e1 _ _ h2)), ?_⟩
    refine ⟨_, _, rfl, rfl, (by show (0 : Int) < ((bs.map V.int).length : Int); omega), ?_⟩
    refine ⟨_, rfl, r, C, dx, _, _, rfl, e1 _ _ h1, R_Round.cl, N_Round, rfl, _, rfl, r, C, dx, _, _, rfl, e1 _ _ h1, R_Round.cl, N_Round, rfl, t, t, _, _, rfl, rfl, SqT.of (e1 _ _ h2), SqT.of (e1 _ _ h2), by omega, fun q H2 hq e2 => ?_⟩
    refine ⟨_, rfl, _, rfl, r, C, dx, _, _, rfl, e2 _ _ (e1 _ _ h1), R_Round.cl, N_Round, rfl, t, bs, rfl, SqT.of (e2 _ _ (e1 _ _ h2)), ?_⟩
    have sb := ok.sum_b
    have f0 := Int.emod_nonneg st (show (bs.length : Int) ≠ 0 by omega)
    have f1 := Int.emod_lt_of_pos st ln
    have g0 := Int.emod_nonneg c (show (bs.length : Int) ≠ 0 by omega)
    have g1 := Int.emod_lt_of_pos c ln
    have d0 : 0 ≤ c / bs.length := Int.ediv_nonneg c0 (by omega)
    have d1 : c / bs.length ≤ c := Int.ediv_le_self _ c0
    rw [hl]
    refine ⟨_, _, rfl, rfl, mulB (by omega) (by omega) (by omega) (by omega), ?_⟩
    obtain ⟨a, ha⟩ : ∃ a : Nat, st % bs.length = (a : Int) := ⟨(st % bs.length).toNat, by omega⟩
    obtain ⟨b, hb⟩ : ∃ b : Nat, c % bs.length = (b : Int) := ⟨(c % bs.length).toNat, by omega⟩
    have ha' : a < bs.length := by omega
    have hb' : b < bs.length := by omega
    refine ⟨_, rfl, _, rfl, _, rfl, _, rfl, _, rfl, _, _, rfl, rfl, _, rfl, q, _, rfl, hq, fun o H3 ho e3 => ?_⟩
    rw [ha, hb] at ho
    have ecut : cutV (bs.map V.int ++ bs.map V.int) (some (a : Int)) (some ((a : Int) + (b : Int))) = (((bs ++ bs).drop a).take b).map V.int := by
      rw [← Int.natCast_add, cut_both (by rw [List.length_append, hl]; omega) (by omega), Nat.add_sub_cancel_left, ← List.map_append, List.map_take, List.map_drop]
    rw [ecut] at ho
    refine ⟨o, _, rfl, ho, _, _, rfl, rfl, ?_⟩
    have key := k H3 ((e1.trans e2).trans e3)
    unfold tot at key
    rw [ha, hb, Int.toNat_natCast, Int.toNat_natCast] at key
    exact key
end
end Cl

/-! ### the rows of budgets that the laws draw, and the Round of each -/
namespace Cl
theorem int_of_map {ns : List Int} {i : Nat} {y : V} (h : (ns.map V.int)[i]? = some y) : ∃ z, ns[i]? = some z ∧ y = V.int z := by
  rw [List.getElem?_map] at h
  cases e : ns[i]? with
  | none => rw [e] at h; cases h
  | some z => rw [e] at h; exact ⟨z, rfl, (Option.some.inj h).symm⟩
theorem bag_ne {H : Hp} {a l : Addr} (hB : BagAt H a) (hl : H l = none) : l ≠ a := fun e => by
  subst e
  obtain ⟨_, _, _, e2⟩ := hB
  rw [e2] at hl; cases hl
theorem But.none {a p : Addr} {H H1 : Hp} (x : But a H H1) (ha : BagAt H1 a) (h : H1 p = Option.none) : H p = Option.none := by
  cases q : H p with
  | none => rfl
  | some o =>
    by_cases e : p = a
    · subst e
      obtain ⟨_, _, _, e2⟩ := ha
      rw [e2] at h; cases h
    · rw [x p o e q] at h; cases h
section
variable {P : Program} {w : World} {K : PySem.W.Frag} {mg : Str → Option Value} {base : Heap} {C : Addr}
def spRow : Sp := fun vs H Q _ => ∃ (a : Addr) (n : Int), vs = [.ref a, .int n] ∧ BagAt H a ∧ 1 ≤ n ∧ n ≤ 12 ∧
  ∀ (p : Addr) (bs : List Int) (H' : Hp), H p = none → H' p = some (.lst (bs.map V.int)) → (bs.length : Int) = n → (∀ b, b ∈ bs → 0 ≤ b ∧ b ≤ 1000000000000000000000000000000) → BagAt H' a → But a H H' → Q (.ref p) H'
theorem scLawRow : FnScope ["bag", "size", "mode", "alike", "row", "k"] ["bag", "size"] (defScope sLawRow) := ⟨rfl, rfl, rfl, by decide +kernel, rfl, by decide +kernel, by decide +kernel⟩
theorem ok_row {f : Addr} {fd : FuncData} (F : Fun K "_law_row" "_law_row" sLawRow f fd) (B : Bi mg) (D__law_take : Dn P w K mg base "_law_take" 1 ["bag", "size"] spTake) (D__law_number : Dn P w K mg base "_law_number" 2 ["bag", "most"] spNumber) : FnOk P w K mg base CX0 3 f fd ["bag", "size"] spRow := by
  refine F.ok scLawRow (fun vs H Q E h => ?_) (fun cdv A outer s H vs Q E hr h => ?_)
  · obtain ⟨a, n, rfl, _⟩ := h
    rfl
  · obtain ⟨a, n, rfl, hB, n1, n2, k⟩ := h
    refine ⟨_, (pss_cons (ps_set (i := 2) scLawRow.nd rfl (Or.inl rfl) (pe_dn D__law_take (hr.mono (by decide)) (by rfl) pass0 (pa_cons (pv 0) (pa_cons pe_int pa_nil))))
  (pss_cons (ps_set (i := 3) scLawRow.nd rfl (Or.inl rfl) (pe_dn D__law_take (hr.mono (by decide)) (by rfl) pass0 (pa_cons (pv 0) (pa_cons pe_int pa_nil))))
  (pss_cons (ps_set (i := 4) scLawRow.nd rfl (Or.inl rfl) (pe_lst pa_nil))
  (pss_cons (ps_for PassesOwn.never rfl (pi_range1 rfl B.range (pa_cons (pv 1) pa_nil)) (pg_name (i := 5) scLawRow.nd rfl (Or.inl rfl))
  (pss_one (ps_if (pt_cmpR op_eq (pv 2) pe_int (nomark _)) (pss_one (ps_expr (pe_bm PySem.F.plainAttrs_list PySem.F.slot_list_append PySem.F.type_list_append mt_append (pv 4) (pa_cons (pe_dn D__law_take (hr.mono (by decide)) (by rfl) pass0 (pa_cons (pv 0) (pa_cons pe_int pa_nil))) pa_nil))))
  (pss_one (ps_if (pt_cmpR op_eq (pv 2) pe_int (nomark _)) (pss_one (ps_expr (pe_bm PySem.F.plainAttrs_list PySem.F.slot_list_append PySem.F.type_list_append mt_append (pv 4) (pa_cons (pv 3) pa_nil))))
  (pss_one (ps_if (pt_cmpR op_eq (pv 2) pe_int (nomark _)) (pss_one (ps_expr (pe_bm PySem.F.plainAttrs_list PySem.F.slot_list_append PySem.F.type_list_append mt_append (pv 4) (pa_cons (pe_op op_mulW (pe_dn D__law_take (hr.mono (by decide)) (by rfl) pass0 (pa_cons (pv 0) (pa_cons pe_int pa_nil))) (pe_dn D__law_take (hr.mono (by decide)) (by rfl) pass0 (pa_cons (pv 0) (pa_cons pe_int pa_nil)))) pa_nil))))
  (pss_one (ps_if (pt_cmpR op_eq (pv 2) pe_int (nomark _)) (pss_one (ps_expr (pe_bm PySem.F.plainAttrs_list PySem.F.slot_list_append PySem.F.type_list_append mt_append (pv 4) (pa_cons (pe_dn D__law_number (hr.mono (by decide)) (by rfl) pass0 (pa_cons (pv 0) (pa_cons (pe_op op_pow pe_int pe_int) pa_nil))) pa_nil))))
  (pss_one (ps_expr (pe_bm PySem.F.plainAttrs_list PySem.F.slot_list_append PySem.F.type_list_append mt_append (pv 4) (pa_cons (pe_dn D__law_take (hr.mono (by decide)) (by rfl) pass0 (pa_cons (pv 0) (pa_cons pe_int pa_nil))) pa_nil)))))))))))))
  (pss_one (ps_ret (pv 4))))))), ?_⟩
    walk_at "rd"
    refine ⟨hB, by decide, by decide, fun mode H1 _ _ hB1 b1 => ?_⟩
    walk_at "rd"
    refine ⟨hB1, by decide, by decide, fun al H2 al0 al1 hB2 b2 => ?_⟩
    walk_at "rd"
    refine ⟨Nat.zero_le _, fun l hl => ?_⟩
    have la := bag_ne hB2 hl
    have hlH : H l = Option.none := (b1.trans b2).none hB2 hl
    walk_at "rd"
    refine ⟨by omega, by omega, ?_⟩
    refine for_range (fun i σ H' => ∃ (v : Option V) (bs : List Int), σ = [some (.ref a), some (.int n), some (.int mode), some (.int al), some (.ref l), v] ∧ H' l = some (.lst (bs.map V.int)) ∧ bs.length = i ∧ (∀ b, b ∈ bs → 0 ≤ b ∧ b ≤ 1000000000000000000000000000000) ∧ BagAt H' a ∧ But a H H')
      ⟨_, [], rfl, upd_same, rfl, by simp, hB2.same (Same.upd hl), (b1.trans b2).trans (But.of (Same.upd hl))⟩ ?_ ?_
    · rintro i σ H3 hi ⟨v, bs, rfl, hL, hlen, hb, hB3, b3⟩
      -- what a turn makes of a new number d
      have fin : ∀ (d : Int) (H4 : Hp) (v' : Option V), 0 ≤ d → d ≤ 1000000000000000000000000000000 → BagAt H4 a → But a H3 H4 → ∃ (w' : Option V) (cs : List Int), [some (V.ref a), some (.int n), some (.int mode), some (.int al), some (.ref l), v'] = [some (V.ref a), some (.int n), some (.int mode), some (.int al), some (.ref l), w'] ∧
          upd H4 l (.lst (bs.map V.int ++ [V.int d])) l = some (.lst (cs.map V.int)) ∧ cs.length = i + 1 ∧ (∀ b, b ∈ cs → 0 ≤ b ∧ b ≤ 1000000000000000000000000000000) ∧ BagAt (upd H4 l (.lst (bs.map V.int ++ [V.int d]))) a ∧ But a H (upd H4 l (.lst (bs.map V.int ++ [V.int d]))) := fun d H4 v' d0 d1 hB4 b4 => by
        refine ⟨v', bs ++ [d], rfl, by rw [upd_same, List.map_append]; rfl, by rw [List.length_append, hlen]; rfl, fun b hb' => ?_, ?_, fun b o nb e => ?_⟩
        · rcases List.mem_append.mp hb' with h | h
          · exact hb b h
          · simp at h; subst h; exact ⟨d0, d1⟩
        · obtain ⟨x, y, z, e⟩ := hB4
          exact ⟨x, y, z, by rw [upd_ne la.symm]; exact e⟩
        · have nbl : b ≠ l := fun q => by rw [q, hlH] at e; cases e
          rw [upd_ne nbl]
          exact b4 b o nb (b3 b o nb e)
      have hsz : (bs.map V.int).length < sizeLine := by
        rw [List.length_map, hlen]
        have : (10000 : Nat) ≤ sizeLine := by decide
        omega
      walk_at "rd"
      refine iti (fun _ => ?_) (fun _ => ?_)
      · refine ⟨_, rfl, .inl ⟨rfl, _, SqL.of hL⟩, ?_⟩
        walk_at "rd"
        refine ⟨hB3, by decide, by decide, fun d H4 d0 d1 hB4 b4 => ?_⟩
        refine ⟨l, _, _, rfl, rfl, b4 l _ la hL, hsz, ?_⟩
        exact fin d H4 _ d0 (by omega) hB4 b4
      walk_at "rd"
      refine iti (fun _ => ?_) (fun _ => ?_)
      · refine ⟨_, rfl, .inl ⟨rfl, _, SqL.of hL⟩, ?_⟩
        refine ⟨_, rfl, l, _, _, rfl, rfl, hL, hsz, ?_⟩
        exact fin al H3 _ al0 (by omega) hB3 (But.refl _ _)
      walk_at "rd"
      refine iti (fun _ => ?_) (fun _ => ?_)
      · refine ⟨_, rfl, .inl ⟨rfl, _, SqL.of hL⟩, ?_⟩
        walk_at "rd"
        refine ⟨hB3, by decide, by decide, fun d H4 d0 d1 hB4 b4 => ?_⟩
        walk_at "rd"
        refine ⟨hB4, by decide, by decide, fun e H5 e0 e1 hB5 b5 => ?_⟩
        walk_at "rd"
        refine ⟨mulB (by omega) (by omega) (by omega) (by omega), ?_⟩
        have p0 : 0 ≤ d * e := Int.mul_nonneg d0 e0
        have p1 : d * e ≤ 1 * e := Int.mul_le_mul_of_nonneg_right (by omega) e0
        refine ⟨l, _, _, rfl, rfl, b5 l _ la (b4 l _ la hL), hsz, ?_⟩
        exact fin (d * e) H5 _ p0 (by omega) hB5 (b4.trans b5)
      walk_at "rd"
      refine iti (fun _ => ?_) (fun _ => ?_)
      · refine ⟨_, rfl, .inl ⟨rfl, _, SqL.of hL⟩, ?_⟩
        walk_at "rd"
        refine ⟨hB3, by decide, by decide, fun d H4 d0 d1 hB4 b4 => ?_⟩
        have d2 : d ≤ 1000000000000000000000000000000 := d1
        refine ⟨l, _, _, rfl, rfl, b4 l _ la hL, hsz, ?_⟩
        exact fin d H4 _ d0 d2 hB4 b4
      · refine ⟨_, rfl, .inl ⟨rfl, _, SqL.of hL⟩, ?_⟩
        walk_at "rd"
        refine ⟨hB3, by decide, by decide, fun d H4 d0 d1 hB4 b4 => ?_⟩
        refine ⟨l, _, _, rfl, rfl, b4 l _ la hL, hsz, ?_⟩
        exact fin d H4 _ d0 (by omega) hB4 b4
    · rintro σ H3 ⟨v, bs, rfl, hL, hlen, hb, hB3, b3⟩
      refine ⟨_, rfl, k l bs H3 hlH hL (by omega) hb hB3 b3⟩
/-! the plain sums -/
theorem wrap_at {bs : List Int} {s : Int} {i : Nat} (hn : 0 < bs.length) (hi : i < bs.length) :
    ((bs ++ bs).drop (s % bs.length).toNat)[i]? = bs[((s + i) % bs.length).toNat]? := by
  have f0 := Int.emod_nonneg s (show (bs.length : Int) ≠ 0 by omega)
  have f1 := Int.emod_lt_of_pos s (show (0 : Int) < bs.length by omega)
  rw [List.getElem?_drop, Int.add_emod, Int.emod_eq_of_lt (a := (i : Int)) (by omega) (by omega)]
  obtain ⟨f, hf⟩ : ∃ f : Nat, s % bs.length = (f : Int) := ⟨(s % bs.length).toNat, by omega⟩
  rw [hf, Int.toNat_natCast]
  by_cases h : f + i < bs.length
  · rw [List.getElem?_append_left h]
    have e : ((f : Int) + (i : Int)) % (bs.length : Int) = ((f + i : Nat) : Int) := by rw [Int.emod_eq_of_lt (by omega) (by omega)]; omega
    rw [e, Int.toNat_natCast]
  · rw [List.getElem?_append_right (by omega)]
    have e : ((f : Int) + (i : Int)) % (bs.length : Int) = ((f + i - bs.length : Nat) : Int) := by
      have : ((f : Int) + (i : Int)) = ((f + i - bs.length : Nat) : Int) + bs.length := by omega
      rw [this, Int.add_emod_right, Int.emod_eq_of_lt (by omega) (by omega)]
    rw [e, Int.toNat_natCast]
def spSum : Sp := fun vs H Q _ => ∃ (p : Addr) (bs : List Int) (s c : Int), vs = [.ref p, .int s, .int c] ∧ H p = some (.lst (bs.map V.int)) ∧ Okb bs ∧ 0 ≤ s ∧ 0 ≤ c ∧ c ≤ 1000000000000000000000000000000000000000000000000000000000000 ∧ Q (.int (tot bs s c)) H
theorem scLawSum : FnScope ["row", "start", "count", "size", "found", "k"] ["row", "start", "count"] (defScope sLawSum) := ⟨rfl, rfl, rfl, by decide +kernel, rfl, by decide +kernel, by decide +kernel⟩
theorem ok_sum {f : Addr} {fd : FuncData} (F : Fun K "_law_sum" "_law_sum" sLawSum f fd) (B : Bi mg) : FnOk P w K mg base CX0 1 f fd ["row", "start", "count"] spSum := by
  refine F.ok scLawSum (fun vs H Q E h => ?_) (fun cdv A outer s H vs Q E hr h => ?_)
  · obtain ⟨a, n, _, _, rfl, _⟩ := h
    rfl
  · obtain ⟨p, bs, st, c, rfl, hp, ok, s0, c0, c1, k⟩ := h
    have hl : (bs.map V.int).length = bs.length := List.length_map ..
    have l1 := ok.l1
    have l2 := ok.l2
    have sb := ok.sum_b
    have ln : (0 : Int) < bs.length := by omega
    refine ⟨_, (pss_cons (ps_set (i := 3) scLawSum.nd rfl (Or.inl rfl) (pe_callB call_len_seq (by rfl) B.len PySem.boot_len (pa_cons (pv 0) pa_nil)))
  (pss_cons (ps_set (i := 4) scLawSum.nd rfl (Or.inl rfl) (pe_op op_mulW (pe_op op_fdivW (pv 2) (pv 3)) (pe_callB (cr_sum rfl) (by rfl) B.sum (by decide +kernel) (pa_cons (pv 0) pa_nil))))
  (pss_cons (ps_for PassesOwn.never rfl (pi_range1 rfl B.range (pa_cons (pe_op op_mod (pe_callTy call_int1 (by rfl) B.intT (by decide +kernel) (pa_cons (pv 2) pa_nil)) (pv 3)) pa_nil)) (pg_name (i := 5) scLawSum.nd rfl (Or.inl rfl))
  (pss_one (ps_set (i := 4) scLawSum.nd rfl (Or.inl rfl) (pe_op op_add (pv 4) (pe_ix ix_list (pv 0) (pe_op op_mod (pe_callTy call_int1 (by rfl) B.intT (by decide +kernel) (pa_cons (pe_op op_add (pv 1) (pv 5)) pa_nil)) (pv 3)) (fun _ _ => rfl))))))
  (pss_one (ps_ret (pv 4)))))), ?_⟩
    refine ⟨_, rfl, p, _, rfl, .inl (SqL.of hp), ?_⟩
    rw [hl]
    refine ⟨_, rfl, _, rfl, _, _, rfl, rfl, divB ln (by omega), _, rfl, p, bs, rfl, SqL.of hp, ?_⟩
    have d0 : 0 ≤ c / bs.length := Int.ediv_nonneg c0 (by omega)
    have d1 : c / bs.length ≤ c := Int.ediv_le_self _ c0
    refine ⟨_, _, rfl, rfl, mulB (by omega) (by omega) (by omega) (by omega), ?_⟩
    have g0 := Int.emod_nonneg c (show (bs.length : Int) ≠ 0 by omega)
    have g1 := Int.emod_lt_of_pos c ln
    refine ⟨_, rfl, .inl ⟨_, rfl, _, rfl, _, _, rfl, rfl, ln, _, rfl, by omega, by omega, ?_⟩⟩
    refine for_range (fun i σ H' => ∃ (v : Option V), σ = [some (.ref p), some (.int st), some (.int c), some (.int bs.length), some (.int (c / bs.length * bs.sum + (((bs ++ bs).drop (st % bs.length).toNat).take i).sum)), v] ∧ H' = H) ⟨_, by rw [List.take_zero, List.sum_nil, Int.add_zero]; rfl, rfl⟩ ?_ ?_
    · rintro i σ H' hi ⟨v, rfl, rfl⟩
      have hi2 : i < bs.length := by omega
      have m0 := Int.emod_nonneg (st + i) (show (bs.length : Int) ≠ 0 by omega)
      have m1 := Int.emod_lt_of_pos (st + i) ln
      obtain ⟨z, hz⟩ : ∃ z, bs[((st + i) % bs.length).toNat]? = some z := ⟨_, List.getElem?_eq_getElem (by omega)⟩
      refine ⟨_, rfl, _, rfl, _, rfl, _, rfl, _, _, rfl, rfl, .inl ⟨_, rfl, _, rfl, _, _, rfl, rfl, ln, ?_⟩⟩
      refine ⟨p, _, _, _, rfl, rfl, SqL.of hp, at_of (j := ((st + i) % bs.length).toNat) (v := .int z) (by rw [Int.zero_add]; omega) (by rw [List.getElem?_map, hz]; rfl), _, _, rfl, rfl, ?_⟩
      have e := sum_take (l := (bs ++ bs).drop (st % bs.length).toNat) (i := i) (z := z) (by rw [wrap_at (by omega) hi2]; exact hz)
      exact ⟨_, by rw [e, ← Int.add_assoc]; rfl, rfl⟩
    · rintro σ H' ⟨v, rfl, rfl⟩
      exact ⟨_, rfl, k⟩
theorem rot_at {bs : List Int} {s : Int} {i : Nat} (hn : 0 < bs.length) (hi : i < bs.length) : (rot bs (s % bs.length).toNat)[i]? = bs[((s + i) % bs.length).toNat]? := by
  have f0 := Int.emod_nonneg s (show (bs.length : Int) ≠ 0 by omega)
  have f1 := Int.emod_lt_of_pos s (show (0 : Int) < bs.length by omega)
  rw [← wrap_at hn hi]
  unfold rot
  rw [List.getElem?_drop]
  obtain ⟨f, hf⟩ : ∃ f : Nat, s % bs.length = (f : Int) := ⟨(s % bs.length).toNat, by omega⟩
  rw [hf, Int.toNat_natCast]
  by_cases h : f + i < bs.length
  · rw [List.getElem?_append_left (by rw [List.length_drop]; omega), List.getElem?_drop, List.getElem?_append_left h]
  · rw [List.getElem?_append_right (by rw [List.length_drop]; omega), List.getElem?_append_right (by omega), List.getElem?_take, List.length_drop, if_pos (by omega)]
    congr 1; omega
theorem moved_eq {bs : List Int} {s : Int} (hn : 0 < bs.length) : (List.range bs.length).map (fun i => V.int (bs[((s + (i : Nat)) % bs.length).toNat]?.getD 0)) = (rot bs (s % bs.length).toNat).map V.int := by
  have f1 := Int.emod_lt_of_pos s (show (0 : Int) < bs.length by omega)
  have f0 := Int.emod_nonneg s (show (bs.length : Int) ≠ 0 by omega)
  have hl := rot_len (bs := bs) (f := (s % bs.length).toNat) (by omega)
  refine List.ext_getElem? fun i => ?_
  by_cases hi : i < bs.length
  · rw [List.getElem?_map, List.getElem?_map, List.getElem?_range hi, rot_at hn hi]
    have m0 := Int.emod_nonneg (s + i) (show (bs.length : Int) ≠ 0 by omega)
    have m1 := Int.emod_lt_of_pos (s + i) (show (0 : Int) < bs.length by omega)
    have e := List.getElem?_eq_getElem (l := bs) (show ((s + i) % bs.length).toNat < bs.length by omega)
    rw [e]
    show some (V.int (bs[((s + i) % bs.length).toNat]?.getD 0)) = some (V.int _)
    rw [e]; rfl
  · rw [List.getElem?_eq_none (by rw [List.length_map, List.length_range]; omega), List.getElem?_eq_none (by rw [List.length_map, hl]; omega)]
def spMoved : Sp := fun vs H Q _ => ∃ (p : Addr) (bs : List Int) (m : Int), vs = [.ref p, .int m] ∧ H p = some (.lst (bs.map V.int)) ∧ Okb bs ∧ 0 ≤ m ∧ ∀ (q : Addr) (H' : Hp), H q = none → H' q = some (.lst ((rot bs (m % bs.length).toNat).map V.int)) → Same H H' → Q (.ref q) H'
theorem scLawMoved : FnScope ["row", "phase", "k"] ["row", "phase"] (defScope sLawMoved) := ⟨rfl, rfl, rfl, by decide +kernel, rfl, by decide +kernel, by decide +kernel⟩
theorem ok_moved {f : Addr} {fd : FuncData} (F : Fun K "_law_moved" "_law_moved" sLawMoved f fd) (B : Bi mg) : FnOk P w K mg base CX0 1 f fd ["row", "phase"] spMoved := by
  refine F.ok scLawMoved (fun vs H Q E h => ?_) (fun cdv A outer s H vs Q E hr h => ?_)
  · obtain ⟨a, n, _, rfl, _⟩ := h
    rfl
  · obtain ⟨p, bs, m, rfl, hp, ok, m0, k⟩ := h
    have hl : (bs.map V.int).length = bs.length := List.length_map ..
    have l1 := ok.l1
    have l2 := ok.l2
    have ln : (0 : Int) < bs.length := by omega
    refine ⟨_, (pss_one (ps_ret (pe_lc (own := [("k", 2)]) (g := gName 2) rfl scLawMoved.nd (pi_range1 rfl B.range (pa_cons (pe_callB call_len_seq (by rfl) B.len PySem.boot_len (pa_cons (pv 0) pa_nil)) pa_nil)) (blkOk_by (own := [("k", 2)]) (N := ["row", "phase", "k"]) (sc := defScope sLawMoved) (by decide +kernel)) (fun _ _ _ _ _ => pg_name (i := 2) scLawMoved.nd rfl (Or.inl rfl)) (fun _ _ _ _ _ => pts_nil) (fun _ _ _ _ _ => (pe_ix (ix_listK K) (pv 0) (pe_op op_mod (pe_callTy call_int1 (by rfl) B.intT (by decide +kernel) (pa_cons (pe_op op_add (pv 1) (pv 2)) pa_nil)) (pe_callB (call_lenK K) (by rfl) B.len PySem.boot_len (pa_cons (pv 0) pa_nil))) (fun _ _ => rfl)))))), ?_⟩
    refine ⟨_, rfl, p, _, rfl, .inl (SqL.of hp), _, rfl, by omega, by omega, fun D hD => ?_⟩
    rw [hl, Int.toNat_natCast]
    refine lc_growR (fun i => V.int (bs[((m + (i : Nat)) % bs.length).toNat]?.getD 0)) hD (by omega) (fun i H1 R hi hS hR => ?_) (fun H1 hS hL => ?_)
    · have m0 := Int.emod_nonneg (m + i) (show (bs.length : Int) ≠ 0 by omega)
      have m1 := Int.emod_lt_of_pos (m + i) ln
      obtain ⟨z, hz⟩ : ∃ z, bs[((m + i) % bs.length).toNat]? = some z := ⟨_, List.getElem?_eq_getElem (by omega)⟩
      have r := hR H1 (Same.refl _)
      rw [hz] at r
      refine ⟨rfl, _, rfl, _, rfl, _, rfl, _, _, rfl, rfl, .inl ⟨_, rfl, _, rfl, p, _, rfl, .inl (SqL.of (hS _ _ hp)), ?_⟩⟩
      rw [hl]
      exact ⟨_, _, rfl, rfl, ln, p, _, _, _, rfl, rfl, SqL.of (hS _ _ hp), at_of (j := ((m + i) % bs.length).toNat) (v := .int z) (by rw [Int.zero_add]; omega) (by rw [List.getElem?_map, hz]; rfl), r⟩
    · rw [moved_eq (by omega)] at hL
      exact k D H1 hD hL hS
def spCount : Sp := fun vs H Q _ => ∃ (a : Addr) (n : Int), vs = [.ref a, .int n] ∧ BagAt H a ∧ 1 ≤ n ∧ n ≤ 12 ∧ ∀ (d : Int) (H' : Hp), 0 ≤ d → d ≤ 1000000000000000000000000000000 → BagAt H' a → But a H H' → Q (.int d) H'
theorem dmul_b {c n : Int} (hc : 0 ≤ c) (hn : 1 ≤ n) : 0 ≤ c / n ∧ c / n ≤ c ∧ 0 ≤ c / n * n ∧ c / n * n ≤ c :=
  ⟨Int.ediv_nonneg hc (by omega), Int.ediv_le_self _ hc, Int.mul_nonneg (Int.ediv_nonneg hc (by omega)) (by omega), Int.ediv_mul_le _ (by omega)⟩
theorem scLawCount : FnScope ["bag", "size", "count", "way"] ["bag", "size"] (defScope sLawCount) := ⟨rfl, rfl, rfl, by decide +kernel, rfl, by decide +kernel, by decide +kernel⟩
theorem ok_count {f : Addr} {fd : FuncData} (F : Fun K "_law_count" "_law_count" sLawCount f fd) (B : Bi mg) (D__law_take : Dn P w K mg base "_law_take" 1 ["bag", "size"] spTake) (D__law_number : Dn P w K mg base "_law_number" 2 ["bag", "most"] spNumber) : FnOk P w K mg base CX0 3 f fd ["bag", "size"] spCount := by
  refine F.ok scLawCount (fun vs H Q E h => ?_) (fun cdv A outer s H vs Q E hr h => ?_)
  · obtain ⟨a, n, rfl, _⟩ := h
    rfl
  · obtain ⟨a, n, rfl, hB, n1, n2, k⟩ := h
    refine ⟨_, (pss_cons (ps_set (i := 2) scLawCount.nd rfl (Or.inl rfl) (pe_dn D__law_number (hr.mono (by decide)) (by rfl) pass0 (pa_cons (pv 0) (pa_cons (pe_op op_pow pe_int pe_int) pa_nil))))
  (pss_cons (ps_set (i := 3) scLawCount.nd rfl (Or.inl rfl) (pe_dn D__law_take (hr.mono (by decide)) (by rfl) pass0 (pa_cons (pv 0) (pa_cons pe_int pa_nil))))
  (C8.pss_cut (ps_if (pt_cmpR op_eq (pv 3) pe_int (nomark _)) (pss_one (ps_set (i := 2) scLawCount.nd rfl (Or.inl rfl) (pe_op op_mulW (pe_op op_fdivW (pv 2) (pv 1)) (pv 1))))
  pss_nil)
  (C8.pss_cut (ps_if (pt_cmpR op_eq (pv 3) pe_int (nomark _)) (pss_one (ps_set (i := 2) scLawCount.nd rfl (Or.inl rfl) (pe_callB (call_max2 rfl) (by rfl) B.max (by decide +kernel) (pa_cons pe_int (pa_cons (pe_op op_sub (pe_op op_mulW (pe_op op_fdivW (pv 2) (pv 1)) (pv 1)) pe_int) pa_nil)))))
  pss_nil)
  (C8.pss_cut (ps_if (pt_cmpR op_eq (pv 3) pe_int (nomark _)) (pss_one (ps_set (i := 2) scLawCount.nd rfl (Or.inl rfl) (pe_callB (call_min2 rfl) (by rfl) B.min (by decide +kernel) (pa_cons (pe_op op_pow pe_int pe_int) (pa_cons (pe_op op_add (pe_op op_mulW (pe_op op_fdivW (pv 2) (pv 1)) (pv 1)) pe_int) pa_nil)))))
  pss_nil)
  (pss_one (ps_ret (pv 2)))))))), ?_⟩
    walk_at "rd"
    refine ⟨hB, by decide, by decide, fun c H1 c0 c1 hB1 b1 => ?_⟩
    have c2 : c ≤ 1000000000000000000000000000000 := c1
    walk_at "rd"
    refine ⟨hB1, by decide, by decide, fun way H2 _ _ hB2 b2 => ?_⟩
    have hb := b1.trans b2
    refine ⟨fun σ H' => ∃ c', σ = [some (.ref a), some (.int n), some (.int c'), some (.int way)] ∧ H2 = H' ∧ 0 ≤ c' ∧ c' ≤ 1000000000000000000000000000000, ?_, ?_⟩
    · walk_at "rd"
      refine iti (fun _ => ?_) (fun _ => ?_)
      · have hd := dmul_b c0 n1
        refine ⟨_, rfl, _, rfl, _, _, rfl, rfl, divB (by omega) (by omega), _, rfl, _, _, rfl, rfl, mulB (by omega) (by omega) (by omega) (by omega), _, rfl, rfl, by omega, by omega⟩
      · exact ⟨_, rfl, rfl, c0, c2⟩
    rintro σ H' ⟨c3, rfl, rfl, c4, c5⟩
    refine ⟨fun σ H' => ∃ c', σ = [some (.ref a), some (.int n), some (.int c'), some (.int way)] ∧ H2 = H' ∧ 0 ≤ c' ∧ c' ≤ 1000000000000000000000000000000, ?_, ?_⟩
    · walk_at "rd"
      refine iti (fun _ => ?_) (fun _ => ?_)
      · have hd := dmul_b c4 n1
        refine ⟨_, rfl, _, rfl, _, _, rfl, rfl, divB (by omega) (by omega), _, rfl, _, _, rfl, rfl, mulB (by omega) (by omega) (by omega) (by omega), _, _, rfl, rfl, _, _, rfl, _, rfl, rfl, ?_, ?_⟩
        · split <;> omega
        · split <;> omega
      · exact ⟨_, rfl, rfl, c4, c5⟩
    rintro σ H' ⟨c6, rfl, rfl, c7, c8⟩
    refine ⟨fun σ H' => ∃ c', σ = [some (.ref a), some (.int n), some (.int c'), some (.int way)] ∧ H2 = H' ∧ 0 ≤ c' ∧ c' ≤ 1000000000000000000000000000000, ?_, ?_⟩
    · walk_at "rd"
      refine iti (fun _ => ?_) (fun _ => ?_)
      · have hd := dmul_b c7 n1
        have e30 : (10 : Int) ^ (30 : Int).toNat = 1000000000000000000000000000000 := by decide
        walk_at "rd"
        refine ⟨divB (by omega) (by omega), ?_⟩
        walk_at "rd"
        refine ⟨mulB (by omega) (by omega) (by omega) (by omega), ?_⟩
        walk_at "rd"
        refine ⟨?_, ?_⟩
        · rw [e30]; split <;> omega
        · rw [e30]; split <;> omega
      · exact ⟨_, rfl, rfl, c7, c8⟩
    rintro σ H' ⟨c9, rfl, rfl, c10, c11⟩
    exact ⟨_, rfl, k c9 _ c10 c11 hB2 hb⟩
end
end Cl

/-! ### law k00: the Round of a row in one call, what a Round has and answers -/
namespace Cl
open StX ClX
theorem kit_ll {K : PySem.W.Frag} : PySem.W.kitOne K (.type "list") (.type "list") = some true := by unfold PySem.W.kitOne; simp
theorem kit_bb (K : PySem.W.Frag) : PySem.W.kitOne K (.type "bool") (.type "bool") = some true := by unfold PySem.W.kitOne; simp
theorem allT1 {K : PySem.W.Frag} {H : Hp} {D : Addr} {xs : List V} (h : H D = some (.lst (xs.map fun _ => V.bl true))) : SqL K H D ((xs.map fun _ => true).map V.bl) := by
  rw [List.map_map]; exact SqL.of h
theorem allT2 {α : Type} {xs : List α} : (xs.map fun _ => true).all id = true := by simp
theorem len1 {α : Type} {l : List α} (h : l.length = 1) : ∃ a0, l = [a0] :=
  match l, h with
  | [a0], _ => ⟨a0, rfl⟩
theorem len2 {α : Type} {l : List α} (h : l.length = 2) : ∃ a0 a1, l = [a0, a1] :=
  match l, h with
  | [a0, a1], _ => ⟨a0, a1, rfl⟩
theorem len3 {α : Type} {l : List α} (h : l.length = 3) : ∃ a0 a1 a2, l = [a0, a1, a2] :=
  match l, h with
  | [a0, a1, a2], _ => ⟨a0, a1, a2, rfl⟩
theorem len4 {α : Type} {l : List α} (h : l.length = 4) : ∃ a0 a1 a2 a3, l = [a0, a1, a2, a3] :=
  match l, h with
  | [a0, a1, a2, a3], _ => ⟨a0, a1, a2, a3, rfl⟩
theorem len5 {α : Type} {l : List α} (h : l.length = 5) : ∃ a0 a1 a2 a3 a4, l = [a0, a1, a2, a3, a4] :=
  match l, h with
  | [a0, a1, a2, a3, a4], _ => ⟨a0, a1, a2, a3, a4, rfl⟩
theorem len6 {α : Type} {l : List α} (h : l.length = 6) : ∃ a0 a1 a2 a3 a4 a5, l = [a0, a1, a2, a3, a4, a5] :=
  match l, h with
  | [a0, a1, a2, a3, a4, a5], _ => ⟨a0, a1, a2, a3, a4, a5, rfl⟩
theorem len7 {α : Type} {l : List α} (h : l.length = 7) : ∃ a0 a1 a2 a3 a4 a5 a6, l = [a0, a1, a2, a3, a4, a5, a6] :=
  match l, h with
  | [a0, a1, a2, a3, a4, a5, a6], _ => ⟨a0, a1, a2, a3, a4, a5, a6, rfl⟩
theorem len8 {α : Type} {l : List α} (h : l.length = 8) : ∃ a0 a1 a2 a3 a4 a5 a6 a7, l = [a0, a1, a2, a3, a4, a5, a6, a7] :=
  match l, h with
  | [a0, a1, a2, a3, a4, a5, a6, a7], _ => ⟨a0, a1, a2, a3, a4, a5, a6, a7, rfl⟩
theorem len9 {α : Type} {l : List α} (h : l.length = 9) : ∃ a0 a1 a2 a3 a4 a5 a6 a7 a8, l = [a0, a1, a2, a3, a4, a5, a6, a7, a8] :=
  match l, h with
  | [a0, a1, a2, a3, a4, a5, a6, a7, a8], _ => ⟨a0, a1, a2, a3, a4, a5, a6, a7, a8, rfl⟩
theorem len10 {α : Type} {l : List α} (h : l.length = 10) : ∃ a0 a1 a2 a3 a4 a5 a6 a7 a8 a9, l = [a0, a1, a2, a3, a4, a5, a6, a7, a8, a9] :=
  match l, h with
  | [a0, a1, a2, a3, a4, a5, a6, a7, a8, a9], _ => ⟨a0, a1, a2, a3, a4, a5, a6, a7, a8, a9, rfl⟩
theorem len11 {α : Type} {l : List α} (h : l.length = 11) : ∃ a0 a1 a2 a3 a4 a5 a6 a7 a8 a9 a10, l = [a0, a1, a2, a3, a4, a5, a6, a7, a8, a9, a10] :=
  match l, h with
  | [a0, a1, a2, a3, a4, a5, a6, a7, a8, a9, a10], _ => ⟨a0, a1, a2, a3, a4, a5, a6, a7, a8, a9, a10, rfl⟩
theorem len12 {α : Type} {l : List α} (h : l.length = 12) : ∃ a0 a1 a2 a3 a4 a5 a6 a7 a8 a9 a10 a11, l = [a0, a1, a2, a3, a4, a5, a6, a7, a8, a9, a10, a11] :=
  match l, h with
  | [a0, a1, a2, a3, a4, a5, a6, a7, a8, a9, a10, a11], _ => ⟨a0, a1, a2, a3, a4, a5, a6, a7, a8, a9, a10, a11, rfl⟩
section
variable {P : Program} {w : World} {K : PySem.W.Frag} {mg : Str → Option Value} {base : Heap} {C : Addr}
def spRoundN (C : Addr) : Sp := fun vs H Q _ => ∃ (p : Addr) (bs : List Int), vs = [.ref p] ∧ H p = some (.lst (bs.map V.int)) ∧ Okb bs ∧ ∀ (x : Addr) (H' : Hp), H x = none → RoundAt C H' x bs → Same H H' → Q (.ref x) H'
theorem scLawRound : FnScope ["row"] ["row"] (defScope sLawRound) := ⟨rfl, rfl, rfl, by decide +kernel, rfl, by decide +kernel, by decide +kernel⟩
theorem ok_round {f : Addr} {fd : FuncData} (F : Fun K "_law_round" "_law_round" sLawRound f fd) (B : Bi mg) (R_Round : ClsC K mg "Round" C) (MK_Round : Cn P w K mg base C 3 (spInit C)) : FnOk P w K mg base CX0 5 f fd ["row"] (spRoundN C) := by
  refine F.ok scLawRound (fun vs H Q E h => ?_) (fun cdv A outer s H vs Q E hr h => ?_)
  · obtain ⟨a, n, rfl, _⟩ := h
    rfl
  · obtain ⟨p, bs, rfl, hp, ok, k⟩ := h
    have l1 := ok.l1
    have l2 := ok.l2
    have hl : (bs.map V.int).length = bs.length := List.length_map ..
    refine ⟨_, (pss_cons (ps_if (pt_cmpR op_eq (pe_callB call_len_seq (by rfl) B.len PySem.boot_len (pa_cons (pv 0) pa_nil)) pe_int (nomark _)) (pss_one (ps_ret (pe_mkR MK_Round (hr.mono (by decide)) rfl R_Round.mg pass0 (pa_cons (pe_ix ix_list (pv 0) pe_int (fun _ _ => rfl)) pa_nil))))
  pss_nil)
  (pss_cons (ps_if (pt_cmpR op_eq (pe_callB call_len_seq (by rfl) B.len PySem.boot_len (pa_cons (pv 0) pa_nil)) pe_int (nomark _)) (pss_one (ps_ret (pe_mkR MK_Round (hr.mono (by decide)) rfl R_Round.mg pass0 (pa_cons (pe_ix ix_list (pv 0) pe_int (fun _ _ => rfl)) (pa_cons (pe_ix ix_list (pv 0) pe_int (fun _ _ => rfl)) pa_nil)))))
  pss_nil)
  (pss_cons (ps_if (pt_cmpR op_eq (pe_callB call_len_seq (by rfl) B.len PySem.boot_len (pa_cons (pv 0) pa_nil)) pe_int (nomark _)) (pss_one (ps_ret (pe_mkR MK_Round (hr.mono (by decide)) rfl R_Round.mg pass0 (pa_cons (pe_ix ix_list (pv 0) pe_int (fun _ _ => rfl)) (pa_cons (pe_ix ix_list (pv 0) pe_int (fun _ _ => rfl)) (pa_cons (pe_ix ix_list (pv 0) pe_int (fun _ _ => rfl)) pa_nil))))))
  pss_nil)
  (pss_cons (ps_if (pt_cmpR op_eq (pe_callB call_len_seq (by rfl) B.len PySem.boot_len (pa_cons (pv 0) pa_nil)) pe_int (nomark _)) (pss_one (ps_ret (pe_mkR MK_Round (hr.mono (by decide)) rfl R_Round.mg pass0 (pa_cons (pe_ix ix_list (pv 0) pe_int (fun _ _ => rfl)) (pa_cons (pe_ix ix_list (pv 0) pe_int (fun _ _ => rfl)) (pa_cons (pe_ix ix_list (pv 0) pe_int (fun _ _ => rfl)) (pa_cons (pe_ix ix_list (pv 0) pe_int (fun _ _ => rfl)) pa_nil)))))))
  pss_nil)
  (pss_cons (ps_if (pt_cmpR op_eq (pe_callB call_len_seq (by rfl) B.len PySem.boot_len (pa_cons (pv 0) pa_nil)) pe_int (nomark _)) (pss_one (ps_ret (pe_mkR MK_Round (hr.mono (by decide)) rfl R_Round.mg pass0 (pa_cons (pe_ix ix_list (pv 0) pe_int (fun _ _ => rfl)) (pa_cons (pe_ix ix_list (pv 0) pe_int (fun _ _ => rfl)) (pa_cons (pe_ix ix_list (pv 0) pe_int (fun _ _ => rfl)) (pa_cons (pe_ix ix_list (pv 0) pe_int (fun _ _ => rfl)) (pa_cons (pe_ix ix_list (pv 0) pe_int (fun _ _ => rfl)) pa_nil))))))))
  pss_nil)
  (pss_cons (ps_if (pt_cmpR op_eq (pe_callB call_len_seq (by rfl) B.len PySem.boot_len (pa_cons (pv 0) pa_nil)) pe_int (nomark _)) (pss_one (ps_ret (pe_mkR MK_Round (hr.mono (by decide)) rfl R_Round.mg pass0 (pa_cons (pe_ix ix_list (pv 0) pe_int (fun _ _ => rfl)) (pa_cons (pe_ix ix_list (pv 0) pe_int (fun _ _ => rfl)) (pa_cons (pe_ix ix_list (pv 0) pe_int (fun _ _ => rfl)) (pa_cons (pe_ix ix_list (pv 0) pe_int (fun _ _ => rfl)) (pa_cons (pe_ix ix_list (pv 0) pe_int (fun _ _ => rfl)) (pa_cons (pe_ix ix_list (pv 0) pe_int (fun _ _ => rfl)) pa_nil)))))))))
  pss_nil)
  (pss_cons (ps_if (pt_cmpR op_eq (pe_callB call_len_seq (by rfl) B.len PySem.boot_len (pa_cons (pv 0) pa_nil)) pe_int (nomark _)) (pss_one (ps_ret (pe_mkR MK_Round (hr.mono (by decide)) rfl R_Round.mg pass0 (pa_cons (pe_ix ix_list (pv 0) pe_int (fun _ _ => rfl)) (pa_cons (pe_ix ix_list (pv 0) pe_int (fun _ _ => rfl)) (pa_cons (pe_ix ix_list (pv 0) pe_int (fun _ _ => rfl)) (pa_cons (pe_ix ix_list (pv 0) pe_int (fun _ _ => rfl)) (pa_cons (pe_ix ix_list (pv 0) pe_int (fun _ _ => rfl)) (pa_cons (pe_ix ix_list (pv 0) pe_int (fun _ _ => rfl)) (pa_cons (pe_ix ix_list (pv 0) pe_int (fun _ _ => rfl)) pa_nil))))))))))
  pss_nil)
  (pss_cons (ps_if (pt_cmpR op_eq (pe_callB call_len_seq (by rfl) B.len PySem.boot_len (pa_cons (pv 0) pa_nil)) pe_int (nomark _)) (pss_one (ps_ret (pe_mkR MK_Round (hr.mono (by decide)) rfl R_Round.mg pass0 (pa_cons (pe_ix ix_list (pv 0) pe_int (fun _ _ => rfl)) (pa_cons (pe_ix ix_list (pv 0) pe_int (fun _ _ => rfl)) (pa_cons (pe_ix ix_list (pv 0) pe_int (fun _ _ => rfl)) (pa_cons (pe_ix ix_list (pv 0) pe_int (fun _ _ => rfl)) (pa_cons (pe_ix ix_list (pv 0) pe_int (fun _ _ => rfl)) (pa_cons (pe_ix ix_list (pv 0) pe_int (fun _ _ => rfl)) (pa_cons (pe_ix ix_list (pv 0) pe_int (fun _ _ => rfl)) (pa_cons (pe_ix ix_list (pv 0) pe_int (fun _ _ => rfl)) pa_nil)))))))))))
  pss_nil)
  (pss_cons (ps_if (pt_cmpR op_eq (pe_callB call_len_seq (by rfl) B.len PySem.boot_len (pa_cons (pv 0) pa_nil)) pe_int (nomark _)) (pss_one (ps_ret (pe_mkR MK_Round (hr.mono (by decide)) rfl R_Round.mg pass0 (pa_cons (pe_ix ix_list (pv 0) pe_int (fun _ _ => rfl)) (pa_cons (pe_ix ix_list (pv 0) pe_int (fun _ _ => rfl)) (pa_cons (pe_ix ix_list (pv 0) pe_int (fun _ _ => rfl)) (pa_cons (pe_ix ix_list (pv 0) pe_int (fun _ _ => rfl)) (pa_cons (pe_ix ix_list (pv 0) pe_int (fun _ _ => rfl)) (pa_cons (pe_ix ix_list (pv 0) pe_int (fun _ _ => rfl)) (pa_cons (pe_ix ix_list (pv 0) pe_int (fun _ _ => rfl)) (pa_cons (pe_ix ix_list (pv 0) pe_int (fun _ _ => rfl)) (pa_cons (pe_ix ix_list (pv 0) pe_int (fun _ _ => rfl)) pa_nil))))))))))))
  pss_nil)
  (pss_cons (ps_if (pt_cmpR op_eq (pe_callB call_len_seq (by rfl) B.len PySem.boot_len (pa_cons (pv 0) pa_nil)) pe_int (nomark _)) (pss_one (ps_ret (pe_mkR MK_Round (hr.mono (by decide)) rfl R_Round.mg pass0 (pa_cons (pe_ix ix_list (pv 0) pe_int (fun _ _ => rfl)) (pa_cons (pe_ix ix_list (pv 0) pe_int (fun _ _ => rfl)) (pa_cons (pe_ix ix_list (pv 0) pe_int (fun _ _ => rfl)) (pa_cons (pe_ix ix_list (pv 0) pe_int (fun _ _ => rfl)) (pa_cons (pe_ix ix_list (pv 0) pe_int (fun _ _ => rfl)) (pa_cons (pe_ix ix_list (pv 0) pe_int (fun _ _ => rfl)) (pa_cons (pe_ix ix_list (pv 0) pe_int (fun _ _ => rfl)) (pa_cons (pe_ix ix_list (pv 0) pe_int (fun _ _ => rfl)) (pa_cons (pe_ix ix_list (pv 0) pe_int (fun _ _ => rfl)) (pa_cons (pe_ix ix_list (pv 0) pe_int (fun _ _ => rfl)) pa_nil)))))))))))))
  pss_nil)
  (pss_cons (ps_if (pt_cmpR op_eq (pe_callB call_len_seq (by rfl) B.len PySem.boot_len (pa_cons (pv 0) pa_nil)) pe_int (nomark _)) (pss_one (ps_ret (pe_mkR MK_Round (hr.mono (by decide)) rfl R_Round.mg pass0 (pa_cons (pe_ix ix_list (pv 0) pe_int (fun _ _ => rfl)) (pa_cons (pe_ix ix_list (pv 0) pe_int (fun _ _ => rfl)) (pa_cons (pe_ix ix_list (pv 0) pe_int (fun _ _ => rfl)) (pa_cons (pe_ix ix_list (pv 0) pe_int (fun _ _ => rfl)) (pa_cons (pe_ix ix_list (pv 0) pe_int (fun _ _ => rfl)) (pa_cons (pe_ix ix_list (pv 0) pe_int (fun _ _ => rfl)) (pa_cons (pe_ix ix_list (pv 0) pe_int (fun _ _ => rfl)) (pa_cons (pe_ix ix_list (pv 0) pe_int (fun _ _ => rfl)) (pa_cons (pe_ix ix_list (pv 0) pe_int (fun _ _ => rfl)) (pa_cons (pe_ix ix_list (pv 0) pe_int (fun _ _ => rfl)) (pa_cons (pe_ix ix_list (pv 0) pe_int (fun _ _ => rfl)) pa_nil))))))))))))))
  pss_nil)
  (pss_one (ps_ret (pe_mkR MK_Round (hr.mono (by decide)) rfl R_Round.mg pass0 (pa_cons (pe_ix ix_list (pv 0) pe_int (fun _ _ => rfl)) (pa_cons (pe_ix ix_list (pv 0) pe_int (fun _ _ => rfl)) (pa_cons (pe_ix ix_list (pv 0) pe_int (fun _ _ => rfl)) (pa_cons (pe_ix ix_list (pv 0) pe_int (fun _ _ => rfl)) (pa_cons (pe_ix ix_list (pv 0) pe_int (fun _ _ => rfl)) (pa_cons (pe_ix ix_list (pv 0) pe_int (fun _ _ => rfl)) (pa_cons (pe_ix ix_list (pv 0) pe_int (fun _ _ => rfl)) (pa_cons (pe_ix ix_list (pv 0) pe_int (fun _ _ => rfl)) (pa_cons (pe_ix ix_list (pv 0) pe_int (fun _ _ => rfl)) (pa_cons (pe_ix ix_list (pv 0) pe_int (fun _ _ => rfl)) (pa_cons (pe_ix ix_list (pv 0) pe_int (fun _ _ => rfl)) (pa_cons (pe_ix ix_list (pv 0) pe_int (fun _ _ => rfl)) pa_nil)))))))))))))))))))))))))), ?_⟩
    refine ⟨_, rfl, p, _, rfl, .inl (SqL.of hp), ?_⟩
    rw [hl]
    walk_at "rd"
    refine iti (fun e => ?_) (fun e1 => ?_)
    · obtain ⟨a0, rfl⟩ := len1 (l := bs) (by omega)
      refine ⟨_, rfl, p, _, _, _, rfl, rfl, SqL.of hp, rfl, ?_⟩
      exact mkRound ⟨_, rfl, ok, k⟩
    refine ⟨_, rfl, p, _, rfl, .inl (SqL.of hp), ?_⟩
    rw [hl]
    walk_at "rd"
    refine iti (fun e => ?_) (fun e2 => ?_)
    · obtain ⟨a0, a1, rfl⟩ := len2 (l := bs) (by omega)
      refine ⟨_, rfl, p, _, _, _, rfl, rfl, SqL.of hp, rfl, ?_⟩
      refine ⟨_, rfl, p, _, _, _, rfl, rfl, SqL.of hp, rfl, ?_⟩
      exact mkRound ⟨_, rfl, ok, k⟩
    refine ⟨_, rfl, p, _, rfl, .inl (SqL.of hp), ?_⟩
    rw [hl]
    walk_at "rd"
    refine iti (fun e => ?_) (fun e3 => ?_)
    · obtain ⟨a0, a1, a2, rfl⟩ := len3 (l := bs) (by omega)
      refine ⟨_, rfl, p, _, _, _, rfl, rfl, SqL.of hp, rfl, ?_⟩
      refine ⟨_, rfl, p, _, _, _, rfl, rfl, SqL.of hp, rfl, ?_⟩
      refine ⟨_, rfl, p, _, _, _, rfl, rfl, SqL.of hp, rfl, ?_⟩
      exact mkRound ⟨_, rfl, ok, k⟩
    refine ⟨_, rfl, p, _, rfl, .inl (SqL.of hp), ?_⟩
    rw [hl]
    walk_at "rd"
    refine iti (fun e => ?_) (fun e4 => ?_)
    · obtain ⟨a0, a1, a2, a3, rfl⟩ := len4 (l := bs) (by omega)
      refine ⟨_, rfl, p, _, _, _, rfl, rfl, SqL.of hp, rfl, ?_⟩
      refine ⟨_, rfl, p, _, _, _, rfl, rfl, SqL.of hp, rfl, ?_⟩
      refine ⟨_, rfl, p, _, _, _, rfl, rfl, SqL.of hp, rfl, ?_⟩
      refine ⟨_, rfl, p, _, _, _, rfl, rfl, SqL.of hp, rfl, ?_⟩
      exact mkRound ⟨_, rfl, ok, k⟩
    refine ⟨_, rfl, p, _, rfl, .inl (SqL.of hp), ?_⟩
    rw [hl]
    walk_at "rd"
    refine iti (fun e => ?_) (fun e5 => ?_)
    · obtain ⟨a0, a1, a2, a3, a4, rfl⟩ := len5 (l := bs) (by omega)
      refine ⟨_, rfl, p, _, _, _, rfl, rfl, SqL.of hp, rfl, ?_⟩
      refine ⟨_, rfl, p, _, _, _, rfl, rfl, SqL.of hp, rfl, ?_⟩
      refine ⟨_, rfl, p, _, _, _, rfl, rfl, SqL.of hp, rfl, ?_⟩
      refine ⟨_, rfl, p, _, _, _, rfl, rfl, SqL.of hp, rfl, ?_⟩
      refine ⟨_, rfl, p, _, _, _, rfl, rfl, SqL.of hp, rfl, ?_⟩
      exact mkRound ⟨_, rfl, ok, k⟩
    refine ⟨_, rfl, p, _, rfl, .inl (SqL.of hp), ?_⟩
    rw [hl]
    walk_at "rd"
    refine iti (fun e => ?_) (fun e6 => ?_)
    · obtain ⟨a0, a1, a2, a3, a4, a5, rfl⟩ := len6 (l := bs) (by omega)
      refine ⟨_, rfl, p, _, _, _, rfl, rfl, SqL.of hp, rfl, ?_⟩
      refine ⟨_, rfl, p, _, _, _, rfl, rfl, SqL.of hp, rfl, ?_⟩
      refine ⟨_, rfl, p, _, _, _, rfl, rfl, SqL.of hp, rfl, ?_⟩
      refine ⟨_, rfl, p, _, _, _, rfl, rfl, SqL.of hp, rfl, ?_⟩
      refine ⟨_, rfl, p, _, _, _, rfl, rfl, SqL.of hp, rfl, ?_⟩
      refine ⟨_, rfl, p, _, _, _, rfl, rfl, SqL.of hp, rfl, ?_⟩
      exact mkRound ⟨_, rfl, ok, k⟩
    refine ⟨_, rfl, p, _, rfl, .inl (SqL.of hp), ?_⟩
    rw [hl]
    walk_at "rd"
    refine iti (fun e => ?_) (fun e7 => ?_)
    · obtain ⟨a0, a1, a2, a3, a4, a5, a6, rfl⟩ := len7 (l := bs) (by omega)
      refine ⟨_, rfl, p, _, _, _, rfl, rfl, SqL.of hp, rfl, ?_⟩
      refine ⟨_, rfl, p, _, _, _, rfl, rfl, SqL.of hp, rfl, ?_⟩
      refine ⟨_, rfl, p, _, _, _, rfl, rfl, SqL.of hp, rfl, ?_⟩
      refine ⟨_, rfl, p, _, _, _, rfl, rfl, SqL.of hp, rfl, ?_⟩
      refine ⟨_, rfl, p, _, _, _, rfl, rfl, SqL.of hp, rfl, ?_⟩
      refine ⟨_, rfl, p, _, _, _, rfl, rfl, SqL.of hp, rfl, ?_⟩
      refine ⟨_, rfl, p, _, _, _, rfl, rfl, SqL.of hp, rfl, ?_⟩
      exact mkRound ⟨_, rfl, ok, k⟩
    refine ⟨_, rfl, p, _, rfl, .inl (SqL.of hp), ?_⟩
    rw [hl]
    walk_at "rd"
    refine iti (fun e => ?_) (fun e8 => ?_)
    · obtain ⟨a0, a1, a2, a3, a4, a5, a6, a7, rfl⟩ := len8 (l := bs) (by omega)
      refine ⟨_, rfl, p, _, _, _, rfl, rfl, SqL.of hp, rfl, ?_⟩
      refine ⟨_, rfl, p, _, _, _, rfl, rfl, SqL.of hp, rfl, ?_⟩
      refine ⟨_, rfl, p, _, _, _, rfl, rfl, SqL.of hp, rfl, ?_⟩
      refine ⟨_, rfl, p, _, _, _, rfl, rfl, SqL.of hp, rfl, ?_⟩
      refine ⟨_, rfl, p, _, _, _, rfl, rfl, SqL.of hp, rfl, ?_⟩
      refine ⟨_, rfl, p, _, _, _, rfl, rfl, SqL.of hp, rfl, ?_⟩
      refine ⟨_, rfl, p, _, _, _, rfl, rfl, SqL.of hp, rfl, ?_⟩
      refine ⟨_, rfl, p, _, _, _, rfl, rfl, SqL.of hp, rfl, ?_⟩
      exact mkRound ⟨_, rfl, ok, k⟩
    refine ⟨_, rfl, p, _, rfl, .inl (SqL.of hp), ?_⟩
    rw [hl]
    walk_at "rd"
    refine iti (fun e => ?_) (fun e9 => ?_)
    · obtain ⟨a0, a1, a2, a3, a4, a5, a6, a7, a8, rfl⟩ := len9 (l := bs) (by omega)
      refine ⟨_, rfl, p, _, _, _, rfl, rfl, SqL.of hp, rfl, ?_⟩
      refine ⟨_, rfl, p, _, _, _, rfl, rfl, SqL.of hp, rfl, ?_⟩
      refine ⟨_, rfl, p, _, _, _, rfl, rfl, SqL.of hp, rfl, ?_⟩
      refine ⟨_, rfl, p, _, _, _, rfl, rfl, SqL.of hp, rfl, ?_⟩
      refine ⟨_, rfl, p, _, _, _, rfl, rfl, SqL.of hp, rfl, ?_⟩
      refine ⟨_, rfl, p, _, _, _, rfl, rfl, SqL.of hp, rfl, ?_⟩
      refine ⟨_, rfl, p, _, _, _, rfl, rfl, SqL.of hp, rfl, ?_⟩
      refine ⟨_, rfl, p, _, _, _, rfl, rfl, SqL.of hp, rfl, ?_⟩
      refine ⟨_, rfl, p, _, _, _, rfl, rfl, SqL.of hp, rfl, ?_⟩
      exact mkRound ⟨_, rfl, ok, k⟩
    refine ⟨_, rfl, p, _, rfl, .inl (SqL.of hp), ?_⟩
    rw [hl]
    walk_at "rd"
    refine iti (fun e => ?_) (fun e10 => ?_)
    · obtain ⟨a0, a1, a2, a3, a4, a5, a6, a7, a8, a9, rfl⟩ := len10 (l := bs) (by omega)
      refine ⟨_, rfl, p, _, _, _, rfl, rfl, SqL.of hp, rfl, ?_⟩
      refine ⟨_, rfl, p, _, _, _, rfl, rfl, SqL.of hp, rfl, ?_⟩
      refine ⟨_, rfl, p, _, _, _, rfl, rfl, SqL.of hp, rfl, ?_⟩
      refine ⟨_, rfl, p, _, _, _, rfl, rfl, SqL.of hp, rfl, ?_⟩
      refine ⟨_, rfl, p, _, _, _, rfl, rfl, SqL.of hp, rfl, ?_⟩
      refine ⟨_, rfl, p, _, _, _, rfl, rfl, SqL.of hp, rfl, ?_⟩
      refine ⟨_, rfl, p, _, _, _, rfl, rfl, SqL.of hp, rfl, ?_⟩
      refine ⟨_, rfl, p, _, _, _, rfl, rfl, SqL.of hp, rfl, ?_⟩
      refine ⟨_, rfl, p, _, _, _, rfl, rfl, SqL.of hp, rfl, ?_⟩
      refine ⟨_, rfl, p, _, _, _, rfl, rfl, SqL.of hp, rfl, ?_⟩
      exact mkRound ⟨_, rfl, ok, k⟩
    refine ⟨_, rfl, p, _, rfl, .inl (SqL.of hp), ?_⟩
    rw [hl]
    walk_at "rd"
    refine iti (fun e => ?_) (fun e11 => ?_)
    · obtain ⟨a0, a1, a2, a3, a4, a5, a6, a7, a8, a9, a10, rfl⟩ := len11 (l := bs) (by omega)
      refine ⟨_, rfl, p, _, _, _, rfl, rfl, SqL.of hp, rfl, ?_⟩
      refine ⟨_, rfl, p, _, _, _, rfl, rfl, SqL.of hp, rfl, ?_⟩
      refine ⟨_, rfl, p, _, _, _, rfl, rfl, SqL.of hp, rfl, ?_⟩
      refine ⟨_, rfl, p, _, _, _, rfl, rfl, SqL.of hp, rfl, ?_⟩
      refine ⟨_, rfl, p, _, _, _, rfl, rfl, SqL.of hp, rfl, ?_⟩
      refine ⟨_, rfl, p, _, _, _, rfl, rfl, SqL.of hp, rfl, ?_⟩
      refine ⟨_, rfl, p, _, _, _, rfl, rfl, SqL.of hp, rfl, ?_⟩
      refine ⟨_, rfl, p, _, _, _, rfl, rfl, SqL.of hp, rfl, ?_⟩
      refine ⟨_, rfl, p, _, _, _, rfl, rfl, SqL.of hp, rfl, ?_⟩
      refine ⟨_, rfl, p, _, _, _, rfl, rfl, SqL.of hp, rfl, ?_⟩
      refine ⟨_, rfl, p, _, _, _, rfl, rfl, SqL.of hp, rfl, ?_⟩
      exact mkRound ⟨_, rfl, ok, k⟩
    obtain ⟨a0, a1, a2, a3, a4, a5, a6, a7, a8, a9, a10, a11, rfl⟩ := len12 (l := bs) (by omega)
    refine ⟨_, rfl, p, _, _, _, rfl, rfl, SqL.of hp, rfl, ?_⟩
    refine ⟨_, rfl, p, _, _, _, rfl, rfl, SqL.of hp, rfl, ?_⟩
    refine ⟨_, rfl, p, _, _, _, rfl, rfl, SqL.of hp, rfl, ?_⟩
    refine ⟨_, rfl, p, _, _, _, rfl, rfl, SqL.of hp, rfl, ?_⟩
    refine ⟨_, rfl, p, _, _, _, rfl, rfl, SqL.of hp, rfl, ?_⟩
    refine ⟨_, rfl, p, _, _, _, rfl, rfl, SqL.of hp, rfl, ?_⟩
    refine ⟨_, rfl, p, _, _, _, rfl, rfl, SqL.of hp, rfl, ?_⟩
    refine ⟨_, rfl, p, _, _, _, rfl, rfl, SqL.of hp, rfl, ?_⟩
    refine ⟨_, rfl, p, _, _, _, rfl, rfl, SqL.of hp, rfl, ?_⟩
    refine ⟨_, rfl, p, _, _, _, rfl, rfl, SqL.of hp, rfl, ?_⟩
    refine ⟨_, rfl, p, _, _, _, rfl, rfl, SqL.of hp, rfl, ?_⟩
    refine ⟨_, rfl, p, _, _, _, rfl, rfl, SqL.of hp, rfl, ?_⟩
    exact mkRound ⟨_, rfl, ok, k⟩
def spHas (C : Addr) : Sp := fun vs H Q _ => ∃ (r p : Addr) (bs : List Int), vs = [.ref r, .ref p] ∧ RoundAt C H r bs ∧ H p = some (.lst (bs.map V.int)) ∧ bs.length ≤ 12 ∧ ∀ (H' : Hp), Same H H' → Q (.bl true) H'
theorem scLawHas : FnScope ["made", "row", "told", "one"] ["made", "row"] (defScope sLawHas) := ⟨rfl, rfl, rfl, by decide +kernel, rfl, by decide +kernel, by decide +kernel⟩
theorem ok_has {f : Addr} {fd : FuncData} (F : Fun K "_law_has" "_law_has" sLawHas f fd) (B : Bi mg) (R_Round : ClsC K mg "Round" C) (O_Round___len__ : On P w K mg base C "__len__" 1 ["self"] (spLen C)) (P_Round_budgets : Pn P w K mg base C "budgets" 1 (spBudgets C))
    (D__law_is_number : Dn P w K mg base "_law_is_number" 1 ["told"] spIsWhole) : FnOk P w K mg base CX0 3 f fd ["made", "row"] (spHas C) := by
  refine F.ok scLawHas (fun vs H Q E h => ?_) (fun cdv A outer s H vs Q E hr h => ?_)
  · obtain ⟨_, _, _, rfl, _⟩ := h
    rfl
  · obtain ⟨r, p, bs, rfl, hR, hp, l2, k⟩ := h
    have hl : (bs.map V.int).length = bs.length := List.length_map ..
    obtain ⟨dx, t, i1, i2⟩ := id hR
    refine ⟨_, (pss_cons (ps_if (PW.pt (pw_or (pt_not (pt_val (pe_callB (C8.call_isC R_Round.ic) (by rfl) B.isinstance (by decide +kernel) (pa_cons (pv 0) (pa_cons (pe_cls R_Round rfl) pa_nil))))) (pw_or1 (pt_cmpR op_ne (pe_callB (call_lenN O_Round___len__ (hr.mono (by decide))) (by rfl) B.len PySem.boot_len (pa_cons (pv 0) pa_nil)) (pe_callB call_len_seq (by rfl) B.len PySem.boot_len (pa_cons (pv 1) pa_nil)) (nomark _))))) (pss_one (ps_ret pe_bl))
  pss_nil)
  (pss_cons (ps_set (i := 2) scLawHas.nd rfl (Or.inl rfl) (pe_pn P_Round_budgets R_Round.cl (hr.mono (by decide)) (pv 0)))
  (pss_cons (ps_if (PW.pt (pw_or (pt_not (pt_val (pe_callB call_isi (by rfl) B.isinstance (by decide +kernel) (pa_cons (pv 2) (pa_cons (pe_bltn (v := .ty "list") (by rfl) B.listT (by decide +kernel) rfl) pa_nil))))) (pw_or1 (pt_cmpR op_ne (pe_callB call_len_seq (by rfl) B.len PySem.boot_len (pa_cons (pv 2) pa_nil)) (pe_callB call_len_seq (by rfl) B.len PySem.boot_len (pa_cons (pv 1) pa_nil)) (nomark _))))) (pss_one (ps_ret pe_bl))
  pss_nil)
  (pss_one (ps_ret (pe_and (pe_callB (cr_all rfl) (by rfl) B.all (by decide +kernel) (pa_cons (pe_lc (own := [("one", 3)]) (g := gName 3) rfl scLawHas.nd (pi_list (pv 2)) (blkOk_by (own := [("one", 3)]) (N := ["made", "row", "told", "one"]) (sc := defScope sLawHas) (by decide +kernel)) (fun _ _ _ _ _ => pg_name (i := 3) scLawHas.nd rfl (Or.inl rfl)) (fun _ _ _ _ _ => pts_nil) (fun _ _ _ _ _ => (pe_dn D__law_is_number (hr.mono (by decide)) (by rfl) pass0 (pa_cons (pv 3) pa_nil)))) pa_nil)) (pe_one (pe_cmpR (op_eqD hr.units) (pv 2) (pv 1) (nomark _))))))))), ?_⟩
    refine ⟨_, rfl, r, dx, _, rfl, i1, _, rfl, iteF ?_⟩
    refine ⟨_, rfl, r, dx, _, rfl, i1, r, bs, rfl, hR, bs.length, rfl, by omega, ?_⟩
    refine ⟨_, rfl, p, _, rfl, .inl (SqL.of hp), ?_⟩
    rw [hl]
    walk_at "rd"
    refine itni (fun h => absurd rfl h) (fun _ => ?_)
    refine ⟨_, rfl, r, dx, _, rfl, i1, r, bs, rfl, hR, fun T hT => ?_⟩
    have e1 : Same H (upd H T (.lst (bs.map V.int))) := Same.upd hT
    have hT1 := upd_same (H := H) (a := T) (o := .lst (bs.map V.int))
    generalize upd H T (.lst (bs.map V.int)) = H1 at e1 hT1 ⊢
    refine ⟨_, rfl, _, _, _, _, _, rfl, .ty _, .base (.lst hT1), kit_ll, _, rfl, iteF ?_⟩
    refine ⟨_, rfl, T, _, rfl, .inl (SqL.of hT1), _, rfl, p, _, rfl, .inl (SqL.of (e1 _ _ hp)), ?_⟩
    rw [hl]
    walk_at "rd"
    refine itni (fun h => absurd rfl h) (fun _ => ?_)
    refine ⟨_, rfl, T, rfl, ⟨_, SqL.of hT1⟩, fun D hD => ?_⟩
    refine lc_growL (K := K) (xs := bs.map V.int) (fun _ => .bl true) (SqL.of hT1) hD (by omega) (fun y H2 R hy e hR1 => ?_) (fun H2 e2 hD2 => ?_)
    · obtain ⟨c, hc, rfl⟩ := List.mem_map.mp hy
      exact ⟨rfl, _, rfl, c, rfl, hR1 H2 (Same.refl _)⟩
    refine ⟨D, (bs.map V.int).map fun _ => true, rfl, allT1 hD2, ?_⟩
    rw [allT2]
    refine ⟨_, rfl, iteT ?_⟩
    refine ⟨_, rfl, _, rfl, .list (bs.map .int), .list (bs.map .int), .lst (SqL.of (e2 _ _ hT1)) (dpAll_ints bs), .lst (SqL.of (e2 _ _ (e1 _ _ hp))) (dpAll_ints bs), shaped_lst bs, shaped_lst bs, ?_⟩
    show Q (.bl (PyData.eqvAll (bs.map .int) (bs.map .int))) _
    rw [eqvAll_ints, decide_eq_true rfl]
    exact k _ (e1.trans e2)
def spAns (C : Addr) : Sp := fun vs H Q _ => ∃ (r p a : Addr) (bs : List Int), vs = [.ref r, .ref p, .ref a] ∧ RoundAt C H r bs ∧ H p = some (.lst (bs.map V.int)) ∧ Okb bs ∧ BagAt H a ∧ p ≠ a ∧ ∀ (H' : Hp), BagAt H' a → But a H H' → Q (.bl true) H'
theorem at_mod {bs : List Int} {t : Int} (ok : Okb bs) : ∃ z, bs[(t % bs.length).toNat]? = some z ∧ 0 ≤ t % bs.length ∧ (bs.map V.int)[(t % bs.length).toNat]? = some (.int z) := by
  have l1 := ok.l1
  have f0 := Int.emod_nonneg t (show (bs.length : Int) ≠ 0 by omega)
  have f1 := Int.emod_lt_of_pos t (show (0 : Int) < bs.length by omega)
  have h : (t % bs.length).toNat < bs.length := by omega
  refine ⟨bs[(t % bs.length).toNat], List.getElem?_eq_getElem h, f0, ?_⟩
  rw [List.getElem?_map, List.getElem?_eq_getElem h]; rfl
theorem tot_one {bs : List Int} {s z : Int} (ok : Okb bs) (hz : bs[(s % bs.length).toNat]? = some z) : tot bs s 1 = z := by
  have l1 := ok.l1
  have f0 := Int.emod_nonneg s (show (bs.length : Int) ≠ 0 by omega)
  have f1 := Int.emod_lt_of_pos s (show (0 : Int) < bs.length by omega)
  unfold tot
  by_cases h : bs.length = 1
  · obtain ⟨a0, rfl⟩ := len1 h
    have e : (s % ([a0].length : Int)).toNat = 0 := by
      have : ([a0].length : Int) = 1 := rfl
      rw [this] at f0 f1 ⊢
      omega
    rw [e] at hz
    cases hz
    simp
  · have e1 : (1 : Int) / bs.length = 0 := Int.ediv_eq_zero_of_lt (by omega) (by omega)
    have e2 : (1 : Int) % bs.length = 1 := Int.emod_eq_of_lt (by omega) (by omega)
    rw [e1, e2, Int.zero_mul, Int.zero_add]
    have e3 : ((bs ++ bs).drop (s % bs.length).toNat).take (1 : Int).toNat = [z] := by
      have hlt : (s % bs.length).toNat < bs.length := by omega
      rw [show (1 : Int).toNat = 1 from rfl, List.drop_append_of_le_length (by omega)]
      have hd : bs.drop (s % bs.length).toNat = z :: bs.drop ((s % bs.length).toNat + 1) := by
        rw [List.drop_eq_getElem_cons hlt]
        rw [List.getElem?_eq_getElem hlt] at hz
        rw [Option.some.inj hz]
      rw [hd]; rfl
    rw [e3]; simp
theorem tot_zero {bs : List Int} {s : Int} : tot bs s 0 = 0 := by
  unfold tot; simp
theorem scLawAnswers : FnScope ["made", "row", "bag", "turn", "moment", "told", "start", "count"] ["made", "row", "bag"] (defScope sLawAnswers) := ⟨rfl, rfl, rfl, by decide +kernel, rfl, by decide +kernel, by decide +kernel⟩
theorem ok_answers {f : Addr} {fd : FuncData} (F : Fun K "_law_answers" "_law_answers" sLawAnswers f fd) (B : Bi mg) (R_Round : ClsC K mg "Round" C) (D__law_number : Dn P w K mg base "_law_number" 2 ["bag", "most"] spNumber) (D__law_count : Dn P w K mg base "_law_count" 3 ["bag", "size"] spCount) (D__law_is_number : Dn P w K mg base "_law_is_number" 1 ["told"] spIsWhole)
    (D__law_sum : Dn P w K mg base "_law_sum" 1 ["row", "start", "count"] spSum) (M_Round_at : Mn P w K mg base C "at" 3 ["self", "t"] (spAt C)) (M_Round_total : Mn P w K mg base C "total" 3 ["self", "start", "count"] (spTotal C)) : FnOk P w K mg base CX0 4 f fd ["made", "row", "bag"] (spAns C) := by
  refine F.ok scLawAnswers (fun vs H Q E h => ?_) (fun cdv A outer s H vs Q E hr h => ?_)
  · obtain ⟨_, _, _, _, rfl, _⟩ := h
    rfl
  · obtain ⟨r, p, a, bs, rfl, hR, hp, ok, hB, pa, k⟩ := h
    have hl : (bs.map V.int).length = bs.length := List.length_map ..
    have l1 := ok.l1
    have l2 := ok.l2
    have p30 : (10 : Int) ^ (30 : Int).toNat = 1000000000000000000000000000000 := by decide
    refine ⟨_, (pss_cons (ps_for PassesOwn.never rfl (pi_range1 rfl B.range (pa_cons pe_int pa_nil)) (pg_name (i := 3) scLawAnswers.nd rfl (Or.inl rfl))
  (pss_cons (ps_set (i := 4) scLawAnswers.nd rfl (Or.inl rfl) (pe_dn D__law_number (hr.mono (by decide)) (by rfl) pass0 (pa_cons (pv 2) (pa_cons (pe_op op_pow pe_int pe_int) pa_nil))))
  (pss_cons (ps_set (i := 5) scLawAnswers.nd rfl (Or.inl rfl) (pe_mn M_Round_at R_Round.cl (hr.mono (by decide)) pass0 (pv 0) (pa_cons (pv 4) pa_nil)))
  (pss_cons (ps_if (PW.pt (pw_or (pt_not (pt_val (pe_dn D__law_is_number (hr.mono (by decide)) (by rfl) pass0 (pa_cons (pv 5) pa_nil)))) (pw_or1 (pt_cmpR op_ne (pv 5) (pe_ix ix_list (pv 1) (pe_op op_mod (pe_callTy call_int1 (by rfl) B.intT (by decide +kernel) (pa_cons (pv 4) pa_nil)) (pe_callB call_len_seq (by rfl) B.len PySem.boot_len (pa_cons (pv 1) pa_nil))) (fun _ _ => rfl)) (nomark _))))) (pss_one (ps_ret pe_bl))
  pss_nil)
  (pss_cons (ps_set (i := 6) scLawAnswers.nd rfl (Or.inl rfl) (pe_dn D__law_number (hr.mono (by decide)) (by rfl) pass0 (pa_cons (pv 2) (pa_cons (pe_op op_pow pe_int pe_int) pa_nil))))
  (pss_cons (ps_set (i := 7) scLawAnswers.nd rfl (Or.inl rfl) (pe_dn D__law_count (hr.mono (by decide)) (by rfl) pass0 (pa_cons (pv 2) (pa_cons (pe_callB call_len_seq (by rfl) B.len PySem.boot_len (pa_cons (pv 1) pa_nil)) pa_nil))))
  (pss_cons (ps_set (i := 5) scLawAnswers.nd rfl (Or.inl rfl) (pe_mn M_Round_total R_Round.cl (hr.mono (by decide)) pass0 (pv 0) (pa_cons (pv 6) (pa_cons (pv 7) pa_nil))))
  (pss_cons (ps_if (PW.pt (pw_or (pt_not (pt_val (pe_dn D__law_is_number (hr.mono (by decide)) (by rfl) pass0 (pa_cons (pv 5) pa_nil)))) (pw_or1 (pt_cmpR op_ne (pv 5) (pe_dn D__law_sum (hr.mono (by decide)) (by rfl) pass0 (pa_cons (pv 1) (pa_cons (pv 6) (pa_cons (pv 7) pa_nil)))) (nomark _))))) (pss_one (ps_ret pe_bl))
  pss_nil)
  (pss_one (ps_if (PW.pt (pw_or (pt_cmpR op_ne (pe_mn M_Round_total R_Round.cl (hr.mono (by decide)) pass0 (pv 0) (pa_cons (pv 6) (pa_cons pe_int pa_nil))) pe_int (nomark _)) (pw_or1 (pt_cmpR op_ne (pe_mn M_Round_total R_Round.cl (hr.mono (by decide)) pass0 (pv 0) (pa_cons (pv 6) (pa_cons pe_int pa_nil))) (pe_ix ix_list (pv 1) (pe_op op_mod (pe_callTy call_int1 (by rfl) B.intT (by decide +kernel) (pa_cons (pv 6) pa_nil)) (pe_callB call_len_seq (by rfl) B.len PySem.boot_len (pa_cons (pv 1) pa_nil))) (fun _ _ => rfl)) (nomark _))))) (pss_one (ps_ret pe_bl))
  pss_nil))))))))))
  (pss_one (ps_ret pe_bl))), ?_⟩
    walk_at "rd"
    refine ⟨by omega, by omega, ?_⟩
    refine for_range (fun i σ H' => ∃ (u v x y z : Option V), σ = [some (.ref r), some (.ref p), some (.ref a), u, v, x, y, z] ∧ BagAt H' a ∧ But a H H') ⟨_, _, _, _, _, rfl, hB, But.refl _ _⟩ ?_ ?_
    · rintro i σ H1 hi ⟨u, v, x, y, z, rfl, hB1, b1⟩
      walk_at "rd"
      refine ⟨hB1, by decide, by decide, fun m H2 m0 m1 hB2 b2 => ?_⟩
      rw [p30] at m1
      replace b2 := b1.trans b2
      have hR2 := hR.but b2 hB
      have hp2 := b2 p _ pa hp
      obtain ⟨z1, hz1, f1, hg1⟩ := at_mod (t := m) ok
      obtain ⟨dx, t, i1, i2⟩ := id hR2
      refine ⟨_, rfl, r, dx, _, rfl, i1, no_ _ (by decide +kernel) _, _, rfl, r, bs, m, z1, rfl, hR2, ok, m0, hz1, ?_⟩
      walk_at "rd"
      refine ⟨p, _, rfl, .inl (SqL.of hp2), ?_⟩
      rw [hl]
      refine ⟨_, _, rfl, rfl, by omega, p, _, _, _, rfl, rfl, SqL.of hp2, at_of (by omega) hg1, ?_⟩
      walk_at "rd"
      refine itni (fun h => absurd rfl h) (fun _ => ?_)
      walk_at "rd"
      refine ⟨hB2, by decide, by decide, fun st H3 s0 s1 hB3 b3 => ?_⟩
      rw [p30] at s1
      replace b3 := b2.trans b3
      have hp3 := b3 p _ pa hp
      refine ⟨_, rfl, _, rfl, p, _, rfl, .inl (SqL.of hp3), ?_⟩
      rw [hl]
      refine ⟨a, _, rfl, hB3, by omega, by omega, fun c H4 c0 c1 hB4 b4 => ?_⟩
      replace b4 := b3.trans b4
      have hR4 := hR.but b4 hB
      have hp4 := b4 p _ pa hp
      obtain ⟨dy, t', j1, j2⟩ := id hR4
      refine ⟨_, rfl, r, dy, _, rfl, j1, no_ _ (by decide +kernel) _, _, rfl, _, rfl, r, bs, st, c, rfl, hR4, ok, s0, c0, by omega, fun H5 e5 => ?_⟩
      walk_at "rd"
      refine ⟨p, bs, st, c, rfl, e5 _ _ hp4, ok, s0, c0, by omega, ?_⟩
      walk_at "rd"
      refine itni (fun h => absurd rfl h) (fun _ => ?_)
      refine ⟨_, rfl, r, dy, _, rfl, e5 _ _ j1, no_ _ (by decide +kernel) _, _, rfl, r, bs, st, 0, rfl, hR4.same e5, ok, s0, by omega, by omega, fun H6 e6 => ?_⟩
      rw [tot_zero]
      walk_at "rd"
      replace e6 := e5.trans e6
      refine ⟨r, dy, _, rfl, e6 _ _ j1, no_ _ (by decide +kernel) _, _, rfl, r, bs, st, 1, rfl, hR4.same e6, ok, s0, by omega, by omega, fun H7 e7 => ?_⟩
      replace e7 := e6.trans e7
      obtain ⟨z2, hz2, f2, hg2⟩ := at_mod (t := st) ok
      rw [tot_one ok hz2]
      walk_at "rd"
      refine ⟨p, _, rfl, .inl (SqL.of (e7 _ _ hp4)), ?_⟩
      rw [hl]
      refine ⟨_, _, rfl, rfl, by omega, p, _, _, _, rfl, rfl, SqL.of (e7 _ _ hp4), at_of (by omega) hg2, ?_⟩
      walk_at "rd"
      refine itni (fun h => absurd rfl h) (fun _ => ?_)
      exact ⟨_, _, _, _, _, rfl, hB4.same e7, b4.trans (But.of e7)⟩
    · rintro σ H1 ⟨u, v, x, y, z, rfl, hB1, b1⟩
      exact k H1 hB1 b1
end
end Cl

/-! ### law k00: shifts, near rows, equality, sums -/
namespace Cl
open StX ClX
theorem rot_back {bs : List Int} {f : Nat} {m : Int} (h : f < bs.length) (hm : m = (bs.length : Int) - f) : rot (rot bs f) (m % (rot bs f).length).toNat = bs := by
  have hl : (rot bs f).length = bs.length := rot_len (by omega)
  rw [hl]
  by_cases h0 : f = 0
  · subst h0
    have e : m % (bs.length : Int) = 0 := by rw [hm]; simp
    rw [e]
    unfold rot
    simp
  · have e : (m % (bs.length : Int)).toNat = bs.length - f := by
      rw [Int.emod_eq_of_lt (by omega) (by omega)]; omega
    rw [e]
    unfold rot
    have d1 : (bs.drop f).length = bs.length - f := List.length_drop ..
    rw [List.drop_left' d1, List.take_left' d1, List.take_append_drop]
theorem cut_hi {xs : List V} {i : Int} (h0 : 0 ≤ i) (h1 : i ≤ xs.length) : cutV xs none (some i) = xs.take i.toNat := by
  show (xs.drop 0).take ((if i < 0 then (i + (xs.length : Int)).toNat else min i.toNat xs.length) - 0) = _
  rw [if_neg (by omega), List.drop_zero, Nat.sub_zero, Nat.min_eq_left (by omega)]
theorem cut_lo {xs : List V} {i : Int} (h0 : 0 ≤ i) (h1 : i ≤ xs.length) : cutV xs (some i) none = xs.drop i.toNat := by
  show (xs.drop (if i < 0 then (i + (xs.length : Int)).toNat else min i.toNat xs.length)).take (xs.length - (if i < 0 then (i + (xs.length : Int)).toNat else min i.toNat xs.length)) = _
  rw [if_neg (by omega), Nat.min_eq_left (by omega), List.take_of_length_le (by rw [List.length_drop]; omega)]
theorem cut_last {xs : List V} : cutV xs none (some (-1)) = xs.take (xs.length - 1) := by
  show (xs.drop 0).take ((if (-1 : Int) < 0 then (-1 + (xs.length : Int)).toNat else min (-1 : Int).toNat xs.length) - 0) = _
  rw [if_pos (by decide), List.drop_zero, Nat.sub_zero]
  congr 1; omega
theorem at_end {bs : List Int} (h : 1 ≤ bs.length) : ∃ z, z ∈ bs ∧ atI (bs.map V.int) (-1) = some (.int z) := by
  refine ⟨bs[bs.length - 1], List.getElem_mem _, ?_⟩
  unfold atI ixN
  rw [List.length_map, if_neg (by decide), if_pos (by omega)]
  show (bs.map V.int)[(-1 + (bs.length : Int)).toNat]? = _
  rw [show (-1 + (bs.length : Int)).toNat = bs.length - 1 by omega, List.getElem?_map, List.getElem?_eq_getElem (by omega)]; rfl
/-- a budget, one more or one less -/
theorem one_mem {z : Int} (h : 0 ≤ z ∧ z ≤ 10000000000000000000000000000000) : ∀ b, b ∈ [z] → 0 ≤ b ∧ b ≤ 10000000000000000000000000000000 := fun b hb => by simp at hb; subst hb; exact h
theorem range_get (xs : List V) : (List.range xs.length).map (fun i => xs[i]?.getD .non) = xs := by
  refine List.ext_getElem? fun i => ?_
  rw [List.getElem?_map]
  by_cases h : i < xs.length
  · rw [List.getElem?_range h, List.getElem?_eq_getElem h]
    show some (xs[i]?.getD .non) = _
    rw [List.getElem?_eq_getElem h]; rfl
  · rw [List.getElem?_eq_none (by rw [List.length_range]; omega), List.getElem?_eq_none (by omega)]; rfl
theorem bend_b {z : Int} (h0 : 0 ≤ z) (h1 : z ≤ 1000000000000000000000000000000) : 0 ≤ z + 1 - 2 * (if decide (0 < z) = true then 1 else 0) ∧ z + 1 - 2 * (if decide (0 < z) = true then 1 else 0) ≤ 10000000000000000000000000000000 := by
  by_cases h : 0 < z
  · rw [decide_eq_true h, if_pos rfl]; omega
  · rw [decide_eq_false h, if_neg Bool.false_ne_true]; omega
section
variable {P : Program} {w : World} {K : PySem.W.Frag} {mg : Str → Option Value} {base : Heap} {C : Addr}
def spShf (C : Addr) : Sp := fun vs H Q _ => ∃ (r p a : Addr) (bs : List Int), vs = [.ref r, .ref p, .ref a] ∧ RoundAt C H r bs ∧ H p = some (.lst (bs.map V.int)) ∧ Okb bs ∧ BagAt H a ∧ p ≠ a ∧ ∀ (H' : Hp), BagAt H' a → But a H H' → Q (.bl true) H'
theorem scLawShifts : FnScope ["made", "row", "bag", "phase", "moved", "due"] ["made", "row", "bag"] (defScope sLawShifts) := ⟨rfl, rfl, rfl, by decide +kernel, rfl, by decide +kernel, by decide +kernel⟩
theorem ok_shifts {f : Addr} {fd : FuncData} (F : Fun K "_law_shifts" "_law_shifts" sLawShifts f fd) (B : Bi mg) (R_Round : ClsC K mg "Round" C) (D__law_number : Dn P w K mg base "_law_number" 2 ["bag", "most"] spNumber) (D__law_moved : Dn P w K mg base "_law_moved" 1 ["row", "phase"] spMoved)
    (M_Round_shifted : Mn P w K mg base C "shifted" 5 ["self", "phase"] (spShifted C)) (D__law_has : Dn P w K mg base "_law_has" 3 ["made", "row"] (spHas C)) (D__law_answers : Dn P w K mg base "_law_answers" 4 ["made", "row", "bag"] (spAns C)) : FnOk P w K mg base CX0 6 f fd ["made", "row", "bag"] (spShf C) := by
  refine F.ok scLawShifts (fun vs H Q E h => ?_) (fun cdv A outer s H vs Q E hr h => ?_)
  · obtain ⟨_, _, _, _, rfl, _⟩ := h
    rfl
  · obtain ⟨r, p, a, bs, rfl, hR, hp, ok, hB, pa, k⟩ := h
    have hl : (bs.map V.int).length = bs.length := List.length_map ..
    have l1 := ok.l1
    have l2 := ok.l2
    have p30 : (10 : Int) ^ (30 : Int).toNat = 1000000000000000000000000000000 := by decide
    refine ⟨_, (pss_cons (ps_set (i := 3) scLawShifts.nd rfl (Or.inl rfl) (pe_dn D__law_number (hr.mono (by decide)) (by rfl) pass0 (pa_cons (pv 2) (pa_cons (pe_op op_pow pe_int pe_int) pa_nil))))
  (pss_cons (ps_set (i := 4) scLawShifts.nd rfl (Or.inl rfl) (pe_mn M_Round_shifted R_Round.cl (hr.mono (by decide)) pass0 (pv 0) (pa_cons (pv 3) pa_nil)))
  (pss_cons (ps_set (i := 5) scLawShifts.nd rfl (Or.inl rfl) (pe_dn D__law_moved (hr.mono (by decide)) (by rfl) pass0 (pa_cons (pv 1) (pa_cons (pv 3) pa_nil))))
  (pss_cons (ps_if (PW.pt (pw_or (pt_not (pt_val (pe_dn D__law_has (hr.mono (by decide)) (by rfl) pass0 (pa_cons (pv 4) (pa_cons (pv 5) pa_nil))))) (pw_or1 (pt_not (pt_val (pe_dn D__law_answers (hr.mono (by decide)) (by rfl) pass0 (pa_cons (pv 4) (pa_cons (pv 5) (pa_cons (pv 2) pa_nil))))))))) (pss_one (ps_ret pe_bl))
  pss_nil)
  (pss_one (ps_ret (pe_and (pe_dn D__law_has (hr.mono (by decide)) (by rfl) pass0 (pa_cons (pe_mn M_Round_shifted R_Round.cl (hr.mono (by decide)) pass0 (pv 4) (pa_cons (pe_op op_sub (pe_callB call_len_seq (by rfl) B.len PySem.boot_len (pa_cons (pv 1) pa_nil)) (pe_op op_mod (pe_callTy call_int1 (by rfl) B.intT (by decide +kernel) (pa_cons (pv 3) pa_nil)) (pe_callB call_len_seq (by rfl) B.len PySem.boot_len (pa_cons (pv 1) pa_nil)))) pa_nil)) (pa_cons (pv 1) pa_nil))) (pe_one (pe_dn D__law_has (hr.mono (by decide)) (by rfl) pass0 (pa_cons (pv 0) (pa_cons (pv 1) pa_nil))))))))))), ?_⟩
    walk_at "rd"
    refine ⟨hB, by decide, by decide, fun m H1 m0 m1 hB1 b1 => ?_⟩
    rw [p30] at m1
    have hR1 := hR.but b1 hB
    have hp1 := b1 p _ pa hp
    have f0 := Int.emod_nonneg m (show (bs.length : Int) ≠ 0 by omega)
    have f1 := Int.emod_lt_of_pos m (show (0 : Int) < bs.length by omega)
    obtain ⟨dx, t, i1, i2⟩ := id hR1
    refine ⟨_, rfl, r, dx, _, rfl, i1, no_ _ (by decide +kernel) _, _, rfl, r, bs, m, rfl, hR1, ok, m0, fun x H2 hx hX e2 => ?_⟩
    have okX := ok.rot (f := (m % bs.length).toNat) (by omega)
    refine ⟨_, rfl, _, rfl, p, bs, m, rfl, e2 _ _ hp1, ok, m0, fun z H3 hz0 hz e3 => ?_⟩
    have e13 := e2.trans e3
    have hB3 := hB1.same e13
    have za := bag_ne (hB1.same e2) hz0
    refine ⟨_, rfl, _, rfl, x, z, _, rfl, hX.same e3, hz, okX.l2, fun H4 e4 => ?_⟩
    refine ⟨_, rfl, iteF ?_⟩
    refine ⟨_, rfl, _, rfl, _, rfl, x, z, a, _, rfl, (hX.same e3).same e4, e4 _ _ hz, okX, hB3.same e4, za, fun H5 hB5 b5 => ?_⟩
    refine ⟨_, rfl, iteF ?_⟩
    have hX5 := ((hX.same e3).same e4).but b5 (hB3.same e4)
    have hR5 := (hR1.same (e13.trans e4)).but b5 (hB3.same e4)
    have hp5 := b5 p _ pa ((e13.trans e4) _ _ hp1)
    obtain ⟨dy, t', j1, j2⟩ := id hX5
    refine ⟨_, rfl, x, dy, _, rfl, j1, no_ _ (by decide +kernel) _, ?_⟩
    refine ⟨_, rfl, p, _, rfl, .inl (SqL.of hp5), ?_⟩
    rw [hl]
    refine ⟨_, rfl, .inl ⟨_, rfl, _, rfl, p, _, rfl, .inl (SqL.of hp5), ?_⟩⟩
    rw [hl]
    refine ⟨_, _, rfl, rfl, by omega, _, _, rfl, rfl, ?_⟩
    refine ⟨x, _, (bs.length : Int) - m % bs.length, rfl, hX5, okX, by omega, fun y H6 hy hY e6 => ?_⟩
    have hback := rot_back (bs := bs) (f := (m % bs.length).toNat) (m := (bs.length : Int) - m % bs.length) (by omega) (by omega)
    rw [hback] at hY
    refine ⟨_, rfl, y, p, bs, rfl, hY, e6 _ _ hp5, l2, fun H7 e7 => ?_⟩
    refine ⟨_, rfl, iteT ?_⟩
    replace e7 := e6.trans e7
    refine ⟨_, rfl, _, rfl, r, p, bs, rfl, hR5.same e7, e7 _ _ hp5, l2, fun H8 e8 => ?_⟩
    exact k H8 ((hB5.same e7).same e8) (((b1.trans (But.of (e13.trans e4))).trans b5).trans (But.of (e7.trans e8)))
def spNear : Sp := fun vs H Q _ => ∃ (p q : Addr) (bs cs : List Int) (way spot : Int), vs = [.ref p, .int way, .ref q, .int spot] ∧ H p = some (.lst (bs.map V.int)) ∧ H q = some (.lst (cs.map V.int)) ∧ Okb bs ∧ (∀ b, b ∈ bs → b ≤ 1000000000000000000000000000000) ∧ Okb cs ∧ 0 ≤ spot ∧ spot < bs.length ∧
  ∀ (L : Addr) (ds : List Int) (H' : Hp), H' L = some (.lst (ds.map V.int)) → Okb ds → Same H H' → Q (.ref L) H'
theorem okb_app {bs cs : List Int} (h1 : ∀ b, b ∈ bs → 0 ≤ b ∧ b ≤ 10000000000000000000000000000000) (h2 : ∀ b, b ∈ cs → 0 ≤ b ∧ b ≤ 10000000000000000000000000000000) (l1 : 1 ≤ bs.length + cs.length) (l2 : bs.length + cs.length ≤ 12) : Okb (bs ++ cs) :=
  ⟨by rw [List.length_append]; exact l1, by rw [List.length_append]; exact l2, fun b hb => (List.mem_append.mp hb).elim (h1 b) (h2 b)⟩
theorem scLawNear : FnScope ["row", "way", "other", "spot", "k"] ["row", "way", "other", "spot"] (defScope sLawNear) := ⟨rfl, rfl, rfl, by decide +kernel, rfl, by decide +kernel, by decide +kernel⟩
theorem ok_near {f : Addr} {fd : FuncData} (F : Fun K "_law_near" "_law_near" sLawNear f fd) (B : Bi mg) (D__law_moved : Dn P w K mg base "_law_moved" 1 ["row", "phase"] spMoved) : FnOk P w K mg base CX0 2 f fd ["row", "way", "other", "spot"] spNear := by
  refine F.ok scLawNear (fun vs H Q E h => ?_) (fun cdv A outer s H vs Q E hr h => ?_)
  · obtain ⟨_, _, _, _, _, _, rfl, _⟩ := h
    rfl
  · obtain ⟨p, q, bs, cs, way, spot, rfl, hp, hq, ok, hb, okc, s0, s1, k⟩ := h
    have hl : (bs.map V.int).length = bs.length := List.length_map ..
    have l1 := ok.l1
    have l2 := ok.l2
    have sz : (10000 : Nat) ≤ sizeLine := by decide
    refine ⟨_, (pss_cons (ps_if (pt_cmpR op_eq (pv 1) pe_int (nomark _)) (pss_one (ps_ret (pe_callTy call_list_of (by rfl) B.listT (by decide +kernel) (pa_cons (pv 0) pa_nil))))
  pss_nil)
  (pss_cons (ps_if (pt_cmpR op_eq (pv 1) pe_int (nomark _)) (pss_one (ps_ret (pe_op op_cat (pe_op op_cat (pe_slice sl_list (pv 0) po_none (po_some (pv 3))) (pe_lst (pa_cons (pe_op op_sub (pe_op op_add (pe_ix ix_list (pv 0) (pv 3) (fun _ _ => rfl)) pe_int) (pe_op op_mul pe_int (pe_callTy call_int1 (by rfl) B.intT (by decide +kernel) (pa_cons (pe_cmpR op_gt (pe_ix ix_list (pv 0) (pv 3) (fun _ _ => rfl)) pe_int (nomark _)) pa_nil)))) pa_nil))) (pe_slice sl_list (pv 0) (po_some (pe_op op_add (pv 3) pe_int)) po_none))))
  pss_nil)
  (pss_cons (ps_if (pt_cmpR op_eq (pv 1) pe_int (nomark _)) (pss_one (ps_ret (pe_op op_cat (pe_slice sl_list (pv 0) po_none (po_some (pe_un un_neg pe_int))) (pe_lst (pa_cons (pe_op op_sub (pe_op op_add (pe_ix ix_list (pv 0) (pe_un un_neg pe_int) (fun _ _ => rfl)) pe_int) (pe_op op_mul pe_int (pe_callTy call_int1 (by rfl) B.intT (by decide +kernel) (pa_cons (pe_cmpR op_gt (pe_ix ix_list (pv 0) (pe_un un_neg pe_int) (fun _ _ => rfl)) pe_int (nomark _)) pa_nil)))) pa_nil)))))
  pss_nil)
  (C8.pss_cut (ps_if (PW.pt (pw_and (pt_cmpR op_eq (pv 1) pe_int (nomark _)) (pw_and1 (pt_cmpR op_lt (pe_callB call_len_seq (by rfl) B.len PySem.boot_len (pa_cons (pv 0) pa_nil)) pe_int (nomark _))))) (pss_one (ps_ret (pe_op op_cat (pv 0) (pe_lst (pa_cons (pe_ix ix_list (pv 0) pe_int (fun _ _ => rfl)) pa_nil)))))
  pss_nil)
  (C8.pss_cut (ps_if (PW.pt (pw_and (pt_cmpR op_eq (pv 1) pe_int (nomark _)) (pw_and1 (pt_cmpR op_gt (pe_callB call_len_seq (by rfl) B.len PySem.boot_len (pa_cons (pv 0) pa_nil)) pe_int (nomark _))))) (pss_one (ps_ret (pe_slice sl_list (pv 0) po_none (po_some (pe_un un_neg pe_int)))))
  pss_nil)
  (C8.pss_cut (ps_if (PW.pt (pw_and (pt_cmpR op_eq (pv 1) pe_int (nomark _)) (pw_and1 (pt_cmpR op_lt (pe_callB call_len_seq (by rfl) B.len PySem.boot_len (pa_cons (pv 0) pa_nil)) pe_int (nomark _))))) (pss_one (ps_ret (pe_op op_cat (pv 0) (pv 0))))
  pss_nil)
  (pss_cons (ps_if (pt_cmpR op_eq (pv 1) pe_int (nomark _)) (pss_one (ps_ret (pe_lc (own := [("k", 4)]) (g := gName 4) rfl scLawNear.nd (pi_range1 rfl B.range (pa_cons (pe_callB call_len_seq (by rfl) B.len PySem.boot_len (pa_cons (pv 0) pa_nil)) pa_nil)) (blkOk_by (own := [("k", 4)]) (N := ["row", "way", "other", "spot", "k"]) (sc := defScope sLawNear) (by decide +kernel)) (fun _ _ _ _ _ => pg_name (i := 4) scLawNear.nd rfl (Or.inl rfl)) (fun _ _ _ _ _ => pts_nil) (fun _ _ _ _ _ => (pe_ix (ix_listK K) (pv 0) (pe_op op_sub (pe_op op_sub (pe_callB (call_lenK K) (by rfl) B.len PySem.boot_len (pa_cons (pv 0) pa_nil)) pe_int) (pv 4)) (fun _ _ => rfl))))))
  pss_nil)
  (pss_cons (ps_if (pt_cmpR op_eq (pv 1) pe_int (nomark _)) (pss_one (ps_ret (pe_dn D__law_moved (hr.mono (by decide)) (by rfl) pass0 (pa_cons (pv 0) (pa_cons pe_int pa_nil)))))
  pss_nil)
  (pss_one (ps_ret (pe_callTy call_list_of (by rfl) B.listT (by decide +kernel) (pa_cons (pv 2) pa_nil)))))))))))), ?_⟩
    walk_at "rd"
    refine iti (fun _ => ?_) (fun _ => ?_)
    · refine ⟨_, rfl, p, _, rfl, .inl (SqL.of hp), fun L hL => ?_⟩
      exact k L bs _ upd_same ok (Same.upd hL)
    walk_at "rd"
    refine iti (fun _ => ?_) (fun _ => ?_)
    · obtain ⟨z, hzm, hz⟩ : ∃ z, z ∈ bs ∧ (bs.map V.int)[spot.toNat]? = some (.int z) := by
        refine ⟨bs[spot.toNat], List.getElem_mem _, ?_⟩
        rw [List.getElem?_map, List.getElem?_eq_getElem (by omega)]; rfl
      have z0 := (ok.nn z hzm).1
      have z1 := hb z hzm
      refine ⟨_, rfl, _, rfl, _, rfl, p, _, rfl, SqL.of hp, fun L1 hL1 => ?_⟩
      rw [cut_hi s0 (by rw [hl]; omega)]
      have e1 : Same H (upd H L1 (.lst ((bs.map V.int).take spot.toNat))) := Same.upd hL1
      have g1 := upd_same (H := H) (a := L1) (o := .lst ((bs.map V.int).take spot.toNat))
      generalize upd H L1 (.lst ((bs.map V.int).take spot.toNat)) = H1 at e1 g1 ⊢
      have hp1 := e1 _ _ hp
      refine ⟨_, rfl, _, rfl, p, _, _, _, rfl, rfl, SqL.of hp1, at_of (by omega) hz, _, _, rfl, rfl, ?_⟩
      refine ⟨_, rfl, _, rfl, p, _, _, _, rfl, rfl, SqL.of hp1, at_of (by omega) hz, _, _, rfl, rfl, .inr ⟨_, rfl, ?_⟩⟩
      walk_at "rd"
      have hbd := bend_b z0 z1
      refine ⟨(by show 1 ≤ sizeLine; decide), fun L2 hL2 => ?_⟩
      have e2 := Same.upd (o := .lst [V.int (z + 1 - 2 * (if decide (0 < z) = true then 1 else 0))]) hL2
      refine ⟨L1, L2, _, [V.int (z + 1 - 2 * (if decide (0 < z) = true then 1 else 0))], rfl, rfl, e2 _ _ g1, upd_same, ?_, fun L3 hL3 => ?_⟩
      · rw [List.length_take]
        show min _ _ + 1 ≤ _
        omega
      have e3 := Same.upd (o := .lst ((bs.map V.int).take spot.toNat ++ [V.int (z + 1 - 2 * (if decide (0 < z) = true then 1 else 0))])) hL3
      have e13 := (e1.trans e2).trans e3
      refine ⟨_, rfl, _, rfl, _, _, rfl, rfl, _, rfl, p, _, rfl, SqL.of (e13 _ _ hp), fun L4 hL4 => ?_⟩
      rw [cut_lo (by omega) (by rw [hl]; omega)]
      have e4 := Same.upd (o := .lst ((bs.map V.int).drop (spot + 1).toNat)) hL4
      refine ⟨L3, L4, _, _, rfl, rfl, e4 _ _ upd_same, upd_same, ?_, fun L5 hL5 => ?_⟩
      · rw [List.length_append, List.length_take, List.length_drop]
        show min _ _ + 1 + _ ≤ _
        omega
      refine k L5 ((bs.take spot.toNat ++ [z + 1 - 2 * (if decide (0 < z) = true then 1 else 0)]) ++ bs.drop (spot + 1).toNat) _ ?_ (okb_app (fun b hb => (List.mem_append.mp hb).elim (fun h => ok.nn b (List.mem_of_mem_take h)) (one_mem hbd b)) (fun b hb => ok.nn b (List.mem_of_mem_drop hb)) ?_ ?_) ((e13.trans e4).trans (Same.upd hL5))
      · rw [upd_same, List.map_append, List.map_append, List.map_take, List.map_drop]; rfl
      · rw [List.length_append, List.length_take, List.length_drop]
        show 1 ≤ min _ _ + 1 + _
        omega
      · rw [List.length_append, List.length_take, List.length_drop]
        show min _ _ + 1 + _ ≤ 12
        omega
    walk_at "rd"
    refine iti (fun _ => ?_) (fun _ => ?_)
    · obtain ⟨z, hzm, hz⟩ := at_end l1
      have z0 := (ok.nn z hzm).1
      have z1 := hb z hzm
      refine ⟨_, rfl, _, rfl, _, rfl, p, _, rfl, SqL.of hp, fun L1 hL1 => ?_⟩
      rw [show cutV (bs.map V.int) none (some (-1)) = (bs.take (bs.length - 1)).map V.int by rw [cut_last, hl, List.map_take]]
      have e1 : Same H (upd H L1 (.lst ((bs.take (bs.length - 1)).map V.int))) := Same.upd hL1
      have g1 := upd_same (H := H) (a := L1) (o := .lst ((bs.take (bs.length - 1)).map V.int))
      generalize upd H L1 (.lst ((bs.take (bs.length - 1)).map V.int)) = H1 at e1 g1 ⊢
      have hp1 := e1 _ _ hp
      refine ⟨_, rfl, _, rfl, p, _, _, _, rfl, rfl, SqL.of hp1, hz, _, _, rfl, rfl, ?_⟩
      refine ⟨_, rfl, _, rfl, p, _, _, _, rfl, rfl, SqL.of hp1, hz, _, _, rfl, rfl, .inr ⟨_, rfl, ?_⟩⟩
      walk_at "rd"
      have hbd := bend_b z0 z1
      refine ⟨(by show 1 ≤ sizeLine; decide), fun L2 hL2 => ?_⟩
      have e2 := Same.upd (o := .lst [V.int (z + 1 - 2 * (if decide (0 < z) = true then 1 else 0))]) hL2
      refine ⟨L1, L2, _, [V.int (z + 1 - 2 * (if decide (0 < z) = true then 1 else 0))], rfl, rfl, e2 _ _ g1, upd_same, ?_, fun L3 hL3 => ?_⟩
      · rw [List.length_map, List.length_take]
        show min _ _ + 1 ≤ _
        omega
      refine k L3 (bs.take (bs.length - 1) ++ [z + 1 - 2 * (if decide (0 < z) = true then 1 else 0)]) _ ?_ (okb_app (fun b hb => ok.nn b (List.mem_of_mem_take hb)) (one_mem hbd) ?_ ?_) ((e1.trans e2).trans (Same.upd hL3))
      · rw [upd_same, List.map_append]; rfl
      · rw [List.length_take]
        show 1 ≤ min _ _ + 1
        omega
      · rw [List.length_take]
        show min _ _ + 1 ≤ 12
        omega
    refine ⟨fun σ H' => σ = [some (V.ref p), some (V.int way), some (V.ref q), some (V.int spot), none] ∧ H = H', ?_, ?_⟩
    · walk_at "rd"
      refine iti (fun _ => ?_) (fun _ => ⟨rfl, rfl⟩)
      refine ⟨_, rfl, p, _, rfl, .inl (SqL.of hp), ?_⟩
      rw [hl]
      walk_at "rd"
      refine itd (fun h => ?_) (fun h => ⟨rfl, rfl⟩)
      obtain ⟨z, hzm, hz⟩ : ∃ z, z ∈ bs ∧ (bs.map V.int)[0]? = some (.int z) := by
        refine ⟨bs[0], List.getElem_mem _, ?_⟩
        rw [List.getElem?_map, List.getElem?_eq_getElem (by omega)]; rfl
      refine ⟨_, rfl, _, rfl, p, _, _, _, rfl, rfl, SqL.of hp, at_of (j := 0) rfl hz, ?_⟩
      walk_at "rd"
      refine ⟨(by show 1 ≤ sizeLine; decide), fun L1 hL1 => ?_⟩
      have e1 := Same.upd (o := .lst [V.int z]) hL1
      refine ⟨p, L1, _, [V.int z], rfl, rfl, e1 _ _ hp, upd_same, ?_, fun L2 hL2 => ?_⟩
      · rw [hl]
        show bs.length + 1 ≤ _
        omega
      refine k L2 (bs ++ [z]) _ ?_ (okb_app ok.nn (one_mem (ok.nn z hzm)) (by omega) (by show bs.length + 1 ≤ 12; omega)) (e1.trans (Same.upd hL2))
      rw [upd_same, List.map_append]; rfl
    rintro σ H' ⟨rfl, rfl⟩
    refine ⟨fun σ H' => σ = [some (V.ref p), some (V.int way), some (V.ref q), some (V.int spot), none] ∧ H = H', ?_, ?_⟩
    · walk_at "rd"
      refine iti (fun _ => ?_) (fun _ => ⟨rfl, rfl⟩)
      refine ⟨_, rfl, p, _, rfl, .inl (SqL.of hp), ?_⟩
      rw [hl]
      walk_at "rd"
      refine itd (fun h => ?_) (fun h => ⟨rfl, rfl⟩)
      refine ⟨_, rfl, _, rfl, _, rfl, p, _, rfl, SqL.of hp, fun L1 hL1 => ?_⟩
      refine k L1 (bs.take (bs.length - 1)) _ ?_ ⟨by rw [List.length_take]; omega, by rw [List.length_take]; omega, fun b hb => ok.nn b (List.mem_of_mem_take hb)⟩ (Same.upd hL1)
      show upd H L1 (.lst (cutV (bs.map V.int) none (some (-1)))) L1 = _
      rw [upd_same, cut_last, hl, List.map_take]
    rintro σ H' ⟨rfl, rfl⟩
    refine ⟨fun σ H' => σ = [some (V.ref p), some (V.int way), some (V.ref q), some (V.int spot), none] ∧ H = H', ?_, ?_⟩
    · walk_at "rd"
      refine iti (fun _ => ?_) (fun _ => ⟨rfl, rfl⟩)
      refine ⟨_, rfl, p, _, rfl, .inl (SqL.of hp), ?_⟩
      rw [hl]
      walk_at "rd"
      refine itd (fun h => ?_) (fun h => ⟨rfl, rfl⟩)
      refine ⟨_, rfl, _, rfl, p, p, _, _, rfl, rfl, hp, hp, ?_, fun L1 hL1 => ?_⟩
      · rw [hl]; omega
      refine k L1 (bs ++ bs) _ ?_ (okb_app ok.nn ok.nn (by omega) (by omega)) (Same.upd hL1)
      rw [upd_same, List.map_append]
    rintro σ H' ⟨rfl, rfl⟩
    walk_at "rd"
    refine iti (fun _ => ?_) (fun _ => ?_)
    · refine ⟨_, rfl, p, _, rfl, .inl (SqL.of hp), _, rfl, by omega, by omega, fun D hD => ?_⟩
      rw [hl, Int.toNat_natCast]
      refine lc_growR (fun i => (((bs.reverse).map V.int)[i]?.getD .non)) hD (by omega) (fun i H2 R hi hS hR => ?_) (fun H2 hS hL => ?_)
      · have hx : (bs.map V.int)[bs.length - 1 - i]? = some (((bs.reverse).map V.int)[i]?.getD .non) := by
          rw [List.map_reverse, List.getElem?_reverse (by omega), hl, List.getElem?_eq_getElem (by omega)]; rfl
        refine ⟨rfl, _, rfl, _, rfl, p, _, rfl, .inl (SqL.of (hS _ _ hp)), ?_⟩
        rw [hl]
        refine ⟨_, _, rfl, rfl, _, rfl, _, _, rfl, rfl, ?_⟩
        exact ⟨p, _, _, _, rfl, rfl, SqL.of (hS _ _ hp), at_of (j := bs.length - 1 - i) (by omega) hx, hR H2 (Same.refl _)⟩
      have hL2 : H2 D = some (.lst ((bs.reverse).map V.int)) := by
        have := range_get ((bs.reverse).map V.int)
        rw [List.length_map, List.length_reverse] at this
        rw [hL, this]
      exact k D bs.reverse H2 hL2 ⟨by rw [List.length_reverse]; exact l1, by rw [List.length_reverse]; exact l2, fun b hb => ok.nn b (List.mem_reverse.mp hb)⟩ hS
    walk_at "rd"
    refine iti (fun _ => ?_) (fun _ => ?_)
    · walk_at "rd"
      refine ⟨p, bs, 1, rfl, hp, ok, by omega, fun z H1 _ hz e1 => ?_⟩
      have f0 := Int.emod_nonneg (1 : Int) (show (bs.length : Int) ≠ 0 by omega)
      have f1 := Int.emod_lt_of_pos (1 : Int) (show (0 : Int) < bs.length by omega)
      exact k z _ H1 hz (ok.rot (by omega)) e1
    refine ⟨_, rfl, q, _, rfl, .inl (SqL.of hq), fun L hL => ?_⟩
    exact k L cs _ upd_same okc (Same.upd hL)
end
end Cl

/-! ### law k00: equal, added -/
namespace Cl
open StX ClX
theorem dpBools {K : PySem.W.Frag} {H : Hp} : ∀ (bs : List Bool), DpAll K H (bs.map V.bl) (bs.map PyData.bool)
  | [] => .nil
  | b :: bs => .cons (.bl b) (dpBools bs)
theorem same3 {bs ds : List Int} : PyData.eqvAll ([decide (bs = ds), decide (ds = bs), decide (ds = ds)].map PyData.bool) ([decide (ds = bs), decide (ds = bs), true].map PyData.bool) = true := by
  by_cases h : bs = ds
  · subst h; simp [PyData.eqvAll, PyData.eqv]
  · rw [decide_eq_false h, decide_eq_false (fun e => h e.symm), decide_eq_true rfl]; rfl
section
variable {P : Program} {w : World} {K : PySem.W.Frag} {mg : Str → Option Value} {base : Heap} {C : Addr}
def spEqu (C : Addr) : Sp := fun vs H Q _ => ∃ (r p q : Addr) (bs cs : List Int) (spot : Int), vs = [.ref r, .ref p, .ref q, .int spot] ∧ RoundAt C H r bs ∧ H p = some (.lst (bs.map V.int)) ∧ H q = some (.lst (cs.map V.int)) ∧ Okb bs ∧ (∀ b, b ∈ bs → b ≤ 1000000000000000000000000000000) ∧ Okb cs ∧ 0 ≤ spot ∧ spot < bs.length ∧ ∀ (H' : Hp), Same H H' → Q (.bl true) H'
theorem scLawEqual : FnScope ["made", "row", "other", "spot", "way", "near", "mate", "told", "one"] ["made", "row", "other", "spot"] (defScope sLawEqual) := ⟨rfl, rfl, rfl, by decide +kernel, rfl, by decide +kernel, by decide +kernel⟩
theorem ok_equal {f : Addr} {fd : FuncData} (F : Fun K "_law_equal" "_law_equal" sLawEqual f fd) (B : Bi mg) (D__law_near : Dn P w K mg base "_law_near" 2 ["row", "way", "other", "spot"] spNear) (D__law_round : Dn P w K mg base "_law_round" 5 ["row"] (spRoundN C))
    (O_Round___eq__ : On P w K mg base C "__eq__" 1 ["self", "other"] (spEqR C)) : FnOk P w K mg base CX0 6 f fd ["made", "row", "other", "spot"] (spEqu C) := by
  refine F.ok scLawEqual (fun vs H Q E h => ?_) (fun cdv A outer s H vs Q E hr h => ?_)
  · obtain ⟨_, _, _, _, _, _, rfl, _⟩ := h
    rfl
  · obtain ⟨r, p, q, bs, cs, spot, rfl, hR, hp, hq, ok, hb, okc, s0, s1, k⟩ := h
    refine ⟨_, (pss_cons (ps_for PassesOwn.never rfl (pi_range1 rfl B.range (pa_cons pe_int pa_nil)) (pg_name (i := 4) scLawEqual.nd rfl (Or.inl rfl))
  (pss_cons (ps_set (i := 5) scLawEqual.nd rfl (Or.inl rfl) (pe_dn D__law_near (hr.mono (by decide)) (by rfl) pass0 (pa_cons (pv 1) (pa_cons (pv 4) (pa_cons (pv 2) (pa_cons (pv 3) pa_nil))))))
  (pss_cons (ps_set (i := 6) scLawEqual.nd rfl (Or.inl rfl) (pe_dn D__law_round (hr.mono (by decide)) (by rfl) pass0 (pa_cons (pv 5) pa_nil)))
  (pss_cons (ps_set (i := 7) scLawEqual.nd rfl (Or.inl rfl) (pe_lst (pa_cons (pe_cmpR (op_eqN O_Round___eq__ (hr.mono (by decide))) (pv 0) (pv 6) (nomark _)) (pa_cons (pe_cmpR (op_eqN O_Round___eq__ (hr.mono (by decide))) (pv 6) (pv 0) (nomark _)) (pa_cons (pe_cmpR (op_eqN O_Round___eq__ (hr.mono (by decide))) (pv 6) (pv 6) (nomark _)) pa_nil)))))
  (pss_cons (ps_if (pt_not (pt_val (pe_callB (cr_all rfl) (by rfl) B.all (by decide +kernel) (pa_cons (pe_lc (own := [("one", 8)]) (g := gName 8) rfl scLawEqual.nd (pi_list (pv 7)) (blkOk_by (own := [("one", 8)]) (N := ["made", "row", "other", "spot", "way", "near", "mate", "told", "one"]) (sc := defScope sLawEqual) (by decide +kernel)) (fun _ _ _ _ _ => pg_name (i := 8) scLawEqual.nd rfl (Or.inl rfl)) (fun _ _ _ _ _ => pts_nil) (fun _ _ _ _ _ => (pe_callB (call_isiK K) (by rfl) B.isinstance (by decide +kernel) (pa_cons (pv 8) (pa_cons (pe_bltn (v := .ty "bool") (by rfl) B.boolT (by decide +kernel) rfl) pa_nil))))) pa_nil)))) (pss_one (ps_ret pe_bl))
  pss_nil)
  (pss_one (ps_if (pt_cmpR (op_neD hr.units) (pv 7) (pe_lst (pa_cons (pe_cmpR (op_eqD hr.units) (pv 5) (pv 1) (nomark _)) (pa_cons (pe_cmpR (op_eqD hr.units) (pv 5) (pv 1) (nomark _)) (pa_cons pe_bl pa_nil)))) (nomark _)) (pss_one (ps_ret pe_bl))
  pss_nil)))))))
  (pss_one (ps_ret pe_bl))), ?_⟩
    walk_at "rd"
    refine ⟨by omega, by omega, ?_⟩
    refine for_range (fun i σ H' => ∃ (u v x y : Option V), σ = [some (.ref r), some (.ref p), some (.ref q), some (.int spot), u, v, x, y, none] ∧ Same H H') ⟨_, _, _, _, rfl, Same.refl _⟩ ?_ ?_
    · rintro i σ H1 hi ⟨u, v, x, y, rfl, e1⟩
      refine ⟨_, rfl, _, rfl, _, rfl, _, rfl, p, q, bs, cs, _, spot, rfl, e1 _ _ hp, e1 _ _ hq, ok, hb, okc, s0, s1, fun L ds H2 hL okd e2 => ?_⟩
      refine ⟨_, rfl, L, ds, rfl, hL, okd, fun m H3 _ hM e3 => ?_⟩
      have e13 := (e1.trans e2).trans e3
      have hR3 := hR.same e13
      obtain ⟨dx, t, i1, i2⟩ := id hR3
      obtain ⟨dy, t', j1, j2⟩ := id hM
      refine ⟨_, rfl, _, rfl, r, m, dx, dy, _, _, rfl, rfl, i1, j1, r, m, bs, ds, rfl, hR3, hM, ?_⟩
      refine ⟨_, rfl, _, rfl, m, r, dy, dx, _, _, rfl, rfl, j1, i1, m, r, ds, bs, rfl, hM, hR3, ?_⟩
      refine ⟨_, rfl, _, rfl, m, m, dy, dy, _, _, rfl, rfl, j1, j1, m, m, ds, ds, rfl, hM, hM, ?_⟩
      refine ⟨(by show 3 ≤ sizeLine; decide), fun T hT => ?_⟩
      have e4 : Same H3 (upd H3 T (.lst ([decide (bs = ds), decide (ds = bs), decide (ds = ds)].map V.bl))) := Same.upd hT
      have g4 := upd_same (H := H3) (a := T) (o := .lst ([decide (bs = ds), decide (ds = bs), decide (ds = ds)].map V.bl))
      refine ⟨_, rfl, T, rfl, ⟨_, SqL.of g4⟩, fun D hD => ?_⟩
      refine lc_growL (K := K) (xs := [decide (bs = ds), decide (ds = bs), decide (ds = ds)].map V.bl) (fun _ => .bl true) (SqL.of g4) hD (by show 3 < 10000; decide) (fun y H5 R hy e hR1 => ?_) (fun H5 e5 hD5 => ?_)
      · obtain ⟨c, hc, rfl⟩ := List.mem_map.mp hy
        exact ⟨rfl, _, rfl, _, _, _, _, _, rfl, .ty _, .base (.bl _), kit_bb K, hR1 H5 (Same.refl _)⟩
      refine ⟨D, ([decide (bs = ds), decide (ds = bs), decide (ds = ds)].map V.bl).map fun _ => true, rfl, allT1 hD5, ?_⟩
      rw [allT2]
      refine ⟨_, rfl, iteF ?_⟩
      have e35 := e4.trans e5
      have hL5 := e35 _ _ (e3 _ _ hL)
      have hp5 := (e13.trans e35) _ _ hp
      refine ⟨_, rfl, _, rfl, _, rfl, .list (ds.map .int), .list (bs.map .int), .lst (SqL.of hL5) (dpAll_ints ds), .lst (SqL.of hp5) (dpAll_ints bs), shaped_lst ds, shaped_lst bs, ?_⟩
      refine ⟨_, rfl, _, rfl, .list (ds.map .int), .list (bs.map .int), .lst (SqL.of hL5) (dpAll_ints ds), .lst (SqL.of hp5) (dpAll_ints bs), shaped_lst ds, shaped_lst bs, ?_⟩
      refine ⟨(by show 3 ≤ sizeLine; decide), fun U hU => ?_⟩
      have hE : PyData.eqv (.list (ds.map .int)) (.list (bs.map .int)) = decide (ds = bs) := eqvAll_ints ds bs
      have e6 := Same.upd (o := .lst ([PyData.eqv (.list (ds.map .int)) (.list (bs.map .int)), PyData.eqv (.list (ds.map .int)) (.list (bs.map .int)), true].map V.bl)) hU
      refine ⟨.list ([decide (bs = ds), decide (ds = bs), decide (ds = ds)].map .bool), .list ([PyData.eqv (.list (ds.map .int)) (.list (bs.map .int)), PyData.eqv (.list (ds.map .int)) (.list (bs.map .int)), true].map .bool), .lst (SqL.of (e6 _ _ (e5 _ _ g4))) (dpBools [decide (bs = ds), decide (ds = bs), decide (ds = ds)]), .lst (SqL.of upd_same) (dpBools [PyData.eqv (.list (ds.map .int)) (.list (bs.map .int)), PyData.eqv (.list (ds.map .int)) (.list (bs.map .int)), true]), rfl, rfl, _, rfl, ?_⟩
      have hF : PyData.eqv (.list ([decide (bs = ds), decide (ds = bs), decide (ds = ds)].map .bool)) (.list ([PyData.eqv (.list (ds.map .int)) (.list (bs.map .int)), PyData.eqv (.list (ds.map .int)) (.list (bs.map .int)), true].map .bool)) = true := by
        rw [hE]
        exact same3
      rw [hF]
      refine iteF ?_
      exact ⟨_, _, _, _, rfl, (e13.trans e35).trans e6⟩
    · rintro σ H1 ⟨u, v, x, y, rfl, e1⟩
      exact k _ e1
def spAdd (C : Addr) : Sp := fun vs H Q _ => ∃ (r p m q : Addr) (bs cs : List Int) (cut : Int), vs = [.ref r, .ref p, .ref m, .ref q, .int cut] ∧ RoundAt C H r bs ∧ H p = some (.lst (bs.map V.int)) ∧ RoundAt C H m cs ∧ H q = some (.lst (cs.map V.int)) ∧ Okb bs ∧ Okb cs ∧ 0 ≤ cut ∧ ∀ (H' : Hp), Same H H' → Q (.bl true) H'
theorem okb_part {bs : List Int} {i : Nat} (ok : Okb bs) (h0 : 0 < i) (h1 : i < bs.length) : Okb (bs.take i) ∧ Okb (bs.drop i) := by
  have := ok.l2
  exact ⟨⟨by rw [List.length_take]; omega, by rw [List.length_take]; omega, fun b hb => ok.nn b (List.mem_of_mem_take hb)⟩, ⟨by rw [List.length_drop]; omega, by rw [List.length_drop]; omega, fun b hb => ok.nn b (List.mem_of_mem_drop hb)⟩⟩
theorem scLawAdded : FnScope ["made", "row", "mate", "other", "cut", "parts"] ["made", "row", "mate", "other", "cut"] (defScope sLawAdded) := ⟨rfl, rfl, rfl, by decide +kernel, rfl, by decide +kernel, by decide +kernel⟩
theorem ok_added {f : Addr} {fd : FuncData} (F : Fun K "_law_added" "_law_added" sLawAdded f fd) (B : Bi mg) (R_Round : ClsC K mg "Round" C) (D__law_has : Dn P w K mg base "_law_has" 3 ["made", "row"] (spHas C)) (D__law_round : Dn P w K mg base "_law_round" 5 ["row"] (spRoundN C))
    (O_Round___add__ : On P w K mg base C "__add__" 5 ["self", "other"] (spAddR C)) (O_Round___eq__ : On P w K mg base C "__eq__" 1 ["self", "other"] (spEqR C)) : FnOk P w K mg base CX0 6 f fd ["made", "row", "mate", "other", "cut"] (spAdd C) := by
  refine F.ok scLawAdded (fun vs H Q E h => ?_) (fun cdv A outer s H vs Q E hr h => ?_)
  · obtain ⟨_, _, _, _, _, _, _, rfl, _⟩ := h
    rfl
  · obtain ⟨r, p, m, q, bs, cs, cut, rfl, hR, hp, hM, hq, ok, okc, c0, k⟩ := h
    have hl : (bs.map V.int).length = bs.length := List.length_map ..
    have hlc : (cs.map V.int).length = cs.length := List.length_map ..
    have l1 := ok.l1
    have l2 := ok.l2
    have l1' := okc.l1
    have l2' := okc.l2
    have sz : (10000 : Nat) ≤ sizeLine := by decide
    refine ⟨_, (C8.pss_cut (ps_if (pt_cmpR op_le (pe_op op_add (pe_callB call_len_seq (by rfl) B.len PySem.boot_len (pa_cons (pv 1) pa_nil)) (pe_callB call_len_seq (by rfl) B.len PySem.boot_len (pa_cons (pv 3) pa_nil))) pe_int (nomark _)) (pss_one (ps_if (PW.pt (pw_or (pt_not (pt_val (pe_dn D__law_has (hr.mono (by decide)) (by rfl) pass0 (pa_cons (pe_op (op_addN O_Round___add__ R_Round (hr.mono (by decide))) (pv 0) (pv 2)) (pa_cons (pe_op op_cat (pv 1) (pv 3)) pa_nil))))) (pw_or1 (pt_not (pt_val (pe_dn D__law_has (hr.mono (by decide)) (by rfl) pass0 (pa_cons (pe_op (op_addN O_Round___add__ R_Round (hr.mono (by decide))) (pv 2) (pv 0)) (pa_cons (pe_op op_cat (pv 3) (pv 1)) pa_nil)))))))) (pss_one (ps_ret pe_bl))
  pss_nil))
  pss_nil)
  (C8.pss_cut (ps_if (PW.pt (pw_and (pt_cmpR op_lt pe_int (pv 4) (nomark _)) (pw_and1 (pt_cmpR op_lt (pv 4) (pe_callB call_len_seq (by rfl) B.len PySem.boot_len (pa_cons (pv 1) pa_nil)) (nomark _))))) (pss_cons (ps_set (i := 5) scLawAdded.nd rfl (Or.inl rfl) (pe_op (op_addN O_Round___add__ R_Round (hr.mono (by decide))) (pe_dn D__law_round (hr.mono (by decide)) (by rfl) pass0 (pa_cons (pe_slice sl_list (pv 1) po_none (po_some (pv 4))) pa_nil)) (pe_dn D__law_round (hr.mono (by decide)) (by rfl) pass0 (pa_cons (pe_slice sl_list (pv 1) (po_some (pv 4)) po_none) pa_nil))))
  (pss_one (ps_if (PW.pt (pw_or (pt_not (pt_val (pe_dn D__law_has (hr.mono (by decide)) (by rfl) pass0 (pa_cons (pv 5) (pa_cons (pv 1) pa_nil))))) (pw_or1 (pt_not (pt_cmpR (op_eqN O_Round___eq__ (hr.mono (by decide))) (pv 0) (pv 5) (nomark _)))))) (pss_one (ps_ret pe_bl))
  pss_nil)))
  pss_nil)
  (pss_one (ps_ret (pe_and (pe_dn D__law_has (hr.mono (by decide)) (by rfl) pass0 (pa_cons (pv 0) (pa_cons (pv 1) pa_nil))) (pe_one (pe_dn D__law_has (hr.mono (by decide)) (by rfl) pass0 (pa_cons (pv 2) (pa_cons (pv 3) pa_nil))))))))), ?_⟩
    refine ⟨fun σ H' => σ = [some (V.ref r), some (V.ref p), some (V.ref m), some (V.ref q), some (V.int cut), none] ∧ Same H H', ?_, ?_⟩
    · refine ⟨_, rfl, p, _, rfl, .inl (SqL.of hp), _, rfl, q, _, rfl, .inl (SqL.of hq), _, _, rfl, rfl, ?_⟩
      rw [hl, hlc]
      walk_at "rd"
      refine itd (fun h => ?_) (fun h => ⟨rfl, Same.refl _⟩)
      obtain ⟨dx, t, i1, i2⟩ := id hR
      obtain ⟨dy, t', j1, j2⟩ := id hM
      refine ⟨_, rfl, _, rfl, r, m, dx, dy, _, _, rfl, rfl, i1, j1, r, m, bs, cs, rfl, hR, hM, ok, okc, by omega, fun x H1 _ hX e1 => ?_⟩
      refine ⟨_, rfl, _, rfl, p, q, _, _, rfl, rfl, e1 _ _ hp, e1 _ _ hq, by rw [hl, hlc]; omega, fun L hL => ?_⟩
      have e2 := Same.upd (o := .lst (bs.map V.int ++ cs.map V.int)) hL
      refine ⟨x, L, bs ++ cs, rfl, hX.same e2, by rw [upd_same, List.map_append], by rw [List.length_append]; omega, fun H3 e3 => ?_⟩
      refine ⟨_, rfl, iteF ?_⟩
      have e13 := (e1.trans e2).trans e3
      refine ⟨_, rfl, _, rfl, m, r, dy, dx, _, _, rfl, rfl, e13 _ _ j1, e13 _ _ i1, m, r, cs, bs, rfl, hM.same e13, hR.same e13, okc, ok, by omega, fun y H4 _ hY e4 => ?_⟩
      have e14 := e13.trans e4
      refine ⟨_, rfl, _, rfl, q, p, _, _, rfl, rfl, e14 _ _ hq, e14 _ _ hp, by rw [hl, hlc]; omega, fun L2 hL2 => ?_⟩
      have e5 := Same.upd (o := .lst (cs.map V.int ++ bs.map V.int)) hL2
      refine ⟨y, L2, cs ++ bs, rfl, hY.same e5, by rw [upd_same, List.map_append], by rw [List.length_append]; omega, fun H6 e6 => ?_⟩
      refine ⟨_, rfl, iteF ?_⟩
      exact ⟨rfl, (e14.trans e5).trans e6⟩
    rintro σ H1 ⟨rfl, e1⟩
    refine ⟨fun σ H' => ∃ u, σ = [some (V.ref r), some (V.ref p), some (V.ref m), some (V.ref q), some (V.int cut), u] ∧ Same H H', ?_, ?_⟩
    · walk_at "rd"
      refine itd (fun h => ?_) (fun h => ⟨_, rfl, e1⟩)
      refine ⟨_, rfl, _, rfl, p, _, rfl, .inl (SqL.of (e1 _ _ hp)), ?_⟩
      rw [hl]
      walk_at "rd"
      refine itd (fun h2 => ?_) (fun h => ⟨_, rfl, e1⟩)
      obtain ⟨o1, o2⟩ := okb_part ok (i := cut.toNat) (by omega) (by omega)
      refine ⟨_, rfl, _, rfl, _, rfl, p, _, rfl, SqL.of (e1 _ _ hp), fun L1 hL1 => ?_⟩
      rw [cut_hi c0 (by rw [hl]; omega)]
      have e2 := Same.upd (o := .lst ((bs.map V.int).take cut.toNat)) hL1
      refine ⟨L1, bs.take cut.toNat, rfl, by rw [upd_same, List.map_take], o1, fun x H2 hx hX e3 => ?_⟩
      have e13 := (e1.trans e2).trans e3
      refine ⟨_, rfl, _, rfl, _, rfl, p, _, rfl, SqL.of (e13 _ _ hp), fun L2 hL2 => ?_⟩
      rw [cut_lo c0 (by rw [hl]; omega)]
      have e4 := Same.upd (o := .lst ((bs.map V.int).drop cut.toNat)) hL2
      refine ⟨L2, bs.drop cut.toNat, rfl, by rw [upd_same, List.map_drop], o2, fun y H3 hy hY e5 => ?_⟩
      have hX5 := (hX.same e4).same e5
      obtain ⟨dx, t, i1, i2⟩ := id hX5
      obtain ⟨dy, t', j1, j2⟩ := id hY
      refine ⟨x, y, dx, dy, _, _, rfl, rfl, i1, j1, x, y, _, _, rfl, hX5, hY, o1, o2, by rw [List.length_take, List.length_drop]; omega, fun z H4 _ hZ e6 => ?_⟩
      rw [List.take_append_drop] at hZ
      have e16 := ((e13.trans e4).trans e5).trans e6
      refine ⟨_, rfl, _, rfl, z, p, bs, rfl, hZ, e16 _ _ hp, l2, fun H5 e7 => ?_⟩
      refine ⟨_, rfl, iteF ?_⟩
      have e17 := e16.trans e7
      have hR7 := hR.same e17
      have hZ7 := hZ.same e7
      obtain ⟨dz, u, u1, u2⟩ := id hR7
      obtain ⟨dw, v, v1, v2⟩ := id hZ7
      refine ⟨_, rfl, _, rfl, r, z, dz, dw, _, _, rfl, rfl, u1, v1, r, z, bs, bs, rfl, hR7, hZ7, ?_⟩
      rw [decide_eq_true rfl]
      refine ⟨_, rfl, iteF ?_⟩
      exact ⟨_, rfl, e17⟩
    rintro σ H2 ⟨u, rfl, e2⟩
    refine ⟨_, rfl, _, rfl, r, p, bs, rfl, hR.same e2, e2 _ _ hp, l2, fun H3 e3 => ?_⟩
    refine ⟨_, rfl, iteT ?_⟩
    replace e3 := e2.trans e3
    refine ⟨_, rfl, _, rfl, m, q, cs, rfl, hM.same e3, e3 _ _ hq, l2', fun H4 e4 => ?_⟩
    exact k _ (e3.trans e4)
end
end Cl

/-! ### law k00: a case, the law -/
namespace Cl
open StX ClX
theorem ok30 {bs : List Int} {n : Int} (h : (bs.length : Int) = n) (h1 : 1 ≤ n) (h2 : n ≤ 12) (hb : ∀ b, b ∈ bs → 0 ≤ b ∧ b ≤ 1000000000000000000000000000000) : Okb bs := ⟨by omega, by omega, fun b hx => by have := hb b hx; omega⟩
section
variable {P : Program} {w : World} {K : PySem.W.Frag} {mg : Str → Option Value} {base : Heap} {C : Addr}
def spCase : Sp := fun vs H Q _ => ∃ (a : Addr), vs = [.ref a] ∧ BagAt H a ∧ ∀ (H' : Hp), But a H H' → Q (.bl true) H'
theorem scLawCase : FnScope ["bag", "size", "row", "other", "made", "mate", "told", "kept", "single", "lone"] ["bag"] (defScope sLawCase) := ⟨rfl, rfl, rfl, by decide +kernel, rfl, by decide +kernel, by decide +kernel⟩
theorem ok_case {f : Addr} {fd : FuncData} (F : Fun K "_law_case" "_law_case" sLawCase f fd) (B : Bi mg) (R_Round : ClsC K mg "Round" C) (MK_Round : Cn P w K mg base C 3 (spInit C)) (D__law_take : Dn P w K mg base "_law_take" 1 ["bag", "size"] spTake) (D__law_number : Dn P w K mg base "_law_number" 2 ["bag", "most"] spNumber)
    (D__law_row : Dn P w K mg base "_law_row" 3 ["bag", "size"] spRow) (D__law_round : Dn P w K mg base "_law_round" 5 ["row"] (spRoundN C)) (D__law_has : Dn P w K mg base "_law_has" 3 ["made", "row"] (spHas C)) (D__law_answers : Dn P w K mg base "_law_answers" 4 ["made", "row", "bag"] (spAns C))
    (D__law_shifts : Dn P w K mg base "_law_shifts" 6 ["made", "row", "bag"] (spShf C)) (D__law_added : Dn P w K mg base "_law_added" 6 ["made", "row", "mate", "other", "cut"] (spAdd C)) (D__law_equal : Dn P w K mg base "_law_equal" 6 ["made", "row", "other", "spot"] (spEqu C))
    (P_Round_budgets : Pn P w K mg base C "budgets" 1 (spBudgets C)) (S_Round_constant : Sn P w K mg base C "constant" 5 ["budget"] (spConst C)) (O_Round___eq__ : On P w K mg base C "__eq__" 1 ["self", "other"] (spEqR C)) : FnOk P w K mg base CX0 7 f fd ["bag"] spCase := by
  refine F.ok scLawCase (fun vs H Q E h => ?_) (fun cdv A outer s H vs Q E hr h => ?_)
  · obtain ⟨l, rfl, _⟩ := h
    rfl
  · obtain ⟨a, rfl, hB, k⟩ := h
    have p30 : (10 : Int) ^ (30 : Int).toNat = 1000000000000000000000000000000 := by decide
    refine ⟨_, pss_g fun g => (have hr := room_wg (g := g) hr; (pss_cons (ps_set (i := 1) scLawCase.nd rfl (Or.inl rfl) (pe_op op_add pe_int (pe_dn D__law_take (hr.mono (by decide)) (by rfl) pass0 (pa_cons (pv 0) (pa_cons pe_int pa_nil)))))
  (pss_cons (ps_set (i := 2) scLawCase.nd rfl (Or.inl rfl) (pe_dn D__law_row (hr.mono (by decide)) (by rfl) pass0 (pa_cons (pv 0) (pa_cons (pv 1) pa_nil))))
  (pss_cons (ps_set (i := 3) scLawCase.nd rfl (Or.inl rfl) (pe_dn D__law_row (hr.mono (by decide)) (by rfl) pass0 (pa_cons (pv 0) (pa_cons (pe_op op_add pe_int (pe_dn D__law_take (hr.mono (by decide)) (by rfl) pass0 (pa_cons (pv 0) (pa_cons (pe_callB (call_max2 rfl) (by rfl) B.max (by decide +kernel) (pa_cons pe_int (pa_cons (pe_op op_sub pe_int (pv 1)) pa_nil))) pa_nil)))) pa_nil))))
  (C8.pss_cut (ps_if (pt_cmpR op_eq (pe_dn D__law_take (hr.mono (by decide)) (by rfl) pass0 (pa_cons (pv 0) (pa_cons pe_int pa_nil))) pe_int (nomark _)) (pss_one (ps_set (i := 3) scLawCase.nd rfl (Or.inl rfl) (pe_dn D__law_row (hr.mono (by decide)) (by rfl) pass0 (pa_cons (pv 0) (pa_cons (pe_op op_add pe_int (pe_dn D__law_take (hr.mono (by decide)) (by rfl) pass0 (pa_cons (pv 0) (pa_cons pe_int pa_nil)))) pa_nil)))))
  pss_nil)
  (pss_cons (ps_set (i := 4) scLawCase.nd rfl (Or.inl rfl) (pe_dn D__law_round (hr.mono (by decide)) (by rfl) pass0 (pa_cons (pe_callTy call_list_of (by rfl) B.listT (by decide +kernel) (pa_cons (pv 2) pa_nil)) pa_nil)))
  (pss_cons (ps_set (i := 5) scLawCase.nd rfl (Or.inl rfl) (pe_dn D__law_round (hr.mono (by decide)) (by rfl) pass0 (pa_cons (pe_callTy call_list_of (by rfl) B.listT (by decide +kernel) (pa_cons (pv 3) pa_nil)) pa_nil)))
  (pss_cons (ps_if (PW.pt (pw_or (pt_not (pt_val (pe_dn D__law_has (hr.mono (by decide)) (by rfl) pass0 (pa_cons (pv 4) (pa_cons (pv 2) pa_nil))))) (pw_or (pt_not (pt_val (pe_dn D__law_answers (hr.mono (by decide)) (by rfl) pass0 (pa_cons (pv 4) (pa_cons (pv 2) (pa_cons (pv 0) pa_nil)))))) (pw_or1 (pt_not (pt_val (pe_dn D__law_answers (hr.mono (by decide)) (by rfl) pass0 (pa_cons (pv 5) (pa_cons (pv 3) (pa_cons (pv 0) pa_nil)))))))))) (pss_one (ps_ret pe_bl))
  pss_nil)
  (pss_cons (ps_set (i := 6) scLawCase.nd rfl (Or.inl rfl) (pe_pn P_Round_budgets R_Round.cl (hr.mono (by decide)) (pv 4)))
  (pss_cons (ps_asg (pe_op op_add (pe_ix ix_list (pv 6) pe_int (fun _ _ => rfl)) pe_int) (pg_sub (pv 6) pe_int set_list))
  (pss_cons (ps_expr (pe_bm PySem.F.plainAttrs_list PySem.F.slot_list_append PySem.F.type_list_append mt_append (pv 6) (pa_cons pe_int pa_nil)))
  (pss_cons (ps_set (i := 7) scLawCase.nd rfl (Or.inl rfl) (pe_callB (cr_repr hr rfl) (by rfl) B.repr (by decide +kernel) (pa_cons (pv 6) pa_nil)))
  (pss_cons (ps_if (PW.pt (pw_or (pt_not (pt_val (pe_dn D__law_has (hr.mono (by decide)) (by rfl) pass0 (pa_cons (pv 4) (pa_cons (pv 2) pa_nil))))) (pw_or (pt_not (pt_val (pe_dn D__law_answers (hr.mono (by decide)) (by rfl) pass0 (pa_cons (pv 4) (pa_cons (pv 2) (pa_cons (pv 0) pa_nil)))))) (pw_or1 (pt_cmpR op_ne (pe_callB (cr_repr hr rfl) (by rfl) B.repr (by decide +kernel) (pa_cons (pv 6) pa_nil)) (pv 7) (nomark _)))))) (pss_one (ps_ret pe_bl))
  pss_nil)
  (pss_cons (ps_if (PW.pt (pw_or (pt_not (pt_val (pe_dn D__law_shifts (hr.mono (by decide)) (by rfl) pass0 (pa_cons (pv 4) (pa_cons (pv 2) (pa_cons (pv 0) pa_nil)))))) (pw_or1 (pt_not (pt_val (pe_dn D__law_shifts (hr.mono (by decide)) (by rfl) pass0 (pa_cons (pv 5) (pa_cons (pv 3) (pa_cons (pv 0) pa_nil))))))))) (pss_one (ps_ret pe_bl))
  pss_nil)
  (pss_cons (ps_if (pt_not (pt_val (pe_dn D__law_added (hr.mono (by decide)) (by rfl) pass0 (pa_cons (pv 4) (pa_cons (pv 2) (pa_cons (pv 5) (pa_cons (pv 3) (pa_cons (pe_dn D__law_take (hr.mono (by decide)) (by rfl) pass0 (pa_cons (pv 0) (pa_cons (pv 1) pa_nil))) pa_nil)))))))) (pss_one (ps_ret pe_bl))
  pss_nil)
  (pss_cons (ps_if (pt_not (pt_val (pe_dn D__law_equal (hr.mono (by decide)) (by rfl) pass0 (pa_cons (pv 4) (pa_cons (pv 2) (pa_cons (pv 3) (pa_cons (pe_dn D__law_take (hr.mono (by decide)) (by rfl) pass0 (pa_cons (pv 0) (pa_cons (pv 1) pa_nil))) pa_nil))))))) (pss_one (ps_ret pe_bl))
  pss_nil)
  (pss_cons (ps_set (i := 8) scLawCase.nd rfl (Or.inl rfl) (pe_dn D__law_number (hr.mono (by decide)) (by rfl) pass0 (pa_cons (pv 0) (pa_cons (pe_op op_pow pe_int pe_int) pa_nil))))
  (pss_cons (ps_set (i := 9) scLawCase.nd rfl (Or.inl rfl) (pe_sn S_Round_constant (hr.mono (by decide)) pass0 (pe_cls R_Round rfl) (pa_cons (pv 8) pa_nil)))
  (pss_cons (ps_if (PW.pt (pw_or (pt_not (pt_val (pe_dn D__law_has (hr.mono (by decide)) (by rfl) pass0 (pa_cons (pv 9) (pa_cons (pe_lst (pa_cons (pv 8) pa_nil)) pa_nil))))) (pw_or (pt_not (pt_cmpR (op_eqN O_Round___eq__ (hr.mono (by decide))) (pv 9) (pe_mkR MK_Round (hr.mono (by decide)) rfl R_Round.mg pass0 (pa_cons (pv 8) pa_nil)) (nomark _))) (pw_or1 (pt_not (pt_val (pe_dn D__law_answers (hr.mono (by decide)) (by rfl) pass0 (pa_cons (pv 9) (pa_cons (pe_lst (pa_cons (pv 8) pa_nil)) (pa_cons (pv 0) pa_nil)))))))))) (pss_one (ps_ret pe_bl))
  pss_nil)
  (pss_one (ps_ret (pe_and (pe_dn D__law_answers (hr.mono (by decide)) (by rfl) pass0 (pa_cons (pv 5) (pa_cons (pv 3) (pa_cons (pv 0) pa_nil)))) (pe_one (pe_dn D__law_answers (hr.mono (by decide)) (by rfl) pass0 (pa_cons (pv 4) (pa_cons (pv 2) (pa_cons (pv 0) pa_nil))))))))))))))))))))))))))), fun g => ?_⟩
    walk_at "rd"
    refine ⟨hB, by decide, by decide, fun n0 H1 n00 n01 hB1 b1 => ?_⟩
    walk_at "rd"
    refine ⟨hB1, by omega, by omega, fun p bs H2 hp2 hp hlb hb hB2 b2 => ?_⟩
    have ok := ok30 hlb (by omega) (by omega) hb
    have pa := bag_ne hB1 hp2
    have hl : (bs.map V.int).length = bs.length := List.length_map ..
    replace b2 := b1.trans b2
    walk_at "rd"
    refine ⟨hB2, by split <;> omega, by split <;> omega, fun n1 H3 n10 n11 hB3 b3 => ?_⟩
    have n12 : n1 < 12 := by
      have : (if 12 - (1 + n0) > 1 then 12 - (1 + n0) else 1) ≤ 12 := by split <;> omega
      omega
    have hp3 := b3 p _ pa hp
    replace b3 := b2.trans b3
    walk_at "rd"
    refine ⟨hB3, by omega, by omega, fun q cs H4 hq4 hq hlc hbc hB4 b4 => ?_⟩
    have hp4 := b4 p _ pa hp3
    replace b4 := b3.trans b4
    have hlb' : (bs.length : Int) = 1 + n0 := hlb
    have qa := bag_ne hB3 hq4
    refine ⟨fun σ H' => ∃ (q : Addr) (cs : List Int), σ = [some (V.ref a), some (V.int (1 + n0)), some (V.ref p), some (V.ref q), none, none, none, none, none, none] ∧ Okb cs ∧ H' p = some (.lst (bs.map V.int)) ∧ H' q = some (.lst (cs.map V.int)) ∧ q ≠ a ∧ BagAt H' a ∧ But a H H', ?_, ?_⟩
    · walk_at "rd"
      refine ⟨hB4, by decide, by decide, fun t5 H5 _ _ hB5 b5 => ?_⟩
      have hp5 := b5 p _ pa hp4
      have hq5 := b5 q _ qa hq
      replace b5 := b4.trans b5
      walk_at "rd"
      refine iti (fun _ => ?_) (fun _ => ?_)
      · walk_at "rd"
        refine ⟨hB5, by decide, by decide, fun t6 H6 t60 t61 hB6 b6 => ?_⟩
        have hp6 := b6 p _ pa hp5
        replace b6 := b5.trans b6
        walk_at "rd"
        refine ⟨hB6, by omega, by omega, fun q' cs' H7 hq7 hq' hlc' hbc' hB7 b7 => ?_⟩
        have hp7 := b7 p _ pa hp6
        exact ⟨q', cs', rfl, ok30 hlc' (by omega) (by omega) hbc', hp7, hq', bag_ne hB6 hq7, hB7, b6.trans b7⟩
      · exact ⟨q, cs, rfl, ok30 hlc (by omega) (by omega) hbc, hp5, hq5, qa, hB5, b5⟩
    clear hp4 hq qa hbc hlc hB4 b4 hp3 hB3 b3 hp hB2 b2
    rintro σ H1 ⟨q, cs, rfl, okc, hp, hq, qa, hB1, b1⟩
    -- the two Rounds
    refine ⟨_, rfl, p, _, rfl, .inl (SqL.of hp), fun L1 hL1 => ?_⟩
    have e1 := Same.upd (o := .lst (bs.map V.int)) hL1
    refine ⟨L1, bs, rfl, upd_same, ok, fun r H2 _ hR e2 => ?_⟩
    have e12 := e1.trans e2
    refine ⟨_, rfl, q, _, rfl, .inl (SqL.of (e12 _ _ hq)), fun L2 hL2 => ?_⟩
    have e3 := Same.upd (o := .lst (cs.map V.int)) hL2
    refine ⟨L2, cs, rfl, upd_same, okc, fun m H3 _ hM e4 => ?_⟩
    have e14 := (e12.trans e3).trans e4
    have hR3 := (hR.same e3).same e4
    have hp3 := e14 _ _ hp
    have hq3 := e14 _ _ hq
    have hB3 := hB1.same e14
    have b3 := b1.trans (But.of e14)
    clear hp hq hB1 b1 e14 hR
    -- what they have and answer
    refine ⟨_, rfl, _, rfl, r, p, bs, rfl, hR3, hp3, ok.l2, fun H4 e4 => ?_⟩
    refine ⟨_, rfl, iteF ?_⟩
    have hB4 := hB3.same e4
    refine ⟨_, rfl, _, rfl, _, rfl, r, p, a, bs, rfl, hR3.same e4, e4 _ _ hp3, ok, hB4, pa, fun H5 hB5 b5 => ?_⟩
    refine ⟨_, rfl, iteF ?_⟩
    have hR5 := (hR3.same e4).but b5 hB4
    have hM5 := (hM.same e4).but b5 hB4
    have hp5 := b5 p _ pa (e4 _ _ hp3)
    have hq5 := b5 q _ qa (e4 _ _ hq3)
    replace b5 := (b3.trans (But.of e4)).trans b5
    refine ⟨_, rfl, _, rfl, _, rfl, m, q, a, cs, rfl, hM5, hq5, okc, hB5, qa, fun H6 hB6 b6 => ?_⟩
    refine ⟨_, rfl, iteF ?_⟩
    have hR6 := hR5.but b6 hB5
    have hM6 := hM5.but b6 hB5
    have hp6 := b6 p _ pa hp5
    have hq6 := b6 q _ qa hq5
    replace b6 := b5.trans b6
    clear hR5 hM5 hp5 hq5 b5 hB5 hB4 hR3 hM hp3 hq3 hB3 b3
    -- a list of its own, changed
    obtain ⟨dx, t, i1, i2⟩ := id hR6
    refine ⟨_, rfl, r, dx, _, rfl, i1, r, bs, rfl, hR6, fun T hT => ?_⟩
    have Ta := bag_ne hB6 hT
    obtain ⟨b0, br, rfl⟩ : ∃ b0 br, bs = b0 :: br := by
      cases bs with
      | nil => exact absurd ok.l1 (by simp)
      | cons b0 br => exact ⟨b0, br, rfl⟩
    refine ⟨_, rfl, T, _, _, _, rfl, rfl, SqL.of upd_same, at_of (j := 0) rfl rfl, _, _, rfl, rfl, ?_⟩
    refine ⟨_, rfl, T, _, _, 0, rfl, rfl, upd_same, (by unfold ixN; rw [if_pos (by decide), if_pos (by rw [List.length_map, List.length_cons]; omega)]; rfl), ?_⟩
    have l2 := ok.l2
    have sz : (10000 : Nat) ≤ sizeLine := by decide
    refine ⟨_, rfl, .inl ⟨rfl, _, SqL.of upd_same⟩, ?_⟩
    refine ⟨T, _, _, rfl, rfl, upd_same, (by rw [List.length_set, List.length_map]; omega), ?_⟩
    have e7 : Same H6 (upd (upd (upd H6 T (.lst ((b0 :: br).map V.int))) T (.lst (((b0 :: br).map V.int).set 0 (V.int (b0 + 1))))) T (.lst (((b0 :: br).map V.int).set 0 (V.int (b0 + 1)) ++ [V.int 7]))) := fun b o e => by
      rw [upd_ne (ne_of_none e hT), upd_ne (ne_of_none e hT), upd_ne (ne_of_none e hT)]; exact e
    have hT7 : upd (upd (upd H6 T (.lst ((b0 :: br).map V.int))) T (.lst (((b0 :: br).map V.int).set 0 (V.int (b0 + 1))))) T (.lst (((b0 :: br).map V.int).set 0 (V.int (b0 + 1)) ++ [V.int 7])) T = some (.lst (((b0 + 1) :: (br ++ [7])).map V.int)) := by
      rw [upd_same, List.map_cons, List.map_cons, List.map_append]; rfl
    generalize upd (upd (upd H6 T (.lst ((b0 :: br).map V.int))) T (.lst (((b0 :: br).map V.int).set 0 (V.int (b0 + 1))))) T (.lst (((b0 :: br).map V.int).set 0 (V.int (b0 + 1)) ++ [V.int 7])) = H7 at e7 hT7 ⊢
    have hlog : ∀ i, i ∈ (b0 + 1) :: (br ++ [7]) → i.natAbs.log2 < 1920 := fun i hi => by
      have hi2 : 0 ≤ i ∧ i ≤ 1000000000000000000000000000000 + 1 := by
        rcases List.mem_cons.mp hi with rfl | hi
        · have := hb b0 List.mem_cons_self
          omega
        · rcases List.mem_append.mp hi with hi | hi
          · have := hb i (List.mem_cons_of_mem _ hi)
            omega
          · simp at hi
            omega
      exact strB (by omega) (by omega)
    have hlen : ((b0 + 1) :: (br ++ [7])).length ≤ 1000 := by
      rw [List.length_cons] at l2
      rw [List.length_cons, List.length_append]
      show br.length + 1 + 1 ≤ 1000
      omega
    have hne : (b0 + 1) :: (br ++ [7]) ≠ [] := by simp
    generalize (b0 + 1) :: (br ++ [7]) = ns at hT7 hlog hlen hne
    have hR7 := hR6.same e7
    have hM7 := hM6.same e7
    have hp7 := e7 _ _ hp6
    have hq7 := e7 _ _ hq6
    have hB7 := hB6.same e7
    have b7 := b6.trans (But.of e7)
    clear hR6 hM6 hp6 hq6 hB6 b6 i1 i2 e7 hT
    generalize b0 :: br = bs at *
    refine ⟨_, rfl, T, ns, rfl, hT7, hne, hlen, hlog, ?_⟩
    refine ⟨_, rfl, _, rfl, r, p, bs, rfl, hR7, hp7, ok.l2, fun H8 e8 => ?_⟩
    refine ⟨_, rfl, iteF ?_⟩
    have hB8 := hB7.same e8
    refine ⟨_, rfl, _, rfl, _, rfl, r, p, a, bs, rfl, hR7.same e8, e8 _ _ hp7, ok, hB8, pa, fun H9 hB9 b9 => ?_⟩
    refine ⟨_, rfl, iteF ?_⟩
    have hR9 := (hR7.same e8).but b9 hB8
    have hM9 := (hM7.same e8).but b9 hB8
    have hp9 := b9 p _ pa (e8 _ _ hp7)
    have hq9 := b9 q _ qa (e8 _ _ hq7)
    have hT9 := b9 T _ Ta (e8 _ _ hT7)
    replace b9 := (b7.trans (But.of e8)).trans b9
    refine ⟨_, rfl, T, ns, rfl, hT9, hne, hlen, hlog, ?_⟩
    walk_at "rd"
    rw [decide_eq_true rfl]
    refine iteF ?_
    clear hT9 hT7 hR7 hM7 hp7 hq7 hB7 b7 hB8
    -- shifts
    refine ⟨_, rfl, _, rfl, _, rfl, r, p, a, bs, rfl, hR9, hp9, ok, hB9, pa, fun HA hBA bA => ?_⟩
    refine ⟨_, rfl, iteF ?_⟩
    have hRA := hR9.but bA hB9
    have hMA := hM9.but bA hB9
    have hpA := bA p _ pa hp9
    have hqA := bA q _ qa hq9
    replace bA := b9.trans bA
    refine ⟨_, rfl, _, rfl, _, rfl, m, q, a, cs, rfl, hMA, hqA, okc, hBA, qa, fun HB hBB bB => ?_⟩
    refine ⟨_, rfl, iteF ?_⟩
    have hRB := hRA.but bB hBA
    have hMB := hMA.but bB hBA
    have hpB := bB p _ pa hpA
    have hqB := bB q _ qa hqA
    replace bB := bA.trans bB
    clear hRA hMA hpA hqA bA hBA hR9 hM9 hp9 hq9 b9 hB9
    -- sums
    refine ⟨_, rfl, _, rfl, _, rfl, _, rfl, _, rfl, _, rfl, a, _, rfl, hBB, by omega, by omega, fun d HC d0 d1 hBC bC => ?_⟩
    have hRC := hRB.but bC hBB
    have hMC := hMB.but bC hBB
    have hpC := bC p _ pa hpB
    have hqC := bC q _ qa hqB
    replace bC := bB.trans bC
    refine ⟨r, p, m, q, bs, cs, d, rfl, hRC, hpC, hMC, hqC, ok, okc, d0, fun HD eD => ?_⟩
    refine ⟨_, rfl, iteF ?_⟩
    have hBD := hBC.same eD
    -- equality
    refine ⟨_, rfl, _, rfl, _, rfl, _, rfl, _, rfl, a, _, rfl, hBD, by omega, by omega, fun d2 HE d20 d21 hBE bE => ?_⟩
    have hRE := (hRC.same eD).but bE hBD
    have hME := (hMC.same eD).but bE hBD
    have hpE := bE p _ pa (eD _ _ hpC)
    have hqE := bE q _ qa (eD _ _ hqC)
    replace bE := (bC.trans (But.of eD)).trans bE
    refine ⟨r, p, q, bs, cs, d2, rfl, hRE, hpE, hqE, ok, fun b h => (hb b h).2, okc, d20, by omega, fun HF eF => ?_⟩
    refine ⟨_, rfl, iteF ?_⟩
    have hBF := hBE.same eF
    clear hRB hMB hpB hqB bB hBB hRC hMC hpC hqC bC hBC hBD
    -- one budget
    walk_at "rd"
    refine ⟨hBF, by decide, by decide, fun sg HG s0 s1 hBG bG => ?_⟩
    rw [p30] at s1
    have hRG := (hRE.same eF).but bG hBF
    have hMG := (hME.same eF).but bG hBF
    have hpG := bG p _ pa (eF _ _ hpE)
    have hqG := bG q _ qa (eF _ _ hqE)
    replace bG := (bE.trans (But.of eF)).trans bG
    walk_at "rd"
    refine ⟨s0, by omega, fun x HH hx hX eH => ?_⟩
    have ok1' : Okb [sg] := ok1 s0 (by omega)
    have hBH := hBG.same eH
    refine ⟨_, rfl, _, rfl, (by show 1 ≤ sizeLine; decide), fun L hL => ?_⟩
    have eL := Same.upd (o := .lst [V.int sg]) hL
    refine ⟨x, L, [sg], rfl, hX.same eL, upd_same, by simp, fun HI eI => ?_⟩
    refine ⟨_, rfl, iteF ?_⟩
    have hXI := (hX.same eL).same eI
    have eHI := (eH.trans eL).trans eI
    refine ⟨_, rfl, _, rfl, ?_⟩
    intro y dy hy hdy nd
    refine ⟨y, dy, [sg], rfl, upd_same, ok1', fun t2 HJ ht j1 j2 j3 => ⟨rfl, ?_⟩⟩
    have eJ : Same HI HJ := fun b o e => j3 b o (ne_of_none e hy) (by rw [upd_ne (ne_of_none e hy), upd_ne (ne_of_none e hdy)]; exact e)
    have hXJ := hXI.same eJ
    obtain ⟨dw, v, v1, v2⟩ := id hXJ
    refine ⟨x, y, dw, dy, _, _, rfl, rfl, v1, j1, x, y, [sg], [sg], rfl, hXJ, ⟨dy, t2, j1, j2⟩, ?_⟩
    rw [decide_eq_true rfl]
    refine ⟨_, rfl, iteF ?_⟩
    have eHJ := eHI.trans eJ
    have hBJ := hBG.same eHJ
    refine ⟨_, rfl, _, rfl, (by show 1 ≤ sizeLine; decide), fun L2 hL2 => ?_⟩
    have L2a := bag_ne hBJ hL2
    have eK := Same.upd (o := .lst [V.int sg]) hL2
    refine ⟨_, rfl, x, L2, a, [sg], rfl, hXJ.same eK, upd_same, ok1', hBJ.same eK, L2a, fun HK hBK bK => ?_⟩
    refine ⟨_, rfl, iteF ?_⟩
    have eGK := eHJ.trans eK
    have hBg := hBG.same eGK
    have hRK := (hRG.same eGK).but bK hBg
    have hMK := (hMG.same eGK).but bK hBg
    have hpK := bK p _ pa (eGK _ _ hpG)
    have hqK := bK q _ qa (eGK _ _ hqG)
    replace bK := (bG.trans (But.of eGK)).trans bK
    refine ⟨_, rfl, _, rfl, _, rfl, m, q, a, cs, rfl, hMK, hqK, okc, hBK, qa, fun HL hBL bL => ?_⟩
    refine ⟨_, rfl, iteT ?_⟩
    refine ⟨_, rfl, _, rfl, _, rfl, r, p, a, bs, rfl, hRK.but bL hBK, bL p _ pa hpK, ok, hBL, pa, fun HM hBM bM => ?_⟩
    exact k _ ((bK.trans bL).trans bM)
def spLaw (K : PySem.W.Frag) : Sp := fun vs H Q _ => ∃ (a : Addr) (ns : List Int), vs = [.ref a] ∧ SqL K H a (ns.map V.int) ∧ ns.length ≤ 63 ∧ ∀ H', Q (.bl true) H'
theorem scLaw : FnScope ["script", "k"] ["script"] (defScope sLaw) := ⟨rfl, rfl, rfl, by decide +kernel, rfl, by decide +kernel, by decide +kernel⟩
theorem ok_law {f : Addr} {fd : FuncData} (F : Fun K "law" "law" sLaw f fd) (B : Bi mg) (R_Round : ClsC K mg "Round" C) (V_Round : CV K C "MOST" (.int 12)) (D__law_is_number : Dn P w K mg base "_law_is_number" 1 ["told"] spIsWhole)
    (D__law_case : Dn P w K mg base "_law_case" 7 ["bag"] spCase) (D__law_bag : Dn P w K mg base "_law_bag" 1 ["script", "k"] (spBag K)) : FnOk P w K mg base CX0 8 f fd ["script"] (spLaw K) := by
  refine F.ok scLaw (fun vs H Q E h => ?_) (fun cdv A outer s H vs Q E hr h => ?_)
  · obtain ⟨a, ns, rfl, _⟩ := h
    rfl
  · obtain ⟨a, ns, rfl, hS, hl, k⟩ := h
    obtain ⟨mc, u, hrd, hcv⟩ := V_Round.ex
    refine ⟨_, (pss_cons (ps_if (PW.pt (pw_or (pt_not (pt_val (pe_dn D__law_is_number (hr.mono (by decide)) (by rfl) pass0 (pa_cons (pe_cval (pe_cls R_Round rfl)) pa_nil)))) (pw_or1 (pt_cmpR op_ne (pe_cval (pe_cls R_Round rfl)) pe_int (nomark _))))) (pss_one (ps_ret pe_bl))
  pss_nil)
  (pss_cons (ps_for PassesOwn.never rfl (pi_range1 rfl B.range (pa_cons (pe_callB (call_max2 rfl) (by rfl) B.max (by decide +kernel) (pa_cons pe_int (pa_cons (pe_callB (call_min2 rfl) (by rfl) B.min (by decide +kernel) (pa_cons pe_int (pa_cons (pe_callB call_len_seq (by rfl) B.len PySem.boot_len (pa_cons (pv 0) pa_nil)) pa_nil))) pa_nil))) pa_nil)) (pg_name (i := 1) scLaw.nd rfl (Or.inl rfl))
  (pss_one (ps_if (pt_not (pt_val (pe_dn D__law_case (hr.mono (by decide)) (by rfl) pass0 (pa_cons (pe_dn D__law_bag (hr.mono (by decide)) (by rfl) pass0 (pa_cons (pv 0) (pa_cons (pv 1) pa_nil))) pa_nil)))) (pss_one (ps_ret pe_bl))
  pss_nil)))
  (pss_one (ps_ret pe_bl)))), ?_⟩
    refine ⟨C, mc, _, u, rfl, hrd, hcv, ?_⟩
    walk_at "rd"
    refine iteF ?_
    refine ⟨C, mc, _, u, rfl, hrd, hcv, ?_⟩
    walk_at "rd"
    refine ⟨a, _, rfl, .inl hS, ?_⟩
    walk_at "rd"
    have hn : (ns.map V.int).length ≤ 63 := by rw [List.length_map]; exact hl
    refine ⟨by split <;> split <;> omega, by split <;> split <;> omega, ?_⟩
    refine for_range (fun i σ H' => ∃ v : Option V, σ = [some (.ref a), v] ∧ Same H H') ⟨_, rfl, Same.refl _⟩ ?_ ?_
    · rintro i σ H1 hi ⟨v, rfl, e1⟩
      refine ⟨_, rfl, _, rfl, a, ns, i, by rw [Int.zero_add]; rfl, e1.seq hS, fun p H2 hp hB e2 => ?_⟩
      walk_at "rd"
      refine ⟨hB, fun H3 c3 => ?_⟩
      walk_at "rd"
      intro b o e
      refine c3 b o ?_ (e2 b o (e1 b o e))
      intro q
      rw [q] at e
      have := e1 _ _ e
      rw [hp] at this
      cases this
    · rintro σ H1 ⟨v, rfl, e1⟩
      exact k _
end
end Cl

namespace Cl
open StX ClX
set_option maxHeartbeats 0 in
theorem all_mk {l : PySem.W.OpenLaw} {w : World} {K : PySem.W.Frag} {h : Heap} {mg : Str → Option Value} {fa C : Addr} (X : K.In h) (G : h.Ns mainGlobals mg) (hfa : mg "law" = some (.ref fa))
    (c_Round : AtC K "Round" C)
    (n_Round : PySem.W.findIn K (.ref C) "_budgets" = some none)
    (v_Round : ∃ mc u, CRead K C mc ∧ CVal K C mc "MOST" (.int 12) u)
    (t_is_whole : AtTop K "is_whole" "is_whole" sIsWhole [])
    (t_check_least : AtTop K "check_least" "check_least" sCheckLeast [])
    (t__law_is_number : AtTop K "_law_is_number" "_law_is_number" sLawIsNumber [])
    (t__law_take : AtTop K "_law_take" "_law_take" sLawTake [])
    (t__law_bag : AtTop K "_law_bag" "_law_bag" sLawBag [])
    (t__law_number : AtTop K "_law_number" "_law_number" sLawNumber [])
    (t_Round___init__ : AtCls K C "__init__" "Round.__init__" sRoundInit)
    (t_Round_constant : AtStat K C "constant" "Round.constant" sRoundConstant)
    (t_Round_budgets : AtProp K C "budgets" "Round.budgets" sRoundBudgets)
    (t_Round___len__ : AtCls K C "__len__" "Round.__len__" sRoundLen)
    (t_Round___eq__ : AtCls K C "__eq__" "Round.__eq__" sRoundEq)
    (t_Round___add__ : AtCls K C "__add__" "Round.__add__" sRoundAdd)
    (t_Round_at : AtCls K C "at" "Round.at" sRoundAt)
    (t_Round_shifted : AtCls K C "shifted" "Round.shifted" sRoundShifted)
    (t_Round_total : AtCls K C "total" "Round.total" sRoundTotal)
    (t__law_row : AtTop K "_law_row" "_law_row" sLawRow [])
    (t__law_sum : AtTop K "_law_sum" "_law_sum" sLawSum [])
    (t__law_moved : AtTop K "_law_moved" "_law_moved" sLawMoved [])
    (t__law_count : AtTop K "_law_count" "_law_count" sLawCount [])
    (t__law_round : AtTop K "_law_round" "_law_round" sLawRound [])
    (t__law_has : AtTop K "_law_has" "_law_has" sLawHas [])
    (t__law_answers : AtTop K "_law_answers" "_law_answers" sLawAnswers [])
    (t__law_shifts : AtTop K "_law_shifts" "_law_shifts" sLawShifts [])
    (t__law_near : AtTop K "_law_near" "_law_near" sLawNear [])
    (t__law_equal : AtTop K "_law_equal" "_law_equal" sLawEqual [])
    (t__law_added : AtTop K "_law_added" "_law_added" sLawAdded [])
    (t__law_case : AtTop K "_law_case" "_law_case" sLawCase [])
    (t_law : AtTop K "law" "law" sLaw [])
    (z_len : PySem.W.nsIn K mainGlobals "len" = some none)
    (z_abs : PySem.W.nsIn K mainGlobals "abs" = some none)
    (z_max : PySem.W.nsIn K mainGlobals "max" = some none)
    (z_min : PySem.W.nsIn K mainGlobals "min" = some none)
    (z_sum : PySem.W.nsIn K mainGlobals "sum" = some none)
    (z_all : PySem.W.nsIn K mainGlobals "all" = some none)
    (z_any : PySem.W.nsIn K mainGlobals "any" = some none)
    (z_range : PySem.W.nsIn K mainGlobals "range" = some none)
    (z_isinstance : PySem.W.nsIn K mainGlobals "isinstance" = some none)
    (z_intT : PySem.W.nsIn K mainGlobals "int" = some none)
    (z_strT : PySem.W.nsIn K mainGlobals "str" = some none)
    (z_boolT : PySem.W.nsIn K mainGlobals "bool" = some none)
    (z_listT : PySem.W.nsIn K mainGlobals "list" = some none)
    (z_divmod : PySem.W.nsIn K mainGlobals "divmod" = some none)
    (z_tupleT : PySem.W.nsIn K mainGlobals "tuple" = some none)
    (z_reversed : PySem.W.nsIn K mainGlobals "reversed" = some none)
    (z_repr : PySem.W.nsIn K mainGlobals "repr" = some none)
    : ∃ fd : FuncData, (∀ (s : Shared) (v : Value), BindsTo s fd ⟨[v], []⟩ [("script", v)]) ∧ ∀ base : Heap, K.In base → base.Ns mainGlobals mg → FnOk l.prog w K mg base CX0 8 fa fd ["script"] (spLaw K) := by
  obtain ⟨f, fd, a, F, FD⟩ := t_law.ex
  have e := hfa.symm.trans (PySem.W.mg_of X G a)
  cases e
  have B : Bi mg := ⟨PySem.W.mg_none_of X G z_len, PySem.W.mg_none_of X G z_abs, PySem.W.mg_none_of X G z_max, PySem.W.mg_none_of X G z_min, PySem.W.mg_none_of X G z_sum, PySem.W.mg_none_of X G z_all, PySem.W.mg_none_of X G z_any, PySem.W.mg_none_of X G z_range, PySem.W.mg_none_of X G z_isinstance, PySem.W.mg_none_of X G z_intT, PySem.W.mg_none_of X G z_strT, PySem.W.mg_none_of X G z_boolT, PySem.W.mg_none_of X G z_listT, PySem.W.mg_none_of X G z_divmod, PySem.W.mg_none_of X G z_tupleT, PySem.W.mg_none_of X G z_reversed, PySem.W.mg_none_of X G z_repr⟩
  refine ⟨fd, fun s v => FD.bindsA (ps := ["script"]) (fun _ _ _ _ _ _ us hl => match us, hl with | [_], _ => rfl) s [v] rfl, fun base _ _ => ?_⟩
  have R_Round : ClsC K mg "Round" C := c_Round.cc X G
  have N_Round : NoAttr K C "_budgets" := n_Round
  have V_Round : CV K C "MOST" (.int 12) := ⟨v_Round⟩
  have D_is_whole : Dn l.prog w K mg base "is_whole" 1 ["value"] spIsWhole := t_is_whole.dn X G (fun _ _ _ _ _ _ us hl => match us, hl with | [_], _ => rfl) (fun f fd F => ok_is_whole F B)
  have D_check_least : Dn l.prog w K mg base "check_least" 2 ["value", "least", "field"] spCheckLeast := t_check_least.dn X G (fun _ _ _ _ _ _ us hl => match us, hl with | [_, _, _], _ => rfl) (fun f fd F => ok_check_least F D_is_whole)
  have D__law_is_number : Dn l.prog w K mg base "_law_is_number" 1 ["told"] spIsWhole := t__law_is_number.dn X G (fun _ _ _ _ _ _ us hl => match us, hl with | [_], _ => rfl) (fun f fd F => ok_is_number F B)
  have D__law_take : Dn l.prog w K mg base "_law_take" 1 ["bag", "size"] spTake := t__law_take.dn X G (fun _ _ _ _ _ _ us hl => match us, hl with | [_, _], _ => rfl) (fun f fd F => ok_take F B)
  have D__law_bag : Dn l.prog w K mg base "_law_bag" 1 ["script", "k"] (spBag K) := t__law_bag.dn X G (fun _ _ _ _ _ _ us hl => match us, hl with | [_, _], _ => rfl) (fun f fd F => ok_bag F B)
  have D__law_number : Dn l.prog w K mg base "_law_number" 2 ["bag", "most"] spNumber := t__law_number.dn X G (fun _ _ _ _ _ _ us hl => match us, hl with | [_, _], _ => rfl) (fun f fd F => ok_number F B D__law_take)
  have MK_Round : Cn l.prog w K mg base C 3 (spInit C) := t_Round___init__.cn c_Round (fun f fd F => ok_Round_init F B R_Round N_Round V_Round D_check_least)
  have S_Round_constant : Sn l.prog w K mg base C "constant" 5 ["budget"] (spConst C) := t_Round_constant.sn (fun _ _ _ _ _ _ us hl => match us, hl with | [_], _ => rfl) (fun f fd F => ok_Round_constant F R_Round MK_Round)
  have P_Round_budgets : Pn l.prog w K mg base C "budgets" 1 (spBudgets C) := t_Round_budgets.pn (fun _ _ _ _ _ _ us hl => match us, hl with | [_], _ => rfl) (fun f fd F => ok_Round_budgets F B R_Round N_Round)
  have O_Round___len__ : On l.prog w K mg base C "__len__" 1 ["self"] (spLen C) := t_Round___len__.on (fun _ _ _ _ _ _ us hl => match us, hl with | [_], _ => rfl) (fun f fd F => ok_Round_len F B R_Round N_Round)
  have O_Round___eq__ : On l.prog w K mg base C "__eq__" 1 ["self", "other"] (spEqR C) := t_Round___eq__.on (fun _ _ _ _ _ _ us hl => match us, hl with | [_, _], _ => rfl) (fun f fd F => ok_Round_eq F B R_Round N_Round)
  have O_Round___add__ : On l.prog w K mg base C "__add__" 5 ["self", "other"] (spAddR C) := t_Round___add__.on (fun _ _ _ _ _ _ us hl => match us, hl with | [_, _], _ => rfl) (fun f fd F => ok_Round_add F B R_Round N_Round MK_Round)
  have M_Round_at : Mn l.prog w K mg base C "at" 3 ["self", "t"] (spAt C) := t_Round_at.mn (fun _ _ _ _ _ _ us hl => match us, hl with | [_, _], _ => rfl) (fun f fd F => ok_Round_at F B R_Round N_Round D_check_least)
  have M_Round_shifted : Mn l.prog w K mg base C "shifted" 5 ["self", "phase"] (spShifted C) := t_Round_shifted.mn (fun _ _ _ _ _ _ us hl => match us, hl with | [_, _], _ => rfl) (fun f fd F => ok_Round_shifted F B R_Round N_Round MK_Round D_check_least)
  have M_Round_total : Mn l.prog w K mg base C "total" 3 ["self", "start", "count"] (spTotal C) := t_Round_total.mn (fun _ _ _ _ _ _ us hl => match us, hl with | [_, _, _], _ => rfl) (fun f fd F => ok_Round_total F B R_Round N_Round D_check_least)
  have D__law_row : Dn l.prog w K mg base "_law_row" 3 ["bag", "size"] spRow := t__law_row.dn X G (fun _ _ _ _ _ _ us hl => match us, hl with | [_, _], _ => rfl) (fun f fd F => ok_row F B D__law_take D__law_number)
  have D__law_sum : Dn l.prog w K mg base "_law_sum" 1 ["row", "start", "count"] spSum := t__law_sum.dn X G (fun _ _ _ _ _ _ us hl => match us, hl with | [_, _, _], _ => rfl) (fun f fd F => ok_sum F B)
  have D__law_moved : Dn l.prog w K mg base "_law_moved" 1 ["row", "phase"] spMoved := t__law_moved.dn X G (fun _ _ _ _ _ _ us hl => match us, hl with | [_, _], _ => rfl) (fun f fd F => ok_moved F B)
  have D__law_count : Dn l.prog w K mg base "_law_count" 3 ["bag", "size"] spCount := t__law_count.dn X G (fun _ _ _ _ _ _ us hl => match us, hl with | [_, _], _ => rfl) (fun f fd F => ok_count F B D__law_take D__law_number)
  have D__law_round : Dn l.prog w K mg base "_law_round" 5 ["row"] (spRoundN C) := t__law_round.dn X G (fun _ _ _ _ _ _ us hl => match us, hl with | [_], _ => rfl) (fun f fd F => ok_round F B R_Round MK_Round)
  have D__law_has : Dn l.prog w K mg base "_law_has" 3 ["made", "row"] (spHas C) := t__law_has.dn X G (fun _ _ _ _ _ _ us hl => match us, hl with | [_, _], _ => rfl) (fun f fd F => ok_has F B R_Round O_Round___len__ P_Round_budgets D__law_is_number)
  have D__law_answers : Dn l.prog w K mg base "_law_answers" 4 ["made", "row", "bag"] (spAns C) := t__law_answers.dn X G (fun _ _ _ _ _ _ us hl => match us, hl with | [_, _, _], _ => rfl) (fun f fd F => ok_answers F B R_Round D__law_number D__law_count D__law_is_number D__law_sum M_Round_at M_Round_total)
  have D__law_shifts : Dn l.prog w K mg base "_law_shifts" 6 ["made", "row", "bag"] (spShf C) := t__law_shifts.dn X G (fun _ _ _ _ _ _ us hl => match us, hl with | [_, _, _], _ => rfl) (fun f fd F => ok_shifts F B R_Round D__law_number D__law_moved M_Round_shifted D__law_has D__law_answers)
  have D__law_near : Dn l.prog w K mg base "_law_near" 2 ["row", "way", "other", "spot"] spNear := t__law_near.dn X G (fun _ _ _ _ _ _ us hl => match us, hl with | [_, _, _, _], _ => rfl) (fun f fd F => ok_near F B D__law_moved)
  have D__law_equal : Dn l.prog w K mg base "_law_equal" 6 ["made", "row", "other", "spot"] (spEqu C) := t__law_equal.dn X G (fun _ _ _ _ _ _ us hl => match us, hl with | [_, _, _, _], _ => rfl) (fun f fd F => ok_equal F B D__law_near D__law_round O_Round___eq__)
  have D__law_added : Dn l.prog w K mg base "_law_added" 6 ["made", "row", "mate", "other", "cut"] (spAdd C) := t__law_added.dn X G (fun _ _ _ _ _ _ us hl => match us, hl with | [_, _, _, _, _], _ => rfl) (fun f fd F => ok_added F B R_Round D__law_has D__law_round O_Round___add__ O_Round___eq__)
  have D__law_case : Dn l.prog w K mg base "_law_case" 7 ["bag"] spCase := t__law_case.dn X G (fun _ _ _ _ _ _ us hl => match us, hl with | [_], _ => rfl) (fun f fd F => ok_case F B R_Round MK_Round D__law_take D__law_number D__law_row D__law_round D__law_has D__law_answers D__law_shifts D__law_added D__law_equal P_Round_budgets S_Round_constant O_Round___eq__)
  exact ok_law F B R_Round V_Round D__law_is_number D__law_case D__law_bag
theorem walk {l : PySem.W.OpenLaw} {q : Program} {loose : List Str} {XP : (Str → Option Value) → Heap → Prop} {YP : World → Heap → Prop} {d : DefRec} {K : Params → PySem.W.Frag} (hn : l.most = some 63) (hdf : d.params.defaults = [])
    (hY : ∀ (w : World) (h : Heap), YP w h → (K w.params).In h)
    (F : ∀ (w : World) (mg : Str → Option Value) (fa : Addr) (h : Heap), (K w.params).In h → h.Ns mainGlobals mg → mg d.name = some (.ref fa) →
      ∃ fd : FuncData, (∀ (s : Shared) (u : Value), BindsTo s fd ⟨[u], []⟩ [("script", u)]) ∧ ∀ base : Heap, (K w.params).In base → base.Ns mainGlobals mg → FnOk l.prog w (K w.params) mg base CX0 8 fa fd ["script"] (spLaw (K w.params))) :
    PySem.W.WalkO q loose XP YP l.row.toRowW d [] (fun f vs => PySem.call f vs) :=
  L2.walk_of (n := 63) (k := 8) (x := "script") (CX := fun _ => CX0) (sp := fun w => spLaw (K w.params)) hn (by decide) hdf ⟨rfl, by decide, by decide⟩ hY F (fun _ _ a ns hl _ hS => ⟨a, ns, rfl, hS, hl, fun _ => rfl⟩) fun _ _ _ _ _ z => z
end Cl
open PySem PySem.W PyProof.Rows
set_option maxRecDepth 100000 in
set_option maxHeartbeats 0 in
theorem PySem.Challenge.cw_carrylog_k00_round_sums_holds : PySem.Challenge.rw_carrylog_k00_round_sums.Holds := by
  w_on; o_law; k_head; (case hw => w_witness2)
  k_fill
  refine Cl.walk (l := PySem.Challenge.rw_carrylog_k00_round_sums) rfl rfl (fun w h Y => PySem.W.kIn_of Y) ?F
  case F =>
    intro w mg fa h KX G hmg
    refine' Cl.all_mk KX G hmg ?c_Round ?n_Round ?v_Round ?t_is_whole ?t_check_least ?t__law_is_number ?t__law_take ?t__law_bag ?t__law_number ?t_Round___init__ ?t_Round_constant ?t_Round_budgets ?t_Round___len__ ?t_Round___eq__ ?t_Round___add__ ?t_Round_at ?t_Round_shifted ?t_Round_total ?t__law_row ?t__law_sum ?t__law_moved ?t__law_count ?t__law_round ?t__law_has ?t__law_answers ?t__law_shifts ?t__law_near ?t__law_equal ?t__law_added ?t__law_case ?t_law ?z_len ?z_abs ?z_max ?z_min ?z_sum ?z_all ?z_any ?z_range ?z_isinstance ?z_intT ?z_strT ?z_boolT ?z_listT ?z_divmod ?z_tupleT ?z_reversed ?z_repr
    (case c_Round => (refine' Cl.atC ?u1_a ?u1_pg ?u1_hd ?u1_po ?u1_sa ?u1_ha ?u1_hn ?u1_htk ?u1_hm ?u1_sf ?u1_mk ?u1_kp; (case u1_a => k_is); (case u1_pg => k_is); (case u1_hd => k_is); (case u1_po => k_is); (case u1_sa => k_is); (case u1_ha => k_is); (case u1_hn => k_is); (case u1_htk => k_is); (case u1_hm => k_is); (case u1_sf => k_is); (case u1_mk => k_is); (case u1_kp => k_is)))
    (case n_Round => k_is)
    (case v_Round => (refine' Cl.cvAt ?u2_ty ?u2_rd ?u2_ga ?u2_fc ?u2_r; (case u2_ty => k_is); (case u2_rd => k_is); (case u2_ga => k_is); (case u2_fc => k_is); (case u2_r => first | rfl | exact ⟨_, rfl⟩)))
    (case t_is_whole => (refine' Cl.atTop0 ?u3_xa ?u3_xl ?u3_xc ?u3_xp; (case u3_xa => k_is); (case u3_xl => k_is); (case u3_xc => k_is); (case u3_xp => k_is)))
    (case t_check_least => (refine' Cl.atTop0 ?u4_xa ?u4_xl ?u4_xc ?u4_xp; (case u4_xa => k_is); (case u4_xl => k_is); (case u4_xc => k_is); (case u4_xp => k_is)))
    (case t__law_is_number => (refine' Cl.atTop0 ?u5_xa ?u5_xl ?u5_xc ?u5_xp; (case u5_xa => k_is); (case u5_xl => k_is); (case u5_xc => k_is); (case u5_xp => k_is)))
    (case t__law_take => (refine' Cl.atTop0 ?u6_xa ?u6_xl ?u6_xc ?u6_xp; (case u6_xa => k_is); (case u6_xl => k_is); (case u6_xc => k_is); (case u6_xp => k_is)))
    (case t__law_bag => (refine' Cl.atTop0 ?u7_xa ?u7_xl ?u7_xc ?u7_xp; (case u7_xa => k_is); (case u7_xl => k_is); (case u7_xc => k_is); (case u7_xp => k_is)))
    (case t__law_number => (refine' Cl.atTop0 ?u8_xa ?u8_xl ?u8_xc ?u8_xp; (case u8_xa => k_is); (case u8_xl => k_is); (case u8_xc => k_is); (case u8_xp => k_is)))
    (case t_Round___init__ => (refine' Cl.atCls ?u9_a ?u9_i ?u9_l ?u9_c ?u9_p; (case u9_a => k_is); (case u9_i => k_is); (case u9_l => k_is); (case u9_c => k_is); (case u9_p => k_is)))
    (case t_Round_constant => (refine' Cl.atStat ?u10_ty ?u10_rd ?u10_ga ?u10_fc ?u10_rc ?u10_l ?u10_c ?u10_p; (case u10_ty => k_is); (case u10_rd => k_is); (case u10_ga => k_is); (case u10_fc => k_is); (case u10_rc => k_is); (case u10_l => k_is); (case u10_c => k_is); (case u10_p => k_is)))
    (case t_Round_budgets => (refine' Cl.atProp ?u11_a ?u11_gt ?u11_tk ?u11_rc ?u11_l ?u11_c ?u11_p; (case u11_a => k_is); (case u11_gt => k_is); (case u11_tk => k_is); (case u11_rc => k_is); (case u11_l => k_is); (case u11_c => k_is); (case u11_p => k_is)))
    (case t_Round___len__ => (refine' Cl.atCls ?u12_a ?u12_i ?u12_l ?u12_c ?u12_p; (case u12_a => k_is); (case u12_i => k_is); (case u12_l => k_is); (case u12_c => k_is); (case u12_p => k_is)))
    (case t_Round___eq__ => (refine' Cl.atCls ?u13_a ?u13_i ?u13_l ?u13_c ?u13_p; (case u13_a => k_is); (case u13_i => k_is); (case u13_l => k_is); (case u13_c => k_is); (case u13_p => k_is)))
    (case t_Round___add__ => (refine' Cl.atCls ?u14_a ?u14_i ?u14_l ?u14_c ?u14_p; (case u14_a => k_is); (case u14_i => k_is); (case u14_l => k_is); (case u14_c => k_is); (case u14_p => k_is)))
    (case t_Round_at => (refine' Cl.atCls ?u15_a ?u15_i ?u15_l ?u15_c ?u15_p; (case u15_a => k_is); (case u15_i => k_is); (case u15_l => k_is); (case u15_c => k_is); (case u15_p => k_is)))
    (case t_Round_shifted => (refine' Cl.atCls ?u16_a ?u16_i ?u16_l ?u16_c ?u16_p; (case u16_a => k_is); (case u16_i => k_is); (case u16_l => k_is); (case u16_c => k_is); (case u16_p => k_is)))
    (case t_Round_total => (refine' Cl.atCls ?u17_a ?u17_i ?u17_l ?u17_c ?u17_p; (case u17_a => k_is); (case u17_i => k_is); (case u17_l => k_is); (case u17_c => k_is); (case u17_p => k_is)))
    (case t__law_row => (refine' Cl.atTop0 ?u18_xa ?u18_xl ?u18_xc ?u18_xp; (case u18_xa => k_is); (case u18_xl => k_is); (case u18_xc => k_is); (case u18_xp => k_is)))
    (case t__law_sum => (refine' Cl.atTop0 ?u19_xa ?u19_xl ?u19_xc ?u19_xp; (case u19_xa => k_is); (case u19_xl => k_is); (case u19_xc => k_is); (case u19_xp => k_is)))
    (case t__law_moved => (refine' Cl.atTop0 ?u20_xa ?u20_xl ?u20_xc ?u20_xp; (case u20_xa => k_is); (case u20_xl => k_is); (case u20_xc => k_is); (case u20_xp => k_is)))
    (case t__law_count => (refine' Cl.atTop0 ?u21_xa ?u21_xl ?u21_xc ?u21_xp; (case u21_xa => k_is); (case u21_xl => k_is); (case u21_xc => k_is); (case u21_xp => k_is)))
    (case t__law_round => (refine' Cl.atTop0 ?u22_xa ?u22_xl ?u22_xc ?u22_xp; (case u22_xa => k_is); (case u22_xl => k_is); (case u22_xc => k_is); (case u22_xp => k_is)))
    (case t__law_has => (refine' Cl.atTop0 ?u23_xa ?u23_xl ?u23_xc ?u23_xp; (case u23_xa => k_is); (case u23_xl => k_is); (case u23_xc => k_is); (case u23_xp => k_is)))
    (case t__law_answers => (refine' Cl.atTop0 ?u24_xa ?u24_xl ?u24_xc ?u24_xp; (case u24_xa => k_is); (case u24_xl => k_is); (case u24_xc => k_is); (case u24_xp => k_is)))
    (case t__law_shifts => (refine' Cl.atTop0 ?u25_xa ?u25_xl ?u25_xc ?u25_xp; (case u25_xa => k_is); (case u25_xl => k_is); (case u25_xc => k_is); (case u25_xp => k_is)))
    (case t__law_near => (refine' Cl.atTop0 ?u26_xa ?u26_xl ?u26_xc ?u26_xp; (case u26_xa => k_is); (case u26_xl => k_is); (case u26_xc => k_is); (case u26_xp => k_is)))
    (case t__law_equal => (refine' Cl.atTop0 ?u27_xa ?u27_xl ?u27_xc ?u27_xp; (case u27_xa => k_is); (case u27_xl => k_is); (case u27_xc => k_is); (case u27_xp => k_is)))
    (case t__law_added => (refine' Cl.atTop0 ?u28_xa ?u28_xl ?u28_xc ?u28_xp; (case u28_xa => k_is); (case u28_xl => k_is); (case u28_xc => k_is); (case u28_xp => k_is)))
    (case t__law_case => (refine' Cl.atTop0 ?u29_xa ?u29_xl ?u29_xc ?u29_xp; (case u29_xa => k_is); (case u29_xl => k_is); (case u29_xc => k_is); (case u29_xp => k_is)))
    (case t_law => (refine' Cl.atTop0 ?u30_xa ?u30_xl ?u30_xc ?u30_xp; (case u30_xa => k_is); (case u30_xl => k_is); (case u30_xc => k_is); (case u30_xp => k_is)))
    (case z_len => k_is)
    (case z_abs => k_is)
    (case z_max => k_is)
    (case z_min => k_is)
    (case z_sum => k_is)
    (case z_all => k_is)
    (case z_any => k_is)
    (case z_range => k_is)
    (case z_isinstance => k_is)
    (case z_intT => k_is)
    (case z_strT => k_is)
    (case z_boolT => k_is)
    (case z_listT => k_is)
    (case z_divmod => k_is)
    (case z_tupleT => k_is)
    (case z_reversed => k_is)
    (case z_repr => k_is)
