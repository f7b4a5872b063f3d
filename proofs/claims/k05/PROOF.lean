import PyProof.Rows.All
import Wide.All
import OpenK.AllK
import Wide.FinOn
import HandS.ForMost
import HandS.Wide
import HandS.IsInst
import HandS.Defaults
import HandS.Codes
import HandS.MakeKwOnly
import PySem.Challenge.RW_carrylog_k05_houses_and_best_size
import HandS.Star
import HandS.ClsMeth
import HandS.Property
import HandS.TupLe
import HandS.Sort
import HandS.Evl
import HandS.TupAny
import HandS.DeepEq
import KE.KTupSum
import KE.KMathG
import Flt.RightSqrt
import HandS.Struct
import HandS.Iter
import HandS.Walk
set_option Elab.async false
set_option maxRecDepth 100000
/-! ### my words over the hand layer -/
namespace Cl
open PySem L2
/-- the built-in names that the law's text uses are still the built-ins -/
structure Bi (mg : Str → Option Value) : Prop where
  len : mg "len" = none
  abs : mg "abs" = none
  max : mg "max" = none
  min : mg "min" = none
  sum : mg "sum" = none
  all : mg "all" = none
  any : mg "any" = none
  range : mg "range" = none
  isinstance : mg "isinstance" = none
  intT : mg "int" = none
  strT : mg "str" = none
  boolT : mg "bool" = none
  listT : mg "list" = none
  divmod : mg "divmod" = none
  tupleT : mg "tuple" = none
  reversed : mg "reversed" = none
/-- a def of the text, by its name: what it promises -/
structure Dn (P : Program) (w : World) (K : PySem.W.Frag) (mg : Str → Option Value) (base : Heap) (x : Str) (k : Nat) (ps : List Str) (sp : Sp) (dvs : List V := []) : Prop where
  ex : ∃ (f : Addr) (fd : FuncData) (ds : List Value), FnOk P w K mg base CX0 k f fd ps sp ∧ mg x = some (.ref f) ∧ PySem.W.keepIn K (.ref f) = true ∧ Binds K fd ps ds ∧ Vals dvs ds
/-- the same called with keywords -/
structure Dk (P : Program) (w : World) (K : PySem.W.Frag) (mg : Str → Option Value) (base : Heap) (x : Str) (k : Nat) (ps : List Str) (sp : Sp) (n : Nat) (ks : List Str) (gV : List V → List V → List V) : Prop where
  ex : ∃ (f : Addr) (fd : FuncData) (g : List Value → List Value → List Value), FnOk P w K mg base CX0 k f fd ps sp ∧ mg x = some (.ref f) ∧ PySem.W.keepIn K (.ref f) = true ∧ KBn K fd ps n ks g gV
section
variable {X : Cx} {k n : Nat} {ps ks : List Str} {sp : Sp} {dvs : List V} {E : XK} {x : Str} {p pos : Pos} {e : Expr} {es : List Expr} {kws : List Keyword} {t tk : TA} {gV : List V → List V → List V}
theorem pe_dn (D : Dn X.prog X.w X.K X.mg X.base x k ps sp dvs) (hr : Room k X.A) (hg : Gl X x) (hx : Passes CX0 X E) (ha : PA X (e :: es) t)
    (hdb : (x == ("__debug__" : Str)) = false := by decide) (he : starEach (e :: es) X.env = (false, eval e X.env) :: starEach es X.env := by rfl)
    (hpl : (backTo pos (starEach es X.env)).any (·.1) = false := by rfl) : PE X (.Call (.Name x p) (e :: es) [] pos) (tCall sp dvs E t) := by
  obtain ⟨f, fd, ds, G, m, kp, b, v⟩ := D.ex
  exact pe_call G hr hg m kp b v hx ha hdb he hpl
theorem pe_dn0 (D : Dn X.prog X.w X.K X.mg X.base x k ps sp dvs) (hr : Room k X.A) (hg : Gl X x) (hx : Passes CX0 X E)
    (hdb : (x == ("__debug__" : Str)) = false := by decide) : PE X (.Call (.Name x p) [] [] pos) (tCall sp dvs E tNil) := by
  obtain ⟨f, fd, ds, G, m, kp, b, v⟩ := D.ex
  exact pe_call0 G hr hg m kp b v hx hdb
theorem pe_dk (D : Dk X.prog X.w X.K X.mg X.base x k ps sp n ks gV) (hr : Room k X.A) (hg : Gl X x) (hx : Passes CX0 X E) (ha : PA X (e :: es) t) (hkw : PK X kws tk)
    (hall : (backToKw pos (keywordEach kws X.env)).all (·.1.isSome) = true := by rfl) (hks : (backToKw pos (keywordEach kws X.env)).filterMap (·.1) = ks := by rfl)
    (hdb : (x == ("__debug__" : Str)) = false := by decide) (he : starEach (e :: es) X.env = (false, eval e X.env) :: starEach es X.env := by rfl)
    (hpl : ((backTo pos (starEach (e :: es) X.env)).any (·.1) || (backToKw pos (keywordEach kws X.env)).any (·.1.isNone)) = false := by rfl) :
    PE X (.Call (.Name x p) (e :: es) kws pos) (tCallN n ks.length sp gV E t tk) := by
  obtain ⟨f, fd, g, G, m, kp, b⟩ := D.ex
  exact pe_callN G hr hg m kp b hx ha hkw hall hks hdb he hpl
end
theorem mulB {i j : Int} (h1 : -100000000000000000000000000000000000000000000000000000000000000 ≤ i) (h2 : i ≤ 100000000000000000000000000000000000000000000000000000000000000) (h3 : -100000000000000000000000000000000000000000000000000000000000000 ≤ j) (h4 : j ≤ 100000000000000000000000000000000000000000000000000000000000000) : CMulW i j :=
  wide_mul (a := 220) (b := 220) (Nat.lt_of_le_of_lt (show i.natAbs ≤ 100000000000000000000000000000000000000000000000000000000000000 by omega) (by decide)) (Nat.lt_of_le_of_lt (show j.natAbs ≤ 100000000000000000000000000000000000000000000000000000000000000 by omega) (by decide)) (by decide) (by decide) (by decide)
theorem divB {i j : Int} (h : 0 < j) (h2 : j ≤ 100000000000000000000000000000000000000000000000000000000000000) : CDivW i j :=
  wide_div h (b := 220) (Nat.lt_of_le_of_lt (show j.natAbs ≤ 100000000000000000000000000000000000000000000000000000000000000 by omega) (by decide)) (by decide) (by decide)
theorem strB {i : Int} (h1 : -100000000000000000000000000000000000000000000000000000000000000 ≤ i) (h2 : i ≤ 100000000000000000000000000000000000000000000000000000000000000) : i.natAbs.log2 < 1920 :=
  Nat.lt_of_lt_of_le (PySem.Flt.log2_lt_of (k := 220) (by decide) (Nat.lt_of_le_of_lt (show i.natAbs ≤ 100000000000000000000000000000000000000000000000000000000000000 by omega) (by decide))) (by decide)
/-- all that was tracked but what stands at a is as it was -/
def But (a : Addr) (H H' : Hp) : Prop := ∀ b o, b ≠ a → H b = some o → H' b = some o
theorem But.refl (a : Addr) (H : Hp) : But a H H := fun _ _ _ h => h
theorem But.trans {a : Addr} {H H1 H2 : Hp} (x : But a H H1) (y : But a H1 H2) : But a H H2 := fun b o n h => y b o n (x b o n h)
theorem But.of {a : Addr} {H H' : Hp} (x : Same H H') : But a H H' := fun b o _ h => x b o h
theorem But.upd {a : Addr} {H : Hp} {o : HO} : But a H (upd H a o) := fun b u n h => by rw [upd_ne n]; exact h
theorem Same.upd {p : Addr} {H : Hp} {o : HO} (h : H p = none) : Same H (upd H p o) := fun b u e => by rw [upd_ne (ne_of_none e h)]; exact e
theorem itd {c A B : Prop} [Decidable c] (h1 : c → A) (h2 : ¬ c → B) : if decide c = true then A else B := by
  by_cases h : c
  · rw [decide_eq_true h]; exact iteT (h1 h)
  · rw [decide_eq_false h]; exact iteF (h2 h)
theorem itn {c A B : Prop} [Decidable c] (h1 : ¬ c → A) (h2 : c → B) : if (!decide c) = true then A else B := by
  by_cases h : c
  · rw [decide_eq_true h]; exact iteF (h2 h)
  · rw [decide_eq_false h]; exact iteT (h1 h)
theorem iti {a b : Int} {A B : Prop} (h1 : a = b → A) (h2 : a ≠ b → B) : if decide (V.int a = V.int b) = true then A else B :=
  itd (fun h => h1 (V.int.inj h)) (fun h => h2 fun e => h (by rw [e]))
theorem itni {a b : Int} {A B : Prop} (h1 : a ≠ b → A) (h2 : a = b → B) : if (!decide (V.int a = V.int b)) = true then A else B :=
  itn (fun h => h1 fun e => h (by rw [e])) (fun h => h2 (V.int.inj h))
theorem But.sub {a b : Addr} {H H1 H2 : Hp} {o : HO} (n : b ≠ a) (x : But a H H1) (h : H b = some o) : H1 b = some o := x b o n h
/-- a comprehension without tests whose element is reckoned without a trace: the new list is the old one, mapped -/
theorem lc_pure {K : PySem.W.Frag} {a D : Addr} {xs : List V} {g : TG} {te : TE} {vs : List Nat} {σ : L2.St} {H1 : Hp} {Qd : Hp → Prop} (f : V → V) (hx : SqL K H1 a xs) (hD : H1 D = none) (hlen : xs.length < 10000)
    (hs : ∀ (x : V) (H : Hp) (R : V → Hp → Prop), x ∈ xs → (∀ b o, H1 b = some o → H b = some o) → R (f x) H → g x (wipe σ vs) H fun σ2 H2 => wipe σ2 vs = wipe σ vs ∧ te σ2 H2 R) (hd : Qd (upd H1 D (.lst (xs.map f)))) :
    ∃ W : Nat → Nat → Hp → Prop, (∃ m, W 0 m (upd H1 D (.lst []))) ∧ ∀ i m H, W i m H →
      ((Itl K a).stop i H ∧ Qd H) ∨ ((Itl K a).go i H ∧ ∃ Nx : Hp → Prop, (∀ H', Nx H' → ∃ m', m' < m ∧ W (i + 1) m' H') ∧ ∀ x H', (Itl K a).yld i H x H' → g x (wipe σ vs) H' fun σ2 H2 => wipe σ2 vs = wipe σ vs ∧ tYes σ2 H2 fun b H3 =>
        if b = true then te σ2 H3 fun y H4 => ∃ acc, H4 D = some (.lst acc) ∧ acc.length < sizeLine ∧ Nx (upd H4 D (.lst (acc ++ [y]))) else Nx H3) := by
  refine lc_list (K := K) (a := a) (xs := xs) (fun i H => H = upd H1 D (.lst ((xs.take i).map f))) (by rw [List.take_zero]; rfl) (fun i H _ e => by rw [e]; exact Same.seq (Same.upd hD) hx) ?_ ?_
  · rintro i x H hi rfl
    have hm : x ∈ xs := List.mem_of_getElem? hi
    have hi2 := (List.getElem?_eq_some_iff.mp hi).1
    have key : ∀ R : V → Hp → Prop, R (f x) (upd H1 D (.lst ((xs.take i).map f))) → g x (wipe σ vs) (upd H1 D (.lst ((xs.take i).map f))) fun σ2 H2 => wipe σ2 vs = wipe σ vs ∧ te σ2 H2 R := fun R hR =>
      hs x _ R hm (fun b o e => Same.upd hD b o e) hR
    have k2 := key (fun y H4 => ∃ acc, H4 D = some (.lst acc) ∧ acc.length < sizeLine ∧ upd H4 D (.lst (acc ++ [y])) = upd H1 D (.lst ((xs.take (i + 1)).map f))) ⟨_, upd_same, ?_, ?_⟩
    · exact k2
    · rw [List.length_map, List.length_take]
      have : (10000 : Nat) ≤ sizeLine := by decide
      omega
    · rw [upd_upd]
      have e : xs.take (i + 1) = xs.take i ++ [x] := by
        rw [List.take_add_one, hi]; rfl
      rw [e, List.map_append]; rfl
  · rintro H rfl
    rw [List.take_length]
    exact hd
/-- what stays while a new list at D grows: all that H1 tracks -/
theorem grow_same {D : Addr} {H1 H : Hp} {o : HO} (hD : H1 D = none) (x : Same H1 H) : Same H1 (upd H D o) := fun b u e => by
  rw [upd_ne (ne_of_none e hD)]; exact x b u e
/-- a comprehension over a range; its element may make objects -/
theorem lc_growR {lo : Int} {n : Nat} {g : TG} {te : TE} {vs : List Nat} {σ : L2.St} {H1 : Hp} {D : Addr} {Qd : Hp → Prop} (f : Nat → V) (hD : H1 D = none) (hlen : n < 10000)
    (hs : ∀ (i : Nat) (H : Hp) (R : V → Hp → Prop), i < n → Same H1 H → (∀ H', Same H H' → R (f i) H') → g (.int (lo + i)) (wipe σ vs) H fun σ2 H2 => wipe σ2 vs = wipe σ vs ∧ te σ2 H2 R)
    (hd : ∀ H, Same H1 H → H D = some (.lst ((List.range n).map f)) → Qd H) :
    ∃ W : Nat → Nat → Hp → Prop, (∃ m, W 0 m (upd H1 D (.lst []))) ∧ ∀ i m H, W i m H →
      ((Itr lo n).stop i H ∧ Qd H) ∨ ((Itr lo n).go i H ∧ ∃ Nx : Hp → Prop, (∀ H', Nx H' → ∃ m', m' < m ∧ W (i + 1) m' H') ∧ ∀ x H', (Itr lo n).yld i H x H' → g x (wipe σ vs) H' fun σ2 H2 => wipe σ2 vs = wipe σ vs ∧ tYes σ2 H2 fun b H3 =>
        if b = true then te σ2 H3 fun y H4 => ∃ acc, H4 D = some (.lst acc) ∧ acc.length < sizeLine ∧ Nx (upd H4 D (.lst (acc ++ [y]))) else Nx H3) := by
  refine lc_range (lo := lo) (n := n) (fun i H => Same H1 H ∧ H D = some (.lst ((List.range i).map f))) ⟨grow_same hD (Same.refl H1), upd_same⟩ ?_ (fun H h => hd H h.1 h.2)
  rintro i H hi ⟨hS, hL⟩
  have key := hs i H (fun y H4 => ∃ acc, H4 D = some (.lst acc) ∧ acc.length < sizeLine ∧ (Same H1 (upd H4 D (.lst (acc ++ [y]))) ∧ upd H4 D (.lst (acc ++ [y])) D = some (.lst ((List.range (i + 1)).map f)))) hi hS fun H' hS' => ⟨_, hS' _ _ hL, ?_, grow_same hD (hS.trans hS'), ?_⟩
  · exact key
  · rw [List.length_map, List.length_range]
    have : (10000 : Nat) ≤ sizeLine := by decide
    omega
  · rw [upd_same, List.range_succ, List.map_append]; rfl
/-- .. with a test -/
theorem lc_filtR {lo : Int} {n : Nat} {g : TG} {tt : TT} {te : TE} {vs : List Nat} {σ : L2.St} {H1 : Hp} {D : Addr} {Qd : Hp → Prop} (f : Nat → V) (p : Nat → Bool) (hD : H1 D = none) (hlen : n < 10000)
    (hs : ∀ (i : Nat) (H : Hp) (R : V → Hp → Prop) (R0 : Hp → Prop), i < n → Same H1 H → (p i = true → ∀ H', Same H H' → R (f i) H') → (p i = false → ∀ H', Same H H' → R0 H') →
      g (.int (lo + i)) (wipe σ vs) H fun σ2 H2 => wipe σ2 vs = wipe σ vs ∧ tt σ2 H2 fun b H3 => if b = true then te σ2 H3 R else R0 H3)
    (hd : ∀ H, Same H1 H → H D = some (.lst (((List.range n).filter p).map f)) → Qd H) :
    ∃ W : Nat → Nat → Hp → Prop, (∃ m, W 0 m (upd H1 D (.lst []))) ∧ ∀ i m H, W i m H →
      ((Itr lo n).stop i H ∧ Qd H) ∨ ((Itr lo n).go i H ∧ ∃ Nx : Hp → Prop, (∀ H', Nx H' → ∃ m', m' < m ∧ W (i + 1) m' H') ∧ ∀ x H', (Itr lo n).yld i H x H' → g x (wipe σ vs) H' fun σ2 H2 => wipe σ2 vs = wipe σ vs ∧ tt σ2 H2 fun b H3 =>
        if b = true then te σ2 H3 fun y H4 => ∃ acc, H4 D = some (.lst acc) ∧ acc.length < sizeLine ∧ Nx (upd H4 D (.lst (acc ++ [y]))) else Nx H3) := by
  refine lc_range (lo := lo) (n := n) (fun i H => Same H1 H ∧ H D = some (.lst (((List.range i).filter p).map f))) ⟨grow_same hD (Same.refl H1), upd_same⟩ ?_ (fun H h => hd H h.1 h.2)
  rintro i H hi ⟨hS, hL⟩
  have e1 : (List.range (i + 1)).filter p = (List.range i).filter p ++ (if p i = true then [i] else []) := by
    rw [List.range_succ, List.filter_append, List.filter_cons, List.filter_nil]
  have key := hs i H (fun y H4 => ∃ acc, H4 D = some (.lst acc) ∧ acc.length < sizeLine ∧ (Same H1 (upd H4 D (.lst (acc ++ [y]))) ∧ upd H4 D (.lst (acc ++ [y])) D = some (.lst (((List.range (i + 1)).filter p).map f))))
    (fun H4 => Same H1 H4 ∧ H4 D = some (.lst (((List.range (i + 1)).filter p).map f))) hi hS (fun hp H' hS' => ⟨_, hS' _ _ hL, ?_, grow_same hD (hS.trans hS'), ?_⟩) (fun hp H' hS' => ⟨hS.trans hS', ?_⟩)
  · exact key
  · rw [List.length_map]
    have : (10000 : Nat) ≤ sizeLine := by decide
    have h2 := List.length_filter_le p (List.range i)
    rw [List.length_range] at h2
    omega
  · rw [upd_same, e1, if_pos hp, List.map_append]; rfl
  · rw [hS' _ _ hL, e1, if_neg (by rw [hp]; exact Bool.false_ne_true), List.append_nil]
/-- .. over a list that stands still -/
theorem lc_growL {K : PySem.W.Frag} {a D : Addr} {xs : List V} {g : TG} {te : TE} {vs : List Nat} {σ : L2.St} {H1 : Hp} {Qd : Hp → Prop} (f : V → V) (hx : SqL K H1 a xs) (hD : H1 D = none) (hlen : xs.length < 10000)
    (hs : ∀ (x : V) (H : Hp) (R : V → Hp → Prop), x ∈ xs → Same H1 H → (∀ H', Same H H' → R (f x) H') → g x (wipe σ vs) H fun σ2 H2 => wipe σ2 vs = wipe σ vs ∧ te σ2 H2 R)
    (hd : ∀ H, Same H1 H → H D = some (.lst (xs.map f)) → Qd H) :
    ∃ W : Nat → Nat → Hp → Prop, (∃ m, W 0 m (upd H1 D (.lst []))) ∧ ∀ i m H, W i m H →
      ((Itl K a).stop i H ∧ Qd H) ∨ ((Itl K a).go i H ∧ ∃ Nx : Hp → Prop, (∀ H', Nx H' → ∃ m', m' < m ∧ W (i + 1) m' H') ∧ ∀ x H', (Itl K a).yld i H x H' → g x (wipe σ vs) H' fun σ2 H2 => wipe σ2 vs = wipe σ vs ∧ tYes σ2 H2 fun b H3 =>
        if b = true then te σ2 H3 fun y H4 => ∃ acc, H4 D = some (.lst acc) ∧ acc.length < sizeLine ∧ Nx (upd H4 D (.lst (acc ++ [y]))) else Nx H3) := by
  refine lc_list (K := K) (a := a) (xs := xs) (fun i H => Same H1 H ∧ H D = some (.lst ((xs.take i).map f))) ⟨grow_same hD (Same.refl H1), upd_same⟩ (fun i H _ h => Same.seq h.1 hx) ?_ (fun H h => hd H h.1 (by rw [h.2, List.take_length]))
  rintro i x H hi ⟨hS, hL⟩
  have hi2 := (List.getElem?_eq_some_iff.mp hi).1
  have key := hs x H (fun y H4 => ∃ acc, H4 D = some (.lst acc) ∧ acc.length < sizeLine ∧ (Same H1 (upd H4 D (.lst (acc ++ [y]))) ∧ upd H4 D (.lst (acc ++ [y])) D = some (.lst ((xs.take (i + 1)).map f)))) (List.mem_of_getElem? hi) hS fun H' hS' => ⟨_, hS' _ _ hL, ?_, grow_same hD (hS.trans hS'), ?_⟩
  · exact key
  · rw [List.length_map, List.length_take]
    have : (10000 : Nat) ≤ sizeLine := by decide
    omega
  · rw [upd_same]
    have e : xs.take (i + 1) = xs.take i ++ [x] := by
      rw [List.take_add_one, hi]; rfl
    rw [e, List.map_append]; rfl
/-- a bag stands at a -/
def BagAt (H : Hp) (a : Addr) : Prop := ∃ c t s : Int, H a = some (.lst [.int c, .int t, .int s])
theorem BagAt.same {H H' : Hp} {a : Addr} (h : BagAt H a) (x : Same H H') : BagAt H' a := by
  obtain ⟨c, t, s, e⟩ := h
  exact ⟨c, t, s, x _ _ e⟩
/-- a comprehension over a range whose element draws from a bag: the ints that it makes, each of which P holds -/
theorem lc_bagR {lo : Int} {n : Nat} {g : TG} {te : TE} {vs : List Nat} {σ : L2.St} {H1 : Hp} {D a : Addr} {Qd : Hp → Prop} (P : Int → Prop) (hB : BagAt H1 a) (hD : H1 D = none) (hlen : n < 10000)
    (hs : ∀ (i : Nat) (H : Hp) (R : V → Hp → Prop), i < n → BagAt H a → But a H1 H → (∀ d H', P d → BagAt H' a → But a H H' → R (.int d) H') → g (.int (lo + i)) (wipe σ vs) H fun σ2 H2 => wipe σ2 vs = wipe σ vs ∧ te σ2 H2 R)
    (hd : ∀ (ls : List Int) (H : Hp), H D = some (.lst (ls.map V.int)) → ls.length = n → (∀ x, x ∈ ls → P x) → BagAt H a → But a H1 H → Qd H) :
    ∃ W : Nat → Nat → Hp → Prop, (∃ m, W 0 m (upd H1 D (.lst []))) ∧ ∀ i m H, W i m H →
      ((Itr lo n).stop i H ∧ Qd H) ∨ ((Itr lo n).go i H ∧ ∃ Nx : Hp → Prop, (∀ H', Nx H' → ∃ m', m' < m ∧ W (i + 1) m' H') ∧ ∀ x H', (Itr lo n).yld i H x H' → g x (wipe σ vs) H' fun σ2 H2 => wipe σ2 vs = wipe σ vs ∧ tYes σ2 H2 fun b H3 =>
        if b = true then te σ2 H3 fun y H4 => ∃ acc, H4 D = some (.lst acc) ∧ acc.length < sizeLine ∧ Nx (upd H4 D (.lst (acc ++ [y]))) else Nx H3) := by
  have nDa : D ≠ a := fun e => by
    subst e
    obtain ⟨_, _, _, e2⟩ := hB
    rw [e2] at hD; cases hD
  have bagU : ∀ {H : Hp} {o : HO}, BagAt H a → BagAt (upd H D o) a := fun {H o} hb => by
    obtain ⟨x, y, z, e⟩ := hb
    exact ⟨x, y, z, by rw [upd_ne nDa.symm]; exact e⟩
  have butU : ∀ {H : Hp} {o : HO}, But a H1 H → But a H1 (upd H D o) := fun {H o} hb b u nb e => by
    rw [upd_ne (ne_of_none e hD)]; exact hb b u nb e
  refine lc_range (lo := lo) (n := n) (fun i H => ∃ ls : List Int, H D = some (.lst (ls.map V.int)) ∧ ls.length = i ∧ (∀ x, x ∈ ls → P x) ∧ BagAt H a ∧ But a H1 H) ⟨[], upd_same, rfl, fun x hx => (by cases hx), bagU hB, butU (But.refl _ _)⟩ ?_ (fun H ⟨ls, h1, h2, h3, h4, h5⟩ => hd ls H h1 h2 h3 h4 h5)
  rintro i H hi ⟨ls, h1, h2, h3, h4, h5⟩
  have key := hs i H (fun y H4 => ∃ acc, H4 D = some (.lst acc) ∧ acc.length < sizeLine ∧ ∃ ls : List Int, upd H4 D (.lst (acc ++ [y])) D = some (.lst (ls.map V.int)) ∧ ls.length = i + 1 ∧ (∀ x, x ∈ ls → P x) ∧ BagAt (upd H4 D (.lst (acc ++ [y]))) a ∧ But a H1 (upd H4 D (.lst (acc ++ [y])))) hi h4 h5
    fun d H' hP hB' hb' => ⟨ls.map V.int, hb' D _ nDa h1, ?_, ls ++ [d], by rw [upd_same, List.map_append]; rfl, by rw [List.length_append, h2]; rfl, fun x hx => ?_, bagU hB', butU (h5.trans hb')⟩
  · exact key
  · rw [List.length_map]
    have : (10000 : Nat) ≤ sizeLine := by decide
    omega
  · rcases List.mem_append.mp hx with h | h
    · exact h3 x h
    · simp at h; subst h; exact hP
/-! ### what the top has written -/
structure AtTop (K : PySem.W.Frag) (x qual : Str) (st : Stmt) (kws : List (Str × V)) : Prop where
  ex : ∃ (f : Addr) (fd : FuncData), PySem.W.nsIn K mainGlobals x = some (some (.ref f)) ∧ Fun K x qual st f fd ∧ FunD K x qual (defArgs st) (defBody st) (defScope st) [] kws f fd
section
variable {P : Program} {w : World} {K : PySem.W.Frag} {mg : Str → Option Value} {base : Heap} {x qual : Str} {st : Stmt} {ps : List Str} {k : Nat} {sp : Sp} {kws : List (Str × V)} {h : Heap}
theorem atTop0 {f : Addr} {oc : Value} {od an : Option Addr} {osl : Array (Option Value)} {kV doc pm cdv ct : Value} (a : PySem.W.nsIn K mainGlobals x = some (some (.ref f)))
    (l : K.lookup f = some ⟨oc, od, .func (PySem.W.fnOf x qual (defArgs st) (defBody st) (defScope st) .none kV doc pm an cdv ct), osl⟩) (c : PySem.W.codeIn K cdv qual = true) (p : PySem.W.keepIn K (.ref f) = true) : AtTop K x qual st [] :=
  ⟨f, _, a, fun_mk l c p, ⟨⟨oc, od, .none, kV, doc, pm, an, cdv, ct, osl, rfl, l, c, .inl ⟨rfl, rfl⟩, .inl rfl⟩, p⟩⟩
theorem atTop1 {f D : Addr} {oc : Value} {od an : Option Addr} {osl : Array (Option Value)} {doc pm cdv ct u : Value} {n : Str} {v : V} (a : PySem.W.nsIn K mainGlobals x = some (some (.ref f)))
    (l : K.lookup f = some ⟨oc, od, .func (PySem.W.fnOf x qual (defArgs st) (defBody st) (defScope st) .none (.ref D) doc pm an cdv ct), osl⟩) (c : PySem.W.codeIn K cdv qual = true) (p : PySem.W.keepIn K (.ref f) = true)
    (hk : PySem.W.nsIn K D n = some (some u)) (r : RelV v u) : AtTop K x qual st [(n, v)] :=
  ⟨f, _, a, fun_mk l c p, ⟨⟨oc, od, .none, .ref D, doc, pm, an, cdv, ct, osl, rfl, l, c, .inl ⟨rfl, rfl⟩, .inr ⟨D, rfl, fun q hq => by
    rcases List.mem_cons.mp hq with rfl | hq
    · exact ⟨u, hk, r⟩
    · cases hq⟩⟩, p⟩⟩
theorem atTop2 {f D : Addr} {oc : Value} {od an : Option Addr} {osl : Array (Option Value)} {doc pm cdv ct u u1 : Value} {n n1 : Str} {v v1 : V} (a : PySem.W.nsIn K mainGlobals x = some (some (.ref f)))
    (l : K.lookup f = some ⟨oc, od, .func (PySem.W.fnOf x qual (defArgs st) (defBody st) (defScope st) .none (.ref D) doc pm an cdv ct), osl⟩) (c : PySem.W.codeIn K cdv qual = true) (p : PySem.W.keepIn K (.ref f) = true)
    (hk : PySem.W.nsIn K D n = some (some u)) (r : RelV v u) (hk1 : PySem.W.nsIn K D n1 = some (some u1)) (r1 : RelV v1 u1) : AtTop K x qual st [(n, v), (n1, v1)] :=
  ⟨f, _, a, fun_mk l c p, ⟨⟨oc, od, .none, .ref D, doc, pm, an, cdv, ct, osl, rfl, l, c, .inl ⟨rfl, rfl⟩, .inr ⟨D, rfl, fun q hq => by
    rcases List.mem_cons.mp hq with rfl | hq
    · exact ⟨u, hk, r⟩
    rcases List.mem_cons.mp hq with rfl | hq
    · exact ⟨u1, hk1, r1⟩
    · cases hq⟩⟩, p⟩⟩
theorem atTop3 {f D : Addr} {oc : Value} {od an : Option Addr} {osl : Array (Option Value)} {doc pm cdv ct u u1 u2 : Value} {n n1 n2 : Str} {v v1 v2 : V} (a : PySem.W.nsIn K mainGlobals x = some (some (.ref f)))
    (l : K.lookup f = some ⟨oc, od, .func (PySem.W.fnOf x qual (defArgs st) (defBody st) (defScope st) .none (.ref D) doc pm an cdv ct), osl⟩) (c : PySem.W.codeIn K cdv qual = true) (p : PySem.W.keepIn K (.ref f) = true)
    (hk : PySem.W.nsIn K D n = some (some u)) (r : RelV v u) (hk1 : PySem.W.nsIn K D n1 = some (some u1)) (r1 : RelV v1 u1) (hk2 : PySem.W.nsIn K D n2 = some (some u2)) (r2 : RelV v2 u2) : AtTop K x qual st [(n, v), (n1, v1), (n2, v2)] :=
  ⟨f, _, a, fun_mk l c p, ⟨⟨oc, od, .none, .ref D, doc, pm, an, cdv, ct, osl, rfl, l, c, .inl ⟨rfl, rfl⟩, .inr ⟨D, rfl, fun q hq => by
    rcases List.mem_cons.mp hq with rfl | hq
    · exact ⟨u, hk, r⟩
    rcases List.mem_cons.mp hq with rfl | hq
    · exact ⟨u1, hk1, r1⟩
    rcases List.mem_cons.mp hq with rfl | hq
    · exact ⟨u2, hk2, r2⟩
    · cases hq⟩⟩, p⟩⟩
/-- the arguments in the parameters' order: of each keyword-only one, whether it was written (which one of the call's) or lacks (which one of those) -/
def pick {α : Type} (sel : List (Sum Nat Nat)) (us mv ws : List α) : List α := us ++ sel.flatMap fun q => match q with | .inl i => (ws.drop i).take 1 | .inr j => (mv.drop j).take 1
abbrev kwp (sel : List (Sum Nat Nat)) (mz : List V) : List V → List V → List V := fun vs zs => pick sel vs mz zs
theorem pick_rel {vs mz zs : List V} {us mv ws : List Value} (r1 : Vals vs us) (r2 : Vals mz mv) (r3 : Vals zs ws) : ∀ sel : List (Sum Nat Nat), Vals (pick sel vs mz zs) (pick sel us mv ws) := fun sel => by
  refine r1.append ?_
  induction sel with
  | nil => exact .nil
  | cons q l ih =>
    rw [List.flatMap_cons, List.flatMap_cons]
    refine Vals.append ?_ ih
    cases q with
    | inl i => exact (r3.drop i).take 1
    | inr j => exact (r2.drop j).take 1
theorem AtTop.dn (t : AtTop K x qual st kws) (X : K.In h) (G : h.Ns mainGlobals mg)
    (hb : ∀ (kV doc pm : Value) (an : Option Addr) (cdv ct : Value) (us : List Value), us.length = ps.length → bindArgs (PySem.W.fnOf x qual (defArgs st) (defBody st) (defScope st) .none kV doc pm an cdv ct) ⟨us, []⟩ = pure (ps.zip us))
    (ok : ∀ (f : Addr) (fd : FuncData), Fun K x qual st f fd → FnOk P w K mg base CX0 k f fd ps sp) : Dn P w K mg base x k ps sp := by
  obtain ⟨f, fd, a, F, _⟩ := t.ex
  exact ⟨f, fd, [], ok f fd F, PySem.W.mg_of X G a, F.kp, F.binds hb, .nil⟩
/-- a def that calls itself: the knot is tied level by level -/
theorem AtTop.dnR (t : AtTop K x qual st kws) (X : K.In h) (G : h.Ns mainGlobals mg)
    (hb : ∀ (kV doc pm : Value) (an : Option Addr) (cdv ct : Value) (us : List Value), us.length = ps.length → bindArgs (PySem.W.fnOf x qual (defArgs st) (defBody st) (defScope st) .none kV doc pm an cdv ct) ⟨us, []⟩ = pure (ps.zip us))
    (ok : ∀ (f : Addr) (fd : FuncData), Fun K x qual st f fd → (∀ (j : Nat) (sq : Sp), FnOk P w K mg base CX0 j f fd ps sq → Dn P w K mg base x j ps sq) → FnOk P w K mg base CX0 k f fd ps sp) : Dn P w K mg base x k ps sp := by
  obtain ⟨f, fd, a, F, _⟩ := t.ex
  have I : ∀ (j : Nat) (sq : Sp), FnOk P w K mg base CX0 j f fd ps sq → Dn P w K mg base x j ps sq := fun j sq g => ⟨f, fd, [], g, PySem.W.mg_of X G a, F.kp, F.binds hb, .nil⟩
  exact I k sp (ok f fd F I)
/-- called without its keywords: all the defaults -/
theorem AtTop.dd (t : AtTop K x qual st kws) (X : K.In h) (G : h.Ns mainGlobals mg) (n : Nat) (hk : kws ≠ []) (hn : n + kws.length = ps.length)
    (hb : ∀ (D : Addr) (doc pm : Value) (an : Option Addr) (cdv ct : Value) (us ks : List Value), us.length = n → ks.length = kws.length →
      KwChain D ((kws.map (·.1)).zip ks) (bindArgs (PySem.W.fnOf x qual (defArgs st) (defBody st) (defScope st) .none (.ref D) doc pm an cdv ct) ⟨us, []⟩) (ps.zip (us ++ ks)))
    (ok : ∀ (f : Addr) (fd : FuncData), Fun K x qual st f fd → FnOk P w K mg base CX0 k f fd ps sp) : Dn P w K mg base x k ps sp (kws.map (·.2)) := by
  obtain ⟨f, fd, a, F, FD⟩ := t.ex
  obtain ⟨ds, v, b⟩ := FD.binds0 n hk hn hb
  exact ⟨f, fd, ds, ok f fd F, PySem.W.mg_of X G a, F.kp, b, v⟩
/-- called with all its keywords, in their order -/
theorem AtTop.dk (t : AtTop K x qual st kws) (X : K.In h) (G : h.Ns mainGlobals mg) (n : Nat) (ks : List Str)
    (hb : ∀ (kV doc pm : Value) (an : Option Addr) (cdv ct : Value) (us ws : List Value), us.length = n → ws.length = ks.length → bindArgs (PySem.W.fnOf x qual (defArgs st) (defBody st) (defScope st) .none kV doc pm an cdv ct) ⟨us, ks.zip ws⟩ = pure (ps.zip (us ++ ws)))
    (ok : ∀ (f : Addr) (fd : FuncData), Fun K x qual st f fd → FnOk P w K mg base CX0 k f fd ps sp) : Dk P w K mg base x k ps sp n ks (fun vs zs => vs ++ zs) := by
  obtain ⟨f, fd, a, F, _⟩ := t.ex
  obtain ⟨oc, od, kV, doc, pm, an, cdv, ct, osl, rfl, lk, hcd⟩ := F.ex
  exact ⟨f, _, fun us ws => us ++ ws, ok f _ F, PySem.W.mg_of X G a, F.kp, ⟨fun s us ws _ l1 l2 => .of_eq (hb kV doc pm an cdv ct us ws l1 l2), fun r1 r2 => r1.append r2⟩⟩
/-- called with some of its keywords: of the rest the defaults -/
theorem AtTop.dkp (t : AtTop K x qual st kws) (X : K.In h) (G : h.Ns mainGlobals mg) (n : Nat) (ks : List Str) (ms : List (Str × V)) (sel : List (Sum Nat Nat)) (hk : kws ≠ []) (hms : ∀ q ∈ ms, q ∈ kws)
    (hb : ∀ (D : Addr) (doc pm : Value) (an : Option Addr) (cdv ct : Value) (us mv ws : List Value), us.length = n → mv.length = ms.length → ws.length = ks.length →
      KwChain D ((ms.map (·.1)).zip mv) (bindArgs (PySem.W.fnOf x qual (defArgs st) (defBody st) (defScope st) .none (.ref D) doc pm an cdv ct) ⟨us, ks.zip ws⟩) (ps.zip (pick sel us mv ws)))
    (ok : ∀ (f : Addr) (fd : FuncData), Fun K x qual st f fd → FnOk P w K mg base CX0 k f fd ps sp) : Dk P w K mg base x k ps sp n ks (kwp sel (ms.map (·.2))) := by
  obtain ⟨f, fd, a, F, FD⟩ := t.ex
  obtain ⟨mv, b⟩ := FD.kbinds0 (ps := ps) n ks ms (fun us mv ws => pick sel us mv ws) hk hms (fun r1 r2 r3 => pick_rel r1 r2 r3 sel) hb
  exact ⟨f, fd, _, ok f fd F, PySem.W.mg_of X G a, F.kp, b⟩
end
end Cl

open PySem L2 Cl
local macro_rules | `(tactic| walk_at "rd") => `(tactic| (repeat (first | refine ⟨_, rfl, ?_⟩ | refine ⟨_, _, rfl, rfl, ?_⟩ | refine ⟨_, _, rfl, ?_⟩ | refine ⟨_, _, _, rfl, ?_⟩ | refine ⟨_, _, _, _, rfl, ?_⟩ | refine ⟨.inr ⟨by decide, by decide⟩, ?_⟩ | refine ⟨.inl ⟨by decide, by decide⟩, ?_⟩ | refine ⟨⟨by decide, by decide⟩, ?_⟩ | refine ⟨⟨by decide, by decide, by decide⟩, ?_⟩ | refine ⟨(by show (0 : Int) < _; decide), ?_⟩ | refine ⟨rfl, ?_⟩ | refine .inl ⟨_, rfl, ?_⟩ | refine .inr ⟨_, rfl, ?_⟩)))
/-! ### my rules: own __len__, __add__, __eq__, static methods, C(*xs) -/
namespace Cl
open StX ClX PyProof.Rows
section
variable {X : Cx} {CX : CXT} {k : Nat} {C f p g : Addr} {mc : Value} {fd : FuncData} {ps : List Str} {sp : Sp} {dvs : List V} {ds : List Value} {E : XK} {x m : Str} {pn pos apos : Pos} {e o : Expr} {es : List Expr} {te ta : TE} {t : TA} {pl : Sem Bool}
theorem call_lenO (F : FnOk X.prog X.w X.K X.mg X.base CX k f fd ps sp) (hr : Room (k + 1) X.A) (hs : PySem.W.findIn X.K (.ref C) "__len__" = some (some (.ref f))) (hf : PySem.W.isFn X.K (.ref f) = true) (hb : Binds X.K fd ps []) (hx : Passes CX X E) :
    CallR X (.builtin "len") (fun xs H Q => ∃ a dx fs, xs = [.ref a] ∧ H a = some (.ins C dx fs) ∧ sp [.ref a] H (fun v H' => ∃ n : Nat, v = .int n ∧ n < 4611686018427387904 ∧ Q (.int n) H') E) := by
  intro pins s σ H xs us Q I r h
  obtain ⟨a, dx, fs, rfl, ha, hq⟩ := h
  obtain ⟨u, rfl, r1⟩ := vals1 r
  cases r1
  obtain ⟨mA, O, _⟩ := ins_get I.hok ha
  obtain ⟨od, J, _⟩ := O.look
  obtain ⟨mm, hF⟩ := I.fr
  have hl := F.len _ _ _ _ hq
  refine PySem.W.len_K hF I.ok.mod.kin J hs hf ?_
  refine wpAny_call (codeAny_mono (F.run X.A.in1 X.stack s H ⟨[.ref a], []⟩ [.ref a] [.ref a] _ E hr.in1 I.env0.in1 (by
    have := hb s [.ref a] I.kIn (by simpa using hl)
    simpa using this) (.cons rfl .nil) hq) fun r s' hq => ?_)
  cases r with
  | error e => exact hx pins σ H s e s' I hq
  | ok fl =>
    cases fl with
    | ret w =>
      obtain ⟨z, H', I', rz, n, ez, hn, q⟩ := I.after hq
      subst ez
      obtain ⟨tk, rfl⟩ := rz
      exact ⟨⟨by omega, by omega⟩, .int n, H', I'.tok _, ⟨_, rfl⟩, q⟩
    | next => exact False.elim hq
    | brk => exact False.elim hq
    | cont => exact False.elim hq
theorem notNI {v : V} {u : Value} {Q : Value → Shared → Prop} {s : Shared} (r : RelV v u) (q : Q u s) : PySem.W.CmpBack Q u s := by
  cases v with
  | non => cases r; exact q
  | bl b => cases r; exact q
  | int i => obtain ⟨t, rfl⟩ := r; exact q
  | str i => obtain ⟨t, rfl⟩ := r; exact q
  | byt i => obtain ⟨t, rfl⟩ := r; exact q
  | flt i => obtain ⟨t, rfl⟩ := r; exact q
  | ref a => cases r; exact q
  | ty n => cases r; exact q
def rOwn2 (C : Addr) (sp : Sp) (E : XK) : R2 := fun x y H Q => ∃ a b dx dy fs gs, x = .ref a ∧ y = .ref b ∧ H a = some (.ins C dx fs) ∧ H b = some (.ins C dy gs) ∧ sp [.ref a, .ref b] H Q E
theorem op_addO (F : FnOk X.prog X.w X.K X.mg X.base CX k f fd ps sp) (hr : Room k X.A) (hc : PySem.W.selfFirst X.K C = true) (hs : PySem.W.findIn X.K (.ref C) "__add__" = some (some (.ref f))) (hf : PySem.W.isFn X.K (.ref f) = true) (hb : Binds X.K fd ps []) (hx : Passes CX X E) :
    OpR X (binaryOp .Add) (rOwn2 C sp E) := by
  intro pins s σ H x y v u Q I rx ry h
  obtain ⟨a, b, dx, dy, fs, gs, rfl, rfl, ha, hb2, hq⟩ := h
  cases rx
  cases ry
  obtain ⟨mA, J, _⟩ := ins_get I.hok ha
  obtain ⟨mB, J', _⟩ := ins_get I.hok hb2
  obtain ⟨od, J, _⟩ := J.look
  obtain ⟨od', J', _⟩ := J'.look
  obtain ⟨mm, hF⟩ := I.fr
  refine PySem.W.binop_K (op := .Add) hF I.ok.mod.kin J J'.type hc hs hf ?_
  exact thn (run_fn (us := [.ref a, .ref b]) (vs := [.ref a, .ref b]) (dvs := []) (ds := []) F hr hb .nil hx I (.cons rfl (.cons rfl .nil)) hq) fun w s' hw => by
    obtain ⟨z, H', I', rz, q⟩ := hw
    exact notNI rz ⟨z, H', I', rz, q⟩
theorem op_eqO (F : FnOk X.prog X.w X.K X.mg X.base CX k f fd ps sp) (hr : Room k X.A) (hs : PySem.W.findIn X.K (.ref C) "__eq__" = some (some (.ref f))) (hf : PySem.W.isFn X.K (.ref f) = true) (hb : Binds X.K fd ps []) (hx : Passes CX X E) :
    OpR X (compareOp .Eq) (rOwn2 C sp E) := by
  intro pins s σ H x y v u Q I rx ry h
  obtain ⟨a, b, dx, dy, fs, gs, rfl, rfl, ha, hb2, hq⟩ := h
  cases rx
  cases ry
  obtain ⟨mA, J, _⟩ := ins_get I.hok ha
  obtain ⟨mB, J', _⟩ := ins_get I.hok hb2
  obtain ⟨od, J, _⟩ := J.look
  obtain ⟨od', J', _⟩ := J'.look
  obtain ⟨mm, hF⟩ := I.fr
  show wpAny (model X.prog X.w) X.A (richCompare .Eq (.ref a) (.ref b)) (EP X pins σ Q) X.xe s
  refine PySem.W.cmp_K (op := .Eq) (tb := .ref C) hr.units0 hF I.ok.mod.kin J J'.type (by simp [PySem.W.notFirst]) hs hf ?_
  exact thn (run_fn (us := [.ref a, .ref b]) (vs := [.ref a, .ref b]) (dvs := []) (ds := []) F hr hb .nil hx I (.cons rfl (.cons rfl .nil)) hq) fun w s' hw => by
    obtain ⟨z, H', I', rz, q⟩ := hw
    exact notNI rz ⟨z, H', I', rz, q⟩
/-- C.m is a static method: its record at p, its def at g -/
structure SMet (K : PySem.W.Frag) (C : Addr) (mc : Value) (m : Str) (p g : Addr) : Prop where
  at_ : PySem.W.findCls K (.ref C) mc m = some (.get (.builtin "staticmethod.__get__") (.ref p) .none (.ref C))
  rc : ∃ rest, PySem.W.recIn K p "staticmethod" = some (.ref g :: rest)
def tSMeth (C : Addr) (sp : Sp) (dvs : List V) (E : XK) (ta : TE) (t : TA) : TE := fun σ H Q => ta σ H fun x H1 => x = .ref C ∧ t σ H1 fun vs H2 => sp (vs ++ dvs) H2 Q E
theorem pe_smeth (he : PE X o ta) (r : CRead X.K C mc) (c : SMet X.K C mc m p f) (F : FnOk X.prog X.w X.K X.mg X.base CX k f fd ps sp) (hr : Room k X.A) (hk : PySem.W.keepIn X.K (.ref f) = true) (hb : Binds X.K fd ps ds) (hd : Vals dvs ds) (hx : Passes CX X E) (ha : PA X (e :: es) t)
    (hst : starEach (e :: es) X.env = (false, eval e X.env) :: starEach es X.env := by rfl) (hpl : (backTo pos (starEach es X.env)).any (·.1) = false := by rfl)
    (ht : eval (.Call (.Attribute o m apos) (e :: es) [] pos) X.env = (do
      let ov ← eval o X.env
      standAt apos.atName
      let (f, first) ← holding [ov] (getMethod ov m pl)
      callWith pos f first (backTo pos (starEach (e :: es) X.env)) (backToKw pos (keywordEach [] X.env))) := by rfl) :
    PE X (.Call (.Attribute o m apos) (e :: es) [] pos) (tSMeth C sp dvs E ta t) := by
  refine ⟨fun pins s σ H Q I h => ?_⟩
  refine PySem.W.methodCall_KW (pl := pl) (thn (he.run pins s σ H _ I h) fun u s1 ⟨x, H1, I1, rx, ex, q⟩ => ?_) ht
  subst ex
  obtain rfl : u = Value.ref C := rx
  obtain ⟨rest, hp⟩ := c.rc
  refine PySem.W.method_cls I1.kIn r.ga ?_
  refine PySem.W.cls_bind I1.kIn r.rd c.at_ ?_
  refine wpAny_call (PySem.W.sm_get (s := { s1 with toks := s1.toks + 1 }) I1.kIn hp ?_)
  refine PySem.W.handed_on rfl ?_
  refine PySem.W.callWith_K (h₀ := X.base) I.ok.mod.kin hk (thn (ha.run pos pins _ σ H1 _ (I1.tok _) q) fun us s2 ⟨vs, H2, I2, r2, q2⟩ => ⟨I2.kIn, ?_⟩) hst hpl
  exact run_fn F hr hb hd hx I2 r2 q2
def tMakeS (K : PySem.W.Frag) (C : Addr) (sp : Sp) (E : XK) (te : TE) : TE := fun σ H Q => te σ H fun y H1 => ∃ a xs, y = V.ref a ∧ (SqT K H1 a xs ∨ SqL K H1 a xs) ∧
  ∀ x dx, H1 x = Option.none → H1 dx = Option.none → dx ≠ x → sp (V.ref x :: xs) (upd (upd H1 dx (.own x)) x (.ins C dx [])) (fun v H2 => v = .non ∧ Q (.ref x) H2) E
theorem pe_makeS {sp_ : Pos} (M : Mk X.K C f) (F : FnR X.prog X.w X.K X.mg X.base CX k f sp) (hr : Room (k + 1) X.A) (hg : Gl X x) (hm : X.mg x = some (.ref C)) (hx : Passes CX X E) (he : PE X e te) (hdb : (x == ("__debug__" : Str)) = false := by decide)
    (hst : starEach [.Starred e sp_] X.env = [(true, eval e X.env)] := by rfl) : PE X (.Call (.Name x pn) [.Starred e sp_] [] pos) (tMakeS X.K C sp E te) := by
  refine ⟨fun pins s σ H Q I h => ?_⟩
  refine wpAny_Call_Name_kw (ld_glob I hg hm ?_ hdb)
  refine PySem.W.callWith_S (h₀ := X.base) I.ok.mod.kin M.kp (thn (he.run pins s σ H _ I h) fun v s1 ⟨y, H1, I1, ry, a, xs, ey, hxs, q⟩ => ?_) hst
  subst ey
  obtain rfl : v = Value.ref a := ry
  exact star_any I1 hxs fun us s2 I2 rv => ⟨I2.kIn, run_makeR M F hr hx I2 rv q⟩
/-- sum(t) of a tuple of ints -/
def rSumT (K : PySem.W.Frag) : List V → Hp → VK → Prop := fun vs H Q => ∃ (a : Addr) (ns : List Int), vs = [V.ref a] ∧ SqT K H a (ns.map V.int) ∧ Q (.int ns.sum) H
theorem cr_sumT (hc : X.calm = true) : CallR X (.builtin "sum") (rSumT X.K) := by
  intro pins s σ H vs us Q I r h
  obtain ⟨a, ns, rfl, hs, q⟩ := h
  obtain ⟨its, rv, hl, _⟩ := I.tuple hs
  rw [Vals.ref1 r]
  have hi := rv.ints
  obtain ⟨xs, e⟩ := hi.allInts.items
  have hn : numsOf (intItems xs).toList = ns := by rw [← e]; exact hi.numsOf
  rw [nums_intItems] at hn
  rw [e] at hl
  refine PySem.W.ktm_sumG (I.ok.hd hc) hl fun h' tk t' hk => ?_
  rw [preSum_eq, List.take_of_length_le (by simp), hn]
  exact ⟨.int _, H, I.kept hk, ⟨_, rfl⟩, q⟩
/-! rules that say a new tuple by what can be read of it -/
def rSlE (K : PySem.W.Frag) : V → Option Int → Option Int → Hp → VK → Prop := fun x lo hi H Q => ∃ a xs, x = .ref a ∧ SqT K H a xs ∧ ∀ p H', SqT K H' p (cutV xs lo hi) → Same H H' → Q (.ref p) H'
theorem sl_tupE : SlR X (rSlE X.K) := by
  intro pins s σ H x v vl vu lo hi sl Q I rx hs pl pu h
  refine sl_tupA pins s σ H x v vl vu lo hi sl Q I rx hs pl pu ?_
  obtain ⟨a, xs, e, ha, q⟩ := h
  refine ⟨a, xs, e, ha, fun hw => ?_, fun _ p hp => ?_⟩
  · refine q a H ?_ (Same.refl H)
    obtain ⟨h1, h2⟩ := hw
    unfold cutV
    rw [h1, h2, Nat.sub_zero, List.drop_zero, List.take_length]
    exact ha
  · exact q p _ (SqT.of upd_same) (Same.upd hp)
def rCatE (K : PySem.W.Frag) : R2 := fun x y H Q => ∃ a b xs ys, x = .ref a ∧ y = .ref b ∧ SqT K H a xs ∧ SqT K H b ys ∧ xs.length + ys.length ≤ 10000 ∧ ∀ p H', SqT K H' p (xs ++ ys) → Same H H' → Q (.ref p) H'
theorem op_catE : OpR X (binaryOp .Add) (rCatE X.K) := by
  intro pins s σ H x y v u Q I rx ry h
  refine op_catA pins s σ H x y v u Q I rx ry ?_
  obtain ⟨a, b, xs, ys, e1, e2, ha, hb, hl, q⟩ := h
  refine ⟨a, b, xs, ys, e1, e2, ha, hb, Nat.le_trans hl (by decide), fun h1 => ?_, fun _ h2 => ?_, fun _ _ p hp => ?_⟩
  · exact q b H (by rw [h1]; exact hb) (Same.refl H)
  · exact q a H (by rw [h2, List.append_nil]; exact ha) (Same.refl H)
  · exact q p _ (SqT.of upd_same) (Same.upd hp)
end
/-! ### a class's defs by their names -/
structure ClsC (K : PySem.W.Frag) (mg : Str → Option Value) (x : Str) (C : Addr) : Prop where
  cl : Cls K C
  mg : mg x = some (.ref C)
  ic : C8.InsC K C
  sf : PySem.W.selfFirst K C = true
structure Mn (P : Program) (w : World) (K : PySem.W.Frag) (mg : Str → Option Value) (base : Heap) (C : Addr) (m : Str) (k : Nat) (ps : List Str) (sp : Sp) : Prop where
  ex : ∃ (f : Addr) (fd : FuncData), Meth K C m f ∧ FnOk P w K mg base CX0 k f fd ps sp ∧ Binds K fd ps []
structure Pn (P : Program) (w : World) (K : PySem.W.Frag) (mg : Str → Option Value) (base : Heap) (C : Addr) (m : Str) (k : Nat) (sp : Sp) : Prop where
  ex : ∃ (p g : Addr) (fd : FuncData), PropOf K C m p g ∧ FnOk P w K mg base CX0 k g fd ["self"] sp ∧ Binds K fd ["self"] []
structure Sn (P : Program) (w : World) (K : PySem.W.Frag) (mg : Str → Option Value) (base : Heap) (C : Addr) (m : Str) (k : Nat) (ps : List Str) (sp : Sp) : Prop where
  ex : ∃ (p f : Addr) (fd : FuncData) (mc : Value), CRead K C mc ∧ SMet K C mc m p f ∧ FnOk P w K mg base CX0 k f fd ps sp ∧ PySem.W.keepIn K (.ref f) = true ∧ Binds K fd ps []
structure Cn (P : Program) (w : World) (K : PySem.W.Frag) (mg : Str → Option Value) (base : Heap) (C : Addr) (k : Nat) (sp : Sp) : Prop where
  ex : ∃ (f : Addr), Mk K C f ∧ FnR P w K mg base CX0 k f sp
structure On (P : Program) (w : World) (K : PySem.W.Frag) (mg : Str → Option Value) (base : Heap) (C : Addr) (m : Str) (k : Nat) (ps : List Str) (sp : Sp) : Prop where
  ex : ∃ (f : Addr) (fd : FuncData), PySem.W.findIn K (.ref C) m = some (some (.ref f)) ∧ PySem.W.isFn K (.ref f) = true ∧ FnOk P w K mg base CX0 k f fd ps sp ∧ Binds K fd ps []
section
variable {X : Cx} {k : Nat} {C : Addr} {ps : List Str} {sp : Sp} {E : XK} {x m : Str} {pn pos apos : Pos} {e o : Expr} {es : List Expr} {te ta : TE} {t : TA} {pl : Sem Bool}
theorem pe_cls (c : ClsC X.K X.mg x C) (hg : Gl X x) (hd : (x == ("__debug__" : Str)) = false := by decide) : PE X (.Name x pos) (tC (.ref C)) := pe_glob (v := .ref C) hg c.mg rfl hd
theorem pe_mn (D : Mn X.prog X.w X.K X.mg X.base C m k ps sp) (cl : Cls X.K C) (hr : Room k X.A) (hx : Passes CX0 X E) (he : PE X o ta) (ha : PA X (e :: es) t)
    (hst : starEach (e :: es) X.env = (false, eval e X.env) :: starEach es X.env := by rfl) (hpl : (backTo pos (starEach es X.env)).any (·.1) = false := by rfl)
    (ht : eval (.Call (.Attribute o m apos) (e :: es) [] pos) X.env = (do
      let ov ← eval o X.env
      standAt apos.atName
      let (f, first) ← holding [ov] (getMethod ov m pl)
      callWith pos f first (backTo pos (starEach (e :: es) X.env)) (backToKw pos (keywordEach [] X.env))) := by rfl) :
    PE X (.Call (.Attribute o m apos) (e :: es) [] pos) (tMeth C m sp [] E ta t) := by
  obtain ⟨f, fd, M, F, b⟩ := D.ex
  exact pe_meth (pl := pl) he cl M F hr b .nil hx ha hst hpl ht
theorem pe_mn0 (D : Mn X.prog X.w X.K X.mg X.base C m k ps sp) (cl : Cls X.K C) (hr : Room k X.A) (hx : Passes CX0 X E) (he : PE X o ta)
    (ht : eval (.Call (.Attribute o m apos) [] [] pos) X.env = (do
      let ov ← eval o X.env
      standAt apos.atName
      let (f, first) ← holding [ov] (getMethod ov m pl)
      callWith pos f first (backTo pos (starEach [] X.env)) (backToKw pos (keywordEach [] X.env))) := by rfl) :
    PE X (.Call (.Attribute o m apos) [] [] pos) (tMeth C m sp [] E ta tNil) := by
  obtain ⟨f, fd, M, F, b⟩ := D.ex
  exact pe_meth0 (pl := pl) he cl M F hr b .nil hx ht
theorem pe_pn (D : Pn X.prog X.w X.K X.mg X.base C m k sp) (cl : Cls X.K C) (hr : Room (k + 1) X.A) (he : PE X o ta) (hab : attributeBase o m X.env (eval o X.env) = eval o X.env := by rfl) : PE X (.Attribute o m pos) (tProp C sp [] E0 ta) := by
  obtain ⟨p, g, fd, hp, F, b⟩ := D.ex
  exact pe_prop he cl hp F hr b .nil pass0 hab
theorem pe_sn (D : Sn X.prog X.w X.K X.mg X.base C m k ps sp) (hr : Room k X.A) (hx : Passes CX0 X E) (he : PE X o ta) (ha : PA X (e :: es) t)
    (hst : starEach (e :: es) X.env = (false, eval e X.env) :: starEach es X.env := by rfl) (hpl : (backTo pos (starEach es X.env)).any (·.1) = false := by rfl)
    (ht : eval (.Call (.Attribute o m apos) (e :: es) [] pos) X.env = (do
      let ov ← eval o X.env
      standAt apos.atName
      let (f, first) ← holding [ov] (getMethod ov m pl)
      callWith pos f first (backTo pos (starEach (e :: es) X.env)) (backToKw pos (keywordEach [] X.env))) := by rfl) :
    PE X (.Call (.Attribute o m apos) (e :: es) [] pos) (tSMeth C sp [] E ta t) := by
  obtain ⟨p, f, fd, mc, r, c, F, kp, b⟩ := D.ex
  exact pe_smeth (pl := pl) he r c F hr kp b .nil hx ha hst hpl ht
theorem pe_mkR (D : Cn X.prog X.w X.K X.mg X.base C k sp) (hr : Room (k + 1) X.A) (hg : Gl X x) (hm : X.mg x = some (.ref C)) (hx : Passes CX0 X E) (ha : PA X (e :: es) t) (hdb : (x == ("__debug__" : Str)) = false := by decide)
    (he : starEach (e :: es) X.env = (false, eval e X.env) :: starEach es X.env := by rfl) (hpl : (backTo pos (starEach es X.env)).any (·.1) = false := by rfl) : PE X (.Call (.Name x pn) (e :: es) [] pos) (tMakeR C sp E t) := by
  obtain ⟨f, M, F⟩ := D.ex
  exact pe_makeR M F hr hg hm hx ha hdb he hpl
theorem pe_mkS {sp_ : Pos} (D : Cn X.prog X.w X.K X.mg X.base C k sp) (hr : Room (k + 1) X.A) (hg : Gl X x) (hm : X.mg x = some (.ref C)) (hx : Passes CX0 X E) (he : PE X e te) (hdb : (x == ("__debug__" : Str)) = false := by decide)
    (hst : starEach [.Starred e sp_] X.env = [(true, eval e X.env)] := by rfl) : PE X (.Call (.Name x pn) [.Starred e sp_] [] pos) (tMakeS X.K C sp E te) := by
  obtain ⟨f, M, F⟩ := D.ex
  exact pe_makeS M F hr hg hm hx he hdb hst
theorem op_addN (D : On X.prog X.w X.K X.mg X.base C "__add__" k ps sp) (c : ClsC X.K X.mg x C) (hr : Room k X.A) : OpR X (binaryOp .Add) (rOwn2 C sp E0) := by
  obtain ⟨f, fd, a, i, F, b⟩ := D.ex
  exact op_addO F hr c.sf a i b pass0
theorem op_eqN (D : On X.prog X.w X.K X.mg X.base C "__eq__" k ps sp) (hr : Room k X.A) : OpR X (compareOp .Eq) (rOwn2 C sp E0) := by
  obtain ⟨f, fd, a, i, F, b⟩ := D.ex
  exact op_eqO F hr a i b pass0
def rLenO (C : Addr) (sp : Sp) : List V → Hp → VK → Prop := fun xs H Q => ∃ a dx fs, xs = [.ref a] ∧ H a = some (.ins C dx fs) ∧ sp [.ref a] H (fun v H' => ∃ n : Nat, v = .int n ∧ n < 4611686018427387904 ∧ Q (.int n) H') E0
theorem call_lenN (D : On X.prog X.w X.K X.mg X.base C "__len__" k ps sp) (hr : Room (k + 1) X.A) : CallR X (.builtin "len") (rLenO C sp) := by
  obtain ⟨f, fd, a, i, F, b⟩ := D.ex
  exact call_lenO F hr a i b pass0
/-! a range kept as a value, walked -/
def iRngV (tl : TE) : TI := fun σ H R => tl σ H fun x H1 => ∃ a lo hi, x = .ref a ∧ H1 a = some (.rng lo hi) ∧ (-(2 ^ 62) ≤ lo ∧ lo < 2 ^ 62 ∧ -(2 ^ 62) ≤ hi ∧ hi < 2 ^ 62) ∧ R (Itr lo (hi - lo).toNat) H1
theorem pi_rng {tg l : Expr} {tl : TE} (hl : PE X l tl) : PI X tg l (iRngV tl) := by
  refine ⟨fun pins s σ H R I h => ?_⟩
  refine thn (hl.run pins s σ H _ I h) fun v s1 ⟨x, H1, I1, r1, q1⟩ => ?_
  obtain ⟨a, lo, hi, e, ha, ⟨h1, h2, h3, h4⟩, q⟩ := q1
  subst e
  cases r1
  obtain ⟨t, u, w', hg⟩ := I1.hok a _ ha
  refine wpAny_pyIter_range (show IsRange _ _ _ _ _ _ _ _ from hg) (small_one h1 h2 h3 h4) ?_
  refine ⟨s1.heap.objs.size, [s1.heap.objs.size], _, _, H1, rfl, I1.kept (t' := s1.toks) fun b o e => Heap.get?_push_of_some _ e, turn_range _ lo (hi - lo).toNat, ?_, fun b hb => ?_, q⟩
  · have e1 : lo + ((0 : Nat) : Int) * 1 = lo := by simp
    have e2 : (((hi - lo).toNat : Nat) : Int) - ((0 : Nat) : Int) = Builtin.Range.rangeSize lo hi 1 := by rw [rangeSize_one]; split <;> omega
    show IsRangeIter _ _ (lo + ((0 : Nat) : Int) * 1) ((((hi - lo).toNat : Nat) : Int) - ((0 : Nat) : Int)) 1
    rw [e1, e2]
    exact Heap.get?_push_size _ rfl
  · have e : b = s1.heap.objs.size := by simpa using hb
    subst e
    exact I1.fpOk (Nat.le_refl _) (I1.hok.fresh (Nat.le_refl _))
/-! the rules that name the written part, with its name given (for the element of a comprehension) -/
theorem ix_listK (K : PySem.W.Frag) (h : X.K = K := by rfl) : IxR X (rIxL K) := h ▸ ix_list
theorem ix_tupK (K : PySem.W.Frag) (h : X.K = K := by rfl) : IxR X (rIxT K) := h ▸ ix_tup
def rLenK (K : PySem.W.Frag) : List V → Hp → VK → Prop := fun xs H Q => ∃ p ys, xs = [.ref p] ∧ (SqL K H p ys ∨ SqT K H p ys) ∧ Q (.int ys.length) H
theorem call_lenK (K : PySem.W.Frag) (h : X.K = K := by rfl) : CallR X (.builtin "len") (rLenK K) := h ▸ call_len_seq
theorem cr_sumK (K : PySem.W.Frag) (hc : X.calm = true) (h : X.K = K := by rfl) : CallR X (.builtin "sum") (rSum K) := h ▸ cr_sum hc
theorem cr_minK (K : PySem.W.Frag) (hc : X.calm = true) (h : X.K = K := by rfl) : CallR X (.builtin "min") (rMin K) := h ▸ cr_min hc
theorem op_eqDK (K : PySem.W.Frag) (hu : X.A.units + 64 < cLine) (h : X.K = K := by rfl) : OpR X (compareOp .Eq) (rEqD K) := h ▸ op_eqD hu
def rIsqrt : List V → Hp → VK → Prop := fun vs H Q => ∃ a : Int, vs = [.int a] ∧ 0 ≤ a ∧ a < 2 ^ 64 ∧ ∀ r : Nat, r * r ≤ a.toNat → a.toNat < (r + 1) * (r + 1) → Q (.int (r : Int)) H
theorem cr_isqrt : CallR X (.builtin "math.isqrt") rIsqrt := by
  intro pins s σ H vs us Q I r h
  obtain ⟨a, rfl, h0, h1, q⟩ := h
  obtain ⟨u, rfl, t, rfl⟩ := Vals.one r
  have sp := PySem.Float64.isqrt_spec a.toNat
  exact PySem.W.mg_isqrt h0 h1 ⟨.int _, H, I.tok _, ⟨_, rfl⟩, q _ sp.1 sp.2⟩
theorem sl_listK (K : PySem.W.Frag) (h : X.K = K := by rfl) : SlR X (rSlL K) := h ▸ sl_list
theorem pe_fldK (K : PySem.W.Frag) {f : Str} (he : PE X e ta) (hb : attributeBase e f X.env (eval e X.env) = eval e X.env) (h : X.K = K := by rfl) : PE X (.Attribute e f pos) (tFld K ta f) := h ▸ pe_fld he hb
end
/-! ### what the top has written of a class -/
structure AtC (K : PySem.W.Frag) (x : Str) (C : Addr) : Prop where
  at_ : PySem.W.nsIn K mainGlobals x = some (some (.ref C))
  cl : Cls K C
  ic : C8.InsC K C
  sf : PySem.W.selfFirst K C = true
  made : PySem.W.makesIn K C = true
  kp : PySem.W.keepIn K (.ref C) = true
theorem atC {K : PySem.W.Frag} {x : Str} {C : Addr} (a : PySem.W.nsIn K mainGlobals x = some (some (.ref C))) (pg : PySem.W.plainGet K C Str.empty = true) (hd : PySem.W.hasDictIn K C = true) (po : PySem.W.plainOver K C = true) (sa : PySem.W.findIn K (.ref C) "__setattr__" = some (some (.builtin "object.__setattr__")))
    (ha : PySem.W.findIn K (.ref C) "__class__" = some (some (.builtin "object.__class__"))) (hn : PySem.W.specialIn K (.builtin "object.__class__") "__get__" = some (some (.builtin "getset_descriptor.__get__"))) (htk : PySem.W.takesIn K (.builtin "object.__class__") = some true)
    (hm : PySem.W.mroIn K C (.type "object") = some true) (sf : PySem.W.selfFirst K C = true) (mk : PySem.W.makesIn K C = true) (kp : PySem.W.keepIn K (.ref C) = true) : AtC K x C :=
  ⟨a, ⟨pg, hd, po, sa⟩, ⟨⟨pg, hd, po, sa⟩, ha, hn, htk, hm, by unfold PySem.W.kitOne; simp⟩, sf, mk, kp⟩
structure AtCls (K : PySem.W.Frag) (C : Addr) (m qual : Str) (st : Stmt) : Prop where
  ex : ∃ (f : Addr) (fd : FuncData), PySem.W.findIn K (.ref C) m = some (some (.ref f)) ∧ PySem.W.isFn K (.ref f) = true ∧ Fun K m qual st f fd
theorem atCls {K : PySem.W.Frag} {C f : Addr} {m qual : Str} {st : Stmt} {oc : Value} {od an : Option Addr} {osl : Array (Option Value)} {kV doc pm cdv ct : Value} (a : PySem.W.findIn K (.ref C) m = some (some (.ref f))) (i : PySem.W.isFn K (.ref f) = true)
    (l : K.lookup f = some ⟨oc, od, .func (PySem.W.fnOf m qual (defArgs st) (defBody st) (defScope st) .none kV doc pm an cdv ct), osl⟩) (c : PySem.W.codeIn K cdv qual = true) (p : PySem.W.keepIn K (.ref f) = true) : AtCls K C m qual st :=
  ⟨f, _, a, i, fun_mk l c p⟩
structure AtProp (K : PySem.W.Frag) (C : Addr) (m qual : Str) (st : Stmt) : Prop where
  ex : ∃ (p g : Addr) (fd : FuncData), PropOf K C m p g ∧ Fun K m qual st g fd
theorem atProp {K : PySem.W.Frag} {C p g : Addr} {m qual : Str} {st : Stmt} {oc : Value} {od an : Option Addr} {osl : Array (Option Value)} {kV doc pm cdv ct : Value} {rest : List Value} (a : PySem.W.findIn K (.ref C) m = some (some (.ref p))) (gt : PySem.W.specialIn K (.ref p) "__get__" = some (some (.builtin "property.__get__")))
    (tk : PySem.W.takesIn K (.ref p) = some true) (rc : PySem.W.recIn K p "property" = some (.ref g :: rest))
    (l : K.lookup g = some ⟨oc, od, .func (PySem.W.fnOf m qual (defArgs st) (defBody st) (defScope st) .none kV doc pm an cdv ct), osl⟩) (c : PySem.W.codeIn K cdv qual = true) (kp : PySem.W.keepIn K (.ref g) = true) : AtProp K C m qual st :=
  ⟨p, g, _, ⟨a, gt, tk, _, rc⟩, fun_mk l c kp⟩
structure AtStat (K : PySem.W.Frag) (C : Addr) (m qual : Str) (st : Stmt) : Prop where
  ex : ∃ (p g : Addr) (fd : FuncData) (mc : Value), CRead K C mc ∧ SMet K C mc m p g ∧ Fun K m qual st g fd
theorem atStat {K : PySem.W.Frag} {C p g : Addr} {m qual : Str} {st : Stmt} {oc mc : Value} {od an : Option Addr} {osl : Array (Option Value)} {kV doc pm cdv ct : Value} {rest : List Value} (_ty : PySem.W.typeIn K (.ref C) = some mc) (rd : PySem.W.readsIn K C mc = true)
    (ga : PySem.W.specialIn K (.ref C) "__getattribute__" = some (some (.builtin "type.__getattribute__"))) (fc : PySem.W.findCls K (.ref C) mc m = some (.get (.builtin "staticmethod.__get__") (.ref p) .none (.ref C))) (rc : PySem.W.recIn K p "staticmethod" = some (.ref g :: rest))
    (l : K.lookup g = some ⟨oc, od, .func (PySem.W.fnOf m qual (defArgs st) (defBody st) (defScope st) .none kV doc pm an cdv ct), osl⟩) (c : PySem.W.codeIn K cdv qual = true) (kp : PySem.W.keepIn K (.ref g) = true) : AtStat K C m qual st :=
  ⟨p, g, _, mc, ⟨rd, ga⟩, ⟨fc, _, rc⟩, fun_mk l c kp⟩
theorem cvAt {K : PySem.W.Frag} {C : Addr} {m : Str} {v : V} {mc u : Value} (_ty : PySem.W.typeIn K (.ref C) = some mc) (rd : PySem.W.readsIn K C mc = true)
    (ga : PySem.W.specialIn K (.ref C) "__getattribute__" = some (some (.builtin "type.__getattribute__"))) (fc : PySem.W.findCls K (.ref C) mc m = some (.val u)) (r : RelV v u) : ∃ mc u, CRead K C mc ∧ CVal K C mc m v u := ⟨mc, u, ⟨rd, ga⟩, ⟨fc, r⟩⟩
section
variable {P : Program} {w : World} {K : PySem.W.Frag} {mg : Str → Option Value} {base : Heap} {C : Addr} {x m qual : Str} {st : Stmt} {ps : List Str} {k : Nat} {sp : Sp} {h : Heap}
theorem AtC.cc (t : AtC K x C) (X : K.In h) (G : h.Ns mainGlobals mg) : ClsC K mg x C := ⟨t.cl, PySem.W.mg_of X G t.at_, t.ic, t.sf⟩
abbrev Bd (m qual : Str) (st : Stmt) (ps : List Str) : Prop := ∀ (kV doc pm : Value) (an : Option Addr) (cdv ct : Value) (us : List Value), us.length = ps.length → bindArgs (PySem.W.fnOf m qual (defArgs st) (defBody st) (defScope st) .none kV doc pm an cdv ct) ⟨us, []⟩ = pure (ps.zip us)
theorem AtCls.mn (t : AtCls K C m qual st) (hb : Bd m qual st ps) (ok : ∀ (f : Addr) (fd : FuncData), Fun K m qual st f fd → FnOk P w K mg base CX0 k f fd ps sp) : Mn P w K mg base C m k ps sp := by
  obtain ⟨f, fd, a, i, F⟩ := t.ex
  exact ⟨f, fd, ⟨a, i, F.kp⟩, ok f fd F, F.binds hb⟩
theorem AtCls.on (t : AtCls K C m qual st) (hb : Bd m qual st ps) (ok : ∀ (f : Addr) (fd : FuncData), Fun K m qual st f fd → FnOk P w K mg base CX0 k f fd ps sp) : On P w K mg base C m k ps sp := by
  obtain ⟨f, fd, a, i, F⟩ := t.ex
  exact ⟨f, fd, a, i, ok f fd F, F.binds hb⟩
theorem AtCls.cn (t : AtCls K C "__init__" qual st) (c : AtC K x C) (ok : ∀ (f : Addr) (fd : FuncData), Fun K "__init__" qual st f fd → FnR P w K mg base CX0 k f sp) : Cn P w K mg base C k sp := by
  obtain ⟨f, fd, a, i, F⟩ := t.ex
  exact ⟨f, ⟨c.made, a, i, c.kp⟩, ok f fd F⟩
theorem AtProp.pn (t : AtProp K C m qual st) (hb : Bd m qual st ["self"]) (ok : ∀ (f : Addr) (fd : FuncData), Fun K m qual st f fd → FnOk P w K mg base CX0 k f fd ["self"] sp) : Pn P w K mg base C m k sp := by
  obtain ⟨p, g, fd, a, F⟩ := t.ex
  exact ⟨p, g, fd, a, ok g fd F, F.binds hb⟩
theorem AtStat.sn (t : AtStat K C m qual st) (hb : Bd m qual st ps) (ok : ∀ (f : Addr) (fd : FuncData), Fun K m qual st f fd → FnOk P w K mg base CX0 k f fd ps sp) : Sn P w K mg base C m k ps sp := by
  obtain ⟨p, g, fd, mc, r, c, F⟩ := t.ex
  exact ⟨p, g, fd, mc, r, c, ok g fd F, F.kp, F.binds hb⟩
end
end Cl

/-! ### the checks and the draws that all laws share -/
namespace Cl
def top (i : Nat) : Stmt := PySem.Challenge.pw_carrylog_k05_houses_and_best_size.main.body.getD i (.Pass ⟨0, 0, 0, 0⟩)
abbrev sWall : Stmt := top 1
abbrev sInvalidinputInit : Stmt := inClass (top 4) 0
abbrev sIsWhole : Stmt := top 6
abbrev sCheckLeast : Stmt := top 7
abbrev sRoundInit : Stmt := inClass (top 9) 1
abbrev sRoundConstant : Stmt := inClass (top 9) 2
abbrev sRoundBudgets : Stmt := inClass (top 9) 3
abbrev sRoundLen : Stmt := inClass (top 9) 4
abbrev sRoundEq : Stmt := inClass (top 9) 5
abbrev sRoundAdd : Stmt := inClass (top 9) 6
abbrev sRoundAt : Stmt := inClass (top 9) 7
abbrev sRoundShifted : Stmt := inClass (top 9) 8
abbrev sRoundTotal : Stmt := inClass (top 9) 9
abbrev sRoundLeast : Stmt := inClass (top 9) 10
abbrev sRoundWorstStart : Stmt := inClass (top 9) 11
abbrev sRoundReach : Stmt := inClass (top 9) 12
abbrev sRoundTotals : Stmt := inClass (top 9) 13
abbrev sCheckRound : Stmt := top 10
abbrev sGreatestLimit : Stmt := top 12
abbrev sSegmentShare : Stmt := top 13
abbrev sSegmentsLimit : Stmt := top 14
abbrev sCompareHouses : Stmt := top 15
abbrev sBestSize : Stmt := top 16
abbrev sCheckOrder : Stmt := top 17
abbrev sPlacesLost : Stmt := top 18
abbrev sDivisors : Stmt := top 19
abbrev sLawIsNumber : Stmt := top 21
abbrev sLawBag : Stmt := top 22
abbrev sLawTake : Stmt := top 23
abbrev sLawNumber : Stmt := top 24
abbrev sLawMost : Stmt := top 25
abbrev sLawIsPair : Stmt := top 26
abbrev sLawHolds : Stmt := top 27
abbrev sLawCompareAgrees : Stmt := top 28
abbrev sLawDivisors : Stmt := top 29
abbrev sLawBest : Stmt := top 30
abbrev sLawBestAgrees : Stmt := top 31
abbrev sLawPlaces : Stmt := top 32
abbrev sLawLeastSize : Stmt := top 33
abbrev sLawTies : Stmt := top 34
abbrev sLawBudget : Stmt := top 35
abbrev sLawCase : Stmt := top 36
abbrev sLaw : Stmt := top 37
section
variable {P : Program} {w : World} {K : PySem.W.Frag} {mg : Str → Option Value} {base : Heap}
/-! is_whole, check_least, _law_is_number -/
def spIsWhole : Sp := fun vs H Q _ => ∃ (v : Int), vs = [.int v] ∧ Q (.bl true) H
theorem kit_ii (K : PySem.W.Frag) : PySem.W.kitOne K (.type "int") (.type "int") = some true := kit_ty (by decide +kernel)
theorem kit_ib (K : PySem.W.Frag) : PySem.W.kitOne K (.type "int") (.type "bool") = some false := kit_ty (by decide +kernel)
theorem scIsWhole : FnScope ["value"] ["value"] (defScope sIsWhole) := ⟨rfl, rfl, rfl, by decide +kernel, rfl, by decide +kernel, by decide +kernel⟩
theorem ok_is_whole {f : Addr} {fd : FuncData} (F : Fun K "is_whole" "is_whole" sIsWhole f fd) (B : Bi mg) : FnOk P w K mg base CX0 1 f fd ["value"] spIsWhole := by
  refine F.ok scIsWhole (fun vs H Q E h => ?_) (fun cdv A outer s H vs Q E hr h => ?_)
  · obtain ⟨v, rfl, _⟩ := h
    rfl
  · obtain ⟨v, rfl, k⟩ := h
    refine ⟨_, (pss_one (ps_ret (pe_and (pe_callB call_isi (by rfl) B.isinstance (by decide +kernel) (pa_cons (pv 0) (pa_cons (pe_bltn (v := .ty "int") (by rfl) B.intT (by decide +kernel) rfl) pa_nil))) (pe_one (pe_not (pe_callB call_isi (by rfl) B.isinstance (by decide +kernel) (pa_cons (pv 0) (pa_cons (pe_bltn (v := .ty "bool") (by rfl) B.boolT (by decide +kernel) rfl) pa_nil)))))))), ?_⟩
    refine ⟨_, rfl, _, _, _, _, _, rfl, .ty _, .base (.int _), kit_ii _, _, rfl, iteT ?_⟩
    exact ⟨_, rfl, _, _, _, _, _, rfl, .ty _, .base (.int _), kit_ib _, _, rfl, k⟩
def spCheckLeast : Sp := fun vs H Q _ => ∃ (v l : Int) (x : Str), vs = [.int v, .int l, .str x] ∧ l ≤ v ∧ Q .non H
theorem scCheckLeast : FnScope ["value", "least", "field"] ["value", "least", "field"] (defScope sCheckLeast) := ⟨rfl, rfl, rfl, by decide +kernel, rfl, by decide +kernel, by decide +kernel⟩
theorem ok_check_least {f : Addr} {fd : FuncData} (F : Fun K "check_least" "check_least" sCheckLeast f fd) (D_is_whole : Dn P w K mg base "is_whole" 1 ["value"] spIsWhole) : FnOk P w K mg base CX0 2 f fd ["value", "least", "field"] spCheckLeast := by
  refine F.ok scCheckLeast (fun vs H Q E h => ?_) (fun cdv A outer s H vs Q E hr h => ?_)
  · obtain ⟨v, l, x, rfl, _⟩ := h
    rfl
  · obtain ⟨v, l, x, rfl, hl, k⟩ := h
    refine ⟨_, (pss_one (ps_if (PW.pt (pw_or (pt_not (pt_val (pe_dn D_is_whole (hr.mono (by decide)) (by rfl) pass0 (pa_cons (pv 0) pa_nil)))) (pw_or1 (pt_cmpR op_lt (pv 0) (pv 1) (nomark _))))) (pss_one ps_never)
  pss_nil)), ?_⟩
    refine ⟨_, rfl, v, rfl, _, rfl, iteF ?_⟩
    walk_at "rd"
    rw [decide_eq_false (by omega)]
    exact iteF k
theorem scLawIsNumber : FnScope ["told"] ["told"] (defScope sLawIsNumber) := ⟨rfl, rfl, rfl, by decide +kernel, rfl, by decide +kernel, by decide +kernel⟩
theorem ok_is_number {f : Addr} {fd : FuncData} (F : Fun K "_law_is_number" "_law_is_number" sLawIsNumber f fd) (B : Bi mg) : FnOk P w K mg base CX0 1 f fd ["told"] spIsWhole := by
  refine F.ok scLawIsNumber (fun vs H Q E h => ?_) (fun cdv A outer s H vs Q E hr h => ?_)
  · obtain ⟨v, rfl, _⟩ := h
    rfl
  · obtain ⟨v, rfl, k⟩ := h
    refine ⟨_, (pss_one (ps_ret (pe_and (pe_callB call_isi (by rfl) B.isinstance (by decide +kernel) (pa_cons (pv 0) (pa_cons (pe_bltn (v := .ty "int") (by rfl) B.intT (by decide +kernel) rfl) pa_nil))) (pe_one (pe_not (pe_callB call_isi (by rfl) B.isinstance (by decide +kernel) (pa_cons (pv 0) (pa_cons (pe_bltn (v := .ty "bool") (by rfl) B.boolT (by decide +kernel) rfl) pa_nil)))))))), ?_⟩
    refine ⟨_, rfl, _, _, _, _, _, rfl, .ty _, .base (.int _), kit_ii _, _, rfl, iteT ?_⟩
    exact ⟨_, rfl, _, _, _, _, _, rfl, .ty _, .base (.int _), kit_ib _, _, rfl, k⟩
/-! the bag: what is drawn from it is any number of its range -/
def spTake : Sp := fun vs H Q _ => ∃ (a : Addr) (z : Int), vs = [.ref a, .int z] ∧ BagAt H a ∧ 1 ≤ z ∧ z ≤ 100000000000000000000000000000000000000000000000000000000000000 ∧ ∀ (d : Int) (H' : Hp), 0 ≤ d → d < z → BagAt H' a → But a H H' → Q (.int d) H'
theorem scLawTake : FnScope ["bag", "size", "digit", "found", "turn", "one", "two"] ["bag", "size"] (defScope sLawTake) := ⟨rfl, rfl, rfl, by decide +kernel, rfl, by decide +kernel, by decide +kernel⟩
theorem ok_take {f : Addr} {fd : FuncData} (F : Fun K "_law_take" "_law_take" sLawTake f fd) (B : Bi mg) : FnOk P w K mg base CX0 1 f fd ["bag", "size"] spTake := by
  refine F.ok scLawTake (fun vs H Q E h => ?_) (fun cdv A outer s H vs Q E hr h => ?_)
  · obtain ⟨a, z, rfl, _⟩ := h
    rfl
  · obtain ⟨a, z, rfl, ⟨c, t, s, ha⟩, z1, z2, k⟩ := h
    refine ⟨_, (pss_cons (ps_if (pt_cmpR op_gt (pe_ix ix_list (pv 0) pe_int (fun _ _ => rfl)) pe_int (nomark _)) (pss_cons (ps_set (i := 2) scLawTake.nd rfl (Or.inl rfl) (pe_op op_mod (pe_callTy call_int1 (by rfl) B.intT (by decide +kernel) (pa_cons (pe_ix ix_list (pv 0) pe_int (fun _ _ => rfl)) pa_nil)) (pv 1)))
  (pss_cons (ps_asg (pe_op op_fdivW (pe_ix ix_list (pv 0) pe_int (fun _ _ => rfl)) (pv 1)) (pg_sub (pv 0) pe_int set_list))
  (pss_one (ps_ret (pv 2)))))
  pss_nil)
  (pss_cons (ps_set (i := 3) scLawTake.nd rfl (Or.inl rfl) pe_int)
  (pss_cons (ps_for PassesOwn.never rfl (pi_range1 rfl B.range (pa_cons (pe_op op_add pe_int (pe_op op_fdiv (pe_callB call_len_str (by rfl) B.len PySem.boot_len (pa_cons (pe_callTy call_str_int (by rfl) B.strT (by decide +kernel) (pa_cons (pv 1) pa_nil)) pa_nil)) pe_int)) pa_nil)) (pg_name (i := 4) scLawTake.nd rfl (Or.inl rfl))
  (pss_cons (ps_asg (pe_op op_add (pe_ix ix_list (pv 0) pe_int (fun _ _ => rfl)) pe_int) (pg_sub (pv 0) pe_int set_list))
  (pss_cons (ps_set (i := 5) scLawTake.nd rfl (Or.inl rfl) (pe_op op_mod (pe_callTy call_int1 (by rfl) B.intT (by decide +kernel) (pa_cons (pe_op op_add (pe_op op_add (pe_op op_mul (pe_ix ix_list (pv 0) pe_int (fun _ _ => rfl)) pe_int) (pe_op op_mul (pe_ix ix_list (pv 0) pe_int (fun _ _ => rfl)) pe_int)) pe_int) pa_nil)) pe_int))
  (pss_cons (ps_set (i := 6) scLawTake.nd rfl (Or.inl rfl) (pe_op op_mod (pe_callTy call_int1 (by rfl) B.intT (by decide +kernel) (pa_cons (pe_op op_add (pe_op op_add (pe_op op_mulW (pv 5) (pv 5)) (pe_op op_mul (pe_ix ix_list (pv 0) pe_int (fun _ _ => rfl)) pe_int)) pe_int) pa_nil)) pe_int))
  (pss_one (ps_set (i := 3) scLawTake.nd rfl (Or.inl rfl) (pe_op op_add (pe_op op_mul (pv 3) pe_int) (pe_op op_fdiv (pe_op op_mod (pe_callTy call_int1 (by rfl) B.intT (by decide +kernel) (pa_cons (pe_op op_add (pe_op op_mulW (pv 6) (pv 6)) (pv 5)) pa_nil)) pe_int) pe_int))))))))
  (pss_one (ps_ret (pe_op op_mod (pe_callTy call_int1 (by rfl) B.intT (by decide +kernel) (pa_cons (pv 3) pa_nil)) (pv 1))))))), ?_⟩
    refine ⟨_, rfl, a, _, _, _, rfl, rfl, SqL.of ha, rfl, _, _, rfl, rfl, _, rfl, ?_⟩
    refine ite2 (fun _ => ?_) (fun _ => ?_)
    · refine ⟨_, rfl, a, _, _, _, rfl, rfl, SqL.of ha, rfl, .inl ⟨_, rfl, _, rfl, _, _, rfl, rfl, (by show (0 : Int) < z; omega), ?_⟩⟩
      refine ⟨_, rfl, a, _, _, _, rfl, rfl, SqL.of ha, rfl, _, rfl, _, _, rfl, rfl, divB (by omega) z2, ?_⟩
      refine ⟨_, rfl, a, _, _, 0, rfl, rfl, ha, rfl, _, rfl, ?_⟩
      exact k _ _ (Int.emod_nonneg _ (by omega)) (Int.emod_lt_of_pos _ (by omega)) ⟨_, _, _, upd_same⟩ But.upd
    · have hl := int_text_fits (strB (i := z) (by omega) z2)
      have hl2 : (PySem.sizeLine : Int) ≤ 100000000 := by rw [PySem.sizeLine_eq]; decide
      refine ⟨_, rfl, _, rfl, strB (by omega) z2, _, rfl, hl, ?_⟩
      walk_at "rd"
      refine ⟨?_, ?_, ?_⟩
      · have : 0 ≤ (((toString z : Str)).length : Int) / 7 := by omega
        omega
      · have : (((toString z : Str)).length : Int) ≤ 100000000 := Int.le_trans (Int.ofNat_le.mpr hl) hl2
        omega
      refine for_range (fun i σ H' => ∃ (x y u v : Option V) (n : Int), σ = [some (.ref a), some (.int z), x, some (.int n), y, u, v] ∧ BagAt H' a ∧ But a H H') ⟨_, _, _, _, 0, rfl, ⟨c, t, s, ha⟩, But.refl _ _⟩ ?_ ?_
      · rintro i σ H' _ ⟨x, y, u, v, n, rfl, ⟨c, t, s, ha⟩, hb⟩
        refine ⟨_, rfl, a, _, _, _, rfl, rfl, SqL.of ha, rfl, _, _, rfl, rfl, _, rfl, a, _, _, 1, rfl, rfl, ha, rfl, ?_⟩
        have ha' : upd H' a (.lst [.int c, .int (t + 1), .int s]) a = some (.lst [.int c, .int (t + 1), .int s]) := upd_same
        refine ⟨_, rfl, a, _, _, _, rfl, rfl, SqL.of ha', rfl, _, _, rfl, rfl, .inr ⟨by decide, by decide⟩, ?_⟩
        refine ⟨_, rfl, a, _, _, _, rfl, rfl, SqL.of ha', rfl, _, _, rfl, rfl, .inr ⟨by decide, by decide⟩, ?_⟩
        refine ⟨_, _, rfl, rfl, _, _, rfl, rfl, .inl ⟨_, rfl, _, _, rfl, rfl, (by show (0 : Int) < 2147483647; decide), ?_⟩⟩
        generalize hone : (s * 48271 + (t + 1) * 69621 + 12345) % 2147483647 = one
        have o1 : 0 ≤ one := by omega
        have o2 : one < 2147483647 := by omega
        refine ⟨_, rfl, _, rfl, _, _, rfl, rfl, mulB (by omega) (by omega) (by omega) (by omega), ?_⟩
        refine ⟨_, rfl, a, _, _, _, rfl, rfl, SqL.of ha', rfl, _, _, rfl, rfl, .inr ⟨by decide, by decide⟩, ?_⟩
        refine ⟨_, _, rfl, rfl, _, _, rfl, rfl, .inl ⟨_, rfl, _, _, rfl, rfl, (by show (0 : Int) < 2147483629; decide), ?_⟩⟩
        generalize htwo : (one * one + (t + 1) * 40692 + 777) % 2147483629 = two
        have w1 : 0 ≤ two := by omega
        have w2 : two < 2147483629 := by omega
        refine ⟨_, rfl, _, _, rfl, rfl, .inr ⟨by decide, by decide⟩, ?_⟩
        refine ⟨_, rfl, _, rfl, _, _, rfl, rfl, mulB (by omega) (by omega) (by omega) (by omega), ?_⟩
        refine ⟨_, rfl, _, _, rfl, rfl, .inl ⟨_, rfl, _, _, rfl, rfl, (by show (0 : Int) < 2147483587; decide), ?_⟩⟩
        refine ⟨_, _, rfl, rfl, ⟨by decide, by decide⟩, _, _, rfl, rfl, ?_⟩
        exact ⟨_, _, _, _, _, rfl, ⟨_, _, _, ha'⟩, hb.trans But.upd⟩
      · rintro σ H' ⟨x, y, u, v, n, rfl, hB, hb⟩
        refine ⟨_, rfl, .inl ⟨_, rfl, _, rfl, _, _, rfl, rfl, (by show (0 : Int) < z; omega), ?_⟩⟩
        exact k _ _ (Int.emod_nonneg _ (by omega)) (Int.emod_lt_of_pos _ (by omega)) hB hb
def spBag (K : PySem.W.Frag) : Sp := fun vs H Q _ => ∃ (a : Addr) (ns : List Int) (i : Nat), vs = [.ref a, .int i] ∧ SqL K H a (ns.map V.int) ∧ ∀ (p : Addr) (H' : Hp), H p = none → BagAt H' p → Same H H' → Q (.ref p) H'
theorem scLawBag : FnScope ["script", "k", "cell", "seed"] ["script", "k"] (defScope sLawBag) := ⟨rfl, rfl, rfl, by decide +kernel, rfl, by decide +kernel, by decide +kernel⟩
theorem ok_bag {f : Addr} {fd : FuncData} (F : Fun K "_law_bag" "_law_bag" sLawBag f fd) (B : Bi mg) : FnOk P w K mg base CX0 1 f fd ["script", "k"] (spBag K) := by
  refine F.ok scLawBag (fun vs H Q E h => ?_) (fun cdv A outer s H vs Q E hr h => ?_)
  · obtain ⟨a, ns, i, rfl, _⟩ := h
    rfl
  · obtain ⟨a, ns, i, rfl, hS, k⟩ := h
    refine ⟨_, (pss_cons (ps_set (i := 2) scLawBag.nd rfl (Or.inl rfl) pe_int)
  (pss_cons (ps_set (i := 3) scLawBag.nd rfl (Or.inl rfl) (pe_op op_add (pe_op op_mul (pe_op op_mod (pe_callTy call_int1 (by rfl) B.intT (by decide +kernel) (pa_cons (pe_callB (cr_sum rfl) (by rfl) B.sum (by decide +kernel) (pa_cons (pv 0) pa_nil)) pa_nil)) pe_int) pe_int) (pe_op op_mul pe_int (pv 1))))
  (pss_cons (ps_if (pt_cmpR op_lt (pv 1) (pe_callB call_len_seq (by rfl) B.len PySem.boot_len (pa_cons (pv 0) pa_nil)) (nomark _)) (pss_cons (ps_set (i := 2) scLawBag.nd rfl (Or.inl rfl) (pe_callB call_abs (by rfl) B.abs (by decide +kernel) (pa_cons (pe_callTy call_int1 (by rfl) B.intT (by decide +kernel) (pa_cons (pe_ix ix_list (pv 0) (pv 1) (fun _ _ => rfl)) pa_nil)) pa_nil)))
  (pss_one (ps_set (i := 3) scLawBag.nd rfl (Or.inl rfl) (pe_op op_add (pe_op op_add (pe_op op_mod (pe_callTy call_int1 (by rfl) B.intT (by decide +kernel) (pa_cons (pv 2) pa_nil)) pe_int) (pe_op op_mul pe_int (pe_callTy call_int1 (by rfl) B.intT (by decide +kernel) (pa_cons (pe_cmpR op_lt (pe_ix ix_list (pv 0) (pv 1) (fun _ _ => rfl)) pe_int (nomark _)) pa_nil)))) (pe_op op_mul pe_int (pv 1))))))
  pss_nil)
  (pss_cons (ps_if (pt_cmpR op_lt (pv 2) (pe_op op_pow pe_int pe_int) (nomark _)) (pss_one (ps_set (i := 2) scLawBag.nd rfl (Or.inl rfl) pe_int))
  pss_nil)
  (pss_one (ps_ret (pe_lst (pa_cons (pv 2) (pa_cons pe_int (pa_cons (pv 3) pa_nil)))))))))), ?_⟩
    refine ⟨_, rfl, _, _, rfl, hS, ?_⟩
    walk_at "rd"
    refine ⟨_, _, rfl, .inl hS, ?_⟩
    walk_at "rd"
    refine itd (fun h => ?_) (fun h => ?_)
    · have hi : i < (ns.map V.int).length := by omega
      obtain ⟨v, hv⟩ : ∃ v : Int, (ns.map V.int)[i]? = some (V.int v) := by
        rw [List.length_map] at hi
        exact ⟨ns[i], by rw [List.getElem?_map, List.getElem?_eq_getElem hi]; rfl⟩
      refine ⟨_, rfl, _, rfl, a, _, _, _, rfl, rfl, hS, atI_nat hv, ?_⟩
      walk_at "rd"
      refine ⟨a, _, _, _, rfl, rfl, hS, atI_nat hv, ?_⟩
      walk_at "rd"
      refine ite2 (fun _ => ?_) (fun _ => ?_)
      all_goals
        walk_at "rd"
        refine ⟨by show 3 ≤ sizeLine; decide, fun p hp => ?_⟩
        exact k p _ hp ⟨_, _, _, upd_same⟩ (Same.upd hp)
    · walk_at "rd"
      refine ⟨by show 3 ≤ sizeLine; decide, fun p hp => ?_⟩
      exact k p _ hp ⟨_, _, _, upd_same⟩ (Same.upd hp)
def spNumber : Sp := fun vs H Q _ => ∃ (a : Addr) (m : Int), vs = [.ref a, .int m] ∧ BagAt H a ∧ 0 ≤ m ∧ m ≤ 10000000000000000000000000000000000000000000000000000000000000 ∧ ∀ (d : Int) (H' : Hp), 0 ≤ d → d ≤ m → BagAt H' a → But a H H' → Q (.int d) H'
theorem scLawNumber : FnScope ["bag", "most", "way"] ["bag", "most"] (defScope sLawNumber) := ⟨rfl, rfl, rfl, by decide +kernel, rfl, by decide +kernel, by decide +kernel⟩
theorem ok_number {f : Addr} {fd : FuncData} (F : Fun K "_law_number" "_law_number" sLawNumber f fd) (B : Bi mg) (D__law_take : Dn P w K mg base "_law_take" 1 ["bag", "size"] spTake) : FnOk P w K mg base CX0 2 f fd ["bag", "most"] spNumber := by
  refine F.ok scLawNumber (fun vs H Q E h => ?_) (fun cdv A outer s H vs Q E hr h => ?_)
  · obtain ⟨a, m, rfl, _⟩ := h
    rfl
  · obtain ⟨a, m, rfl, hB, m0, m1, k⟩ := h
    refine ⟨_, (pss_cons (ps_set (i := 2) scLawNumber.nd rfl (Or.inl rfl) (pe_dn D__law_take (hr.mono (by decide)) (by rfl) pass0 (pa_cons (pv 0) (pa_cons pe_int pa_nil))))
  (pss_cons (ps_if (pt_cmpR op_lt (pv 2) pe_int (nomark _)) (pss_one (ps_ret (pe_callB (call_min2 rfl) (by rfl) B.min (by decide +kernel) (pa_cons (pv 1) (pa_cons (pe_dn D__law_take (hr.mono (by decide)) (by rfl) pass0 (pa_cons (pv 0) (pa_cons pe_int pa_nil))) pa_nil)))))
  pss_nil)
  (pss_cons (ps_if (pt_cmpR op_eq (pv 2) pe_int (nomark _)) (pss_one (ps_ret (pe_callB (call_min2 rfl) (by rfl) B.min (by decide +kernel) (pa_cons (pv 1) (pa_cons (pe_dn D__law_take (hr.mono (by decide)) (by rfl) pass0 (pa_cons (pv 0) (pa_cons pe_int pa_nil))) pa_nil)))))
  pss_nil)
  (pss_cons (ps_if (pt_cmpR op_eq (pv 2) pe_int (nomark _)) (pss_one (ps_ret (pe_op op_sub (pv 1) (pe_dn D__law_take (hr.mono (by decide)) (by rfl) pass0 (pa_cons (pv 0) (pa_cons (pe_callB (call_min2 rfl) (by rfl) B.min (by decide +kernel) (pa_cons (pe_op op_add (pv 1) pe_int) (pa_cons pe_int pa_nil))) pa_nil))))))
  pss_nil)
  (pss_cons (ps_if (pt_cmpR op_eq (pv 2) pe_int (nomark _)) (pss_one (ps_ret (pe_op op_fdivW (pe_dn D__law_take (hr.mono (by decide)) (by rfl) pass0 (pa_cons (pv 0) (pa_cons (pe_op op_add (pv 1) pe_int) pa_nil))) (pe_op op_add pe_int (pe_dn D__law_take (hr.mono (by decide)) (by rfl) pass0 (pa_cons (pv 0) (pa_cons (pe_op op_pow pe_int pe_int) pa_nil)))))))
  pss_nil)
  (pss_one (ps_ret (pe_dn D__law_take (hr.mono (by decide)) (by rfl) pass0 (pa_cons (pv 0) (pa_cons (pe_op op_add (pv 1) pe_int) pa_nil)))))))))), ?_⟩
    walk_at "rd"
    refine ⟨hB, by decide, by decide, fun way H1 _ _ hB1 b1 => ?_⟩
    walk_at "rd"
    refine itd (fun _ => ?_) (fun _ => ?_)
    · walk_at "rd"
      refine ⟨hB1, by decide, by decide, fun d H2 d0 d1 hB2 b2 => ?_⟩
      walk_at "rd"
      refine k _ _ ?_ ?_ hB2 (b1.trans b2)
      · split <;> omega
      · split <;> omega
    walk_at "rd"
    refine iti (fun _ => ?_) (fun _ => ?_)
    · walk_at "rd"
      refine ⟨hB1, by decide, by decide, fun d H2 d0 d1 hB2 b2 => ?_⟩
      walk_at "rd"
      refine k _ _ ?_ ?_ hB2 (b1.trans b2)
      · split <;> omega
      · split <;> omega
    walk_at "rd"
    refine iti (fun _ => ?_) (fun _ => ?_)
    · walk_at "rd"
      refine ⟨hB1, ?_, ?_, fun d H2 d0 d1 hB2 b2 => ?_⟩
      · split <;> omega
      · split <;> omega
      walk_at "rd"
      refine k _ _ ?_ ?_ hB2 (b1.trans b2)
      · split at d1 <;> omega
      · omega
    walk_at "rd"
    refine iti (fun _ => ?_) (fun _ => ?_)
    · walk_at "rd"
      refine ⟨hB1, by omega, by omega, fun d H2 d0 d1 hB2 b2 => ?_⟩
      walk_at "rd"
      refine ⟨hB2, by decide, by decide, fun e H3 e0 e1 hB3 b3 => ?_⟩
      have e2 : e < 1000000000000000 := e1
      walk_at "rd"
      refine ⟨divB (by omega) (by omega), k _ _ (Int.ediv_nonneg d0 (by omega)) ?_ hB3 ((b1.trans b2).trans b3)⟩
      exact Int.le_trans (Int.ediv_le_self _ d0) (by omega)
    walk_at "rd"
    exact ⟨hB1, by omega, by omega, fun d H2 d0 d1 hB2 b2 => k _ _ d0 (by omega) hB2 (b1.trans b2)⟩
end
end Cl

/-! ### the class Round -/
namespace Cl
open StX ClX
/-- the budgets of a Round -/
structure Okb (bs : List Int) : Prop where
  l1 : 1 ≤ bs.length
  l2 : bs.length ≤ 12
  nn : ∀ b, b ∈ bs → 0 ≤ b ∧ b ≤ 10000000000000000000000000000000
def bF (t : Addr) : List (Str × V) := [("_budgets", .ref t)]
def RoundAt (C : Addr) (H : Hp) (r : Addr) (bs : List Int) : Prop := ∃ dx t, H r = some (.ins C dx (bF t)) ∧ H t = some (.tup (bs.map V.int))
theorem RoundAt.same {C r : Addr} {H H' : Hp} {bs : List Int} (h : RoundAt C H r bs) (x : Same H H') : RoundAt C H' r bs := by
  obtain ⟨dx, t, h1, h2⟩ := h
  exact ⟨dx, t, x _ _ h1, x _ _ h2⟩
theorem RoundAt.but {C a r : Addr} {H H' : Hp} {bs : List Int} (h : RoundAt C H r bs) (x : But a H H') (b : BagAt H a) : RoundAt C H' r bs := by
  obtain ⟨dx, t, h1, h2⟩ := h
  obtain ⟨_, _, _, e⟩ := b
  exact ⟨dx, t, x _ _ (ne_of h1 e (by intro q; cases q)) h1, x _ _ (ne_of h2 e (by intro q; cases q)) h2⟩
theorem no_ (m : Str) (h : (m == ("_budgets" : Str)) = false) (t : Addr) : (bF t).lookup m = none := by
  unfold bF
  rw [List.lookup_cons, h]
  rfl
structure CV (K : PySem.W.Frag) (C : Addr) (m : Str) (v : V) : Prop where
  ex : ∃ mc u, CRead K C mc ∧ CVal K C mc m v u
section
variable {P : Program} {w : World} {K : PySem.W.Frag} {mg : Str → Option Value} {base : Heap} {C : Addr}
/-! making one -/
def spInit (C : Addr) : Sp := fun vs H Q _ => ∃ (x dx : Addr) (bs : List Int), vs = .ref x :: bs.map V.int ∧ H x = some (.ins C dx []) ∧ Okb bs ∧
  ∀ (t : Addr) (H' : Hp), H t = none → H' x = some (.ins C dx (bF t)) → H' t = some (.tup (bs.map V.int)) → (∀ b o, b ≠ x → H b = some o → H' b = some o) → Q .non H'
theorem scRoundInit : FnScope ["self", "budgets", "budget"] ["self", "budgets"] (defScope sRoundInit) := ⟨rfl, rfl, rfl, by decide +kernel, rfl, by decide +kernel, by decide +kernel⟩
theorem ok_Round_init {f : Addr} {fd : FuncData} (F : Fun K "__init__" "Round.__init__" sRoundInit f fd) (B : Bi mg) (R_Round : ClsC K mg "Round" C) (N_Round : NoAttr K C "_budgets") (V_Round : CV K C "MOST" (.int 12))
    (D_check_least : Dn P w K mg base "check_least" 2 ["value", "least", "field"] spCheckLeast) : FnR P w K mg base CX0 3 f (spInit C) := by
  obtain ⟨oc, od, kV, doc, pm, an, cdv, ct, osl, rfl, lk, hcd⟩ := F.ex
  refine FnR.imp (fn_star (ps := ["self"]) (pv := "budgets") (sp := fun vs H Q _ => ∃ (x dx t : Addr) (bs : List Int), vs = [.ref x, .ref t] ∧ H x = some (.ins C dx []) ∧ H t = some (.tup (bs.map V.int)) ∧ Okb bs ∧
    ∀ (H' : Hp), H' x = some (.ins C dx (bF t)) → (∀ b o, b ≠ x → H b = some o → H' b = some o) → Q .non H') lk hcd scRoundInit cxUp_none (bind_star1 (B := fun us => bindArgs (PySem.W.fnOf "__init__" "Round.__init__" (defArgs sRoundInit) (defBody sRoundInit) (defScope sRoundInit) .none kV doc pm an cdv ct) ⟨us, []⟩) (p1 := "self") (pv := "budgets") (fun _ => rfl) (fun _ _ _ => rfl)) ?_) ?_
  · rintro A outer s H vs Q E hr ⟨x, dx, t, bs, rfl, hx, ht, ok, k⟩
    refine ⟨_, PSs.nox (pss_cons (ps_if (pt_not (pt_chain op_le op_le pe_int (pe_callB call_len_seq (by rfl) B.len PySem.boot_len (pa_cons (pv 1) pa_nil)) (pe_cval (pe_cls R_Round rfl)))) (pss_one ps_never)
  pss_nil)
  (pss_cons (ps_for PassesOwn.never rfl (pi_tup (pv 1)) (pg_name (i := 2) scRoundInit.nd rfl (Or.inl rfl))
  (pss_one (ps_expr (pe_dn D_check_least (hr.mono (by decide)) (by rfl) pass0 (pa_cons (pv 2) (pa_cons pe_int (pa_cons pe_str pa_nil)))))))
  (pss_one (ps_fld (pv 0) (pv 1) rfl)))), ?_⟩
    obtain ⟨mc, u, hrd, hcv⟩ := V_Round.ex
    have hl : (bs.map V.int).length = bs.length := List.length_map ..
    walk_at "rd"
    refine ⟨t, _, rfl, .inr (SqT.of ht), ?_⟩
    walk_at "rd"
    rw [decide_eq_true (by have := ok.l1; omega)]
    refine iteT ?_
    walk_at "rd"
    refine ⟨C, mc, _, u, rfl, hrd, hcv, ?_⟩
    walk_at "rd"
    rw [decide_eq_true (by have := ok.l2; omega)]
    walk_at "rd"
    refine ⟨⟨_, SqT.of ht⟩, for_tup (K := K) (a := t) (xs := bs.map V.int) (fun i σ H' => ∃ v, σ = [some (.ref x), some (.ref t), v] ∧ H' = H) ⟨_, rfl, rfl⟩ (fun i σ H' _ ⟨_, _, e⟩ => by rw [e]; exact SqT.of ht) ?_ ?_⟩
    · rintro i y σ H' hi ⟨v, rfl, rfl⟩
      obtain ⟨z, hz, rfl⟩ : ∃ z, bs[i]? = some z ∧ y = V.int z := by
        rw [List.getElem?_map] at hi
        cases e : bs[i]? with
        | none => rw [e] at hi; cases hi
        | some z => rw [e] at hi; exact ⟨z, rfl, (Option.some.inj hi).symm⟩
      walk_at "rd"
      exact ⟨(ok.nn z (List.mem_of_getElem? hz)).1, _, rfl, rfl⟩
    · rintro σ H' ⟨v, rfl, rfl⟩
      refine ⟨_, rfl, _, rfl, x, C, dx, _, rfl, hx, R_Round.cl, N_Round, (by show 0 < 1000; decide), ?_⟩
      exact k _ upd_same fun b o n e => by rw [upd_ne n]; exact e
  · rintro vs H Q E ⟨x, dx, bs, rfl, hx, ok, k⟩
    refine ⟨[.ref x], bs.map V.int, rfl, rfl, ?_, fun t ht => ⟨x, dx, t, bs, rfl, ?_, upd_same, ok, fun H' h1 h2 => ?_⟩⟩
    · rw [List.length_map]
      exact Nat.le_trans ok.l2 (by decide)
    · rw [upd_ne (ne_of_none hx ht)]; exact hx
    · have ntx : t ≠ x := (ne_of_none hx ht).symm
      refine k t H' ht h1 (h2 t _ ntx upd_same) fun b o n e => h2 b o n ?_
      rw [upd_ne (ne_of_none e ht)]; exact e
/-- what the reading of Round(..) asks, from what a caller has -/
theorem mkRound {vs : List V} {H : Hp} {Q : VK} {E : XK} (h : ∃ bs : List Int, vs = bs.map V.int ∧ Okb bs ∧ ∀ (x : Addr) (H' : Hp), H x = none → RoundAt C H' x bs → Same H H' → Q (.ref x) H') :
    ∀ x dx, H x = Option.none → H dx = Option.none → dx ≠ x → spInit C (V.ref x :: vs) (upd (upd H dx (.own x)) x (.ins C dx [])) (fun v H2 => v = .non ∧ Q (.ref x) H2) E := by
  obtain ⟨bs, rfl, ok, k⟩ := h
  intro x dx hx hdx nd
  refine ⟨x, dx, bs, rfl, upd_same, ok, fun t H' ht h1 h2 h3 => ⟨rfl, k x H' hx ⟨dx, t, h1, h2⟩ fun b o e => ?_⟩⟩
  refine h3 b o (ne_of_none e hx) ?_
  rw [upd_ne (ne_of_none e hx), upd_ne (ne_of_none e hdx)]
  exact e
theorem mkRoundX {vs : List V} {H : Hp} {Qx : Addr → Hp → Prop} {E : XK} (h : ∃ bs : List Int, vs = bs.map V.int ∧ Okb bs ∧ ∀ (x : Addr) (H' : Hp), H x = none → RoundAt C H' x bs → Same H H' → Qx x H') :
    ∀ x dx, H x = Option.none → H dx = Option.none → dx ≠ x → spInit C (V.ref x :: vs) (upd (upd H dx (.own x)) x (.ins C dx [])) (fun v H2 => v = .non ∧ Qx x H2) E := by
  obtain ⟨bs, rfl, ok, k⟩ := h
  intro x dx hx hdx nd
  refine ⟨x, dx, bs, rfl, upd_same, ok, fun t H' ht h1 h2 h3 => ⟨rfl, k x H' hx ⟨dx, t, h1, h2⟩ fun b o e => ?_⟩⟩
  refine h3 b o (ne_of_none e hx) ?_
  rw [upd_ne (ne_of_none e hx), upd_ne (ne_of_none e hdx)]
  exact e
def spConst (C : Addr) : Sp := fun vs H Q _ => ∃ (b : Int), vs = [.int b] ∧ 0 ≤ b ∧ b ≤ 10000000000000000000000000000000 ∧ ∀ (x : Addr) (H' : Hp), H x = none → RoundAt C H' x [b] → Same H H' → Q (.ref x) H'
theorem ok1 {b : Int} (h0 : 0 ≤ b) (h1 : b ≤ 10000000000000000000000000000000) : Okb [b] := ⟨by simp, by simp, fun x hx => by simp at hx; subst hx; exact ⟨h0, h1⟩⟩
theorem scRoundConstant : FnScope ["budget"] ["budget"] (defScope sRoundConstant) := ⟨rfl, rfl, rfl, by decide +kernel, rfl, by decide +kernel, by decide +kernel⟩
theorem ok_Round_constant {f : Addr} {fd : FuncData} (F : Fun K "constant" "Round.constant" sRoundConstant f fd) (R_Round : ClsC K mg "Round" C) (MK_Round : Cn P w K mg base C 3 (spInit C)) : FnOk P w K mg base CX0 5 f fd ["budget"] (spConst C) := by
  refine F.ok scRoundConstant (fun vs H Q E h => ?_) (fun cdv A outer s H vs Q E hr h => ?_)
  · obtain ⟨b, rfl, _⟩ := h
    rfl
  · obtain ⟨b, rfl, b0, b1, k⟩ := h
    refine ⟨_, (pss_one (ps_ret (pe_mkR MK_Round (hr.mono (by decide)) rfl R_Round.mg pass0 (pa_cons (pv 0) pa_nil)))), ?_⟩
    walk_at "rd"
    exact mkRound ⟨[b], rfl, ok1 b0 b1, k⟩
/-! its properties and methods -/
def spBudgets (C : Addr) : Sp := fun vs H Q _ => ∃ (r : Addr) (bs : List Int), vs = [.ref r] ∧ RoundAt C H r bs ∧ ∀ (p : Addr), H p = none → Q (.ref p) (upd H p (.lst (bs.map V.int)))
theorem scRoundBudgets : FnScope ["self"] ["self"] (defScope sRoundBudgets) := ⟨rfl, rfl, rfl, by decide +kernel, rfl, by decide +kernel, by decide +kernel⟩
theorem ok_Round_budgets {f : Addr} {fd : FuncData} (F : Fun K "budgets" "Round.budgets" sRoundBudgets f fd) (B : Bi mg) (R_Round : ClsC K mg "Round" C) (N_Round : NoAttr K C "_budgets") : FnOk P w K mg base CX0 1 f fd ["self"] (spBudgets C) := by
  refine F.ok scRoundBudgets (fun vs H Q E h => ?_) (fun cdv A outer s H vs Q E hr h => ?_)
  · obtain ⟨r, bs, rfl, _⟩ := h
    rfl
  · obtain ⟨r, bs, rfl, ⟨dx, t, h1, h2⟩, k⟩ := h
    refine ⟨_, (pss_one (ps_ret (pe_callTy call_list_of (by rfl) B.listT (by decide +kernel) (pa_cons (pe_fld (pv 0) rfl) pa_nil)))), ?_⟩
    refine ⟨_, rfl, r, C, dx, _, _, rfl, h1, R_Round.cl, N_Round, rfl, t, _, rfl, .inr (SqT.of h2), k⟩
def spLen (C : Addr) : Sp := fun vs H Q _ => ∃ (r : Addr) (bs : List Int), vs = [.ref r] ∧ RoundAt C H r bs ∧ Q (.int bs.length) H
theorem scRoundLen : FnScope ["self"] ["self"] (defScope sRoundLen) := ⟨rfl, rfl, rfl, by decide +kernel, rfl, by decide +kernel, by decide +kernel⟩
theorem ok_Round_len {f : Addr} {fd : FuncData} (F : Fun K "__len__" "Round.__len__" sRoundLen f fd) (B : Bi mg) (R_Round : ClsC K mg "Round" C) (N_Round : NoAttr K C "_budgets") : FnOk P w K mg base CX0 1 f fd ["self"] (spLen C) := by
  refine F.ok scRoundLen (fun vs H Q E h => ?_) (fun cdv A outer s H vs Q E hr h => ?_)
  · obtain ⟨r, bs, rfl, _⟩ := h
    rfl
  · obtain ⟨r, bs, rfl, ⟨dx, t, h1, h2⟩, k⟩ := h
    refine ⟨_, (pss_one (ps_ret (pe_callB call_len_seq (by rfl) B.len PySem.boot_len (pa_cons (pe_fld (pv 0) rfl) pa_nil)))), ?_⟩
    refine ⟨_, rfl, r, C, dx, _, _, rfl, h1, R_Round.cl, N_Round, rfl, t, _, rfl, .inr (SqT.of h2), ?_⟩
    have e : ((bs.map V.int).length : Int) = bs.length := by rw [List.length_map]
    rw [e]
    exact k
theorem eqvAll_ints : ∀ (as bs : List Int), PyData.eqvAll (as.map PyData.int) (bs.map PyData.int) = decide (as = bs)
  | [], [] => by simp [PyData.eqvAll]
  | [], b :: bs => by simp [PyData.eqvAll]
  | a :: as, [] => by simp [PyData.eqvAll]
  | a :: as, b :: bs => by
    simp only [List.map_cons, PyData.eqvAll, PyData.eqv, eqvAll_ints as bs, List.cons.injEq]
    by_cases h : a = b
    · subst h; simp
    · simp [h]
theorem dpAll_ints {K : PySem.W.Frag} {H : Hp} : ∀ (as : List Int), DpAll K H (as.map V.int) (as.map PyData.int)
  | [] => .nil
  | a :: as => .cons (.int a) (dpAll_ints as)
theorem lay_ints : ∀ (as : List Int), PyData.canLayAll0 (as.map PyData.int) = true
  | [] => rfl
  | a :: as => by simp only [List.map_cons, PyData.canLayAll0, PyData.canLay0, lay_ints as]; rfl
theorem dep_ints : ∀ (as : List Int), PyData.depthAll (as.map PyData.int) = 0
  | [] => rfl
  | a :: as => by simp only [List.map_cons, PyData.depthAll, PyData.depth, dep_ints as]; rfl
theorem shaped_tup (as : List Int) : SeqAt.shaped (.tuple (as.map PyData.int)) = true := by
  show (PyData.canLayAll0 (as.map PyData.int) && decide (PyData.depthAll (as.map PyData.int) + 1 ≤ 64)) = true
  rw [lay_ints, dep_ints]; rfl
theorem shaped_lst (as : List Int) : SeqAt.shaped (.list (as.map PyData.int)) = true := by
  show (PyData.canLayAll0 (as.map PyData.int) && decide (PyData.depthAll (as.map PyData.int) + 1 ≤ 64)) = true
  rw [lay_ints, dep_ints]; rfl
def spEqR (C : Addr) : Sp := fun vs H Q _ => ∃ (r q : Addr) (as bs : List Int), vs = [.ref r, .ref q] ∧ RoundAt C H r as ∧ RoundAt C H q bs ∧ Q (.bl (decide (as = bs))) H
theorem scRoundEq : FnScope ["self", "other"] ["self", "other"] (defScope sRoundEq) := ⟨rfl, rfl, rfl, by decide +kernel, rfl, by decide +kernel, by decide +kernel⟩
theorem ok_Round_eq {f : Addr} {fd : FuncData} (F : Fun K "__eq__" "Round.__eq__" sRoundEq f fd) (B : Bi mg) (R_Round : ClsC K mg "Round" C) (N_Round : NoAttr K C "_budgets") : FnOk P w K mg base CX0 1 f fd ["self", "other"] (spEqR C) := by
  refine F.ok scRoundEq (fun vs H Q E h => ?_) (fun cdv A outer s H vs Q E hr h => ?_)
  · obtain ⟨r, q, as, bs, rfl, _⟩ := h
    rfl
  · obtain ⟨r, q, as, bs, rfl, ⟨dx, t, h1, h2⟩, ⟨dy, u, g1, g2⟩, k⟩ := h
    refine ⟨_, (pss_one (ps_ret (pe_and (pe_callB (C8.call_isC R_Round.ic) (by rfl) B.isinstance (by decide +kernel) (pa_cons (pv 1) (pa_cons (pe_cls R_Round rfl) pa_nil))) (pe_one (pe_cmpR (op_eqD hr.units) (pe_fld (pv 0) rfl) (pe_fld (pv 1) rfl) (nomark _)))))), ?_⟩
    refine ⟨_, rfl, q, dy, _, rfl, g1, _, rfl, iteT ?_⟩
    refine ⟨_, rfl, r, C, dx, _, _, rfl, h1, R_Round.cl, N_Round, rfl, _, rfl, q, C, dy, _, _, rfl, g1, R_Round.cl, N_Round, rfl, .tuple (as.map .int), .tuple (bs.map .int), .tup (SqT.of h2) (dpAll_ints as), .tup (SqT.of g2) (dpAll_ints bs), ?_, ?_, ?_⟩
    · exact shaped_tup as
    · exact shaped_tup bs
    · show Q (.bl (PyData.eqvAll (as.map .int) (bs.map .int))) H
      rw [eqvAll_ints]
      exact k
def spAddR (C : Addr) : Sp := fun vs H Q _ => ∃ (r q : Addr) (as bs : List Int), vs = [.ref r, .ref q] ∧ RoundAt C H r as ∧ RoundAt C H q bs ∧ Okb as ∧ Okb bs ∧ as.length + bs.length ≤ 12 ∧ ∀ (x : Addr) (H' : Hp), H x = none → RoundAt C H' x (as ++ bs) → Same H H' → Q (.ref x) H'
theorem Okb.app {as bs : List Int} (a : Okb as) (b : Okb bs) (h : as.length + bs.length ≤ 12) : Okb (as ++ bs) :=
  ⟨by rw [List.length_append]; have := a.l1; omega, by rw [List.length_append]; exact h, fun x hx => (List.mem_append.mp hx).elim (a.nn x) (b.nn x)⟩
theorem scRoundAdd : FnScope ["self", "other", "both"] ["self", "other"] (defScope sRoundAdd) := ⟨rfl, rfl, rfl, by decide +kernel, rfl, by decide +kernel, by decide +kernel⟩
theorem ok_Round_add {f : Addr} {fd : FuncData} (F : Fun K "__add__" "Round.__add__" sRoundAdd f fd) (B : Bi mg) (R_Round : ClsC K mg "Round" C) (N_Round : NoAttr K C "_budgets") (MK_Round : Cn P w K mg base C 3 (spInit C)) : FnOk P w K mg base CX0 5 f fd ["self", "other"] (spAddR C) := by
  refine F.ok scRoundAdd (fun vs H Q E h => ?_) (fun cdv A outer s H vs Q E hr h => ?_)
  · obtain ⟨r, q, as, bs, rfl, _⟩ := h
    rfl
  · obtain ⟨r, q, as, bs, rfl, ⟨dx, t, h1, h2⟩, ⟨dy, u, g1, g2⟩, oa, ob, hl, k⟩ := h
    refine ⟨_, (pss_cons (ps_if (pt_not (pt_val (pe_callB (C8.call_isC R_Round.ic) (by rfl) B.isinstance (by decide +kernel) (pa_cons (pv 1) (pa_cons (pe_cls R_Round rfl) pa_nil))))) (pss_one ps_never)
  pss_nil)
  (pss_cons (ps_set (i := 2) scRoundAdd.nd rfl (Or.inl rfl) (pe_op op_catE (pe_fld (pv 0) rfl) (pe_fld (pv 1) rfl)))
  (pss_one (ps_ret (pe_mkS MK_Round (hr.mono (by decide)) rfl R_Round.mg pass0 (pv 2)))))), ?_⟩
    refine ⟨_, rfl, q, dy, _, rfl, g1, ?_⟩
    walk_at "rd"
    refine ⟨r, C, dx, _, _, rfl, h1, R_Round.cl, N_Round, rfl, ?_⟩
    refine ⟨_, rfl, q, C, dy, _, _, rfl, g1, R_Round.cl, N_Round, rfl, ?_⟩
    refine ⟨_, _, _, _, rfl, rfl, SqT.of h2, SqT.of g2, by rw [List.length_map, List.length_map]; omega, fun p H1 hp e1 => ?_⟩
    walk_at "rd"
    refine ⟨p, _, rfl, .inl hp, ?_⟩
    intro x dx' hx hdx nd
    exact mkRound (E := E0) ⟨as ++ bs, by rw [List.map_append], oa.app ob hl, fun x H2 hx h3 e2 => k x H2 (e1.free hx) h3 (e1.trans e2)⟩ x dx' hx hdx nd
def spAt (C : Addr) : Sp := fun vs H Q _ => ∃ (r : Addr) (bs : List Int) (t v : Int), vs = [.ref r, .int t] ∧ RoundAt C H r bs ∧ Okb bs ∧ 0 ≤ t ∧ bs[(t % bs.length).toNat]? = some v ∧ Q (.int v) H
theorem scRoundAt : FnScope ["self", "t"] ["self", "t"] (defScope sRoundAt) := ⟨rfl, rfl, rfl, by decide +kernel, rfl, by decide +kernel, by decide +kernel⟩
theorem ok_Round_at {f : Addr} {fd : FuncData} (F : Fun K "at" "Round.at" sRoundAt f fd) (B : Bi mg) (R_Round : ClsC K mg "Round" C) (N_Round : NoAttr K C "_budgets") (D_check_least : Dn P w K mg base "check_least" 2 ["value", "least", "field"] spCheckLeast) :
    FnOk P w K mg base CX0 3 f fd ["self", "t"] (spAt C) := by
  refine F.ok scRoundAt (fun vs H Q E h => ?_) (fun cdv A outer s H vs Q E hr h => ?_)
  · obtain ⟨r, bs, t, v, rfl, _⟩ := h
    rfl
  · obtain ⟨r, bs, m, v, rfl, ⟨dx, t, h1, h2⟩, ok, m0, hv, k⟩ := h
    refine ⟨_, (pss_cons (ps_expr (pe_dn D_check_least (hr.mono (by decide)) (by rfl) pass0 (pa_cons (pv 1) (pa_cons pe_int (pa_cons pe_str pa_nil)))))
  (pss_one (ps_ret (pe_ix ix_tup (pe_fld (pv 0) rfl) (pe_op op_mod (pv 1) (pe_callB call_len_seq (by rfl) B.len PySem.boot_len (pa_cons (pe_fld (pv 0) rfl) pa_nil))) (fun _ _ => rfl))))), ?_⟩
    have hl : (bs.map V.int).length = bs.length := List.length_map ..
    have l1 := ok.l1
    walk_at "rd"
    refine ⟨m0, ?_⟩
    refine ⟨_, rfl, r, C, dx, _, _, rfl, h1, R_Round.cl, N_Round, rfl, ?_⟩
    refine ⟨_, rfl, _, rfl, r, C, dx, _, _, rfl, h1, R_Round.cl, N_Round, rfl, t, _, rfl, .inr (SqT.of h2), ?_⟩
    refine ⟨_, _, rfl, rfl, (by show (0 : Int) < ((bs.map V.int).length : Int); omega), ?_⟩
    refine ⟨t, _, _, _, rfl, rfl, SqT.of h2, at_of (j := (m % bs.length).toNat) (v := .int v) ?_ ?_, k⟩
    · rw [hl]
      have := Int.emod_nonneg m (show (bs.length : Int) ≠ 0 by omega)
      omega
    · rw [List.getElem?_map, hv]; rfl
/-- the list from this place on, around -/
def rot (bs : List Int) (f : Nat) : List Int := bs.drop f ++ bs.take f
theorem rot_len {bs : List Int} {f : Nat} (h : f ≤ bs.length) : (rot bs f).length = bs.length := by
  unfold rot
  rw [List.length_append, List.length_drop, List.length_take]; omega
theorem Okb.rot {bs : List Int} {f : Nat} (o : Okb bs) (h : f ≤ bs.length) : Okb (rot bs f) :=
  ⟨by rw [rot_len h]; exact o.l1, by rw [rot_len h]; exact o.l2, fun b hb => o.nn b ((List.mem_append.mp hb).elim List.mem_of_mem_drop List.mem_of_mem_take)⟩
theorem cut_from {xs : List V} {f : Nat} : cutV xs (some (f : Int)) none = xs.drop f := by
  unfold cutV
  rw [HT.sIx_nat, HT.sIx_none]
  by_cases h : f ≤ xs.length
  · rw [Nat.min_eq_left h, List.take_of_length_le (by rw [List.length_drop]; omega)]
  · rw [Nat.min_eq_right (by omega), List.drop_length, List.drop_eq_nil_iff.mpr (by omega)]; simp
theorem cut_to {xs : List V} {f : Nat} : cutV xs none (some (f : Int)) = xs.take f := by
  unfold cutV
  rw [HT.sIx_nat, HT.sIx_none, Nat.sub_zero, List.drop_zero]
  by_cases h : f ≤ xs.length
  · rw [Nat.min_eq_left h]
  · rw [Nat.min_eq_right (by omega), List.take_length, List.take_of_length_le (by omega)]
theorem cut_both {xs : List V} {f g : Nat} (h : g ≤ xs.length) (h2 : f ≤ g) : cutV xs (some (f : Int)) (some (g : Int)) = (xs.drop f).take (g - f) := by
  unfold cutV
  rw [HT.sIx_nat, HT.sIx_nat, Nat.min_eq_left h, Nat.min_eq_left (by omega)]
def spShifted (C : Addr) : Sp := fun vs H Q _ => ∃ (r : Addr) (bs : List Int) (m : Int), vs = [.ref r, .int m] ∧ RoundAt C H r bs ∧ Okb bs ∧ 0 ≤ m ∧ ∀ (x : Addr) (H' : Hp), H x = none → RoundAt C H' x (rot bs (m % bs.length).toNat) → Same H H' → Q (.ref x) H'
/-- what total reckons -/
def tot (bs : List Int) (s c : Int) : Int := c / bs.length * bs.sum + (((bs ++ bs).drop (s % bs.length).toNat).take (c % bs.length).toNat).sum
theorem sum_le : ∀ {bs : List Int} {M : Int}, (∀ b, b ∈ bs → 0 ≤ b ∧ b ≤ M) → 0 ≤ bs.sum ∧ bs.sum ≤ bs.length * M
  | [], M, _ => by simp
  | b :: bs, M, h => by
    have h1 := h b List.mem_cons_self
    have h2 := sum_le (bs := bs) (M := M) fun x hx => h x (List.mem_cons_of_mem _ hx)
    rw [List.sum_cons, List.length_cons]
    have e : ((bs.length + 1 : Nat) : Int) * M = bs.length * M + M := by rw [Int.natCast_add, Int.add_mul]; simp
    rw [e]
    omega
theorem Okb.sum_b {bs : List Int} (o : Okb bs) : 0 ≤ bs.sum ∧ bs.sum ≤ 1000000000000000000000000000000000 := by
  have h := sum_le o.nn
  have l2 := o.l2
  have : (bs.length : Int) * 10000000000000000000000000000000 ≤ 12 * 10000000000000000000000000000000 := Int.mul_le_mul_of_nonneg_right (by omega) (by decide)
  omega
def spTotal (C : Addr) : Sp := fun vs H Q _ => ∃ (r : Addr) (bs : List Int) (s c : Int), vs = [.ref r, .int s, .int c] ∧ RoundAt C H r bs ∧ Okb bs ∧ 0 ≤ s ∧ 0 ≤ c ∧ c ≤ 1000000000000000000000000000000000000000000000000000000000000 ∧ ∀ (H' : Hp), Same H H' → Q (.int (tot bs s c)) H'
theorem scRoundTotal : FnScope ["self", "start", "count", "whole", "rest", "first", "twice"] ["self", "start", "count"] (defScope sRoundTotal) := ⟨rfl, rfl, rfl, by decide +kernel, rfl, by decide +kernel, by decide +kernel⟩
theorem ok_Round_total {f : Addr} {fd : FuncData} (F : Fun K "total" "Round.total" sRoundTotal f fd) (B : Bi mg) (R_Round : ClsC K mg "Round" C) (N_Round : NoAttr K C "_budgets") (D_check_least : Dn P w K mg base "check_least" 2 ["value", "least", "field"] spCheckLeast) :
    FnOk P w K mg base CX0 3 f fd ["self", "start", "count"] (spTotal C) := by
  refine F.ok scRoundTotal (fun vs H Q E h => ?_) (fun cdv A outer s H vs Q E hr h => ?_)
  · obtain ⟨r, bs, s, c, rfl, _⟩ := h
    rfl
  · obtain ⟨r, bs, st, c, rfl, ⟨dx, t, h1, h2⟩, ok, s0, c0, c1, k⟩ := h
    refine ⟨_, (pss_cons (ps_expr (pe_dn D_check_least (hr.mono (by decide)) (by rfl) pass0 (pa_cons (pv 1) (pa_cons pe_int (pa_cons pe_str pa_nil)))))
  (pss_cons (ps_expr (pe_dn D_check_least (hr.mono (by decide)) (by rfl) pass0 (pa_cons (pv 2) (pa_cons pe_int (pa_cons pe_str pa_nil)))))
  (pss_cons (ps_asg (pe_callB call_divmod (by rfl) B.divmod (by decide +kernel) (pa_cons (pv 2) (pa_cons (pe_callB call_len_seq (by rfl) B.len PySem.boot_len (pa_cons (pe_fld (pv 0) rfl) pa_nil)) pa_nil))) (pg_tup (by rfl) (pgs_cons (pg_name (i := 3) scRoundTotal.nd rfl (Or.inl rfl)) (pgs_cons (pg_name (i := 4) scRoundTotal.nd rfl (Or.inl rfl)) pgs_nil))))
  (pss_cons (ps_set (i := 5) scRoundTotal.nd rfl (Or.inl rfl) (pe_op op_mod (pv 1) (pe_callB call_len_seq (by rfl) B.len PySem.boot_len (pa_cons (pe_fld (pv 0) rfl) pa_nil))))
  (pss_cons (ps_set (i := 6) scRoundTotal.nd rfl (Or.inl rfl) (pe_op op_catE (pe_fld (pv 0) rfl) (pe_fld (pv 0) rfl)))
  (pss_one (ps_ret (pe_op op_add (pe_op op_mulW (pv 3) (pe_callB (cr_sumT rfl) (by rfl) B.sum (by decide +kernel) (pa_cons (pe_fld (pv 0) rfl) pa_nil))) (pe_callB (cr_sumT rfl) (by rfl) B.sum (by decide +kernel) (pa_cons (pe_slice sl_tupE (pv 6) (po_some (pv 5)) (po_some (pe_op op_add (pv 5) (pv 4)))) pa_nil)))))))))), ?_⟩
    have hl : (bs.map V.int).length = bs.length := List.length_map ..
    have l1 := ok.l1
    have l2 := ok.l2
    have ln : (0 : Int) < bs.length := by omega
    walk_at "rd"
    refine ⟨s0, ?_⟩
    walk_at "rd"
    refine ⟨c0, ?_⟩
    refine ⟨_, rfl, _, rfl, r, C, dx, _, _, rfl, h1, R_Round.cl, N_Round, rfl, t, _, rfl, .inr (SqT.of h2), ?_⟩
    refine ⟨_, _, rfl, ⟨by omega, by omega⟩, fun p hp => ?_⟩
    refine ⟨p, _, rfl, SqT.of upd_same, rfl, _, _, rfl, _, _, rfl, rfl, ?_⟩
    have e1 : Same H (upd H p (.tup [V.int (c / ((bs.map V.int).length : Int)), V.int (c % ((bs.map V.int).length : Int))])) := Same.upd hp
    generalize upd H p (.tup [V.int (c / ((bs.map V.int).length : Int)), V.int (c % ((bs.map V.int).length : Int))]) = H1 at e1 ⊢
    refine ⟨_, rfl, _, rfl, r, C, dx, _, _, rfl, e1 _ _ h1, R_Round.cl, N_Round, rfl, t, _, rfl, .inr (SqT.of (e1 _ _ h2)), ?_⟩
    refine ⟨_, _, rfl, rfl, (by show (0 : Int) < ((bs.map V.int).length : Int); omega), ?_⟩
    refine ⟨_, rfl, r, C, dx, _, _, rfl, e1 _ _ h1, R_Round.cl, N_Round, rfl, _, rfl, r, C, dx, _, _, rfl, e1 _ _ h1, R_Round.cl, N_Round, rfl, t, t, _, _, rfl, rfl, SqT.of (e1 _ _ h2), SqT.of (e1 _ _ h2), by omega, fun q H2 hq e2 => ?_⟩
    refine ⟨_, rfl, _, rfl, r, C, dx, _, _, rfl, e2 _ _ (e1 _ _ h1), R_Round.cl, N_Round, rfl, t, bs, rfl, SqT.of (e2 _ _ (e1 _ _ h2)), ?_⟩
    have sb := ok.sum_b
    have f0 := Int.emod_nonneg st (show (bs.length : Int) ≠ 0 by omega)
    have f1 := Int.emod_lt_of_pos st ln
    have g0 := Int.emod_nonneg c (show (bs.length : Int) ≠ 0 by omega)
    have g1 := Int.emod_lt_of_pos c ln
    have d0 : 0 ≤ c / bs.length := Int.ediv_nonneg c0 (by omega)
    have d1 : c / bs.length ≤ c := Int.ediv_le_self _ c0
    rw [hl]
    refine ⟨_, _, rfl, rfl, mulB (by omega) (by omega) (by omega) (by omega), ?_⟩
    obtain ⟨a, ha⟩ : ∃ a : Nat, st % bs.length = (a : Int) := ⟨(st % bs.length).toNat, by omega⟩
    obtain ⟨b, hb⟩ : ∃ b : Nat, c % bs.length = (b : Int) := ⟨(c % bs.length).toNat, by omega⟩
    have ha' : a < bs.length := by omega
    have hb' : b < bs.length := by omega
    refine ⟨_, rfl, _, rfl, _, rfl, _, rfl, _, rfl, _, _, rfl, rfl, _, rfl, q, _, rfl, hq, fun o H3 ho e3 => ?_⟩
    rw [ha, hb] at ho
    have ecut : cutV (bs.map V.int ++ bs.map V.int) (some (a : Int)) (some ((a : Int) + (b : Int))) = (((bs ++ bs).drop a).take b).map V.int := by
      rw [← Int.natCast_add, cut_both (by rw [List.length_append, hl]; omega) (by omega), Nat.add_sub_cancel_left, ← List.map_append, List.map_take, List.map_drop]
    rw [ecut] at ho
    refine ⟨o, _, rfl, ho, _, _, rfl, rfl, ?_⟩
    have key := k H3 ((e1.trans e2).trans e3)
    unfold tot at key
    rw [ha, hb, Int.toNat_natCast, Int.toNat_natCast] at key
    exact key
end
end Cl

/-! ### the rows of budgets that the laws draw, and the Round of each -/
namespace Cl
theorem int_of_map {ns : List Int} {i : Nat} {y : V} (h : (ns.map V.int)[i]? = some y) : ∃ z, ns[i]? = some z ∧ y = V.int z := by
  rw [List.getElem?_map] at h
  cases e : ns[i]? with
  | none => rw [e] at h; cases h
  | some z => rw [e] at h; exact ⟨z, rfl, (Option.some.inj h).symm⟩
theorem bag_ne {H : Hp} {a l : Addr} (hB : BagAt H a) (hl : H l = none) : l ≠ a := fun e => by
  subst e
  obtain ⟨_, _, _, e2⟩ := hB
  rw [e2] at hl; cases hl
theorem But.none {a p : Addr} {H H1 : Hp} (x : But a H H1) (ha : BagAt H1 a) (h : H1 p = Option.none) : H p = Option.none := by
  cases q : H p with
  | none => rfl
  | some o =>
    by_cases e : p = a
    · subst e
      obtain ⟨_, _, _, e2⟩ := ha
      rw [e2] at h; cases h
    · rw [x p o e q] at h; cases h
section
variable {P : Program} {w : World} {K : PySem.W.Frag} {mg : Str → Option Value} {base : Heap} {C : Addr}
def spRow : Sp := fun vs H Q _ => ∃ (a : Addr) (n : Int), vs = [.ref a, .int n] ∧ BagAt H a ∧ 1 ≤ n ∧ n ≤ 12 ∧
  ∀ (p : Addr) (bs : List Int) (H' : Hp), H p = none → H' p = some (.lst (bs.map V.int)) → (bs.length : Int) = n → (∀ b, b ∈ bs → 0 ≤ b ∧ b ≤ 1000000000000000000000000000000) → BagAt H' a → But a H H' → Q (.ref p) H'
/-! the plain sums -/
theorem wrap_at {bs : List Int} {s : Int} {i : Nat} (hn : 0 < bs.length) (hi : i < bs.length) :
    ((bs ++ bs).drop (s % bs.length).toNat)[i]? = bs[((s + i) % bs.length).toNat]? := by
  have f0 := Int.emod_nonneg s (show (bs.length : Int) ≠ 0 by omega)
  have f1 := Int.emod_lt_of_pos s (show (0 : Int) < bs.length by omega)
  rw [List.getElem?_drop, Int.add_emod, Int.emod_eq_of_lt (a := (i : Int)) (by omega) (by omega)]
  obtain ⟨f, hf⟩ : ∃ f : Nat, s % bs.length = (f : Int) := ⟨(s % bs.length).toNat, by omega⟩
  rw [hf, Int.toNat_natCast]
  by_cases h : f + i < bs.length
  · rw [List.getElem?_append_left h]
    have e : ((f : Int) + (i : Int)) % (bs.length : Int) = ((f + i : Nat) : Int) := by rw [Int.emod_eq_of_lt (by omega) (by omega)]; omega
    rw [e, Int.toNat_natCast]
  · rw [List.getElem?_append_right (by omega)]
    have e : ((f : Int) + (i : Int)) % (bs.length : Int) = ((f + i - bs.length : Nat) : Int) := by
      have : ((f : Int) + (i : Int)) = ((f + i - bs.length : Nat) : Int) + bs.length := by omega
      rw [this, Int.add_emod_right, Int.emod_eq_of_lt (by omega) (by omega)]
    rw [e, Int.toNat_natCast]
def spSum : Sp := fun vs H Q _ => ∃ (p : Addr) (bs : List Int) (s c : Int), vs = [.ref p, .int s, .int c] ∧ H p = some (.lst (bs.map V.int)) ∧ Okb bs ∧ 0 ≤ s ∧ 0 ≤ c ∧ c ≤ 1000000000000000000000000000000000000000000000000000000000000 ∧ Q (.int (tot bs s c)) H
theorem rot_at {bs : List Int} {s : Int} {i : Nat} (hn : 0 < bs.length) (hi : i < bs.length) : (rot bs (s % bs.length).toNat)[i]? = bs[((s + i) % bs.length).toNat]? := by
  have f0 := Int.emod_nonneg s (show (bs.length : Int) ≠ 0 by omega)
  have f1 := Int.emod_lt_of_pos s (show (0 : Int) < bs.length by omega)
  rw [← wrap_at hn hi]
  unfold rot
  rw [List.getElem?_drop]
  obtain ⟨f, hf⟩ : ∃ f : Nat, s % bs.length = (f : Int) := ⟨(s % bs.length).toNat, by omega⟩
  rw [hf, Int.toNat_natCast]
  by_cases h : f + i < bs.length
  · rw [List.getElem?_append_left (by rw [List.length_drop]; omega), List.getElem?_drop, List.getElem?_append_left h]
  · rw [List.getElem?_append_right (by rw [List.length_drop]; omega), List.getElem?_append_right (by omega), List.getElem?_take, List.length_drop, if_pos (by omega)]
    congr 1; omega
theorem moved_eq {bs : List Int} {s : Int} (hn : 0 < bs.length) : (List.range bs.length).map (fun i => V.int (bs[((s + (i : Nat)) % bs.length).toNat]?.getD 0)) = (rot bs (s % bs.length).toNat).map V.int := by
  have f1 := Int.emod_lt_of_pos s (show (0 : Int) < bs.length by omega)
  have f0 := Int.emod_nonneg s (show (bs.length : Int) ≠ 0 by omega)
  have hl := rot_len (bs := bs) (f := (s % bs.length).toNat) (by omega)
  refine List.ext_getElem? fun i => ?_
  by_cases hi : i < bs.length
  · rw [List.getElem?_map, List.getElem?_map, List.getElem?_range hi, rot_at hn hi]
    have m0 := Int.emod_nonneg (s + i) (show (bs.length : Int) ≠ 0 by omega)
    have m1 := Int.emod_lt_of_pos (s + i) (show (0 : Int) < bs.length by omega)
    have e := List.getElem?_eq_getElem (l := bs) (show ((s + i) % bs.length).toNat < bs.length by omega)
    rw [e]
    show some (V.int (bs[((s + i) % bs.length).toNat]?.getD 0)) = some (V.int _)
    rw [e]; rfl
  · rw [List.getElem?_eq_none (by rw [List.length_map, List.length_range]; omega), List.getElem?_eq_none (by rw [List.length_map, hl]; omega)]
def spMoved : Sp := fun vs H Q _ => ∃ (p : Addr) (bs : List Int) (m : Int), vs = [.ref p, .int m] ∧ H p = some (.lst (bs.map V.int)) ∧ Okb bs ∧ 0 ≤ m ∧ ∀ (q : Addr) (H' : Hp), H q = none → H' q = some (.lst ((rot bs (m % bs.length).toNat).map V.int)) → Same H H' → Q (.ref q) H'
def spCount : Sp := fun vs H Q _ => ∃ (a : Addr) (n : Int), vs = [.ref a, .int n] ∧ BagAt H a ∧ 1 ≤ n ∧ n ≤ 12 ∧ ∀ (d : Int) (H' : Hp), 0 ≤ d → d ≤ 1000000000000000000000000000000 → BagAt H' a → But a H H' → Q (.int d) H'
theorem dmul_b {c n : Int} (hc : 0 ≤ c) (hn : 1 ≤ n) : 0 ≤ c / n ∧ c / n ≤ c ∧ 0 ≤ c / n * n ∧ c / n * n ≤ c :=
  ⟨Int.ediv_nonneg hc (by omega), Int.ediv_le_self _ hc, Int.mul_nonneg (Int.ediv_nonneg hc (by omega)) (by omega), Int.ediv_mul_le _ (by omega)⟩
end
end Cl

/-! ### the smallest sums, and how many budgets reach a need -/
namespace Cl
open StX ClX
def lo : List Int → Int
  | [] => 0
  | [a] => a
  | a :: b :: r => if a ≤ lo (b :: r) then a else lo (b :: r)
theorem lo_spec : ∀ {l : List Int}, l ≠ [] → lo l ∈ l ∧ ∀ y, y ∈ l → lo l ≤ y
  | [], h => absurd rfl h
  | [a], _ => by simp [lo]
  | a :: b :: r, _ => by
    have ih := lo_spec (l := b :: r) (by simp)
    unfold lo
    split
    · refine ⟨List.mem_cons_self, fun y hy => ?_⟩
      rcases List.mem_cons.mp hy with rfl | hy
      · exact Int.le_refl _
      · have := ih.2 y hy; omega
    · refine ⟨List.mem_cons_of_mem _ ih.1, fun y hy => ?_⟩
      rcases List.mem_cons.mp hy with rfl | hy
      · omega
      · exact ih.2 y hy
theorem lo_uniq {l : List Int} {m : Int} (h1 : m ∈ l) (h2 : ∀ y, y ∈ l → m ≤ y) : m = lo l := by
  have ne : l ≠ [] := fun e => by rw [e] at h1; cases h1
  obtain ⟨a, b⟩ := lo_spec ne
  have := b m h1
  have := h2 _ a
  omega
theorem lo_add {l : List Int} (k : Int) (ne : l ≠ []) : lo (l.map (k + ·)) = k + lo l := by
  obtain ⟨a, b⟩ := lo_spec ne
  refine (lo_uniq (List.mem_map.mpr ⟨_, a, rfl⟩) fun y hy => ?_).symm
  obtain ⟨z, hz, rfl⟩ := List.mem_map.mp hy
  have := b z hz
  show k + lo l ≤ k + z
  omega
def totals (bs : List Int) (c : Int) : List Int := (List.range bs.length).map fun (i : Nat) => tot bs (i : Int) c
def lv (bs : List Int) (c : Int) : Int := lo (totals bs c)
theorem totals_len {bs : List Int} {c : Int} : (totals bs c).length = bs.length := by unfold totals; rw [List.length_map, List.length_range]
theorem totals_ne {bs : List Int} {c : Int} (h : 1 ≤ bs.length) : totals bs c ≠ [] := fun e => by
  have := totals_len (bs := bs) (c := c)
  rw [e] at this
  simp at this; omega
theorem tot_more {bs : List Int} {s c w : Int} (h : 1 ≤ bs.length) : tot bs s (w * bs.length + c) = w * bs.sum + tot bs s c := by
  unfold tot
  have e1 : (w * bs.length + c) / bs.length = w + c / bs.length := by rw [Int.add_comm, Int.add_mul_ediv_right _ _ (by omega), Int.add_comm]
  have e2 : (w * bs.length + c) % bs.length = c % bs.length := by rw [Int.add_comm, Int.add_mul_emod_self_right]
  rw [e1, e2, Int.add_mul, Int.add_assoc]
theorem lv_more {bs : List Int} {c w : Int} (h : 1 ≤ bs.length) : lv bs (w * bs.length + c) = w * bs.sum + lv bs c := by
  unfold lv
  have e : totals bs (w * bs.length + c) = (totals bs c).map (w * bs.sum + ·) := by
    unfold totals
    rw [List.map_map]
    refine List.map_congr_left fun i _ => ?_
    exact tot_more h
  rw [e, lo_add _ (totals_ne h)]
theorem lv_const {bs : List Int} {c k : Int} (h : 1 ≤ bs.length) (hk : ∀ s, tot bs s c = k) : lv bs c = k := by
  refine (lo_uniq (List.mem_map.mpr ⟨0, List.mem_range.mpr (by omega), hk _⟩) fun y hy => ?_).symm
  obtain ⟨i, _, rfl⟩ := List.mem_map.mp hy
  rw [hk]; exact Int.le_refl _
theorem lv_zero {bs : List Int} (h : 1 ≤ bs.length) : lv bs 0 = 0 := lv_const h fun s => by
  unfold tot; simp
theorem lv_full {bs : List Int} (h : 1 ≤ bs.length) : lv bs bs.length = bs.sum := lv_const h fun s => by
  unfold tot
  rw [Int.ediv_self (by omega), Int.emod_self]; simp
/-- j is the first place of m -/
def FirstAt (l : List Int) (m : Int) (j : Nat) : Prop := l[j]? = some m ∧ ∀ i z, i < j → l[i]? = some z → z ≠ m
theorem first_ex : ∀ {l : List Int} {m : Int}, m ∈ l → ∃ j, FirstAt l m j
  | a :: r, m, h => by
    by_cases e : a = m
    · exact ⟨0, by simp [e], fun i z hi _ => by omega⟩
    · obtain ⟨j, h1, h2⟩ := first_ex (l := r) (m := m) (by simpa [Ne.symm e] using h)
      refine ⟨j + 1, by simpa using h1, fun i z hi hz => ?_⟩
      cases i with
      | zero => simp at hz; subst hz; exact e
      | succ i => exact h2 i z (by omega) (by simpa using hz)
theorem first_uniq {l : List Int} {m : Int} {i j : Nat} (a : FirstAt l m i) (b : FirstAt l m j) : i = j := by
  rcases Nat.lt_trichotomy i j with h | h | h
  · exact absurd rfl (b.2 i m h a.1)
  · exact h
  · exact absurd rfl (a.2 j m h b.1)
/-- what reach says -/
def ReachOk (bs : List Int) (need : Int) (v : V) : Prop :=
  (need ≤ 0 ∧ v = .int 0) ∨ (0 < need ∧ bs.sum = 0 ∧ v = .non) ∨ (0 < need ∧ bs.sum ≠ 0 ∧ ∃ r : Int, v = .int r ∧ 1 ≤ r ∧ r ≤ 13 * need + 13 ∧ need ≤ lv bs r ∧ lv bs (r - 1) < need)
theorem reach_math {bs : List Int} {need : Int} (ok : Okb bs) (hn : 0 < need) (hs : bs.sum ≠ 0) (cs : List Nat)
    (hc : cs = (List.range bs.length).filter fun i => decide (need - (need - 1) / bs.sum * bs.sum ≤ lv bs (1 + (i : Nat)))) :
    ∃ e r, cs = e :: r ∧ e < bs.length ∧ 0 ≤ (need - 1) / bs.sum ∧ (need - 1) / bs.sum ≤ need ∧ need ≤ lv bs ((need - 1) / bs.sum * bs.length + (1 + (e : Nat))) ∧ lv bs ((need - 1) / bs.sum * bs.length + (1 + (e : Nat)) - 1) < need := by
  have l1 := ok.l1
  have sb := ok.sum_b
  have sp : 0 < bs.sum := by omega
  have w0 : 0 ≤ (need - 1) / bs.sum := Int.ediv_nonneg (by omega) (by omega)
  have w1 : (need - 1) / bs.sum ≤ need - 1 := Int.ediv_le_self _ (by omega)
  have w2 : (need - 1) / bs.sum * bs.sum ≤ need - 1 := Int.ediv_mul_le _ (by omega)
  have w3 : need - 1 < ((need - 1) / bs.sum + 1) * bs.sum := Int.lt_ediv_add_one_mul_self _ sp
  rw [Int.add_mul, Int.one_mul] at w3
  generalize hw : (need - 1) / bs.sum = w at *
  have last : bs.length - 1 ∈ cs := by
    rw [hc, List.mem_filter, List.mem_range]
    refine ⟨by omega, decide_eq_true ?_⟩
    have e : (1 + ((bs.length - 1 : Nat) : Int)) = bs.length := by omega
    rw [e, lv_full l1]; omega
  cases hcs : cs with
  | nil => rw [hcs] at last; cases last
  | cons e r =>
    refine ⟨e, r, rfl, ?_, w0, by omega, ?_, ?_⟩
    · have : e ∈ cs := by rw [hcs]; exact List.mem_cons_self
      rw [hc, List.mem_filter, List.mem_range] at this
      exact this.1
    · have : e ∈ cs := by rw [hcs]; exact List.mem_cons_self
      rw [hc, List.mem_filter] at this
      have := of_decide_eq_true this.2
      rw [lv_more l1]; omega
    · have e1 : w * bs.length + (1 + (e : Nat)) - 1 = w * bs.length + (e : Nat) := by omega
      rw [e1, lv_more l1]
      cases e with
      | zero =>
        rw [show (((0 : Nat) : Int)) = 0 from rfl, lv_zero l1]; omega
      | succ e' =>
        -- e' is earlier in the range and was not taken
        have hlt : e' + 1 < bs.length := by
          have : e' + 1 ∈ cs := by rw [hcs]; exact List.mem_cons_self
          rw [hc, List.mem_filter, List.mem_range] at this
          exact this.1
        have no : ¬ (need - w * bs.sum ≤ lv bs (1 + (e' : Nat))) := fun h => by
          have hmem : e' ∈ cs := by
            rw [hc, List.mem_filter, List.mem_range]
            exact ⟨by omega, decide_eq_true h⟩
          have sorted : cs.Pairwise (· < ·) := by
            rw [hc]
            exact List.Pairwise.filter _ List.pairwise_lt_range
          rw [hcs] at hmem sorted
          rcases List.mem_cons.mp hmem with h | h
          · omega
          · have := (List.pairwise_cons.mp sorted).1 e' h
            omega
        have e2 : (1 + ((e' : Nat) : Int)) = ((e' + 1 : Nat) : Int) := by omega
        rw [e2] at no
        omega
section
variable {P : Program} {w : World} {K : PySem.W.Frag} {mg : Str → Option Value} {base : Heap} {C : Addr}
def spTotals (C : Addr) : Sp := fun vs H Q _ => ∃ (r : Addr) (bs : List Int) (c : Int), vs = [.ref r, .int c] ∧ RoundAt C H r bs ∧ Okb bs ∧ 0 ≤ c ∧ c ≤ 1000000000000000000000000000000000000000000000000000000000000 ∧ ∀ (p : Addr) (H' : Hp), H p = none → H' p = some (.lst ((totals bs c).map V.int)) → Same H H' → Q (.ref p) H'
theorem scRoundTotals : FnScope ["self", "count", "start"] ["self", "count"] (defScope sRoundTotals) := ⟨rfl, rfl, rfl, by decide +kernel, rfl, by decide +kernel, by decide +kernel⟩
theorem ok_Round_totals {f : Addr} {fd : FuncData} (F : Fun K "_totals" "Round._totals" sRoundTotals f fd) (B : Bi mg) (R_Round : ClsC K mg "Round" C) (N_Round : NoAttr K C "_budgets") (M_Round_total : Mn P w K mg base C "total" 3 ["self", "start", "count"] (spTotal C)) :
    FnOk P w K mg base CX0 4 f fd ["self", "count"] (spTotals C) := by
  refine F.ok scRoundTotals (fun vs H Q E h => ?_) (fun cdv A outer s H vs Q E hr h => ?_)
  · obtain ⟨r, bs, c, rfl, _⟩ := h
    rfl
  · obtain ⟨r, bs, c, rfl, ⟨dx, t, h1, h2⟩, ok, c0, c1, k⟩ := h
    have hl : (bs.map V.int).length = bs.length := List.length_map ..
    have l2 := ok.l2
    refine ⟨_, (pss_one (ps_ret (pe_lc (own := [("start", 2)]) (g := gName 2) rfl scRoundTotals.nd (pi_range1 rfl B.range (pa_cons (pe_callB call_len_seq (by rfl) B.len PySem.boot_len (pa_cons (pe_fld (pv 0) rfl) pa_nil)) pa_nil)) (blkOk_by (own := [("start", 2)]) (N := ["self", "count", "start"]) (sc := defScope sRoundTotals) (by decide +kernel)) (fun _ _ _ _ _ => pg_name (i := 2) scRoundTotals.nd rfl (Or.inl rfl)) (fun _ _ _ _ _ => pts_nil) (fun _ _ _ _ _ => (pe_mn M_Round_total R_Round.cl (hr.mono (by decide)) pass0 (pv 0) (pa_cons (pv 2) (pa_cons (pv 1) pa_nil))))))), ?_⟩
    refine ⟨_, rfl, r, C, dx, _, _, rfl, h1, R_Round.cl, N_Round, rfl, t, _, rfl, .inr (SqT.of h2), _, rfl, by omega, by omega, fun D hD => ?_⟩
    rw [hl, Int.toNat_natCast]
    refine lc_growR (fun i => V.int (tot bs (i : Int) c)) hD (by omega) (fun i H1 R hi hS hR => ?_) (fun H1 hS hL => k D H1 hD (by rw [hL]; unfold totals; rw [List.map_map]; rfl) hS)
    refine ⟨rfl, _, rfl, r, dx, _, rfl, hS _ _ h1, no_ _ (by decide +kernel) _, _, rfl, _, rfl, r, bs, (i : Int), c, by rw [Int.zero_add]; rfl, ⟨dx, t, hS _ _ h1, hS _ _ h2⟩, ok, by omega, c0, c1, fun H2 e2 => hR H2 e2⟩
def spLeast (C : Addr) : Sp := fun vs H Q _ => ∃ (r : Addr) (bs : List Int) (c : Int), vs = [.ref r, .int c] ∧ RoundAt C H r bs ∧ Okb bs ∧ 0 ≤ c ∧ c ≤ 1000000000000000000000000000000000000000000000000000000000000 ∧ ∀ (H' : Hp), Same H H' → Q (.int (lv bs c)) H'
theorem scRoundLeast : FnScope ["self", "count"] ["self", "count"] (defScope sRoundLeast) := ⟨rfl, rfl, rfl, by decide +kernel, rfl, by decide +kernel, by decide +kernel⟩
theorem ok_Round_least {f : Addr} {fd : FuncData} (F : Fun K "least" "Round.least" sRoundLeast f fd) (B : Bi mg) (R_Round : ClsC K mg "Round" C) (D_check_least : Dn P w K mg base "check_least" 2 ["value", "least", "field"] spCheckLeast) (M_Round__totals : Mn P w K mg base C "_totals" 4 ["self", "count"] (spTotals C)) :
    FnOk P w K mg base CX0 5 f fd ["self", "count"] (spLeast C) := by
  refine F.ok scRoundLeast (fun vs H Q E h => ?_) (fun cdv A outer s H vs Q E hr h => ?_)
  · obtain ⟨r, bs, c, rfl, _⟩ := h
    rfl
  · obtain ⟨r, bs, c, rfl, ⟨dx, t, h1, h2⟩, ok, c0, c1, k⟩ := h
    refine ⟨_, (pss_cons (ps_expr (pe_dn D_check_least (hr.mono (by decide)) (by rfl) pass0 (pa_cons (pv 1) (pa_cons pe_int (pa_cons pe_str pa_nil)))))
  (pss_one (ps_ret (pe_callB (cr_min rfl) (by rfl) B.min (by decide +kernel) (pa_cons (pe_mn M_Round__totals R_Round.cl (hr.mono (by decide)) pass0 (pv 0) (pa_cons (pv 1) pa_nil)) pa_nil))))), ?_⟩
    walk_at "rd"
    refine ⟨c0, ?_⟩
    refine ⟨_, rfl, r, dx, _, rfl, h1, no_ _ (by decide +kernel) _, _, rfl, r, bs, c, rfl, ⟨dx, t, h1, h2⟩, ok, c0, c1, fun p H1 _ hp e1 => ?_⟩
    refine ⟨p, totals bs c, rfl, SqL.of hp, by rw [totals_len]; exact ok.l1, fun m hm hle => ?_⟩
    rw [lo_uniq hm hle]
    exact k H1 e1
def spWorst (C : Addr) : Sp := fun vs H Q _ => ∃ (r : Addr) (bs : List Int) (c : Int), vs = [.ref r, .int c] ∧ RoundAt C H r bs ∧ Okb bs ∧ 0 ≤ c ∧ c ≤ 1000000000000000000000000000000000000000000000000000000000000 ∧ ∀ (j : Nat) (H' : Hp), FirstAt (totals bs c) (lv bs c) j → Same H H' → Q (.int (j : Int)) H'
theorem flat_ints (ns : List Int) : (ns.map V.int).all flatV = true := by
  rw [List.all_map, List.all_eq_true]
  intro x _; rfl
theorem eqV_int {a b : Int} : eqV (.int a) (.int b) = decide (a = b) := by
  by_cases h : a = b <;> simp [eqV, h]
/-- l.index(m), m in l -/
theorem index_ok {K : PySem.W.Frag} {H : Hp} {p : Addr} {ns : List Int} {m : Int} {Q : VK} (hp : SqL K H p (ns.map V.int)) (hm : m ∈ ns) (q : ∀ j : Nat, FirstAt ns m j → Q (.int (j : Int)) H) : rIndex K (.ref p) [.int m] H Q := by
  obtain ⟨j, hj⟩ := first_ex hm
  refine ⟨p, ns.map V.int, .int m, j, .int m, rfl, rfl, hp, rfl, flat_ints ns, by rw [List.getElem?_map, hj.1]; rfl, by rw [eqV_int]; exact decide_eq_true rfl, fun i z hi hz => ?_, q j hj⟩
  obtain ⟨y, hy, rfl⟩ := int_of_map hz
  rw [eqV_int]
  exact decide_eq_false (hj.2 i y hi hy)
theorem index_dat {ns : List Int} {m : Int} (hm : m ∈ ns) : ∃ j, FirstAt ns m j ∧ (ns.map V.int)[j]? = some (.int m) ∧ eqV (.int m) (.int m) = true ∧ ∀ (i : Nat) (z : V), i < j → (ns.map V.int)[i]? = some z → eqV z (.int m) = false := by
  obtain ⟨j, hj⟩ := first_ex hm
  refine ⟨j, hj, by rw [List.getElem?_map, hj.1]; rfl, by rw [eqV_int]; exact decide_eq_true rfl, fun i z hi hz => ?_⟩
  obtain ⟨y, hy, rfl⟩ := int_of_map hz
  rw [eqV_int]
  exact decide_eq_false (hj.2 i y hi hy)
def spReach (C : Addr) : Sp := fun vs H Q _ => ∃ (r : Addr) (bs : List Int) (need : Int), vs = [.ref r, .int need] ∧ RoundAt C H r bs ∧ Okb bs ∧ -10000000000000000000000000000000000000000000000000000000000000 ≤ need ∧ need ≤ 10000000000000000000000000000000000000000000000000000000000000 ∧ ∀ (v : V) (H' : Hp), ReachOk bs need v → Same H H' → Q v H'
theorem scRoundReach : FnScope ["self", "need", "once", "whole", "left", "counts", "enough", "count"] ["self", "need"] (defScope sRoundReach) := ⟨rfl, rfl, rfl, by decide +kernel, rfl, by decide +kernel, by decide +kernel⟩
theorem ok_Round_reach {f : Addr} {fd : FuncData} (F : Fun K "reach" "Round.reach" sRoundReach f fd) (B : Bi mg) (R_Round : ClsC K mg "Round" C) (N_Round : NoAttr K C "_budgets") (D_is_whole : Dn P w K mg base "is_whole" 1 ["value"] spIsWhole) (M_Round_least : Mn P w K mg base C "least" 5 ["self", "count"] (spLeast C)) :
    FnOk P w K mg base CX0 6 f fd ["self", "need"] (spReach C) := by
  refine F.ok scRoundReach (fun vs H Q E h => ?_) (fun cdv A outer s H vs Q E hr h => ?_)
  · obtain ⟨r, bs, c, rfl, _⟩ := h
    rfl
  · obtain ⟨r, bs, need, rfl, ⟨dx, t, h1, h2⟩, ok, n0, n1, k⟩ := h
    have hl : (bs.map V.int).length = bs.length := List.length_map ..
    have l1 := ok.l1
    have l2 := ok.l2
    have sb := ok.sum_b
    refine ⟨_, (pss_cons (ps_if (pt_not (pt_val (pe_dn D_is_whole (hr.mono (by decide)) (by rfl) pass0 (pa_cons (pv 1) pa_nil)))) (pss_one ps_never)
  pss_nil)
  (pss_cons (ps_if (pt_cmpR op_le (pv 1) pe_int (nomark _)) (pss_one (ps_ret pe_int))
  pss_nil)
  (pss_cons (ps_set (i := 2) scRoundReach.nd rfl (Or.inl rfl) (pe_callB (cr_sumT rfl) (by rfl) B.sum (by decide +kernel) (pa_cons (pe_fld (pv 0) rfl) pa_nil)))
  (pss_cons (ps_if (pt_cmpR op_eq (pv 2) pe_int (nomark _)) (pss_one (ps_ret pe_non))
  pss_nil)
  (pss_cons (ps_set (i := 3) scRoundReach.nd rfl (Or.inl rfl) (pe_op op_fdivW (pe_op op_sub (pv 1) pe_int) (pv 2)))
  (pss_cons (ps_set (i := 4) scRoundReach.nd rfl (Or.inr rfl) (pe_op op_sub (pv 1) (pe_op op_mulW (pv 3) (pv 2))))
  (pss_cons (ps_set (i := 5) scRoundReach.nd rfl (Or.inl rfl) (pe_callTy cr_range2 (by rfl) B.range (by decide +kernel) (pa_cons pe_int (pa_cons (pe_op op_add (pe_callB call_len_seq (by rfl) B.len PySem.boot_len (pa_cons (pe_fld (pv 0) rfl) pa_nil)) pe_int) pa_nil))))
  (pss_cons (ps_setLc (i := 6) (own := [("count", 7)]) (g := gName 7) rfl scRoundReach.nd rfl rfl (sw_true rfl rfl rfl (by decide +kernel)) (pi_rng (pv 5)) (blkOk_by (own := [("count", 7)]) (N := ["self", "need", "once", "whole", "left", "counts", "enough", "count"]) (sc := defScope sRoundReach) (by decide +kernel)) (fun _ _ _ _ _ => pg_name (i := 7) scRoundReach.nd rfl (Or.inl rfl)) (fun _ _ _ _ _ => (pts_one (pt_cmpR op_ge (pe_mn M_Round_least R_Round.cl (hr.mono (by decide)) pass0 (pv 0) (pa_cons (pv 7) pa_nil)) (pv 4) (nomark _)))) (fun _ _ _ _ _ => (pv 7)))
  (pss_one (ps_ret (pe_op op_add (pe_op op_mulW (pv 3) (pe_callB call_len_seq (by rfl) B.len PySem.boot_len (pa_cons (pe_fld (pv 0) rfl) pa_nil))) (pe_ix ix_list (pv 6) pe_int (fun _ _ => rfl))))))))))))), ?_⟩
    walk_at "rd"
    refine itd (fun hle => ?_) (fun hle => ?_)
    · walk_at "rd"
      exact k _ _ (.inl ⟨hle, rfl⟩) (Same.refl _)
    refine ⟨_, rfl, r, C, dx, _, _, rfl, h1, R_Round.cl, N_Round, rfl, t, bs, rfl, SqT.of h2, ?_⟩
    walk_at "rd"
    refine iti (fun hs => ?_) (fun hs => ?_)
    · walk_at "rd"
      exact k _ _ (.inr (.inl ⟨by omega, hs, rfl⟩)) (Same.refl _)
    have sp : 0 < bs.sum := by omega
    walk_at "rd"
    refine ⟨divB (by omega) (by omega), ?_⟩
    have w0 : 0 ≤ (need - 1) / bs.sum := Int.ediv_nonneg (by omega) (by omega)
    have w1 : (need - 1) / bs.sum ≤ need - 1 := Int.ediv_le_self _ (by omega)
    walk_at "rd"
    refine ⟨mulB (by omega) (by omega) (by omega) (by omega), _, _, rfl, rfl, ?_⟩
    refine ⟨_, rfl, r, C, dx, _, _, rfl, h1, R_Round.cl, N_Round, rfl, t, _, rfl, .inr (SqT.of h2), ?_⟩
    rw [hl]
    refine ⟨_, _, rfl, rfl, _, _, rfl, fun p hp => ?_⟩
    refine ⟨_, rfl, p, _, _, rfl, upd_same, by omega, fun D hD => ?_⟩
    have e1 : Same H (upd H p (.rng 1 ((bs.length : Int) + 1))) := Same.upd hp
    generalize upd H p (.rng 1 ((bs.length : Int) + 1)) = H1 at e1 hD ⊢
    have en : ((bs.length : Int) + 1 - 1).toNat = bs.length := by omega
    rw [en]
    refine lc_filtR (fun i => V.int (1 + (i : Nat))) (fun i => decide (need - (need - 1) / bs.sum * bs.sum ≤ lv bs (1 + (i : Nat)))) hD (by omega) (fun i H2 R R0 hi hS hR hR0 => ?_) (fun H2 hS hL => ?_)
    · refine ⟨rfl, _, rfl, r, dx, _, rfl, hS _ _ (e1 _ _ h1), no_ _ (by decide +kernel) _, _, rfl, r, bs, _, rfl, ⟨dx, t, hS _ _ (e1 _ _ h1), hS _ _ (e1 _ _ h2)⟩, ok, by omega, by omega, fun H3 e3 => ?_⟩
      walk_at "rd"
      refine itd (fun h => ?_) (fun h => ?_)
      · walk_at "rd"
        exact hR (decide_eq_true h) H3 e3
      · exact hR0 (decide_eq_false h) H3 e3
    · obtain ⟨e, r', hc, he, _, w2, g1, g2⟩ := reach_math (need := need) ok (by omega) hs _ rfl
      rw [hc] at hL
      refine ⟨_, rfl, _, rfl, r, C, dx, _, _, rfl, hS _ _ (e1 _ _ h1), R_Round.cl, N_Round, rfl, t, _, rfl, .inr (SqT.of (hS _ _ (e1 _ _ h2))), ?_⟩
      rw [hl]
      refine ⟨_, _, rfl, rfl, mulB (by omega) (by omega) (by omega) (by omega), ?_⟩
      refine ⟨_, rfl, D, _, _, _, rfl, rfl, SqL.of hL, at_of (j := 0) rfl rfl, _, _, rfl, rfl, ?_⟩
      have wm : (need - 1) / bs.sum * bs.length ≤ (need - 1) / bs.sum * 12 := Int.mul_le_mul_of_nonneg_left (by omega) w0
      have wn : 0 ≤ (need - 1) / bs.sum * bs.length := Int.mul_nonneg w0 (by omega)
      exact k _ _ (.inr (.inr ⟨by omega, hs, _, rfl, by omega, by omega, g1, g2⟩)) (e1.trans hS)
end
end Cl

/-! ### the sums of rings -/
namespace Cl
open StX ClX
def lost (late : Bool) (tears : Int) : Int := if late then 1 + tears else 0
/-- what the order allows -/
structure Ord (late : Bool) (tears readers : Int) : Prop where
  t0 : 0 ≤ tears
  r0 : 0 ≤ readers
  t1 : tears ≤ 1000000000000000000000000000000
  r1 : readers ≤ 1000000000000000000000000000000
  e : late = false → tears = 0
  l : late = true → readers = 0
theorem Ord.lost_b {late : Bool} {tears readers : Int} (o : Ord late tears readers) : 0 ≤ lost late tears ∧ lost late tears ≤ 1000000000000000000000000000000 + 1 := by
  have := o.t0
  have := o.t1
  unfold lost
  split <;> omega
def goes (bs : List Int) (m n : Int) : Bool := decide (n ≤ m) && decide (n - 1 ≤ lv bs (m - n))
/-- reach's answer, said once more -/
def Rch (bs : List Int) (need : Int) (v : V) : Prop :=
  (0 < need ∧ bs.sum = 0 ∧ v = .non) ∨ ((need ≤ 0 ∨ bs.sum ≠ 0) ∧ ∃ x : Int, v = .int x ∧ 0 ≤ x ∧ x ≤ 13 * need + 13 ∧ need ≤ lv bs x ∧ (x = 0 ∨ lv bs (x - 1) < need))
theorem Rch.of {bs : List Int} {need : Int} {v : V} (ok : Okb bs) (h0 : 0 ≤ need) (h : ReachOk bs need v) : Rch bs need v := by
  rcases h with ⟨hn, rfl⟩ | ⟨hn, hs, rfl⟩ | ⟨hn, hs, x, rfl, x0, x1, x2, x3⟩
  · exact .inr ⟨.inl hn, 0, rfl, by omega, by omega, by rw [lv_zero ok.l1]; exact hn, .inl rfl⟩
  · exact .inl ⟨hn, hs, rfl⟩
  · exact .inr ⟨.inr hs, x, rfl, by omega, x1, x2, .inr x3⟩
theorem up_b {t p : Int} (hp : 0 < p) : (t + p - 1) / p * p ≤ t + p - 1 ∧ t ≤ (t + p - 1) / p * p := by
  have h2 : (t + p - 1) / p * p ≤ t + p - 1 := Int.ediv_mul_le _ (by omega)
  have h3 : t + p - 1 < ((t + p - 1) / p + 1) * p := Int.lt_ediv_add_one_mul_self _ hp
  rw [Int.add_mul] at h3
  omega
theorem lv_one {b c : Int} (hc : 0 ≤ c) : lv [b] c = b * c := by
  refine lv_const (by simp) fun s => ?_
  unfold tot
  simp
  rw [Int.mul_comm]
/-- one more in each budget -/
theorem sum_add1 : ∀ (l : List Int), (l.map (· + 1)).sum = l.sum + l.length
  | [] => by simp
  | a :: r => by
    rw [List.map_cons, List.sum_cons, List.sum_cons, sum_add1 r, List.length_cons]; omega
theorem tot_add1 {bs : List Int} {s c : Int} (h : 1 ≤ bs.length) (hc : 0 ≤ c) : tot (bs.map (· + 1)) s c = tot bs s c + c := by
  have f0 := Int.emod_nonneg s (show (bs.length : Int) ≠ 0 by omega)
  have f1 := Int.emod_lt_of_pos s (show (0 : Int) < bs.length by omega)
  have g0 := Int.emod_nonneg c (show (bs.length : Int) ≠ 0 by omega)
  have g1 := Int.emod_lt_of_pos c (show (0 : Int) < bs.length by omega)
  unfold tot
  rw [List.length_map, ← List.map_append, ← List.map_drop, ← List.map_take, sum_add1, sum_add1, Int.mul_add]
  have e : ((((bs ++ bs).drop (s % bs.length).toNat).take (c % bs.length).toNat).length : Int) = c % bs.length := by
    rw [List.length_take, List.length_drop, List.length_append]; omega
  rw [e]
  have := Int.mul_ediv_add_emod c bs.length
  rw [Int.mul_comm] at this
  omega
theorem lv_add1 {bs : List Int} {c : Int} (h : 1 ≤ bs.length) (hc : 0 ≤ c) : lv (bs.map (· + 1)) c = lv bs c + c := by
  unfold lv
  have e : totals (bs.map (· + 1)) c = (totals bs c).map (c + ·) := by
    unfold totals
    rw [List.map_map, List.length_map]
    refine List.map_congr_left fun i _ => ?_
    show tot (bs.map (· + 1)) (i : Int) c = c + tot bs (i : Int) c
    rw [tot_add1 h hc]; omega
  rw [e, lo_add _ (totals_ne h)]; omega
theorem sum_nn : ∀ {l : List Int}, (∀ b, b ∈ l → 0 ≤ b) → 0 ≤ l.sum
  | [], _ => by simp
  | a :: r, h => by
    rw [List.sum_cons]
    have := h a List.mem_cons_self
    have := sum_nn (l := r) fun x hx => h x (List.mem_cons_of_mem _ hx)
    omega
theorem tot_nn {bs : List Int} {s c : Int} (ok : Okb bs) (hc : 0 ≤ c) : 0 ≤ tot bs s c := by
  have l1 := ok.l1
  have sb := ok.sum_b
  have h1 : 0 ≤ c / bs.length * bs.sum := Int.mul_nonneg (Int.ediv_nonneg hc (by omega)) sb.1
  have h2 : 0 ≤ (((bs ++ bs).drop (s % bs.length).toNat).take (c % bs.length).toNat).sum := sum_nn fun b hb => by
    have := List.mem_of_mem_drop (List.mem_of_mem_take hb)
    rcases List.mem_append.mp this with h | h <;> exact (ok.nn b h).1
  unfold tot
  omega
theorem lv_nn {bs : List Int} {c : Int} (ok : Okb bs) (hc : 0 ≤ c) : 0 ≤ lv bs c := by
  obtain ⟨i, _, e⟩ := List.mem_map.mp (lo_spec (totals_ne (c := c) ok.l1)).1
  have := tot_nn (s := (i : Int)) ok hc
  unfold lv
  rw [← e]; exact this
theorem goes_t {bs : List Int} {m n : Int} (h1 : n ≤ m) (h2 : n - 1 ≤ lv bs (m - n)) : goes bs m n = true := by
  unfold goes
  rw [decide_eq_true h1, decide_eq_true h2]; rfl
theorem goes_f {bs : List Int} {m n : Int} (h : n ≤ m → lv bs (m - n) < n - 1) : goes bs m n = false := by
  unfold goes
  by_cases h1 : n ≤ m
  · rw [decide_eq_true h1, decide_eq_false (by have := h h1; omega)]; rfl
  · rw [decide_eq_false h1]; rfl
/-- the greatest limit -/
theorem most_ok {bs : List Int} {left x : Int} (ok : Okb bs) (hl : 1 ≤ left) (h : Rch (bs.map (· + 1)) (left - 1) (.int x)) :
    0 ≤ x ∧ 1 ≤ left - x ∧ goes bs left (left - x) = true ∧ goes bs left (left - x + 1) = false := by
  have l1 := ok.l1
  rcases h with ⟨_, _, e⟩ | ⟨_, y, e, y0, _, y2, y3⟩
  · cases e
  · have e' : x = y := V.int.inj e
    subst e'
    rw [lv_add1 l1 y0] at y2
    have hx : x ≤ left - 1 := by
      rcases y3 with h | h
      · omega
      · have := lv_nn ok (c := x - 1)
        rcases Int.lt_or_le (x - 1) 0 with h0 | h0
        · omega
        · rw [lv_add1 l1 h0] at h
          have := this h0
          omega
    have e1 : left - (left - x) = x := by omega
    have e2 : left - (left - x + 1) = x - 1 := by omega
    refine ⟨y0, by omega, goes_t (by omega) (by rw [e1]; omega), goes_f fun h5 => ?_⟩
    rw [e2]
    rcases y3 with h | h
    · omega
    · rw [lv_add1 l1 (by omega)] at h
      omega
section
variable {P : Program} {w : World} {K : PySem.W.Frag} {mg : Str → Option Value} {base : Heap} {C : Addr}
def spCkRound (C : Addr) : Sp := fun vs H Q _ => ∃ (r : Addr) (bs : List Int), vs = [.ref r] ∧ RoundAt C H r bs ∧ Q .non H
theorem scCheckRound : FnScope ["budgets"] ["budgets"] (defScope sCheckRound) := ⟨rfl, rfl, rfl, by decide +kernel, rfl, by decide +kernel, by decide +kernel⟩
theorem ok_check_round {f : Addr} {fd : FuncData} (F : Fun K "check_round" "check_round" sCheckRound f fd) (B : Bi mg) (R_Round : ClsC K mg "Round" C) : FnOk P w K mg base CX0 1 f fd ["budgets"] (spCkRound C) := by
  refine F.ok scCheckRound (fun vs H Q E h => ?_) (fun cdv A outer s H vs Q E hr h => ?_)
  · obtain ⟨r, bs, rfl, _⟩ := h
    rfl
  · obtain ⟨r, bs, rfl, ⟨dx, t, h1, h2⟩, k⟩ := h
    refine ⟨_, (pss_one (ps_if (pt_not (pt_val (pe_callB (C8.call_isC R_Round.ic) (by rfl) B.isinstance (by decide +kernel) (pa_cons (pv 0) (pa_cons (pe_cls R_Round rfl) pa_nil))))) (pss_one ps_never)
  pss_nil)), ?_⟩
    exact ⟨_, rfl, r, dx, _, rfl, h1, true, rfl, k⟩
def spOrd : Sp := fun vs H Q _ => ∃ (late : Bool) (tears readers : Int), vs = [.bl late, .int tears, .int readers] ∧ Ord late tears readers ∧ Q .non H
theorem scCheckOrder : FnScope ["late", "tears", "readers"] ["late", "tears", "readers"] (defScope sCheckOrder) := ⟨rfl, rfl, rfl, by decide +kernel, rfl, by decide +kernel, by decide +kernel⟩
theorem ok_check_order {f : Addr} {fd : FuncData} (F : Fun K "_check_order" "_check_order" sCheckOrder f fd) (D_check_least : Dn P w K mg base "check_least" 2 ["value", "least", "field"] spCheckLeast) : FnOk P w K mg base CX0 3 f fd ["late", "tears", "readers"] spOrd := by
  refine F.ok scCheckOrder (fun vs H Q E h => ?_) (fun cdv A outer s H vs Q E hr h => ?_)
  · obtain ⟨_, _, _, rfl, _⟩ := h
    rfl
  · obtain ⟨late, tears, readers, rfl, o, k⟩ := h
    refine ⟨_, (pss_cons (ps_expr (pe_dn D_check_least (hr.mono (by decide)) (by rfl) pass0 (pa_cons (pv 1) (pa_cons pe_int (pa_cons pe_str pa_nil)))))
  (pss_cons (ps_expr (pe_dn D_check_least (hr.mono (by decide)) (by rfl) pass0 (pa_cons (pv 2) (pa_cons pe_int (pa_cons pe_str pa_nil)))))
  (pss_cons (ps_if (PW.pt (pw_and (pt_cmpR op_gt (pv 1) pe_int (nomark _)) (pw_and1 (pt_not (pt_val (pv 0)))))) (pss_one ps_never)
  pss_nil)
  (pss_one (ps_if (PW.pt (pw_and (pt_cmpR op_gt (pv 2) pe_int (nomark _)) (pw_and1 (pt_val (pv 0))))) (pss_one ps_never)
  pss_nil))))), ?_⟩
    walk_at "rd"
    refine ⟨o.t0, ?_⟩
    walk_at "rd"
    refine ⟨o.r0, ?_⟩
    cases late
    · have := o.e rfl
      walk_at "rd"
      rw [decide_eq_false (by omega)]
      refine iteF ?_
      walk_at "rd"
      refine itd (fun _ => ?_) (fun _ => ?_)
      · walk_at "rd"
        exact k
      · exact k
    · have := o.l rfl
      walk_at "rd"
      refine itd (fun _ => ?_) (fun _ => ?_)
      · walk_at "rd"
        rw [decide_eq_false (by omega)]
        exact iteF k
      · walk_at "rd"
        rw [decide_eq_false (by omega)]
        exact iteF k
def spLost : Sp := fun vs H Q _ => ∃ (late : Bool) (tears : Int), vs = [.bl late, .int tears] ∧ Q (.int (lost late tears)) H
theorem scPlacesLost : FnScope ["late", "tears"] ["late", "tears"] (defScope sPlacesLost) := ⟨rfl, rfl, rfl, by decide +kernel, rfl, by decide +kernel, by decide +kernel⟩
theorem ok_places_lost {f : Addr} {fd : FuncData} (F : Fun K "_places_lost" "_places_lost" sPlacesLost f fd) : FnOk P w K mg base CX0 1 f fd ["late", "tears"] spLost := by
  refine F.ok scPlacesLost (fun vs H Q E h => ?_) (fun cdv A outer s H vs Q E hr h => ?_)
  · obtain ⟨_, _, rfl, _⟩ := h
    rfl
  · obtain ⟨late, tears, rfl, k⟩ := h
    refine ⟨_, (pss_one (ps_ret (pe_ifExp (pt_val (pv 0)) (pe_op op_add pe_int (pv 1)) pe_int))), ?_⟩
    cases late
    · walk_at "rd"
      exact k
    · walk_at "rd"
      exact k
/-- the terms of a ring -/
structure Tm (places limit : Int) (late : Bool) (tears readers : Int) : Prop where
  p0 : 1 ≤ places
  p1 : places ≤ 1000000000000000000000000000000000
  n0 : 1 ≤ limit
  n1 : limit ≤ 1000000000000000000000000000000000
  o : Ord late tears readers
  k1 : limit * (readers + 1) ≤ 1000000000000000000000000000000000
theorem keys_pos {limit readers : Int} (h : 1 ≤ limit) (h2 : 0 ≤ readers) : 1 ≤ limit * (readers + 1) := by
  have : 0 ≤ limit * readers := Int.mul_nonneg (by omega) h2
  rw [Int.mul_add]; omega
def spEff : Sp := fun vs H Q _ => ∃ (places limit : Int) (late : Bool) (tears readers : Int), vs = [.int places, .int limit, .bl late, .int tears, .int readers] ∧ Tm places limit late tears readers ∧
  ∀ p, H p = none → Q (.ref p) (upd H p (.tup [.int (places - lost late tears), .int (limit * (readers + 1))]))
def spGoes (C : Addr) : Sp := fun vs H Q _ => ∃ (places limit : Int) (r : Addr) (bs : List Int) (late : Bool) (tears readers : Int), vs = [.int places, .int limit, .ref r, .bl late, .int tears, .int readers] ∧ Tm places limit late tears readers ∧ RoundAt C H r bs ∧ Okb bs ∧
  ∀ H', Same H H' → Q (.bl (goes bs (places - lost late tears) (limit * (readers + 1)))) H'
def PlacesV (bs : List Int) (n l : Int) (v : V) : Prop := (v = .non ∧ Rch bs (n - 1) .non) ∨ ∃ x : Int, v = .int (n + x + l) ∧ Rch bs (n - 1) (.int x)
def spLeastP (C : Addr) : Sp := fun vs H Q _ => ∃ (limit : Int) (r : Addr) (bs : List Int) (late : Bool) (tears readers : Int), vs = [.int limit, .ref r, .bl late, .int tears, .int readers] ∧ 1 ≤ limit ∧ limit ≤ 10000000000000000000000000000000 ∧ Ord late tears readers ∧ limit * (readers + 1) ≤ 10000000000000000000000000000000 ∧ RoundAt C H r bs ∧ Okb bs ∧
  ∀ v H', PlacesV bs (limit * (readers + 1)) (lost late tears) v → Same H H' → Q v H'
def spGreat (C : Addr) : Sp := fun vs H Q _ => ∃ (places : Int) (r : Addr) (bs : List Int) (late : Bool) (tears : Int), vs = [.int places, .ref r, .bl late, .int tears] ∧ 1 ≤ places ∧ places ≤ 10000000000000000000000000000000000000000000000000000000000000 ∧ Ord late tears 0 ∧ RoundAt C H r bs ∧ Okb bs ∧ (∀ b, b ∈ bs → b ≤ 1000000000000000000000000000000) ∧
  ∀ (g : Int) H', ((places - lost late tears < 1 ∧ g = 0) ∨ (1 ≤ places - lost late tears ∧ 1 ≤ g ∧ g ≤ places - lost late tears ∧ goes bs (places - lost late tears) g = true ∧ goes bs (places - lost late tears) (g + 1) = false)) → Same H H' → Q (.int g) H'
theorem okb1 {bs : List Int} (ok : Okb bs) (h : ∀ b, b ∈ bs → b ≤ 1000000000000000000000000000000) : Okb (bs.map (· + 1)) :=
  ⟨by rw [List.length_map]; exact ok.l1, by rw [List.length_map]; exact ok.l2, fun b hb => by
    obtain ⟨x, hx, rfl⟩ := List.mem_map.mp hb
    have := ok.nn x hx
    have := h x hx
    show 0 ≤ x + 1 ∧ x + 1 ≤ _
    omega⟩
theorem scGreatestLimit : FnScope ["places", "budgets", "late", "tears", "left", "raised", "more", "budget"] ["places", "budgets", "late", "tears"] (defScope sGreatestLimit) := ⟨rfl, rfl, rfl, by decide +kernel, rfl, by decide +kernel, by decide +kernel⟩
theorem ok_greatest_limit {f : Addr} {fd : FuncData} (F : Fun K "greatest_limit" "greatest_limit" sGreatestLimit f fd) (B : Bi mg) (R_Round : ClsC K mg "Round" C) (D_check_least : Dn P w K mg base "check_least" 2 ["value", "least", "field"] spCheckLeast) (D_check_round : Dn P w K mg base "check_round" 1 ["budgets"] (spCkRound C))
    (D__check_order : Dn P w K mg base "_check_order" 3 ["late", "tears", "readers"] spOrd) (D__places_lost : Dn P w K mg base "_places_lost" 1 ["late", "tears"] spLost) (P_Round_budgets : Pn P w K mg base C "budgets" 1 (spBudgets C)) (MK_Round : Cn P w K mg base C 3 (spInit C))
    (M_Round_reach : Mn P w K mg base C "reach" 6 ["self", "need"] (spReach C)) : FnOk P w K mg base CX0 7 f fd ["places", "budgets", "late", "tears"] (spGreat C) := by
  refine F.ok scGreatestLimit (fun vs H Q E h => ?_) (fun cdv A outer s H vs Q E hr h => ?_)
  · obtain ⟨_, _, _, _, _, rfl, _⟩ := h
    rfl
  · obtain ⟨places, r, bs, late, tears, rfl, p0, p1, o, hR, ok, hb, k⟩ := h
    refine ⟨_, (pss_cons (ps_expr (pe_dn D_check_least (hr.mono (by decide)) (by rfl) pass0 (pa_cons (pv 0) (pa_cons pe_int (pa_cons pe_str pa_nil)))))
  (pss_cons (ps_expr (pe_dn D_check_round (hr.mono (by decide)) (by rfl) pass0 (pa_cons (pv 1) pa_nil)))
  (pss_cons (ps_expr (pe_dn D__check_order (hr.mono (by decide)) (by rfl) pass0 (pa_cons (pv 2) (pa_cons (pv 3) (pa_cons pe_int pa_nil)))))
  (pss_cons (ps_set (i := 4) scGreatestLimit.nd rfl (Or.inl rfl) (pe_op op_sub (pv 0) (pe_dn D__places_lost (hr.mono (by decide)) (by rfl) pass0 (pa_cons (pv 2) (pa_cons (pv 3) pa_nil)))))
  (pss_cons (ps_if (pt_cmpR op_lt (pv 4) pe_int (nomark _)) (pss_one (ps_ret pe_int))
  pss_nil)
  (pss_cons (ps_setLc (i := 5) (own := [("budget", 7)]) (g := gName 7) rfl scGreatestLimit.nd rfl rfl (sw_true rfl rfl rfl (by decide +kernel)) (pi_list (pe_pn P_Round_budgets R_Round.cl (hr.mono (by decide)) (pv 1))) (blkOk_by (own := [("budget", 7)]) (N := ["places", "budgets", "late", "tears", "left", "raised", "more", "budget"]) (sc := defScope sGreatestLimit) (by decide +kernel)) (fun _ _ _ _ _ => pg_name (i := 7) scGreatestLimit.nd rfl (Or.inl rfl)) (fun _ _ _ _ _ => pts_nil) (fun _ _ _ _ _ => (pe_op op_add (pv 7) pe_int)))
  (pss_cons (ps_set (i := 6) scGreatestLimit.nd rfl (Or.inl rfl) (pe_mkS MK_Round (hr.mono (by decide)) rfl R_Round.mg pass0 (pv 5)))
  (pss_one (ps_ret (pe_op op_sub (pv 4) (pe_mn M_Round_reach R_Round.cl (hr.mono (by decide)) pass0 (pv 6) (pa_cons (pe_op op_sub (pv 4) pe_int) pa_nil)))))))))))), ?_⟩
    have lb := o.lost_b
    walk_at "rd"
    refine ⟨p0, ?_⟩
    refine ⟨_, rfl, r, bs, rfl, hR, ?_⟩
    walk_at "rd"
    refine ⟨o, ?_⟩
    walk_at "rd"
    refine itd (fun h => ?_) (fun h => ?_)
    · walk_at "rd"
      exact k 0 H (.inl ⟨h, rfl⟩) (Same.refl _)
    obtain ⟨dx, u, i1, i2⟩ := id hR
    refine ⟨_, rfl, r, dx, _, rfl, i1, r, bs, rfl, hR, fun p hp => ?_⟩
    refine ⟨p, rfl, ⟨_, SqL.of upd_same⟩, fun D hD => ?_⟩
    have e1 : Same H (upd H p (.lst (bs.map V.int))) := Same.upd hp
    have hp1 : upd H p (.lst (bs.map V.int)) p = some (.lst (bs.map V.int)) := upd_same
    generalize upd H p (.lst (bs.map V.int)) = H1 at e1 hp1 hD ⊢
    refine lc_growL (K := K) (xs := bs.map V.int) (fun v => match v with | .int i => .int (i + 1) | v => v) (SqL.of hp1) hD (by rw [List.length_map]; have := ok.l2; omega) (fun y H' R hy e hR1 => ?_) (fun H2 e2 hD2 => ?_)
    · obtain ⟨c, hc, rfl⟩ := List.mem_map.mp hy
      exact ⟨rfl, _, rfl, _, _, rfl, rfl, hR1 H' (Same.refl _)⟩
    have em : (bs.map V.int).map (fun v => match v with | .int i => V.int (i + 1) | v => v) = (bs.map (· + 1)).map V.int := by
      rw [List.map_map, List.map_map]; rfl
    rw [em] at hD2
    refine ⟨_, rfl, D, _, rfl, .inr (SqL.of hD2), ?_⟩
    intro x dx' hx hdx nd
    refine ⟨x, dx', bs.map (· + 1), rfl, upd_same, okb1 ok hb, fun t H3 ht j1 j2 j3 => ⟨rfl, ?_⟩⟩
    have e3 : Same H2 H3 := fun b o e => j3 b o (ne_of_none e hx) (by rw [upd_ne (ne_of_none e hx), upd_ne (ne_of_none e hdx)]; exact e)
    have hX : RoundAt C H3 x (bs.map (· + 1)) := ⟨dx', t, j1, j2⟩
    refine ⟨_, rfl, _, rfl, x, dx', _, rfl, j1, no_ _ (by decide +kernel) _, _, rfl, _, _, rfl, rfl, x, bs.map (· + 1), _, rfl, hX, okb1 ok hb, by omega, by omega, fun v H4 hv e4 => ?_⟩
    have hv := Rch.of (okb1 ok hb) (by omega) hv
    have sn : (bs.map (· + 1)).sum ≠ 0 := by
      rw [sum_add1]
      have := ok.sum_b
      have := ok.l1
      omega
    rcases id hv with ⟨_, q, _⟩ | ⟨_, y, rfl, _, _, _, _⟩
    · exact absurd q sn
    · obtain ⟨y0, g1, g2, g3⟩ := most_ok ok (by omega) hv
      refine ⟨_, _, rfl, rfl, ?_⟩
      exact k _ H4 (.inr ⟨by omega, g1, by omega, g2, g3⟩) (((e1.trans e2).trans e3).trans e4)
def LeastBV (m n : Int) (v : V) : Prop := (m < n ∧ v = .non) ∨ (n = m ∧ 1 < n ∧ v = .non) ∨ (n ≤ m ∧ n = 1 ∧ v = .int 0) ∨ (n < m ∧ 1 < n ∧ v = .int ((n - 1 + (m - n) - 1) / (m - n)))
def spUp : Sp := fun vs H Q _ => ∃ (t p : Int), vs = [.int t, .int p] ∧ 0 < p ∧ p ≤ 10000000000000000000000000000000000000000 ∧ Q (.int ((t + p - 1) / p)) H
def spLeastBd : Sp := fun vs H Q _ => ∃ (places limit : Int) (late : Bool) (tears readers : Int), vs = [.int places, .int limit, .bl late, .int tears, .int readers] ∧ Tm places limit late tears readers ∧
  ∀ v H', LeastBV (places - lost late tears) (limit * (readers + 1)) v → Same H H' → Q v H'
def spFree (C : Addr) : Sp := fun vs H Q _ => ∃ (limit : Int) (r : Addr) (bs : List Int), vs = [.int limit, .ref r] ∧ 1 ≤ limit ∧ limit ≤ 10000000000000000000000000000000 ∧ RoundAt C H r bs ∧ Okb bs ∧ ∀ v H', Rch bs (limit - 1) v → Same H H' → Q v H'
end
end Cl

/-! ### the divisors and the houses -/
namespace Cl
open StX ClX
def share (s b : Int) : Int := b * s / (b + 1) + 1
def lim (n s b : Int) (late : Bool) : Int := if late then (n - 1) * share s b else (n - 1) * share s b + 1
theorem share_b {s b : Int} (hs : 1 ≤ s) (hb : 0 ≤ b) : 1 ≤ share s b ∧ share s b ≤ s := by
  have h0 : 0 ≤ b * s := Int.mul_nonneg hb (by omega)
  have h1 : 0 ≤ b * s / (b + 1) := Int.ediv_nonneg h0 (by omega)
  have h2 : b * s / (b + 1) * (b + 1) ≤ b * s := Int.ediv_mul_le _ (by omega)
  have h4 : b * s / (b + 1) < s := by
    refine Int.lt_of_mul_lt_mul_right (a := b + 1) (Int.lt_of_le_of_lt h2 ?_) (by omega)
    rw [Int.mul_add, Int.mul_comm s b]; omega
  unfold share
  omega
/-- r is n's root -/
def IsRt (n : Int) (r : Nat) : Prop := (r : Int) * r ≤ n ∧ n < ((r : Int) + 1) * (r + 1)
theorem rt_uniq {n : Int} {r q : Nat} (h : IsRt n r) (g : IsRt n q) : r = q := by
  have key : ∀ {a b : Nat}, IsRt n a → IsRt n b → a < b → False := fun {a b} x y h => by
    have h1 := Int.mul_le_mul (show (a : Int) + 1 ≤ b by omega) (show (a : Int) + 1 ≤ b by omega) (by omega) (by omega)
    have := x.2
    have := y.1
    omega
  rcases Nat.lt_trichotomy r q with h1 | h1 | h1
  · exact (key h g h1).elim
  · exact h1
  · exact (key g h h1).elim
theorem rt_of {n : Int} {r : Nat} (h0 : 0 ≤ n) (h1 : r * r ≤ n.toNat) (h2 : n.toNat < (r + 1) * (r + 1)) : IsRt n r := by
  have e1 : ((r * r : Nat) : Int) ≤ n := by omega
  have e2 : n < (((r + 1) * (r + 1) : Nat) : Int) := by omega
  rw [Int.natCast_mul] at e1 e2
  exact ⟨e1, e2⟩
def dv (n : Int) (i : Nat) : Bool := decide (n % (1 + (i : Int)) = 0)
/-- the divisors up to r -/
def small (n : Int) (r : Nat) : List Int := ((List.range r).filter (dv n)).map fun i : Nat => 1 + (i : Int)
def great (n : Int) (l : List Int) : List Int := (l.filter fun p => decide (p * p < n)).map fun p => n / p
def divs (n : Int) (r : Nat) : List Int := small n r ++ (great n (small n r)).reverse
theorem small_mem {n x : Int} {r : Nat} (h1 : 1 ≤ n) (h : x ∈ small n r) : 1 ≤ x ∧ x ≤ n ∧ x ≤ r ∧ n % x = 0 := by
  unfold small at h
  obtain ⟨i, hi, rfl⟩ := List.mem_map.mp h
  obtain ⟨hr, hd⟩ := List.mem_filter.mp hi
  rw [List.mem_range] at hr
  have hd : n % (1 + (i : Int)) = 0 := of_decide_eq_true hd
  refine ⟨by omega, ?_, by omega, hd⟩
  exact Int.le_of_dvd (by omega) (Int.dvd_of_emod_eq_zero hd)
theorem div_pos {n x : Int} (h1 : 1 ≤ n) (hx : 1 ≤ x) (hd : x ≤ n) : 1 ≤ n / x ∧ n / x ≤ n := by
  refine ⟨?_, Int.ediv_le_self _ (by omega)⟩
  exact Int.le_ediv_of_mul_le (by omega) (by omega)
theorem divs_mem {n x : Int} {r : Nat} (h1 : 1 ≤ n) (h : x ∈ divs n r) : 1 ≤ x ∧ x ≤ n := by
  unfold divs at h
  rcases List.mem_append.mp h with h | h
  · have := small_mem h1 h
    omega
  · rw [List.mem_reverse] at h
    unfold great at h
    obtain ⟨y, hy, rfl⟩ := List.mem_map.mp h
    have := small_mem h1 (List.mem_filter.mp hy).1
    exact div_pos h1 this.1 this.2.1
theorem rt_pos {n : Int} {r : Nat} (h1 : 1 ≤ n) (h : IsRt n r) : 1 ≤ r := by
  rcases Nat.eq_zero_or_pos r with e | e
  · subst e
    have := h.2
    simp at this
    omega
  · exact e
theorem one_small {n : Int} {r : Nat} (h1 : 1 ≤ n) (h : IsRt n r) : (1 : Int) ∈ small n r := by
  have := rt_pos h1 h
  refine List.mem_map.mpr ⟨0, List.mem_filter.mpr ⟨List.mem_range.mpr (by omega), ?_⟩, by simp⟩
  unfold dv
  simp
theorem last_divs {n : Int} {r : Nat} (h1 : 1 ≤ n) (h : IsRt n r) : n ∈ divs n r := by
  have m := one_small h1 h
  unfold divs
  rw [List.mem_append, List.mem_reverse]
  rcases Int.lt_or_le 1 n with g | g
  · refine .inr (List.mem_map.mpr ⟨1, List.mem_filter.mpr ⟨m, decide_eq_true (by omega)⟩, by simp⟩)
  · rw [show n = 1 by omega] at m ⊢
    exact .inl m
theorem divs_len {n : Int} {r : Nat} (h2 : r ≤ 1000) : (divs n r).length ≤ 2000 := by
  have a : (small n r).length ≤ 1000 := by
    unfold small
    rw [List.length_map]
    have := List.length_filter_le (dv n) (List.range r)
    rw [List.length_range] at this
    omega
  have b : (great n (small n r)).length ≤ 1000 := by
    unfold great
    rw [List.length_map]
    have := List.length_filter_le (fun p => decide (p * p < n)) (small n r)
    omega
  unfold divs
  rw [List.length_append, List.length_reverse]
  omega
theorem rt_1000 {n : Int} {r : Nat} (h : n ≤ 1000000) (g : IsRt n r) : r ≤ 1000 := by
  rcases Nat.lt_or_ge 1000 r with h1 | h1
  · have := Int.mul_le_mul (show (1001 : Int) ≤ r by omega) (show (1001 : Int) ≤ r by omega) (by omega) (by omega)
    have := g.1
    omega
  · exact h1
theorem rt_ex (n : Int) (h : 0 ≤ n) : ∃ r, IsRt n r := ⟨_, rt_of h (PySem.Float64.isqrt_spec n.toNat).1 (PySem.Float64.isqrt_spec n.toNat).2⟩
/-- a comprehension with a test over a list, first to last, or last to first -/
theorem lc_filtL {K : PySem.W.Frag} {a D : Addr} {xs : List V} {g : TG} {tt : TT} {te : TE} {vs : List Nat} {σ : L2.St} {H1 : Hp} {Qd : Hp → Prop} (f : V → V) (p : V → Bool) (hx : SqL K H1 a xs) (hD : H1 D = none) (hlen : xs.length < 10000)
    (hs : ∀ (x : V) (H : Hp) (R : V → Hp → Prop) (R0 : Hp → Prop), x ∈ xs → Same H1 H → (p x = true → ∀ H', Same H H' → R (f x) H') → (p x = false → ∀ H', Same H H' → R0 H') →
      g x (wipe σ vs) H fun σ2 H2 => wipe σ2 vs = wipe σ vs ∧ tt σ2 H2 fun b H3 => if b = true then te σ2 H3 R else R0 H3)
    (hd : ∀ H, Same H1 H → H D = some (.lst ((xs.filter p).map f)) → Qd H) :
    ∃ W : Nat → Nat → Hp → Prop, (∃ m, W 0 m (upd H1 D (.lst []))) ∧ ∀ i m H, W i m H →
      ((Itl K a).stop i H ∧ Qd H) ∨ ((Itl K a).go i H ∧ ∃ Nx : Hp → Prop, (∀ H', Nx H' → ∃ m', m' < m ∧ W (i + 1) m' H') ∧ ∀ x H', (Itl K a).yld i H x H' → g x (wipe σ vs) H' fun σ2 H2 => wipe σ2 vs = wipe σ vs ∧ tt σ2 H2 fun b H3 =>
        if b = true then te σ2 H3 fun y H4 => ∃ acc, H4 D = some (.lst acc) ∧ acc.length < sizeLine ∧ Nx (upd H4 D (.lst (acc ++ [y]))) else Nx H3) := by
  refine lc_list (K := K) (a := a) (xs := xs) (fun i H => Same H1 H ∧ H D = some (.lst (((xs.take i).filter p).map f))) ⟨grow_same hD (Same.refl H1), upd_same⟩ (fun i H _ h => Same.seq h.1 hx) ?_ (fun H h => hd H h.1 (by rw [h.2, List.take_length]))
  rintro i x H hi ⟨hS, hL⟩
  have hi2 := (List.getElem?_eq_some_iff.mp hi).1
  have e1 : (xs.take (i + 1)).filter p = (xs.take i).filter p ++ (if p x = true then [x] else []) := by
    rw [List.take_add_one, hi, List.filter_append]
    show _ ++ List.filter p [x] = _
    rw [List.filter_cons, List.filter_nil]
  have key := hs x H (fun y H4 => ∃ acc, H4 D = some (.lst acc) ∧ acc.length < sizeLine ∧ (Same H1 (upd H4 D (.lst (acc ++ [y]))) ∧ upd H4 D (.lst (acc ++ [y])) D = some (.lst (((xs.take (i + 1)).filter p).map f))))
    (fun H4 => Same H1 H4 ∧ H4 D = some (.lst (((xs.take (i + 1)).filter p).map f))) (List.mem_of_getElem? hi) hS (fun hp H' hS' => ⟨_, hS' _ _ hL, ?_, grow_same hD (hS.trans hS'), ?_⟩) (fun hp H' hS' => ⟨hS.trans hS', ?_⟩)
  · exact key
  · rw [List.length_map]
    have : (10000 : Nat) ≤ sizeLine := by decide
    have h2 := List.length_filter_le p (xs.take i)
    rw [List.length_take] at h2
    omega
  · rw [upd_same, e1, if_pos hp, List.map_append]; rfl
  · rw [hS' _ _ hL, e1, if_neg (by rw [hp]; exact Bool.false_ne_true), List.append_nil]
theorem rev_take {xs : List V} {i : Nat} (h : i < xs.length) {x : V} (hx : xs[xs.length - 1 - i]? = some x) : xs.reverse.take (i + 1) = xs.reverse.take i ++ [x] := by
  rw [List.take_add_one, List.getElem?_reverse h, hx]; rfl
theorem lc_filtV {K : PySem.W.Frag} {a D : Addr} {xs : List V} {g : TG} {tt : TT} {te : TE} {vs : List Nat} {σ : L2.St} {H1 : Hp} {Qd : Hp → Prop} (f : V → V) (p : V → Bool) (hx : SqL K H1 a xs) (hD : H1 D = none) (hlen : xs.length < 10000)
    (hs : ∀ (x : V) (H : Hp) (R : V → Hp → Prop) (R0 : Hp → Prop), x ∈ xs → Same H1 H → (p x = true → ∀ H', Same H H' → R (f x) H') → (p x = false → ∀ H', Same H H' → R0 H') →
      g x (wipe σ vs) H fun σ2 H2 => wipe σ2 vs = wipe σ vs ∧ tt σ2 H2 fun b H3 => if b = true then te σ2 H3 R else R0 H3)
    (hd : ∀ H, Same H1 H → H D = some (.lst ((xs.reverse.filter p).map f)) → Qd H) :
    ∃ W : Nat → Nat → Hp → Prop, (∃ m, W 0 m (upd H1 D (.lst []))) ∧ ∀ i m H, W i m H →
      ((Itv K a xs.length).stop i H ∧ Qd H) ∨ ((Itv K a xs.length).go i H ∧ ∃ Nx : Hp → Prop, (∀ H', Nx H' → ∃ m', m' < m ∧ W (i + 1) m' H') ∧ ∀ x H', (Itv K a xs.length).yld i H x H' → g x (wipe σ vs) H' fun σ2 H2 => wipe σ2 vs = wipe σ vs ∧ tt σ2 H2 fun b H3 =>
        if b = true then te σ2 H3 fun y H4 => ∃ acc, H4 D = some (.lst acc) ∧ acc.length < sizeLine ∧ Nx (upd H4 D (.lst (acc ++ [y]))) else Nx H3) := by
  refine lc_it (walk_rev (K := K) (a := a) (xs := xs)) (fun i H => Same H1 H ∧ H D = some (.lst (((xs.reverse.take i).filter p).map f))) ⟨grow_same hD (Same.refl H1), upd_same⟩ (fun i H _ h => Same.seq h.1 hx) ?_ (fun H h => hd H h.1 (by rw [h.2, List.take_of_length_le (by rw [List.length_reverse]; omega)]))
  rintro i x H H' hi ⟨hS, hL⟩ ⟨rfl, hx'⟩
  have e1 : (xs.reverse.take (i + 1)).filter p = (xs.reverse.take i).filter p ++ (if p x = true then [x] else []) := by
    rw [rev_take hi hx', List.filter_append]
    show _ ++ List.filter p [x] = _
    rw [List.filter_cons, List.filter_nil]
  have key := hs x H' (fun y H4 => ∃ acc, H4 D = some (.lst acc) ∧ acc.length < sizeLine ∧ (Same H1 (upd H4 D (.lst (acc ++ [y]))) ∧ upd H4 D (.lst (acc ++ [y])) D = some (.lst (((xs.reverse.take (i + 1)).filter p).map f))))
    (fun H4 => Same H1 H4 ∧ H4 D = some (.lst (((xs.reverse.take (i + 1)).filter p).map f))) (List.mem_of_getElem? hx') hS (fun hp H' hS' => ⟨_, hS' _ _ hL, ?_, grow_same hD (hS.trans hS'), ?_⟩) (fun hp H' hS' => ⟨hS.trans hS', ?_⟩)
  · exact key
  · rw [List.length_map]
    have : (10000 : Nat) ≤ sizeLine := by decide
    have h2 := List.length_filter_le p (xs.reverse.take i)
    rw [List.length_take, List.length_reverse] at h2
    omega
  · rw [upd_same, e1, if_pos hp, List.map_append]; rfl
  · rw [hS' _ _ hL, e1, if_neg (by rw [hp]; exact Bool.false_ne_true), List.append_nil]
end Cl

/-! ### the program's defs of law k05 -/
namespace Cl
open StX ClX
section
variable {P : Program} {w : World} {K : PySem.W.Frag} {mg : Str → Option Value} {base : Heap} {C : Addr}
def spShare : Sp := fun vs H Q _ => ∃ (s b : Int), vs = [.int s, .int b] ∧ 1 ≤ s ∧ s ≤ 10000000000000000000000000000000 ∧ 0 ≤ b ∧ b ≤ 10000000000000000000000000000000 ∧ Q (.int (share s b)) H
theorem scSegmentShare : FnScope ["size", "budget"] ["size", "budget"] (defScope sSegmentShare) := ⟨rfl, rfl, rfl, by decide +kernel, rfl, by decide +kernel, by decide +kernel⟩
theorem ok_segment_share {f : Addr} {fd : FuncData} (F : Fun K "segment_share" "segment_share" sSegmentShare f fd) (D_check_least : Dn P w K mg base "check_least" 2 ["value", "least", "field"] spCheckLeast) : FnOk P w K mg base CX0 3 f fd ["size", "budget"] spShare := by
  refine F.ok scSegmentShare (fun vs H Q E h => ?_) (fun cdv A outer s H vs Q E hr h => ?_)
  · obtain ⟨a, z, rfl, _⟩ := h
    rfl
  · obtain ⟨s, b, rfl, s1, s2, b1, b2, k⟩ := h
    refine ⟨_, (pss_cons (ps_expr (pe_dn D_check_least (hr.mono (by decide)) (by rfl) pass0 (pa_cons (pv 0) (pa_cons pe_int (pa_cons pe_str pa_nil)))))
  (pss_cons (ps_expr (pe_dn D_check_least (hr.mono (by decide)) (by rfl) pass0 (pa_cons (pv 1) (pa_cons pe_int (pa_cons pe_str pa_nil)))))
  (pss_one (ps_ret (pe_op op_add (pe_op op_fdivW (pe_op op_mulW (pv 1) (pv 0)) (pe_op op_add (pv 1) pe_int)) pe_int))))), ?_⟩
    walk_at "rd"
    refine ⟨s1, ?_⟩
    walk_at "rd"
    refine ⟨b1, ?_⟩
    walk_at "rd"
    refine ⟨mulB (by omega) (by omega) (by omega) (by omega), ?_⟩
    walk_at "rd"
    refine ⟨divB (by omega) (by omega), ?_⟩
    walk_at "rd"
    exact k
def spLim : Sp := fun vs H Q _ => ∃ (n s b : Int) (late : Bool), vs = [.int n, .int s, .int b, .bl late] ∧ 1 ≤ n ∧ n ≤ 10000000000000000000000000000000 ∧ 1 ≤ s ∧ s ≤ 10000000000000000000000000000000 ∧ 0 ≤ b ∧ b ≤ 10000000000000000000000000000000 ∧ Q (.int (lim n s b late)) H
theorem scSegmentsLimit : FnScope ["segments", "size", "budget", "late", "shares"] ["segments", "size", "budget", "late"] (defScope sSegmentsLimit) := ⟨rfl, rfl, rfl, by decide +kernel, rfl, by decide +kernel, by decide +kernel⟩
theorem ok_segments_limit {f : Addr} {fd : FuncData} (F : Fun K "segments_limit" "segments_limit" sSegmentsLimit f fd) (D_check_least : Dn P w K mg base "check_least" 2 ["value", "least", "field"] spCheckLeast)
    (D_segment_share : Dn P w K mg base "segment_share" 3 ["size", "budget"] spShare) : FnOk P w K mg base CX0 4 f fd ["segments", "size", "budget", "late"] spLim := by
  refine F.ok scSegmentsLimit (fun vs H Q E h => ?_) (fun cdv A outer s H vs Q E hr h => ?_)
  · obtain ⟨n, s, b, late, rfl, _⟩ := h
    rfl
  · obtain ⟨n, s, b, late, rfl, n1, n2, s1, s2, b1, b2, k⟩ := h
    obtain ⟨z1, z2⟩ := share_b s1 b1
    refine ⟨_, (pss_cons (ps_expr (pe_dn D_check_least (hr.mono (by decide)) (by rfl) pass0 (pa_cons (pv 0) (pa_cons pe_int (pa_cons pe_str pa_nil)))))
  (pss_cons (ps_set (i := 4) scSegmentsLimit.nd rfl (Or.inl rfl) (pe_op op_mulW (pe_op op_sub (pv 0) pe_int) (pe_dn D_segment_share (hr.mono (by decide)) (by rfl) pass0 (pa_cons (pv 1) (pa_cons (pv 2) pa_nil)))))
  (pss_one (ps_ret (pe_ifExp (pt_val (pv 3)) (pv 4) (pe_op op_add (pv 4) pe_int)))))), ?_⟩
    walk_at "rd"
    refine ⟨n1, ?_⟩
    walk_at "rd"
    refine ⟨s1, s2, b1, b2, ?_⟩
    walk_at "rd"
    refine ⟨mulB (by omega) (by omega) (by omega) (by omega), ?_⟩
    cases late
    · walk_at "rd"
      exact k
    · walk_at "rd"
      exact k
theorem scLawMost : FnScope ["segments", "size", "budget", "written_first", "share"] ["segments", "size", "budget", "written_first"] (defScope sLawMost) := ⟨rfl, rfl, rfl, by decide +kernel, rfl, by decide +kernel, by decide +kernel⟩
theorem ok_law_most {f : Addr} {fd : FuncData} (F : Fun K "_law_most" "_law_most" sLawMost f fd) (B : Bi mg) : FnOk P w K mg base CX0 2 f fd ["segments", "size", "budget", "written_first"] spLim := by
  refine F.ok scLawMost (fun vs H Q E h => ?_) (fun cdv A outer s H vs Q E hr h => ?_)
  · obtain ⟨n, s, b, late, rfl, _⟩ := h
    rfl
  · obtain ⟨n, s, b, late, rfl, n1, n2, s1, s2, b1, b2, k⟩ := h
    obtain ⟨z1, z2⟩ := share_b s1 b1
    refine ⟨_, (pss_cons (ps_set (i := 4) scLawMost.nd rfl (Or.inl rfl) (pe_op op_add (pe_op op_fdivW (pe_op op_mulW (pv 2) (pv 1)) (pe_op op_add (pv 2) pe_int)) pe_int))
  (pss_one (ps_ret (pe_op op_sub (pe_op op_add (pe_op op_mulW (pe_op op_sub (pv 0) pe_int) (pv 4)) pe_int) (pe_callTy call_int1 (by rfl) B.intT (by decide +kernel) (pa_cons (pv 3) pa_nil)))))), ?_⟩
    walk_at "rd"
    refine ⟨mulB (by omega) (by omega) (by omega) (by omega), ?_⟩
    walk_at "rd"
    refine ⟨divB (by omega) (by omega), ?_⟩
    walk_at "rd"
    refine ⟨mulB (by omega) (by omega) (by unfold share at z1; omega) (by unfold share at z2; omega), ?_⟩
    walk_at "rd"
    have e : (n - 1) * (b * s / (b + 1) + 1) + 1 - (if late = true then 1 else 0) = lim n s b late := by
      unfold lim share
      cases late <;> simp
    first | exact e ▸ k | (show Q (.int ((n - 1) * (b * s / (b + 1) + 1) + 1 - (if late = true then 1 else 0))) H; rw [e]; exact k)
def spDivs : Sp := fun vs H Q _ => ∃ (n : Int) (r : Nat), vs = [.int n] ∧ 1 ≤ n ∧ n ≤ 1000000 ∧ IsRt n r ∧ ∀ p H', H p = none → H' p = some (.lst ((divs n r).map V.int)) → Same H H' → Q (.ref p) H'
def fdvV (n : Int) (v : V) : V := match v with | .int p => .int (n / p) | v => v
def lessV (n : Int) (v : V) : Bool := match v with | .int p => decide (p * p < n) | _ => false
theorem great_rev {n : Int} {l : List Int} : ((l.map V.int).reverse.filter (lessV n)).map (fdvV n) = ((great n l).reverse).map V.int := by
  unfold great
  rw [← List.map_reverse, List.filter_map, List.map_map, ← List.map_reverse, ← List.filter_reverse, List.map_map]
  rfl
theorem small_len {n : Int} {q : Nat} (h : q ≤ 1000) : (small n q).length ≤ 1000 := by
  unfold small
  rw [List.length_map]
  have := List.length_filter_le (dv n) (List.range q)
  rw [List.length_range] at this
  omega
theorem great_len {n : Int} {l : List Int} : (great n l).length ≤ l.length := by
  unfold great
  rw [List.length_map]
  exact List.length_filter_le _ _
theorem scDivisors : FnScope ["number", "small", "great", "part"] ["number"] (defScope sDivisors) := ⟨rfl, rfl, rfl, by decide +kernel, rfl, by decide +kernel, by decide +kernel⟩
theorem ok_divisors {f : Addr} {fd : FuncData} (F : Fun K "_divisors" "_divisors" sDivisors f fd) (B : Bi mg) (G_isqrt : mg "isqrt" = some (.builtin "math.isqrt")) : FnOk P w K mg base CX0 1 f fd ["number"] spDivs := by
  refine F.ok scDivisors (fun vs H Q E h => ?_) (fun cdv A outer s H vs Q E hr h => ?_)
  · obtain ⟨_, _, rfl, _⟩ := h
    rfl
  · obtain ⟨n, r, rfl, n1, n2, hr, k⟩ := h
    have r2 := rt_1000 n2 hr
    refine ⟨_, (pss_cons (ps_setLc (i := 1) (own := [("part", 3)]) (g := gName 3) rfl scDivisors.nd rfl rfl (sw_true rfl rfl rfl (by decide +kernel)) (pi_range2 rfl B.range (pa_cons pe_int (pa_cons (pe_op op_add (StS.pe_callG cr_isqrt rfl G_isqrt (pa_cons (pv 0) pa_nil)) pe_int) pa_nil))) (blkOk_by (own := [("part", 3)]) (N := ["number", "small", "great", "part"]) (sc := defScope sDivisors) (by decide +kernel)) (fun _ _ _ _ _ => pg_name (i := 3) scDivisors.nd rfl (Or.inl rfl)) (fun _ _ _ _ _ => (pts_one (pt_cmpR op_eq (pe_op op_mod (pv 0) (pv 3)) pe_int (nomark _)))) (fun _ _ _ _ _ => (pv 3)))
  (pss_cons (ps_setLc (i := 2) (own := [("part", 3)]) (g := gName 3) rfl scDivisors.nd rfl rfl (sw_true rfl rfl rfl (by decide +kernel)) (pi_reversed rfl B.reversed (pa_cons (pv 1) pa_nil)) (blkOk_by (own := [("part", 3)]) (N := ["number", "small", "great", "part"]) (sc := defScope sDivisors) (by decide +kernel)) (fun _ _ _ _ _ => pg_name (i := 3) scDivisors.nd rfl (Or.inl rfl)) (fun _ _ _ _ _ => (pts_one (pt_cmpR op_lt (pe_op op_mulW (pv 3) (pv 3)) (pv 0) (nomark _)))) (fun _ _ _ _ _ => (pe_op op_fdivW (pv 0) (pv 3))))
  (pss_one (ps_ret (pe_op op_cat (pv 1) (pv 2)))))), ?_⟩
    walk_at "rd"
    refine ⟨by omega, by omega, fun q q1 q2 => ?_⟩
    obtain rfl := rt_uniq (rt_of (by omega) q1 q2) hr
    refine ⟨_, _, rfl, rfl, _, _, rfl, ⟨by omega, by omega, by omega, by omega⟩, fun D hD => ?_⟩
    rw [show ((q : Int) + 1 - 1).toNat = q by omega]
    refine lc_filtR (fun i => V.int (1 + (i : Nat))) (dv n) hD (by omega) (fun i H1 R R0 hi hS hR hR0 => ?_) (fun H1 hS hL => ?_)
    · refine ⟨rfl, _, rfl, _, rfl, _, _, rfl, rfl, by omega, ?_⟩
      walk_at "rd"
      refine iti (fun h => ?_) (fun h => ?_)
      · walk_at "rd"
        exact hR (decide_eq_true h) H1 (Same.refl _)
      · exact hR0 (decide_eq_false h) H1 (Same.refl _)
    have hL1 : H1 D = some (.lst ((small n q).map V.int)) := by
      rw [hL]
      unfold small
      rw [List.map_map]; rfl
    have sl := small_len (n := n) r2
    walk_at "rd"
    refine ⟨D, _, rfl, SqL.of hL1, fun G hG => ?_⟩
    refine lc_filtV (K := K) (xs := (small n q).map V.int) (fdvV n) (lessV n) (SqL.of hL1) hG (by rw [List.length_map]; omega) (fun x H2 R R0 hx e2 hR hR0 => ?_) (fun H2 e2 hG2 => ?_)
    · obtain ⟨p, hp, rfl⟩ := List.mem_map.mp hx
      obtain ⟨p1, p2, p3, _⟩ := small_mem n1 hp
      refine ⟨rfl, _, rfl, _, rfl, _, _, rfl, rfl, mulB (by omega) (by omega) (by omega) (by omega), ?_⟩
      walk_at "rd"
      refine itd (fun h => ?_) (fun h => ?_)
      · walk_at "rd"
        refine ⟨divB (by omega) (by omega), ?_⟩
        exact hR (decide_eq_true h) H2 (Same.refl _)
      · exact hR0 (decide_eq_false h) H2 (Same.refl _)
    rw [great_rev] at hG2
    have gl := great_len (n := n) (l := small n q)
    refine ⟨_, rfl, _, rfl, D, G, _, _, rfl, rfl, e2 _ _ hL1, hG2, ?_, fun p hp => ?_⟩
    · rw [List.length_map, List.length_map, List.length_reverse]
      have : (10000 : Nat) ≤ sizeLine := by decide
      omega
    refine k p _ ((hS.trans e2).free hp) ?_ ((hS.trans e2).trans (Same.upd hp))
    rw [upd_same]
    unfold divs
    rw [List.map_append]
end
end Cl

/-! ### the best size -/
namespace Cl
open StX ClX
def lm (n b : Int) (late : Bool) (s : Int) : Int := lim (n / s) s b late
/-- s is the first of ls with the greatest limit, m is that limit -/
def Best (f : Int → Int) (ls : List Int) (s m : Int) : Prop := ∃ j : Nat, ls[j]? = some s ∧ m = f s ∧ (∀ y, y ∈ ls → f y ≤ m) ∧ ∀ (i : Nat) (y : Int), i < j → ls[i]? = some y → f y ≠ m
theorem best_uniq {f : Int → Int} {ls : List Int} {s m s' m' : Int} (h : Best f ls s m) (g : Best f ls s' m') : s = s' ∧ m = m' := by
  obtain ⟨j, h1, h2, h3, h4⟩ := h
  obtain ⟨i, g1, g2, g3, g4⟩ := g
  have e : m = m' := by
    have a := h3 s' (List.mem_of_getElem? g1)
    have b := g3 s (List.mem_of_getElem? h1)
    omega
  rcases Nat.lt_trichotomy j i with q | q | q
  · exact absurd (by omega) (g4 j s q h1)
  · subst q
    rw [h1] at g1
    exact ⟨Option.some.inj g1, e⟩
  · exact absurd (by omega) (h4 i s' q g1)
theorem best_new {f : Int → Int} {ls : List Int} {x : Int} (h : ∀ y, y ∈ ls → f y < f x) : Best f (ls ++ [x]) x (f x) := by
  refine ⟨ls.length, by simp, rfl, fun y hy => ?_, fun i y hi hy => ?_⟩
  · rcases List.mem_append.mp hy with q | q
    · have := h y q
      omega
    · simp at q
      subst q
      exact Int.le_refl _
  · rw [List.getElem?_append_left hi] at hy
    have := h y (List.mem_of_getElem? hy)
    omega
theorem best_keep {f : Int → Int} {ls : List Int} {s m x : Int} (h : Best f ls s m) (g : f x ≤ m) : Best f (ls ++ [x]) s m := by
  obtain ⟨j, h1, h2, h3, h4⟩ := h
  have hj := (List.getElem?_eq_some_iff.mp h1).1
  refine ⟨j, by rw [List.getElem?_append_left hj]; exact h1, h2, fun y hy => ?_, fun i y hi hy => ?_⟩
  · rcases List.mem_append.mp hy with q | q
    · exact h3 y q
    · simp at q
      subst q
      exact g
  · rw [List.getElem?_append_left (by omega)] at hy
    exact h4 i y hi hy
theorem best_lt {f : Int → Int} {ls : List Int} {s m x : Int} (h : Best f ls s m) (g : m < f x) : Best f (ls ++ [x]) x (f x) := by
  obtain ⟨j, h1, h2, h3, h4⟩ := h
  exact best_new fun y hy => by have := h3 y hy; omega
def leV (l : Int) (v : V) : Bool := match v with | .int x => decide (l ≤ x) | _ => false
def lmV (n b : Int) (late : Bool) (v : V) : V := match v with | .int x => .int (lm n b late x) | v => v
def fl (l : Int) (xs : List Int) : List Int := xs.filter fun x => decide (l ≤ x)
theorem fl_V {l : Int} {xs : List Int} : ((xs.map V.int).filter (leV l)).map (fun v => v) = (fl l xs).map V.int := by
  rw [List.map_id', List.filter_map]
  rfl
theorem fl_mem {l x : Int} {xs : List Int} (h : x ∈ fl l xs) : x ∈ xs ∧ l ≤ x := by
  obtain ⟨a, b⟩ := List.mem_filter.mp h
  exact ⟨a, of_decide_eq_true b⟩
theorem fl_len {l : Int} {xs : List Int} : (fl l xs).length ≤ xs.length := List.length_filter_le _ _
theorem fl_take {l x : Int} {xs : List Int} {i : Nat} (h : xs[i]? = some x) : fl l (xs.take (i + 1)) = fl l (xs.take i) ++ (if l ≤ x then [x] else []) := by
  unfold fl
  rw [List.take_add_one, h, List.filter_append]
  show _ ++ List.filter _ [x] = _
  rw [List.filter_cons, List.filter_nil]
  by_cases q : l ≤ x
  · rw [if_pos q, decide_eq_true q]; rfl
  · rw [if_neg q, decide_eq_false q]; rfl
theorem best_of_first {n b : Int} {late : Bool} {ls : List Int} {m : Int} {j : Nat} (hj : FirstAt (ls.map (lm n b late)) m j) (hm : ∀ y, y ∈ ls.map (lm n b late) → y ≤ m) : ∃ s, ls[j]? = some s ∧ Best (lm n b late) ls s m := by
  obtain ⟨h1, h2⟩ := hj
  rw [List.getElem?_map] at h1
  cases e : ls[j]? with
  | none => rw [e] at h1; cases h1
  | some s =>
    rw [e] at h1
    refine ⟨s, rfl, j, e, (Option.some.inj h1).symm, fun y hy => hm _ (List.mem_map_of_mem hy), fun i y hi hy => ?_⟩
    exact h2 i _ hi (by rw [List.getElem?_map, hy]; rfl)
section
variable {P : Program} {w : World} {K : PySem.W.Frag} {mg : Str → Option Value} {base : Heap} {C : Addr}
def spBest : Sp := fun vs H Q _ => ∃ (n b l : Int) (late : Bool) (r : Nat), vs = [.int n, .int b, .int l, .bl late] ∧ 1 ≤ n ∧ n ≤ 1000000 ∧ IsRt n r ∧ 0 ≤ b ∧ b ≤ 10000000000000000000000000000000 ∧ 1 ≤ l ∧ l ≤ n ∧
  ∀ (p : Addr) (H' : Hp) (s m : Int), H p = none → H' p = some (.tup [.int s, .int m]) → Best (lm n b late) (fl l (divs n r)) s m → Same H H' → Q (.ref p) H'
theorem scBestSize : FnScope ["places", "budget", "least", "late", "sizes", "limits", "at", "size"] ["places", "budget", "least", "late"] (defScope sBestSize) := ⟨rfl, rfl, rfl, by decide +kernel, rfl, by decide +kernel, by decide +kernel⟩
theorem ok_best_size {f : Addr} {fd : FuncData} (F : Fun K "best_size" "best_size" sBestSize f fd) (B : Bi mg) (D_check_least : Dn P w K mg base "check_least" 2 ["value", "least", "field"] spCheckLeast)
    (D__divisors : Dn P w K mg base "_divisors" 1 ["number"] spDivs) (K_segments_limit_late : Dk P w K mg base "segments_limit" 4 ["segments", "size", "budget", "late"] spLim 3 ["late"] (fun vs zs => vs ++ zs)) :
    FnOk P w K mg base CX0 5 f fd ["places", "budget", "least", "late"] spBest := by
  refine F.ok scBestSize (fun vs H Q E h => ?_) (fun cdv A outer s H vs Q E hr h => ?_)
  · obtain ⟨_, _, _, _, _, rfl, _⟩ := h
    rfl
  · obtain ⟨n, b, l, late, r, rfl, n1, n2, hrt, b1, b2, l1, l2, k⟩ := h
    refine ⟨_, (pss_cons (ps_expr (pe_dn D_check_least (hr.mono (by decide)) (by rfl) pass0 (pa_cons (pv 0) (pa_cons pe_int (pa_cons pe_str pa_nil)))))
  (pss_cons (ps_expr (pe_dn D_check_least (hr.mono (by decide)) (by rfl) pass0 (pa_cons (pv 1) (pa_cons pe_int (pa_cons pe_str pa_nil)))))
  (pss_cons (ps_expr (pe_dn D_check_least (hr.mono (by decide)) (by rfl) pass0 (pa_cons (pv 2) (pa_cons pe_int (pa_cons pe_str pa_nil)))))
  (pss_cons (ps_if (pt_cmpR op_gt (pv 2) (pv 0) (nomark _)) (pss_one ps_never)
  pss_nil)
  (pss_cons (ps_setLc (i := 4) (own := [("size", 7)]) (g := gName 7) rfl scBestSize.nd rfl rfl (sw_true rfl rfl rfl (by decide +kernel)) (pi_list (pe_dn D__divisors (hr.mono (by decide)) (by rfl) pass0 (pa_cons (pv 0) pa_nil))) (blkOk_by (own := [("size", 7)]) (N := ["places", "budget", "least", "late", "sizes", "limits", "at", "size"]) (sc := defScope sBestSize) (by decide +kernel)) (fun _ _ _ _ _ => pg_name (i := 7) scBestSize.nd rfl (Or.inl rfl)) (fun _ _ _ _ _ => (pts_one (pt_cmpR op_ge (pv 7) (pv 2) (nomark _)))) (fun _ _ _ _ _ => (pv 7)))
  (pss_cons (ps_setLc (i := 5) (own := [("size", 7)]) (g := gName 7) rfl scBestSize.nd rfl rfl (sw_true rfl rfl rfl (by decide +kernel)) (pi_list (pv 4)) (blkOk_by (own := [("size", 7)]) (N := ["places", "budget", "least", "late", "sizes", "limits", "at", "size"]) (sc := defScope sBestSize) (by decide +kernel)) (fun _ _ _ _ _ => pg_name (i := 7) scBestSize.nd rfl (Or.inl rfl)) (fun _ _ _ _ _ => pts_nil) (fun _ _ _ _ _ => (pe_dk K_segments_limit_late (hr.mono (by decide)) (by rfl) pass0 (pa_cons (pe_op op_fdivW (pv 0) (pv 7)) (pa_cons (pv 7) (pa_cons (pv 1) pa_nil))) (pk_cons (pv 3) pk_nil))))
  (pss_cons (ps_set (i := 6) scBestSize.nd rfl (Or.inl rfl) (pe_bm PySem.F.plainAttrs_list PySem.F.slot_list_index PySem.F.type_list_index mt_index (pv 5) (pa_cons (pe_callB (cr_max rfl) (by rfl) B.max (by decide +kernel) (pa_cons (pv 5) pa_nil)) pa_nil)))
  (pss_one (ps_ret (pe_tup (pa_cons (pe_ix ix_list (pv 4) (pv 6) (fun _ _ => rfl)) (pa_cons (pe_ix ix_list (pv 5) (pv 6) (fun _ _ => rfl)) pa_nil)))))))))))), ?_⟩
    walk_at "rd"
    refine ⟨n1, ?_⟩
    walk_at "rd"
    refine ⟨b1, ?_⟩
    walk_at "rd"
    refine ⟨l1, ?_⟩
    walk_at "rd"
    rw [decide_eq_false (by omega)]
    refine iteF ?_
    have dl := divs_len (n := n) (rt_1000 n2 hrt)
    refine ⟨_, rfl, n, r, rfl, n1, n2, hrt, fun p H1 hp0 hp e1 => ?_⟩
    refine ⟨p, rfl, ⟨_, SqL.of hp⟩, fun D hD => ?_⟩
    refine lc_filtL (K := K) (xs := (divs n r).map V.int) (fun v => v) (leV l) (SqL.of hp) hD (by rw [List.length_map]; omega) (fun x H2 R R0 hx e2 hR hR0 => ?_) (fun H2 e2 hD2 => ?_)
    · obtain ⟨y, hy, rfl⟩ := List.mem_map.mp hx
      refine ⟨rfl, _, rfl, _, rfl, _, _, rfl, rfl, _, rfl, ?_⟩
      refine itd (fun h => ?_) (fun h => ?_)
      · walk_at "rd"
        exact hR (decide_eq_true h) H2 (Same.refl _)
      · exact hR0 (decide_eq_false h) H2 (Same.refl _)
    rw [fl_V] at hD2
    have fll := fl_len (l := l) (xs := divs n r)
    have ne : n ∈ fl l (divs n r) := List.mem_filter.mpr ⟨last_divs n1 hrt, decide_eq_true l2⟩
    refine ⟨_, rfl, D, rfl, ⟨_, SqL.of hD2⟩, fun G hG => ?_⟩
    refine lc_growL (K := K) (xs := (fl l (divs n r)).map V.int) (lmV n b late) (SqL.of hD2) hG (by rw [List.length_map]; omega) (fun x H3 R hx e3 hR => ?_) (fun H3 e3 hG3 => ?_)
    · obtain ⟨y, hy, rfl⟩ := List.mem_map.mp hx
      obtain ⟨y1, y2⟩ := divs_mem n1 (fl_mem hy).1
      obtain ⟨z1, z2⟩ := div_pos n1 y1 y2
      refine ⟨rfl, _, rfl, ?_⟩
      walk_at "rd"
      refine ⟨divB (by omega) (by omega), ?_⟩
      walk_at "rd"
      exact ⟨z1, by omega, y1, by omega, b1, b2, hR H3 (Same.refl _)⟩
    have hG4 : H3 G = some (.lst (((fl l (divs n r)).map (lm n b late)).map V.int)) := by
      rw [hG3, List.map_map, List.map_map]; rfl
    have hD3 := e3 _ _ hD2
    refine ⟨_, rfl, .inl ⟨rfl, _, SqL.of hG4⟩, _, rfl, G, (fl l (divs n r)).map (lm n b late), rfl, SqL.of hG4, ?_, fun m hm hge => ?_⟩
    · rw [List.length_map]
      have := List.length_pos_of_mem ne
      omega
    obtain ⟨j, hj, x1, x2, x3⟩ := index_dat hm
    refine ⟨G, _, .int m, j, .int m, rfl, rfl, SqL.of hG4, rfl, flat_ints _, x1, x2, x3, ?_⟩
    obtain ⟨s', es, hbest⟩ := best_of_first hj hge
    refine ⟨_, rfl, _, rfl, D, _, _, _, rfl, rfl, SqL.of hD3, at_of (j := j) (v := .int s') (by omega) (by rw [List.getElem?_map, es]; rfl), ?_⟩
    refine ⟨_, rfl, _, rfl, G, _, _, _, rfl, rfl, SqL.of hG4, at_of (j := j) (v := .int m) (by omega) (by rw [List.getElem?_map, hj.1]; rfl), ?_⟩
    refine ⟨(by show 2 ≤ sizeLine; decide), fun q hq => ?_⟩
    exact k q _ s' m (((e1.trans e2).trans e3).free hq) upd_same hbest (((e1.trans e2).trans e3).trans (Same.upd hq))
end
end Cl

/-! ### the houses side by side -/
namespace Cl
open StX ClX
theorem kit_tt {K : PySem.W.Frag} : PySem.W.kitOne K (.type "tuple") (.type "tuple") = some true := by unfold PySem.W.kitOne; simp
/-- g is the greatest limit of a ring of m places and one budget -/
def Gr (b m g : Int) : Prop := 1 ≤ g ∧ g ≤ m ∧ goes [b] m g = true ∧ goes [b] m (g + 1) = false
theorem goes1 {b m n : Int} : goes [b] m n = (decide (n ≤ m) && decide (n - 1 ≤ b * (m - n))) := by
  unfold goes
  by_cases h : n ≤ m
  · rw [lv_one (by omega)]
  · rw [decide_eq_false h]; rfl
theorem gr_uniq {b m g h : Int} (hb : 0 ≤ b) (x : Gr b m g) (y : Gr b m h) : g = h := by
  have key : ∀ {g h : Int}, Gr b m g → Gr b m h → g < h → False := fun {g h} x y l => by
    obtain ⟨_, _, x1, x2⟩ := x
    obtain ⟨_, h1, y1, _⟩ := y
    rw [goes1] at x2 y1
    rw [decide_eq_true (by omega)] at x2 y1
    have y1 := of_decide_eq_true y1
    have x2 := of_decide_eq_false x2
    have := Int.mul_le_mul_of_nonneg_left (show m - h ≤ m - (g + 1) by omega) hb
    omega
  rcases Int.lt_trichotomy g h with l | l | l
  · exact (key x y l).elim
  · exact l
  · exact (key y x l).elim
section
variable {P : Program} {w : World} {K : PySem.W.Frag} {mg : Str → Option Value} {base : Heap} {C : Addr}
def spIsPair : Sp := fun vs H Q _ => ∃ (p : Addr) (x y : Int), vs = [.ref p] ∧ H p = some (.tup [.int x, .int y]) ∧ Q (.bl true) H
theorem scLawIsPair : FnScope ["told"] ["told"] (defScope sLawIsPair) := ⟨rfl, rfl, rfl, by decide +kernel, rfl, by decide +kernel, by decide +kernel⟩
theorem ok_is_pair {f : Addr} {fd : FuncData} (F : Fun K "_law_is_pair" "_law_is_pair" sLawIsPair f fd) (B : Bi mg) (D__law_is_number : Dn P w K mg base "_law_is_number" 1 ["told"] spIsWhole) : FnOk P w K mg base CX0 2 f fd ["told"] spIsPair := by
  refine F.ok scLawIsPair (fun vs H Q E h => ?_) (fun cdv A outer s H vs Q E hr h => ?_)
  · obtain ⟨_, _, _, rfl, _⟩ := h
    rfl
  · obtain ⟨p, x, y, rfl, hp, k⟩ := h
    refine ⟨_, (pss_cons (ps_if (PW.pt (pw_or (pt_not (pt_val (pe_callB call_isi (by rfl) B.isinstance (by decide +kernel) (pa_cons (pv 0) (pa_cons (pe_bltn (v := .ty "tuple") (by rfl) B.tupleT (by decide +kernel) rfl) pa_nil))))) (pw_or1 (pt_cmpR op_ne (pe_callB call_len_seq (by rfl) B.len PySem.boot_len (pa_cons (pv 0) pa_nil)) pe_int (nomark _))))) (pss_one (ps_ret pe_bl))
  pss_nil)
  (pss_one (ps_ret (pe_and (pe_dn D__law_is_number (hr.mono (by decide)) (by rfl) pass0 (pa_cons (pe_ix ix_tup (pv 0) pe_int (fun _ _ => rfl)) pa_nil)) (pe_one (pe_dn D__law_is_number (hr.mono (by decide)) (by rfl) pass0 (pa_cons (pe_ix ix_tup (pv 0) pe_int (fun _ _ => rfl)) pa_nil))))))), ?_⟩
    refine ⟨_, rfl, _, _, _, _, _, rfl, .ty _, .base (.tup hp), kit_tt, _, rfl, ?_⟩
    refine iteF ?_
    refine ⟨_, rfl, p, _, rfl, .inr (SqT.of hp), ?_⟩
    walk_at "rd"
    refine ⟨p, _, _, _, rfl, rfl, SqT.of hp, at_of (j := 0) rfl rfl, ?_⟩
    walk_at "rd"
    exact ⟨p, _, _, _, rfl, rfl, SqT.of hp, at_of (j := 1) rfl rfl, _, rfl, k⟩
def spHolds : Sp := fun vs H Q _ => ∃ (m b n : Int), vs = [.int m, .int b, .int n] ∧ 0 ≤ b ∧ b ≤ 10000000000000000000000000000000 ∧ -10000000000000000000000000000000000000000000000000000000000000 ≤ m ∧ m ≤ 10000000000000000000000000000000000000000000000000000000000000 ∧ -10000000000000000000000000000000000000000000000000000000000000 ≤ n ∧ n ≤ 10000000000000000000000000000000000000000000000000000000000000 ∧ Q (.bl (goes [b] m n)) H
theorem scLawHolds : FnScope ["places", "budget", "keys"] ["places", "budget", "keys"] (defScope sLawHolds) := ⟨rfl, rfl, rfl, by decide +kernel, rfl, by decide +kernel, by decide +kernel⟩
theorem ok_holds {f : Addr} {fd : FuncData} (F : Fun K "_law_holds" "_law_holds" sLawHolds f fd) : FnOk P w K mg base CX0 1 f fd ["places", "budget", "keys"] spHolds := by
  refine F.ok scLawHolds (fun vs H Q E h => ?_) (fun cdv A outer s H vs Q E hr h => ?_)
  · obtain ⟨_, _, _, rfl, _⟩ := h
    rfl
  · obtain ⟨m, b, n, rfl, b0, b1, m0, m1, n0, n1, k⟩ := h
    rw [goes1] at k
    refine ⟨_, (pss_one (ps_ret (pe_and (pe_cmpR op_le (pv 2) (pv 0) (nomark _)) (pe_one (pe_cmpR op_le (pe_op op_sub (pv 2) pe_int) (pe_op op_mulW (pv 1) (pe_op op_sub (pv 0) (pv 2))) (nomark _)))))), ?_⟩
    walk_at "rd"
    refine itd (fun h => ?_) (fun h => ?_)
    · rw [decide_eq_true h] at k
      walk_at "rd"
      refine ⟨mulB (by omega) (by omega) (by omega) (by omega), _, _, rfl, rfl, ?_⟩
      exact k
    · rw [decide_eq_false h] at k
      exact k
def spComp : Sp := fun vs H Q _ => ∃ (n s b : Int), vs = [.int n, .int s, .int b] ∧ 1 ≤ n ∧ n ≤ 1000000000000000000000000000000 ∧ 1 ≤ s ∧ s ≤ 1000000000000000000000000000000 ∧ 0 ≤ b ∧ b ≤ 1000000000000000000000000000000 ∧
  ∀ (p : Addr) (g : Int) (H' : Hp), H p = none → H' p = some (.tup [.int g, .int (lim n s b false)]) → Gr b (n * s) g → Same H H' → Q (.ref p) H'
theorem mul_b {n s : Int} (n1 : 1 ≤ n) (n2 : n ≤ 1000000000000000000000000000000) (s1 : 1 ≤ s) (s2 : s ≤ 1000000000000000000000000000000) : 1 ≤ n * s ∧ n * s ≤ 1000000000000000000000000000000000000000000000000000000000000 := by
  have a := Int.mul_le_mul n1 s1 (by omega) (by omega)
  have b := Int.mul_le_mul n2 s2 (by omega) (by omega)
  omega
theorem scCompareHouses : FnScope ["segments", "size", "budget", "segments_most", "ring_most"] ["segments", "size", "budget"] (defScope sCompareHouses) := ⟨rfl, rfl, rfl, by decide +kernel, rfl, by decide +kernel, by decide +kernel⟩
theorem ok_compare {f : Addr} {fd : FuncData} (F : Fun K "compare_houses" "compare_houses" sCompareHouses f fd) (R_Round : ClsC K mg "Round" C) (D_segments_limit : Dn P w K mg base "segments_limit" 4 ["segments", "size", "budget", "late"] spLim [.bl false])
    (D_greatest_limit : Dn P w K mg base "greatest_limit" 7 ["places", "budgets", "late", "tears"] (spGreat C) [.bl false, .int 0]) (S_Round_constant : Sn P w K mg base C "constant" 5 ["budget"] (spConst C)) : FnOk P w K mg base CX0 8 f fd ["segments", "size", "budget"] spComp := by
  refine F.ok scCompareHouses (fun vs H Q E h => ?_) (fun cdv A outer s H vs Q E hr h => ?_)
  · obtain ⟨_, _, _, rfl, _⟩ := h
    rfl
  · obtain ⟨n, s, b, rfl, n1, n2, s1, s2, b1, b2, k⟩ := h
    have mb := mul_b n1 n2 s1 s2
    refine ⟨_, (pss_cons (ps_set (i := 3) scCompareHouses.nd rfl (Or.inl rfl) (pe_dn D_segments_limit (hr.mono (by decide)) (by rfl) pass0 (pa_cons (pv 0) (pa_cons (pv 1) (pa_cons (pv 2) pa_nil)))))
  (pss_cons (ps_set (i := 4) scCompareHouses.nd rfl (Or.inl rfl) (pe_dn D_greatest_limit (hr.mono (by decide)) (by rfl) pass0 (pa_cons (pe_op op_mulW (pv 0) (pv 1)) (pa_cons (pe_sn S_Round_constant (hr.mono (by decide)) pass0 (pe_cls R_Round rfl) (pa_cons (pv 2) pa_nil)) pa_nil))))
  (pss_one (ps_ret (pe_tup (pa_cons (pv 4) (pa_cons (pv 3) pa_nil))))))), ?_⟩
    walk_at "rd"
    refine ⟨n1, by omega, s1, by omega, b1, by omega, ?_⟩
    walk_at "rd"
    refine ⟨mulB (by omega) (by omega) (by omega) (by omega), ?_⟩
    walk_at "rd"
    refine ⟨b1, by omega, fun r H1 _ hR e1 => ?_⟩
    refine ⟨n * s, r, [b], false, 0, rfl, mb.1, by omega, ⟨by omega, by omega, by omega, by omega, fun _ => rfl, fun h => Bool.noConfusion h⟩, hR, ⟨by simp, by simp, fun y hy => by simp at hy; omega⟩, fun y hy => by simp at hy; omega, fun g H2 hg e2 => ?_⟩
    walk_at "rd"
    refine ⟨(by show 2 ≤ sizeLine; decide), fun q hq => ?_⟩
    have hl : n * s - lost false 0 = n * s := by
      unfold lost; simp
    rw [hl] at hg
    have hg2 : Gr b (n * s) g := by
      rcases hg with ⟨a, _⟩ | ⟨_, a⟩
      · omega
      · exact a
    exact k q g _ ((e1.trans e2).free hq) upd_same hg2 ((e1.trans e2).trans (Same.upd hq))
def spCA : Sp := fun vs H Q _ => ∃ (n s b : Int), vs = [.int n, .int s, .int b] ∧ 1 ≤ n ∧ n ≤ 1000000000000000000000000000000 ∧ 1 ≤ s ∧ s ≤ 1000000000000000000000000000000 ∧ 0 ≤ b ∧ b ≤ 1000000000000000000000000000000 ∧ ∀ (H' : Hp), Same H H' → Q (.bl true) H'
theorem scLawCompareAgrees : FnScope ["segments", "size", "budget", "told", "places", "due"] ["segments", "size", "budget"] (defScope sLawCompareAgrees) := ⟨rfl, rfl, rfl, by decide +kernel, rfl, by decide +kernel, by decide +kernel⟩
theorem ok_compare_agrees {f : Addr} {fd : FuncData} (F : Fun K "_law_compare_agrees" "_law_compare_agrees" sLawCompareAgrees f fd) (B : Bi mg) (R_Round : ClsC K mg "Round" C) (MK_Round : Cn P w K mg base C 3 (spInit C)) (D_compare_houses : Dn P w K mg base "compare_houses" 8 ["segments", "size", "budget"] spComp)
    (D__law_is_pair : Dn P w K mg base "_law_is_pair" 2 ["told"] spIsPair) (D__law_holds : Dn P w K mg base "_law_holds" 1 ["places", "budget", "keys"] spHolds) (D__law_most : Dn P w K mg base "_law_most" 2 ["segments", "size", "budget", "written_first"] spLim)
    (D_segments_limit : Dn P w K mg base "segments_limit" 4 ["segments", "size", "budget", "late"] spLim [.bl false]) (D_greatest_limit : Dn P w K mg base "greatest_limit" 7 ["places", "budgets", "late", "tears"] (spGreat C) [.bl false, .int 0]) : FnOk P w K mg base CX0 9 f fd ["segments", "size", "budget"] spCA := by
  refine F.ok scLawCompareAgrees (fun vs H Q E h => ?_) (fun cdv A outer s H vs Q E hr h => ?_)
  · obtain ⟨_, _, _, rfl, _⟩ := h
    rfl
  · obtain ⟨n, s, b, rfl, n1, n2, s1, s2, b1, b2, k⟩ := h
    have mb := mul_b n1 n2 s1 s2
    refine ⟨_, (pss_cons (ps_set (i := 3) scLawCompareAgrees.nd rfl (Or.inl rfl) (pe_dn D_compare_houses (hr.mono (by decide)) (by rfl) pass0 (pa_cons (pv 0) (pa_cons (pv 1) (pa_cons (pv 2) pa_nil)))))
  (pss_cons (ps_if (pt_not (pt_val (pe_dn D__law_is_pair (hr.mono (by decide)) (by rfl) pass0 (pa_cons (pv 3) pa_nil)))) (pss_one (ps_ret pe_bl))
  pss_nil)
  (pss_cons (ps_set (i := 4) scLawCompareAgrees.nd rfl (Or.inl rfl) (pe_op op_mulW (pv 0) (pv 1)))
  (pss_cons (ps_if (PW.pt (pw_or (pt_cmpR op_lt (pe_ix ix_tup (pv 3) pe_int (fun _ _ => rfl)) pe_int (nomark _)) (pw_or (pt_not (pt_val (pe_dn D__law_holds (hr.mono (by decide)) (by rfl) pass0 (pa_cons (pv 4) (pa_cons (pv 2) (pa_cons (pe_ix ix_tup (pv 3) pe_int (fun _ _ => rfl)) pa_nil)))))) (pw_or1 (pt_val (pe_dn D__law_holds (hr.mono (by decide)) (by rfl) pass0 (pa_cons (pv 4) (pa_cons (pv 2) (pa_cons (pe_op op_add (pe_ix ix_tup (pv 3) pe_int (fun _ _ => rfl)) pe_int) pa_nil))))))))) (pss_one (ps_ret pe_bl))
  pss_nil)
  (pss_cons (ps_set (i := 5) scLawCompareAgrees.nd rfl (Or.inl rfl) (pe_dn D__law_most (hr.mono (by decide)) (by rfl) pass0 (pa_cons (pv 0) (pa_cons (pv 1) (pa_cons (pv 2) (pa_cons pe_bl pa_nil))))))
  (pss_cons (ps_if (PW.pt (pw_or (pt_cmpR op_ne (pe_ix ix_tup (pv 3) pe_int (fun _ _ => rfl)) (pv 5) (nomark _)) (pw_or1 (pt_cmpR op_ne (pe_dn D_segments_limit (hr.mono (by decide)) (by rfl) pass0 (pa_cons (pv 0) (pa_cons (pv 1) (pa_cons (pv 2) pa_nil)))) (pv 5) (nomark _))))) (pss_one (ps_ret pe_bl))
  pss_nil)
  (pss_one (ps_ret (pe_or (pe_cmpR op_gt (pv 4) (pe_op op_pow pe_int pe_int) (nomark _)) (pe_one (pe_cmpR op_eq (pe_dn D_greatest_limit (hr.mono (by decide)) (by rfl) pass0 (pa_cons (pv 4) (pa_cons (pe_mkR MK_Round (hr.mono (by decide)) rfl R_Round.mg pass0 (pa_cons (pv 2) pa_nil)) pa_nil))) (pe_ix ix_tup (pv 3) pe_int (fun _ _ => rfl)) (nomark _)))))))))))), ?_⟩
    walk_at "rd"
    refine ⟨n1, n2, s1, s2, b1, b2, fun p g H1 hp0 hp hg e1 => ?_⟩
    walk_at "rd"
    refine ⟨p, _, _, rfl, hp, ?_⟩
    refine ⟨_, rfl, ?_⟩
    refine iteF ?_
    walk_at "rd"
    refine ⟨mulB (by omega) (by omega) (by omega) (by omega), ?_⟩
    refine ⟨_, rfl, p, _, _, _, rfl, rfl, SqT.of hp, at_of (j := 0) rfl rfl, ?_⟩
    walk_at "rd"
    obtain ⟨g1, g2, g3, g4⟩ := id hg
    rw [decide_eq_false (by omega)]
    refine iteF ?_
    walk_at "rd"
    refine ⟨p, _, _, _, rfl, rfl, SqT.of hp, at_of (j := 0) rfl rfl, ?_⟩
    refine ⟨n * s, b, g, rfl, b1, by omega, by omega, by omega, by omega, by omega, ?_⟩
    rw [g3]
    refine ⟨_, rfl, ?_⟩
    refine iteF ?_
    walk_at "rd"
    refine ⟨p, _, _, _, rfl, rfl, SqT.of hp, at_of (j := 0) rfl rfl, ?_⟩
    walk_at "rd"
    refine ⟨b1, by omega, by omega, by omega, by omega, by omega, ?_⟩
    rw [g4]
    refine ⟨_, rfl, ?_⟩
    refine iteF ?_
    walk_at "rd"
    refine ⟨n1, by omega, s1, by omega, b1, by omega, ?_⟩
    refine ⟨_, rfl, p, _, _, _, rfl, rfl, SqT.of hp, at_of (j := 1) rfl rfl, ?_⟩
    walk_at "rd"
    refine itni (fun h => absurd rfl h) (fun _ => ?_)
    walk_at "rd"
    refine ⟨n1, by omega, s1, by omega, b1, by omega, ?_⟩
    walk_at "rd"
    refine itni (fun h => absurd rfl h) (fun _ => ?_)
    walk_at "rd"
    refine itd (fun h => k _ e1) (fun h => ?_)
    walk_at "rd"
    intro y dx' hy hdx nd
    refine ⟨y, dx', [b], rfl, upd_same, ⟨by simp, by simp, fun y hy => by simp at hy; omega⟩, fun t2 H2 ht j1 j2 j3 => ⟨rfl, ?_⟩⟩
    have e2 : Same H1 H2 := fun b o e => j3 b o (ne_of_none e hy) (by rw [upd_ne (ne_of_none e hy), upd_ne (ne_of_none e hdx)]; exact e)
    refine ⟨n * s, y, [b], false, 0, rfl, mb.1, by omega, ⟨by omega, by omega, by omega, by omega, fun _ => rfl, fun h => Bool.noConfusion h⟩, ⟨dx', t2, j1, j2⟩, ⟨by simp, by simp, fun y hy => by simp at hy; omega⟩, fun y hy => by simp at hy; omega, fun g' H3 hg' e3 => ?_⟩
    have hl : n * s - lost false 0 = n * s := by
      unfold lost; simp
    rw [hl] at hg'
    have hg2 : Gr b (n * s) g' := by
      rcases hg' with ⟨a, _⟩ | ⟨_, a⟩
      · omega
      · exact a
    obtain rfl := gr_uniq b1 hg hg2
    refine ⟨_, rfl, p, _, _, _, rfl, rfl, SqT.of ((e2.trans e3) _ _ hp), at_of (j := 0) rfl rfl, ?_⟩
    walk_at "rd"
    show Q (.bl (decide (V.int g = V.int g))) _
    rw [decide_eq_true rfl]
    exact k _ (e1.trans (e2.trans e3))
theorem small_succ {n : Int} {i : Nat} : small n (i + 1) = small n i ++ (if dv n i = true then [1 + (i : Int)] else []) := by
  unfold small
  rw [List.range_succ, List.filter_append, List.map_append, List.filter_cons, List.filter_nil]
  by_cases h : dv n i = true
  · rw [if_pos h, if_pos h]; rfl
  · rw [if_neg h, if_neg h]; rfl
theorem great_snoc {n x : Int} {l : List Int} : great n (l ++ [x]) = great n l ++ (if x * x < n then [n / x] else []) := by
  unfold great
  rw [List.filter_append, List.map_append, List.filter_cons, List.filter_nil]
  by_cases h : x * x < n
  · rw [if_pos h, decide_eq_true h]; rfl
  · rw [if_neg h, decide_eq_false h]; rfl
theorem range_get (xs : List V) : (List.range xs.length).map (fun i => xs[i]?.getD .non) = xs := by
  refine List.ext_getElem? fun i => ?_
  rw [List.getElem?_map]
  by_cases h : i < xs.length
  · rw [List.getElem?_range h, List.getElem?_eq_getElem h]
    show some (xs[i]?.getD .non) = _
    rw [List.getElem?_eq_getElem h]; rfl
  · rw [List.getElem?_eq_none (by rw [List.length_range]; omega), List.getElem?_eq_none (by omega)]; rfl
theorem same_upd2 {H H' : Hp} {p : Addr} {o : HO} (hp : H p = none) (x : Same H H') : Same H (upd H' p o) := fun b u e => by
  rw [upd_ne (ne_of_none e hp)]; exact x b u e
theorem scLawDivisors : FnScope ["places", "low", "high", "size", "k"] ["places"] (defScope sLawDivisors) := ⟨rfl, rfl, rfl, by decide +kernel, rfl, by decide +kernel, by decide +kernel⟩
theorem ok_ldivisors {f : Addr} {fd : FuncData} (F : Fun K "_law_divisors" "_law_divisors" sLawDivisors f fd) (B : Bi mg) : FnOk P w K mg base CX0 1 f fd ["places"] spDivs := by
  refine F.ok scLawDivisors (fun vs H Q E h => ?_) (fun cdv A outer s H vs Q E hr h => ?_)
  · obtain ⟨_, _, rfl, _⟩ := h
    rfl
  · obtain ⟨n, r, rfl, n1, n2, hrt, k⟩ := h
    have r2 := rt_1000 n2 hrt
    refine ⟨_, (pss_cons (ps_set (i := 1) scLawDivisors.nd rfl (Or.inl rfl) (pe_lst pa_nil))
  (pss_cons (ps_set (i := 2) scLawDivisors.nd rfl (Or.inr rfl) (pe_lst pa_nil))
  (C8.pss_cut (ps_for PassesOwn.never rfl (pi_range2 rfl B.range (pa_cons pe_int (pa_cons pe_int pa_nil))) (pg_name (i := 3) scLawDivisors.nd rfl (Or.inl rfl))
  (pss_cons (ps_if (pt_cmpR op_gt (pe_op op_mulW (pv 3) (pv 3)) (pv 0) (nomark _)) (pss_one ps_break)
  pss_nil)
  (pss_one (ps_if (pt_cmpR op_eq (pe_op op_mod (pe_callTy call_int1 (by rfl) B.intT (by decide +kernel) (pa_cons (pv 0) pa_nil)) (pv 3)) pe_int (nomark _)) (pss_cons (ps_expr (pe_bm PySem.F.plainAttrs_list PySem.F.slot_list_append PySem.F.type_list_append mt_append (pv 1) (pa_cons (pv 3) pa_nil)))
  (pss_one (ps_if (pt_cmpR op_lt (pe_op op_mulW (pv 3) (pv 3)) (pv 0) (nomark _)) (pss_one (ps_expr (pe_bm PySem.F.plainAttrs_list PySem.F.slot_list_append PySem.F.type_list_append mt_append (pv 2) (pa_cons (pe_op op_fdivW (pv 0) (pv 3)) pa_nil))))
  pss_nil)))
  pss_nil))))
  (pss_one (ps_ret (pe_op op_cat (pv 1) (pe_lc (own := [("k", 4)]) (g := gName 4) rfl scLawDivisors.nd (pi_range1 rfl B.range (pa_cons (pe_callB call_len_seq (by rfl) B.len PySem.boot_len (pa_cons (pv 2) pa_nil)) pa_nil)) (blkOk_by (own := [("k", 4)]) (N := ["places", "low", "high", "size", "k"]) (sc := defScope sLawDivisors) (by decide +kernel)) (fun _ _ _ _ _ => pg_name (i := 4) scLawDivisors.nd rfl (Or.inl rfl)) (fun _ _ _ _ _ => pts_nil) (fun _ _ _ _ _ => (pe_ix (ix_listK K) (pv 2) (pe_op op_sub (pe_op op_sub (pe_callB (call_lenK K) (by rfl) B.len PySem.boot_len (pa_cons (pv 2) pa_nil)) pe_int) (pv 4)) (fun _ _ => rfl)))))))))), ?_⟩
    refine ⟨(by show 0 ≤ sizeLine; decide), fun L hL => ?_⟩
    refine ⟨(by show 0 ≤ sizeLine; decide), fun G hG => ?_⟩
    have LG : G ≠ L := ne_of_none (o := .lst []) upd_same hG |>.symm
    have hG0 : H G = none := by
      rw [upd_ne LG] at hG
      exact hG
    refine ⟨fun σ H' => ∃ v : Option V, σ = [some (V.int n), some (V.ref L), some (V.ref G), v, none] ∧ H' L = some (.lst ((small n r).map V.int)) ∧ H' G = some (.lst ((great n (small n r)).map V.int)) ∧ Same H H', ?_, ?_⟩
    · walk_at "rd"
      have sz : (10000 : Nat) ≤ sizeLine := by decide
      refine for_range (fun i σ H' => ∃ v : Option V, σ = [some (.int n), some (.ref L), some (.ref G), v, none] ∧ H' L = some (.lst ((small n i).map V.int)) ∧ H' G = some (.lst ((great n (small n i)).map V.int)) ∧ Same H H' ∧ (i : Int) * i ≤ n)
        ⟨_, rfl, by rw [upd_ne LG.symm]; exact upd_same, upd_same, same_upd2 hG0 (same_upd2 hL (Same.refl _)), by simp; omega⟩ ?_ ?_
      · rintro i σ H1 hi ⟨v, rfl, h1, h2, e1, hsq⟩
        replace hi : i < 1000 := hi
        have il := small_len (n := n) (show i ≤ 1000 by omega)
        have gl := great_len (n := n) (l := small n i)
        refine ⟨_, rfl, _, rfl, _, _, rfl, rfl, mulB (by omega) (by omega) (by omega) (by omega), ?_⟩
        walk_at "rd"
        refine itd (fun h => ?_) (fun h => ?_)
        · have hr2 : IsRt n i := ⟨hsq, by rw [Int.add_comm]; exact h⟩
          obtain rfl := rt_uniq hr2 hrt
          exact ⟨_, rfl, h1, h2, e1⟩
        have hsq' : ((i + 1 : Nat) : Int) * ((i + 1 : Nat) : Int) ≤ n := by
          rw [show ((i + 1 : Nat) : Int) = 1 + (i : Int) by omega]; omega
        walk_at "rd"
        refine ⟨by omega, ?_⟩
        walk_at "rd"
        refine iti (fun hd => ?_) (fun hd => ?_)
        · have es : small n (i + 1) = small n i ++ [1 + (i : Int)] := by rw [small_succ, if_pos (show dv n i = true from decide_eq_true hd)]
          refine ⟨_, rfl, .inl ⟨rfl, _, SqL.of h1⟩, ?_⟩
          refine ⟨_, rfl, L, _, _, rfl, rfl, h1, (by rw [List.length_map]; omega), ?_⟩
          have hL2 : upd H1 L (.lst ((small n i).map V.int ++ [V.int (1 + (i : Int))])) L = some (.lst ((small n (i + 1)).map V.int)) := by
            rw [upd_same, es, List.map_append]; rfl
          have hG2 : upd H1 L (.lst ((small n i).map V.int ++ [V.int (1 + (i : Int))])) G = some (.lst ((great n (small n i)).map V.int)) := by
            rw [upd_ne LG]; exact h2
          have e2 : Same H (upd H1 L (.lst ((small n i).map V.int ++ [V.int (1 + (i : Int))]))) := same_upd2 hL e1
          refine ⟨_, rfl, _, rfl, _, _, rfl, rfl, mulB (by omega) (by omega) (by omega) (by omega), ?_⟩
          walk_at "rd"
          refine itd (fun hlt => ?_) (fun hlt => ?_)
          · refine ⟨_, rfl, .inl ⟨rfl, _, SqL.of hG2⟩, ?_⟩
            refine ⟨_, rfl, _, rfl, _, _, rfl, rfl, divB (by omega) (by omega), ?_⟩
            refine ⟨G, _, _, rfl, rfl, hG2, (by rw [List.length_map]; omega), ?_⟩
            refine ⟨_, rfl, by rw [upd_ne LG.symm]; exact hL2, ?_, same_upd2 hG0 e2, hsq'⟩
            rw [upd_same, es, great_snoc, if_pos hlt, List.map_append]; rfl
          · refine ⟨_, rfl, hL2, ?_, e2, hsq'⟩
            rw [hG2, es, great_snoc, if_neg hlt, List.append_nil]
        · have es : small n (i + 1) = small n i := by rw [small_succ, if_neg (by rw [show dv n i = false from decide_eq_false hd]; exact Bool.false_ne_true), List.append_nil]
          exact ⟨_, rfl, by rw [es]; exact h1, by rw [es]; exact h2, e1, hsq'⟩
      · rintro σ H1 ⟨v, rfl, h1, h2, e1, hsq⟩
        have hr2 : IsRt n 1000 := ⟨hsq, by omega⟩
        obtain rfl := rt_uniq hr2 hrt
        exact ⟨_, rfl, h1, h2, e1⟩
    rintro σ H1 ⟨v, rfl, h1, h2, e1⟩
    have sl := small_len (n := n) r2
    have gl := great_len (n := n) (l := small n r)
    have hgl : ((great n (small n r)).map V.int).length = (great n (small n r)).length := List.length_map ..
    refine ⟨_, rfl, _, rfl, G, _, rfl, .inl (SqL.of h2), _, rfl, by omega, by omega, fun D hD => ?_⟩
    rw [hgl, Int.toNat_natCast]
    refine lc_growR (fun i => (((great n (small n r)).reverse.map V.int)[i]?.getD .non)) hD (by omega) (fun i H2 R hi hS hR => ?_) (fun H2 hS hL => ?_)
    · have hx : ((great n (small n r)).map V.int)[(great n (small n r)).length - 1 - i]? = some ((((great n (small n r)).reverse.map V.int)[i]?.getD .non)) := by
        rw [List.map_reverse, List.getElem?_reverse (by omega), hgl, List.getElem?_eq_getElem (by omega)]; rfl
      refine ⟨rfl, _, rfl, _, rfl, G, _, rfl, .inl (SqL.of (hS _ _ h2)), ?_⟩
      rw [hgl]
      refine ⟨_, _, rfl, rfl, _, rfl, _, _, rfl, rfl, ?_⟩
      exact ⟨G, _, _, _, rfl, rfl, SqL.of (hS _ _ h2), at_of (j := (great n (small n r)).length - 1 - i) (by omega) hx, hR H2 (Same.refl _)⟩
    have hL2 : H2 D = some (.lst ((great n (small n r)).reverse.map V.int)) := by
      have := range_get ((great n (small n r)).reverse.map V.int)
      rw [List.length_map, List.length_reverse] at this
      rw [hL, this]
    refine ⟨L, D, _, _, rfl, rfl, hS _ _ h1, hL2, ?_, fun p hp => ?_⟩
    · rw [List.length_map, List.length_map, List.length_reverse]
      have : (10000 : Nat) ≤ sizeLine := by decide
      omega
    refine k p _ ((e1.trans hS).free hp) ?_ ((e1.trans hS).trans (Same.upd hp))
    rw [upd_same]
    unfold divs
    rw [List.map_append]
end
end Cl

/-! ### the best size, told by the law -/
namespace Cl
open StX ClX
theorem allT1 {K : PySem.W.Frag} {H : Hp} {D : Addr} {xs : List V} (h : H D = some (.lst (xs.map fun _ => V.bl true))) : SqL K H D ((xs.map fun _ => true).map V.bl) := by
  rw [List.map_map]; exact SqL.of h
theorem allT2 {α : Type} {xs : List α} : (xs.map fun _ => true).all id = true := by simp
section
variable {P : Program} {w : World} {K : PySem.W.Frag} {mg : Str → Option Value} {base : Heap} {C : Addr}
def spLBest : Sp := fun vs H Q _ => ∃ (n : Int) (z : Addr) (b l : Int) (late : Bool) (r : Nat), vs = [.int n, .ref z, .int b, .int l, .bl late] ∧ H z = some (.lst ((divs n r).map V.int)) ∧ 1 ≤ n ∧ n ≤ 1000000 ∧ IsRt n r ∧ 0 ≤ b ∧ b ≤ 10000000000000000000000000000000 ∧ 1 ≤ l ∧ l ≤ n ∧
  ∀ (p : Addr) (H' : Hp) (s m : Int), H' p = some (.tup [.int s, .int m]) → Best (lm n b late) (fl l (divs n r)) s m → Same H H' → Q (.ref p) H'
def BestV (f : Int → Int) (ls : List Int) (H : Hp) (v : V) : Prop := (v = .non ∧ ls = []) ∨ ∃ (q : Addr) (s m : Int), v = .ref q ∧ H q = some (.tup [.int s, .int m]) ∧ Best f ls s m
theorem scLawBest : FnScope ["places", "sizes", "budget", "least_size", "written_first", "best", "size", "most"] ["places", "sizes", "budget", "least_size", "written_first"] (defScope sLawBest) := ⟨rfl, rfl, rfl, by decide +kernel, rfl, by decide +kernel, by decide +kernel⟩
theorem ok_lbest {f : Addr} {fd : FuncData} (F : Fun K "_law_best" "_law_best" sLawBest f fd) (D__law_most : Dn P w K mg base "_law_most" 2 ["segments", "size", "budget", "written_first"] spLim) : FnOk P w K mg base CX0 3 f fd ["places", "sizes", "budget", "least_size", "written_first"] spLBest := by
  refine F.ok scLawBest (fun vs H Q E h => ?_) (fun cdv A outer s H vs Q E hr h => ?_)
  · obtain ⟨_, _, _, _, _, _, rfl, _⟩ := h
    rfl
  · obtain ⟨n, z, b, l, late, r, rfl, hz, n1, n2, hrt, b1, b2, l1, l2, k⟩ := h
    have r2 := rt_1000 n2 hrt
    refine ⟨_, (pss_cons (ps_set (i := 5) scLawBest.nd rfl (Or.inl rfl) pe_non)
  (pss_cons (ps_for PassesOwn.never rfl (pi_list (pv 1)) (pg_name (i := 6) scLawBest.nd rfl (Or.inl rfl))
  (pss_one (ps_if (pt_cmpR op_ge (pv 6) (pv 3) (nomark _)) (pss_cons (ps_set (i := 7) scLawBest.nd rfl (Or.inl rfl) (pe_dn D__law_most (hr.mono (by decide)) (by rfl) pass0 (pa_cons (pe_op op_fdivW (pv 0) (pv 6)) (pa_cons (pv 6) (pa_cons (pv 2) (pa_cons (pv 4) pa_nil))))))
  (pss_one (ps_if (PW.pt (pw_or (pt_cmpR op_isN (pv 5) pe_non (nomark _)) (pw_or1 (pt_cmpR op_gt (pv 7) (pe_ix ix_tup (pv 5) pe_int (fun _ _ => rfl)) (nomark _))))) (pss_one (ps_set (i := 5) scLawBest.nd rfl (Or.inl rfl) (pe_tup (pa_cons (pv 6) (pa_cons (pv 7) pa_nil)))))
  pss_nil)))
  pss_nil)))
  (pss_one (ps_ret (pv 5))))), ?_⟩
    refine ⟨_, rfl, z, rfl, ⟨_, SqL.of hz⟩, for_list (K := K) (a := z) (xs := (divs n r).map V.int) (fun i σ H' => ∃ (v : V) (u t : Option V), σ = [some (.int n), some (.ref z), some (.int b), some (.int l), some (.bl late), some v, u, t] ∧ Same H H' ∧ BestV (lm n b late) (fl l ((divs n r).take i)) H' v)
      ⟨.non, _, _, rfl, Same.refl _, .inl ⟨rfl, by rw [List.take_zero]; rfl⟩⟩ (fun i σ H' _ ⟨_, _, _, _, h, _⟩ => SqL.of (h _ _ hz)) ?_ ?_⟩
    · rintro i y σ H' hi ⟨v, u, t, rfl, e, hv⟩
      obtain ⟨x, hx, rfl⟩ := int_of_map hi
      obtain ⟨y1, y2⟩ := divs_mem n1 (List.mem_of_getElem? hx)
      obtain ⟨z1, z2⟩ := div_pos n1 y1 y2
      have ft := fl_take (l := l) hx
      walk_at "rd"
      refine itd (fun hle => ?_) (fun hle => ?_)
      · rw [if_pos hle] at ft
        walk_at "rd"
        refine ⟨divB (by omega) (by omega), ?_⟩
        walk_at "rd"
        refine ⟨z1, by omega, y1, by omega, b1, b2, ?_⟩
        rcases hv with ⟨rfl, hv⟩ | ⟨q, s', m, rfl, hq, hb⟩
        · walk_at "rd"
          refine ⟨(by show 2 ≤ sizeLine; decide), fun q hq => ?_⟩
          refine ⟨_, _, _, rfl, e.trans (Same.upd hq), .inr ⟨q, x, lm n b late x, rfl, upd_same, ?_⟩⟩
          rw [ft, hv]
          exact best_new (ls := []) fun y hy => by cases hy
        · walk_at "rd"
          refine ⟨q, _, _, _, rfl, rfl, SqT.of hq, at_of (j := 1) rfl rfl, ?_⟩
          walk_at "rd"
          refine itd (fun hm => ?_) (fun hm => ?_)
          · walk_at "rd"
            refine ⟨(by show 2 ≤ sizeLine; decide), fun q2 hq2 => ?_⟩
            refine ⟨_, _, _, rfl, e.trans (Same.upd hq2), .inr ⟨q2, x, lm n b late x, rfl, upd_same, ?_⟩⟩
            rw [ft]
            exact best_lt hb hm
          · refine ⟨_, _, _, rfl, e, .inr ⟨q, s', m, rfl, hq, ?_⟩⟩
            rw [ft]
            exact best_keep hb (Int.not_lt.mp hm)
      · rw [if_neg hle, List.append_nil] at ft
        refine ⟨_, _, _, rfl, e, ?_⟩
        rw [ft]
        exact hv
    · rintro σ H' ⟨v, u, t, rfl, e, hv⟩
      rw [List.length_map, List.take_length] at hv
      have ne : n ∈ fl l (divs n r) := List.mem_filter.mpr ⟨last_divs n1 hrt, decide_eq_true l2⟩
      rcases hv with ⟨rfl, hv⟩ | ⟨q, s', m, rfl, hq, hb⟩
      · rw [hv] at ne
        cases ne
      · exact ⟨_, rfl, k q H' s' m hq hb e⟩
def spBA : Sp := fun vs H Q _ => ∃ (n : Int) (z : Addr) (b l : Int) (r : Nat), vs = [.int n, .ref z, .int b, .int l] ∧ H z = some (.lst ((divs n r).map V.int)) ∧ 1 ≤ n ∧ n ≤ 1000000 ∧ IsRt n r ∧ 0 ≤ b ∧ b ≤ 10000000000000000000000000000000 ∧ 1 ≤ l ∧ l ≤ n ∧ ∀ (H' : Hp), Same H H' → Q (.bl true) H'
theorem scLawBestAgrees : FnScope ["places", "sizes", "budget", "least_size", "written_first", "due", "told", "one"] ["places", "sizes", "budget", "least_size"] (defScope sLawBestAgrees) := ⟨rfl, rfl, rfl, by decide +kernel, rfl, by decide +kernel, by decide +kernel⟩
theorem ok_best_agrees {f : Addr} {fd : FuncData} (F : Fun K "_law_best_agrees" "_law_best_agrees" sLawBestAgrees f fd) (B : Bi mg) (D__law_best : Dn P w K mg base "_law_best" 3 ["places", "sizes", "budget", "least_size", "written_first"] spLBest) (K_best_size_late : Dk P w K mg base "best_size" 5 ["places", "budget", "least", "late"] spBest 3 ["late"] (fun vs zs => vs ++ zs))
    (D_best_size : Dn P w K mg base "best_size" 5 ["places", "budget", "least", "late"] spBest [.bl false]) (D__law_is_pair : Dn P w K mg base "_law_is_pair" 2 ["told"] spIsPair) : FnOk P w K mg base CX0 6 f fd ["places", "sizes", "budget", "least_size"] spBA := by
  refine F.ok scLawBestAgrees (fun vs H Q E h => ?_) (fun cdv A outer s H vs Q E hr h => ?_)
  · obtain ⟨_, _, _, _, _, rfl, _⟩ := h
    rfl
  · obtain ⟨n, z, b, l, r, rfl, hz, n1, n2, hrt, b1, b2, l1, l2, k⟩ := h
    refine ⟨_, (pss_cons (ps_for PassesOwn.never rfl (pi_list (pe_lst (pa_cons pe_bl (pa_cons pe_bl pa_nil)))) (pg_name (i := 4) scLawBestAgrees.nd rfl (Or.inl rfl))
  (pss_cons (ps_set (i := 5) scLawBestAgrees.nd rfl (Or.inr rfl) (pe_dn D__law_best (hr.mono (by decide)) (by rfl) pass0 (pa_cons (pv 0) (pa_cons (pv 1) (pa_cons (pv 2) (pa_cons (pv 3) (pa_cons (pv 4) pa_nil)))))))
  (pss_cons (ps_set (i := 6) scLawBestAgrees.nd rfl (Or.inl rfl) (pe_lst (pa_cons (pe_dk K_best_size_late (hr.mono (by decide)) (by rfl) pass0 (pa_cons (pv 0) (pa_cons (pv 2) (pa_cons (pv 3) pa_nil))) (pk_cons (pv 4) pk_nil)) pa_nil)))
  (C8.pss_cut (ps_if (PW.pt (pw_and (pt_not (pt_val (pv 4))) (pw_and1 (pt_cmpR op_le (pv 0) pe_int (nomark _))))) (pss_one (ps_expr (pe_bm PySem.F.plainAttrs_list PySem.F.slot_list_append PySem.F.type_list_append mt_append (pv 6) (pa_cons (pe_dn D_best_size (hr.mono (by decide)) (by rfl) pass0 (pa_cons (pv 0) (pa_cons (pv 2) (pa_cons (pv 3) pa_nil)))) pa_nil))))
  pss_nil)
  (pss_one (ps_if (pt_not (pt_val (pe_callB (cr_all rfl) (by rfl) B.all (by decide +kernel) (pa_cons (pe_lc (own := [("one", 7)]) (g := gName 7) rfl scLawBestAgrees.nd (pi_list (pv 6)) (blkOk_by (own := [("one", 7)]) (N := ["places", "sizes", "budget", "least_size", "written_first", "due", "told", "one"]) (sc := defScope sLawBestAgrees) (by decide +kernel)) (fun _ _ _ _ _ => pg_name (i := 7) scLawBestAgrees.nd rfl (Or.inl rfl)) (fun _ _ _ _ _ => pts_nil) (fun _ _ _ _ _ => (pe_and (pe_dn D__law_is_pair (hr.mono (by decide)) (by rfl) pass0 (pa_cons (pv 7) pa_nil)) (pe_one (pe_cmpR (op_eqDK K hr.units) (pv 7) (pv 5) (nomark _)))))) pa_nil)))) (pss_one (ps_ret pe_bl))
  pss_nil))))))
  (pss_one (ps_ret pe_bl))), ?_⟩
    refine ⟨(by show 2 ≤ sizeLine; decide), fun Z hZ => ?_⟩
    refine ⟨Z, rfl, ⟨_, SqL.of upd_same⟩, for_list (K := K) (a := Z) (xs := [.bl false, .bl true]) (fun i σ H' => ∃ (u v t : Option V), σ = [some (.int n), some (.ref z), some (.int b), some (.int l), u, v, t, none] ∧ Same (upd H Z (.lst [.bl false, .bl true])) H')
      ⟨_, _, _, rfl, Same.refl _⟩ (fun i σ H' _ ⟨_, _, _, _, h⟩ => SqL.of (h _ _ upd_same)) ?_ ?_⟩
    · rintro i y σ H1 hi ⟨u, v, t, rfl, e⟩
      obtain ⟨late, rfl⟩ : ∃ late, y = V.bl late := by
        have := List.mem_of_getElem? hi
        simp at this
        rcases this with rfl | rfl <;> exact ⟨_, rfl⟩
      have e1 : Same H H1 := (Same.upd hZ).trans e
      walk_at "rd"
      refine ⟨_, z, b, l, late, r, rfl, e1 _ _ hz, n1, n2, hrt, b1, b2, l1, l2, fun D H2 s' m hD hb e2 => ?_⟩
      walk_at "rd"
      refine ⟨n, b, l, late, r, rfl, n1, n2, hrt, b1, b2, l1, l2, fun p H3 s2 m2 _ hp hb2 e3 => ?_⟩
      obtain ⟨rfl, rfl⟩ := best_uniq hb hb2
      refine ⟨(by show 1 ≤ sizeLine; decide), fun T hT => ?_⟩
      have e13 := e2.trans e3
      have hT1 : H1 T = none := e13.free hT
      have hD3 := e3 _ _ hD
      have hTp : p ≠ T := fun q => by rw [q] at hp; rw [hp] at hT; cases hT
      have hTD : D ≠ T := fun q => by rw [q] at hD3; rw [hD3] at hT; cases hT
      refine ⟨fun σ H' => ∃ (ps : List Addr), σ = [some (V.int n), some (V.ref z), some (V.int b), some (V.int l), some (V.bl late), some (V.ref D), some (V.ref T), none] ∧ H' T = some (.lst (ps.map V.ref)) ∧ (∀ q, q ∈ ps → H' q = some (.tup [.int s', .int m])) ∧ ps.length ≤ 2 ∧ H' D = some (.tup [.int s', .int m]) ∧ Same H1 H', ?_, ?_⟩
      · cases late
        · refine ⟨_, rfl, _, rfl, ?_⟩
          refine iteT ?_
          walk_at "rd"
          have m1 : ∃ (ps : List Addr), upd H3 T (.lst [V.ref p]) T = some (.lst (ps.map V.ref)) ∧ (∀ q, q ∈ ps → upd H3 T (.lst [V.ref p]) q = some (.tup [.int s', .int m])) ∧ ps = [p] := ⟨[p], upd_same, fun q hq => by simp at hq; subst hq; rw [upd_ne hTp]; exact hp, rfl⟩
          refine itd (fun h => ?_) (fun h => ?_)
          · refine ⟨_, rfl, .inl ⟨rfl, _, SqL.of upd_same⟩, ?_⟩
            walk_at "rd"
            refine ⟨n, b, l, false, r, rfl, n1, n2, hrt, b1, b2, l1, l2, fun q5 H5 s3 m3 hq5 hp5 hb3 e5 => ?_⟩
            obtain ⟨rfl, rfl⟩ := best_uniq hb hb3
            have hT5 := e5 _ _ (upd_same (H := H3) (a := T) (o := .lst [V.ref p]))
            have hqT : q5 ≠ T := fun q => by
              rw [q] at hp5
              rw [hp5] at hT5
              cases hT5
            refine ⟨T, _, _, rfl, rfl, hT5, (by show 1 < sizeLine; decide), ?_⟩
            refine ⟨[p, q5], rfl, by rw [upd_same]; rfl, fun q hq => ?_, by simp, ?_, ?_⟩
            · simp at hq
              rcases hq with rfl | rfl
              · rw [upd_ne hTp]
                exact e5 _ _ (by rw [upd_ne hTp]; exact hp)
              · rw [upd_ne hqT]
                exact hp5
            · rw [upd_ne hTD]
              exact e5 _ _ (by rw [upd_ne hTD]; exact hD3)
            · exact same_upd2 hT1 ((e13.trans (Same.upd hT)).trans e5)
          · exact ⟨[p], rfl, upd_same, fun q hq => by simp at hq; subst hq; rw [upd_ne hTp]; exact hp, by simp, by rw [upd_ne hTD]; exact hD3, e13.trans (Same.upd hT)⟩
        · refine ⟨_, rfl, _, rfl, ?_⟩
          refine iteF ?_
          exact ⟨[p], rfl, upd_same, fun q hq => by simp at hq; subst hq; rw [upd_ne hTp]; exact hp, by simp, by rw [upd_ne hTD]; exact hD3, e13.trans (Same.upd hT)⟩
      rintro σ H4 ⟨ps, rfl, hT4, hps, pl, hD4, e4⟩
      walk_at "rd"
      refine ⟨⟨_, SqL.of hT4⟩, fun G hG => ?_⟩
      refine lc_growL (K := K) (xs := ps.map V.ref) (fun _ => .bl true) (SqL.of hT4) hG (by rw [List.length_map]; omega) (fun y H5 R hy e5 hR => ?_) (fun H5 e5 hG5 => ?_)
      · obtain ⟨q, hq, rfl⟩ := List.mem_map.mp hy
        have hq5 := e5 _ _ (hps q hq)
        have hD5 := e5 _ _ hD4
        refine ⟨rfl, _, rfl, q, _, _, rfl, hq5, ?_⟩
        walk_at "rd"
        refine ⟨.tuple ([s', m].map .int), .tuple ([s', m].map .int), .tup (SqT.of hq5) (dpAll_ints [s', m]), .tup (SqT.of hD5) (dpAll_ints [s', m]), shaped_tup [s', m], shaped_tup [s', m], ?_⟩
        show R (.bl (PyData.eqvAll ([s', m].map .int) ([s', m].map .int))) H5
        rw [eqvAll_ints, decide_eq_true rfl]
        exact hR H5 (Same.refl _)
      refine ⟨G, (ps.map V.ref).map fun _ => true, rfl, allT1 hG5, ?_⟩
      rw [allT2]
      refine ⟨_, rfl, ?_⟩
      refine iteF ?_
      exact ⟨_, _, _, rfl, e.trans (e4.trans e5)⟩
    · rintro σ H' ⟨u, v, t, rfl, e⟩
      exact k _ ((Same.upd hZ).trans e)
end
end Cl

/-! ### law k05: draws, ties, a case, the law -/
namespace Cl
open StX ClX
theorem facs : ∀ j : Nat, j < 10 → 1 ≤ ([2, 3, 2, 5, 2, 3, 7, 11, 2, 3] : List Int).getD j 0 ∧ ([2, 3, 2, 5, 2, 3, 7, 11, 2, 3] : List Int).getD j 0 ≤ 11 ∧ ([2, 3, 2, 5, 2, 3, 7, 11, 2, 3] : List Int)[j]? = some (([2, 3, 2, 5, 2, 3, 7, 11, 2, 3] : List Int).getD j 0) := by decide
theorem get_of {bs : List Int} {d : Int} (h0 : 0 ≤ d) (h1 : d < bs.length) : ∃ x, x ∈ bs ∧ (bs.map V.int)[d.toNat]? = some (.int x) := by
  have h : d.toNat < bs.length := by omega
  refine ⟨bs[d.toNat], List.getElem_mem h, ?_⟩
  rw [List.getElem?_map, List.getElem?_eq_getElem h]; rfl
section
variable {P : Program} {w : World} {K : PySem.W.Frag} {mg : Str → Option Value} {base : Heap} {C : Addr}
def spPl : Sp := fun vs H Q _ => ∃ (a : Addr), vs = [.ref a] ∧ BagAt H a ∧ ∀ (d : Int) (H' : Hp), 1 ≤ d → d ≤ 1000000 → BagAt H' a → But a H H' → Q (.int d) H'
theorem scLawPlaces : FnScope ["bag", "bound", "places", "k", "factor"] ["bag"] (defScope sLawPlaces) := ⟨rfl, rfl, rfl, by decide +kernel, rfl, by decide +kernel, by decide +kernel⟩
theorem ok_lplaces {f : Addr} {fd : FuncData} (F : Fun K "_law_places" "_law_places" sLawPlaces f fd) (B : Bi mg) (D__law_take : Dn P w K mg base "_law_take" 1 ["bag", "size"] spTake) : FnOk P w K mg base CX0 2 f fd ["bag"] spPl := by
  refine F.ok scLawPlaces (fun vs H Q E h => ?_) (fun cdv A outer s H vs Q E hr h => ?_)
  · obtain ⟨_, rfl, _⟩ := h
    rfl
  · obtain ⟨a, rfl, hB, k⟩ := h
    have p6 : (10 : Int) ^ (6 : Int).toNat = 1000000 := by decide
    refine ⟨_, (pss_cons (ps_set (i := 1) scLawPlaces.nd rfl (Or.inl rfl) pe_int)
  (C8.pss_cut (ps_if (pt_cmpR op_eq (pe_dn D__law_take (hr.mono (by decide)) (by rfl) pass0 (pa_cons (pv 0) (pa_cons pe_int pa_nil))) pe_int (nomark _)) (pss_one (ps_set (i := 1) scLawPlaces.nd rfl (Or.inl rfl) (pe_op op_pow pe_int pe_int)))
  pss_nil)
  (pss_cons (ps_if (pt_cmpR op_eq (pe_dn D__law_take (hr.mono (by decide)) (by rfl) pass0 (pa_cons (pv 0) (pa_cons pe_int pa_nil))) pe_int (nomark _)) (pss_one (ps_ret (pe_op op_add pe_int (pe_dn D__law_take (hr.mono (by decide)) (by rfl) pass0 (pa_cons (pv 0) (pa_cons (pv 1) pa_nil))))))
  pss_nil)
  (pss_cons (ps_set (i := 2) scLawPlaces.nd rfl (Or.inl rfl) pe_int)
  (pss_cons (ps_for PassesOwn.never rfl (pi_range1 rfl B.range (pa_cons (pe_op op_add pe_int (pe_dn D__law_take (hr.mono (by decide)) (by rfl) pass0 (pa_cons (pv 0) (pa_cons pe_int pa_nil)))) pa_nil)) (pg_name (i := 3) scLawPlaces.nd rfl (Or.inl rfl))
  (pss_cons (ps_set (i := 4) scLawPlaces.nd rfl (Or.inl rfl) (pe_ix ix_list (pe_lst (pa_cons pe_int (pa_cons pe_int (pa_cons pe_int (pa_cons pe_int (pa_cons pe_int (pa_cons pe_int (pa_cons pe_int (pa_cons pe_int (pa_cons pe_int (pa_cons pe_int pa_nil))))))))))) (pe_dn D__law_take (hr.mono (by decide)) (by rfl) pass0 (pa_cons (pv 0) (pa_cons pe_int pa_nil))) (fun _ _ => rfl)))
  (pss_one (ps_if (pt_cmpR op_le (pe_op op_mulW (pv 2) (pv 4)) (pv 1) (nomark _)) (pss_one (ps_set (i := 2) scLawPlaces.nd rfl (Or.inl rfl) (pe_op op_mulW (pv 2) (pv 4))))
  pss_nil))))
  (pss_one (ps_ret (pv 2)))))))), ?_⟩
    refine ⟨fun σ H' => ∃ bd, σ = [some (V.ref a), some (V.int bd), none, none, none] ∧ 1 ≤ bd ∧ bd ≤ 1000000 ∧ BagAt H' a ∧ But a H H', ?_, ?_⟩
    · walk_at "rd"
      refine ⟨hB, by decide, by decide, fun d H1 _ _ hB1 b1 => ?_⟩
      walk_at "rd"
      refine iti (fun _ => ?_) (fun _ => ?_)
      · walk_at "rd"
        exact ⟨by decide, hB1, b1⟩
      · exact ⟨_, rfl, by omega, by omega, hB1, b1⟩
    rintro σ H1 ⟨bd, rfl, d1, d2, hB1, b1⟩
    walk_at "rd"
    refine ⟨hB1, by decide, by decide, fun t H2 _ _ hB2 b2 => ?_⟩
    replace b2 := b1.trans b2
    walk_at "rd"
    refine iti (fun _ => ?_) (fun _ => ?_)
    · walk_at "rd"
      refine ⟨hB2, d1, by omega, fun t H3 t0 t1 hB3 b3 => ?_⟩
      exact ⟨_, _, rfl, rfl, k _ _ (by omega) (by omega) hB3 (b2.trans b3)⟩
    walk_at "rd"
    refine ⟨hB2, by decide, by decide, fun t H3 t0 t1 hB3 b3 => ?_⟩
    replace b3 := b2.trans b3
    walk_at "rd"
    refine ⟨by omega, by omega, ?_⟩
    refine for_range (fun i σ H' => ∃ (pl : Int) (u v : Option V), σ = [some (V.ref a), some (V.int bd), some (V.int pl), u, v] ∧ 1 ≤ pl ∧ pl ≤ bd ∧ BagAt H' a ∧ But a H H') ⟨1, _, _, rfl, by omega, d1, hB3, b3⟩ ?_ ?_
    · rintro i σ H4 hi ⟨pl, u, v, rfl, q1, q2, hB4, b4⟩
      walk_at "rd"
      refine ⟨(by show 10 ≤ sizeLine; decide), fun L hL => ?_⟩
      have La := bag_ne hB4 hL
      walk_at "rd"
      refine ⟨hB4.same (Same.upd hL), by decide, by decide, fun d H5 d0 d1' hB5 b5 => ?_⟩
      obtain ⟨f1, f2, f3⟩ := facs d.toNat (by omega)
      generalize ([2, 3, 2, 5, 2, 3, 7, 11, 2, 3] : List Int).getD d.toNat 0 = fc at f1 f2 f3
      have hL5 := b5 L _ La upd_same
      refine ⟨L, _, _, _, rfl, rfl, SqL.of hL5, at_of (j := d.toNat) (v := .int fc) (by omega) (by rw [show ([.int 2, .int 3, .int 2, .int 5, .int 2, .int 3, .int 7, .int 11, .int 2, .int 3] : List V) = ([2, 3, 2, 5, 2, 3, 7, 11, 2, 3] : List Int).map V.int from rfl, List.getElem?_map, f3]; rfl), ?_⟩
      walk_at "rd"
      refine ⟨mulB (by omega) (by omega) (by omega) (by omega), ?_⟩
      walk_at "rd"
      have b45 : But a H H5 := (b4.trans (But.of (Same.upd hL))).trans b5
      refine itd (fun h => ?_) (fun h => ?_)
      · walk_at "rd"
        refine ⟨mulB (by omega) (by omega) (by omega) (by omega), ?_⟩
        have := Int.mul_le_mul q1 f1 (by omega) (by omega)
        exact ⟨_, _, _, rfl, by omega, h, hB5, b45⟩
      · exact ⟨_, _, _, rfl, q1, q2, hB5, b45⟩
    · rintro σ H4 ⟨pl, u, v, rfl, q1, q2, hB4, b4⟩
      exact ⟨_, rfl, k _ _ q1 (by omega) hB4 b4⟩
def spLs : Sp := fun vs H Q _ => ∃ (a z : Addr) (n : Int) (r : Nat), vs = [.ref a, .int n, .ref z] ∧ BagAt H a ∧ z ≠ a ∧ H z = some (.lst ((divs n r).map V.int)) ∧ 1 ≤ n ∧ n ≤ 1000000 ∧ IsRt n r ∧ ∀ (d : Int) (H' : Hp), 1 ≤ d → d ≤ n → BagAt H' a → But a H H' → Q (.int d) H'
theorem scLawLeastSize : FnScope ["bag", "places", "sizes", "way", "size"] ["bag", "places", "sizes"] (defScope sLawLeastSize) := ⟨rfl, rfl, rfl, by decide +kernel, rfl, by decide +kernel, by decide +kernel⟩
theorem ok_least_size {f : Addr} {fd : FuncData} (F : Fun K "_law_least_size" "_law_least_size" sLawLeastSize f fd) (B : Bi mg) (D__law_take : Dn P w K mg base "_law_take" 1 ["bag", "size"] spTake) : FnOk P w K mg base CX0 2 f fd ["bag", "places", "sizes"] spLs := by
  refine F.ok scLawLeastSize (fun vs H Q E h => ?_) (fun cdv A outer s H vs Q E hr h => ?_)
  · obtain ⟨_, _, _, _, rfl, _⟩ := h
    rfl
  · obtain ⟨a, z, n, r, rfl, hB, za, hz, n1, n2, hrt, k⟩ := h
    have dl := divs_len (n := n) (rt_1000 n2 hrt)
    have dp := List.length_pos_of_mem (last_divs n1 hrt)
    have hl : ((divs n r).map V.int).length = (divs n r).length := List.length_map ..
    refine ⟨_, (pss_cons (ps_set (i := 3) scLawLeastSize.nd rfl (Or.inl rfl) (pe_dn D__law_take (hr.mono (by decide)) (by rfl) pass0 (pa_cons (pv 0) (pa_cons pe_int pa_nil))))
  (pss_cons (ps_if (pt_cmpR op_eq (pv 3) pe_int (nomark _)) (pss_one (ps_ret pe_int))
  pss_nil)
  (pss_cons (ps_if (pt_cmpR op_eq (pv 3) pe_int (nomark _)) (pss_one (ps_ret (pv 1)))
  pss_nil)
  (pss_cons (ps_if (pt_cmpR op_eq (pv 3) pe_int (nomark _)) (pss_one (ps_ret (pe_op op_add pe_int (pe_dn D__law_take (hr.mono (by decide)) (by rfl) pass0 (pa_cons (pv 0) (pa_cons (pv 1) pa_nil))))))
  pss_nil)
  (pss_cons (ps_if (pt_cmpR op_eq (pv 3) pe_int (nomark _)) (pss_one (ps_ret (pe_callB (call_min2 rfl) (by rfl) B.min (by decide +kernel) (pa_cons (pv 1) (pa_cons (pe_op op_add pe_int (pe_dn D__law_take (hr.mono (by decide)) (by rfl) pass0 (pa_cons (pv 0) (pa_cons pe_int pa_nil)))) pa_nil)))))
  pss_nil)
  (pss_cons (ps_set (i := 4) scLawLeastSize.nd rfl (Or.inl rfl) (pe_ix ix_list (pv 2) (pe_dn D__law_take (hr.mono (by decide)) (by rfl) pass0 (pa_cons (pv 0) (pa_cons (pe_callB call_len_seq (by rfl) B.len PySem.boot_len (pa_cons (pv 2) pa_nil)) pa_nil))) (fun _ _ => rfl)))
  (pss_cons (ps_if (pt_cmpR op_eq (pv 3) pe_int (nomark _)) (pss_one (ps_ret (pe_callB (call_min2 rfl) (by rfl) B.min (by decide +kernel) (pa_cons (pv 1) (pa_cons (pe_op op_add (pv 4) pe_int) pa_nil)))))
  pss_nil)
  (pss_cons (ps_if (pt_cmpR op_eq (pv 3) pe_int (nomark _)) (pss_one (ps_ret (pe_ix ix_list (pv 2) (pe_callB (call_min2 rfl) (by rfl) B.min (by decide +kernel) (pa_cons (pe_op op_sub (pe_callB call_len_seq (by rfl) B.len PySem.boot_len (pa_cons (pv 2) pa_nil)) pe_int) (pa_cons (pe_op op_add pe_int (pe_dn D__law_take (hr.mono (by decide)) (by rfl) pass0 (pa_cons (pv 0) (pa_cons pe_int pa_nil)))) pa_nil))) (fun _ _ => rfl))))
  pss_nil)
  (pss_one (ps_ret (pv 4))))))))))), ?_⟩
    walk_at "rd"
    refine ⟨hB, by decide, by decide, fun way H1 _ _ hB1 b1 => ?_⟩
    walk_at "rd"
    refine iti (fun _ => ?_) (fun _ => ?_)
    · walk_at "rd"
      exact k _ _ (by omega) n1 hB1 b1
    walk_at "rd"
    refine iti (fun _ => ?_) (fun _ => ?_)
    · walk_at "rd"
      exact k _ _ n1 (by omega) hB1 b1
    walk_at "rd"
    refine iti (fun _ => ?_) (fun _ => ?_)
    · walk_at "rd"
      refine ⟨hB1, n1, by omega, fun t H2 t0 t1 hB2 b2 => ?_⟩
      walk_at "rd"
      exact k _ _ (by omega) (by omega) hB2 (b1.trans b2)
    walk_at "rd"
    refine iti (fun _ => ?_) (fun _ => ?_)
    · walk_at "rd"
      refine ⟨hB1, by decide, by decide, fun t H2 t0 t1 hB2 b2 => ?_⟩
      walk_at "rd"
      exact k _ _ (by split <;> omega) (by split <;> omega) hB2 (b1.trans b2)
    have hz1 := b1 z _ za hz
    refine ⟨_, rfl, _, rfl, _, rfl, z, _, rfl, .inl (SqL.of hz1), ?_⟩
    rw [hl]
    refine ⟨a, _, rfl, hB1, by omega, by omega, fun d H2 d0 d1 hB2 b2 => ?_⟩
    have hz2 := b2 z _ za hz1
    obtain ⟨x, hx, hg⟩ := get_of d0 d1
    obtain ⟨x1, x2⟩ := divs_mem n1 hx
    refine ⟨z, _, _, _, rfl, rfl, SqL.of hz2, at_of (j := d.toNat) (by omega) hg, ?_⟩
    replace b2 := b1.trans b2
    walk_at "rd"
    refine iti (fun _ => ?_) (fun _ => ?_)
    · walk_at "rd"
      exact k _ _ (by split <;> omega) (by split <;> omega) hB2 b2
    walk_at "rd"
    refine iti (fun _ => ?_) (fun _ => ?_)
    · refine ⟨_, rfl, _, rfl, z, _, rfl, .inl (SqL.of hz2), ?_⟩
      rw [hl]
      walk_at "rd"
      refine ⟨hB2, by decide, by decide, fun t H3 t0 t1 hB3 b3 => ?_⟩
      have hz3 := b3 z _ za hz2
      obtain ⟨y, hy, hg'⟩ := get_of (bs := divs n r) (d := if 1 + t < ((divs n r).length : Int) - 1 then 1 + t else ((divs n r).length : Int) - 1) (by split <;> omega) (by split <;> omega)
      obtain ⟨y1, y2⟩ := divs_mem n1 hy
      refine ⟨_, _, rfl, rfl, _, _, rfl, z, _, _, _, rfl, rfl, SqL.of hz3, at_of (by split <;> omega) hg', ?_⟩
      exact k _ _ y1 y2 hB3 (b2.trans b3)
    walk_at "rd"
    exact k _ _ x1 x2 hB2 b2
def spBud : Sp := fun vs H Q _ => ∃ (a z : Addr) (n : Int) (r : Nat), vs = [.ref a, .ref z] ∧ BagAt H a ∧ z ≠ a ∧ H z = some (.lst ((divs n r).map V.int)) ∧ 1 ≤ n ∧ n ≤ 1000000 ∧ IsRt n r ∧ ∀ (d : Int) (H' : Hp), 0 ≤ d → d ≤ 1000000000000000000000000000000 → BagAt H' a → But a H H' → Q (.int d) H'
theorem scLawBudget : FnScope ["bag", "sizes", "way"] ["bag", "sizes"] (defScope sLawBudget) := ⟨rfl, rfl, rfl, by decide +kernel, rfl, by decide +kernel, by decide +kernel⟩
theorem ok_budget {f : Addr} {fd : FuncData} (F : Fun K "_law_budget" "_law_budget" sLawBudget f fd) (B : Bi mg) (D__law_take : Dn P w K mg base "_law_take" 1 ["bag", "size"] spTake) (D__law_number : Dn P w K mg base "_law_number" 2 ["bag", "most"] spNumber) : FnOk P w K mg base CX0 3 f fd ["bag", "sizes"] spBud := by
  refine F.ok scLawBudget (fun vs H Q E h => ?_) (fun cdv A outer s H vs Q E hr h => ?_)
  · obtain ⟨_, _, _, _, rfl, _⟩ := h
    rfl
  · obtain ⟨a, z, n, r, rfl, hB, za, hz, n1, n2, hrt, k⟩ := h
    have dl := divs_len (n := n) (rt_1000 n2 hrt)
    have dp := List.length_pos_of_mem (last_divs n1 hrt)
    have hl : ((divs n r).map V.int).length = (divs n r).length := List.length_map ..
    refine ⟨_, (pss_cons (ps_set (i := 2) scLawBudget.nd rfl (Or.inl rfl) (pe_dn D__law_take (hr.mono (by decide)) (by rfl) pass0 (pa_cons (pv 0) (pa_cons pe_int pa_nil))))
  (pss_cons (ps_if (pt_cmpR op_eq (pv 2) pe_int (nomark _)) (pss_one (ps_ret (pe_dn D__law_number (hr.mono (by decide)) (by rfl) pass0 (pa_cons (pv 0) (pa_cons (pe_op op_pow pe_int pe_int) pa_nil)))))
  pss_nil)
  (pss_cons (ps_if (pt_cmpR op_eq (pv 2) pe_int (nomark _)) (pss_one (ps_ret (pe_callB (call_max2 rfl) (by rfl) B.max (by decide +kernel) (pa_cons pe_int (pa_cons (pe_op op_add (pe_op op_sub (pe_ix ix_list (pv 1) (pe_dn D__law_take (hr.mono (by decide)) (by rfl) pass0 (pa_cons (pv 0) (pa_cons (pe_callB call_len_seq (by rfl) B.len PySem.boot_len (pa_cons (pv 1) pa_nil)) pa_nil))) (fun _ _ => rfl)) pe_int) (pe_dn D__law_take (hr.mono (by decide)) (by rfl) pass0 (pa_cons (pv 0) (pa_cons pe_int pa_nil)))) pa_nil)))))
  pss_nil)
  (pss_one (ps_ret (pe_dn D__law_take (hr.mono (by decide)) (by rfl) pass0 (pa_cons (pv 0) (pa_cons pe_int pa_nil)))))))), ?_⟩
    walk_at "rd"
    refine ⟨hB, by decide, by decide, fun way H1 _ _ hB1 b1 => ?_⟩
    walk_at "rd"
    refine iti (fun _ => ?_) (fun _ => ?_)
    · walk_at "rd"
      refine ⟨hB1, by decide, by decide, fun t H2 t0 t1 hB2 b2 => ?_⟩
      have t2 : t ≤ 1000000000000000000000000000000 := t1
      exact k _ _ t0 t2 hB2 (b1.trans b2)
    walk_at "rd"
    refine iti (fun _ => ?_) (fun _ => ?_)
    · have hz1 := b1 z _ za hz
      refine ⟨_, rfl, _, rfl, _, rfl, z, _, rfl, .inl (SqL.of hz1), ?_⟩
      rw [hl]
      refine ⟨a, _, rfl, hB1, by omega, by omega, fun d H2 d0 d1 hB2 b2 => ?_⟩
      have hz2 := b2 z _ za hz1
      obtain ⟨x, hx, hg⟩ := get_of d0 d1
      obtain ⟨x1, x2⟩ := divs_mem n1 hx
      refine ⟨z, _, _, _, rfl, rfl, SqL.of hz2, at_of (j := d.toNat) (by omega) hg, ?_⟩
      replace b2 := b1.trans b2
      walk_at "rd"
      refine ⟨hB2, by decide, by decide, fun t H3 t0 t1 hB3 b3 => ?_⟩
      walk_at "rd"
      exact k _ _ (by split <;> omega) (by split <;> omega) hB3 (b2.trans b3)
    walk_at "rd"
    refine ⟨hB1, by decide, by decide, fun t H2 t0 t1 hB2 b2 => ?_⟩
    exact k _ _ t0 (by omega) hB2 (b1.trans b2)
/-- the ties: a list of pairs, each a small budget and a size -/
def Ties (H : Hp) (ls : List Int) (ts : List Addr) : Prop := ∀ t, t ∈ ts → ∃ b s : Int, H t = some (.tup [.int b, .int s]) ∧ 1 ≤ b ∧ b ≤ 12 ∧ s ∈ ls
theorem Ties.same {H H' : Hp} {ls : List Int} {ts : List Addr} (h : Ties H ls ts) (x : Same H H') : Ties H' ls ts := fun t ht => by
  obtain ⟨b, s, e, q⟩ := h t ht
  exact ⟨b, s, x _ _ e, q⟩
def spTies : Sp := fun vs H Q _ => ∃ (z : Addr) (n : Int) (r : Nat), vs = [.int n, .ref z] ∧ H z = some (.lst ((divs n r).map V.int)) ∧ 1 ≤ n ∧ n ≤ 1000000 ∧ IsRt n r ∧ ∀ (F : Addr) (ts : List Addr) (H' : Hp), H F = none → H' F = some (.lst (ts.map V.ref)) → Ties H' (divs n r) ts → ts.length ≤ 24000 → Same H H' → Q (.ref F) H'
theorem scLawTies : FnScope ["places", "sizes", "found", "budget", "best", "k", "size", "most"] ["places", "sizes"] (defScope sLawTies) := ⟨rfl, rfl, rfl, by decide +kernel, rfl, by decide +kernel, by decide +kernel⟩
theorem ok_ties {f : Addr} {fd : FuncData} (F : Fun K "_law_ties" "_law_ties" sLawTies f fd) (B : Bi mg) (D__law_most : Dn P w K mg base "_law_most" 2 ["segments", "size", "budget", "written_first"] spLim) : FnOk P w K mg base CX0 3 f fd ["places", "sizes"] spTies := by
  refine F.ok scLawTies (fun vs H Q E h => ?_) (fun cdv A outer s H vs Q E hr h => ?_)
  · obtain ⟨_, _, _, rfl, _⟩ := h
    rfl
  · obtain ⟨z, n, r, rfl, hz, n1, n2, hrt, k⟩ := h
    have dl := divs_len (n := n) (rt_1000 n2 hrt)
    have hl : ((divs n r).map V.int).length = (divs n r).length := List.length_map ..
    refine ⟨_, (pss_cons (ps_set (i := 2) scLawTies.nd rfl (Or.inl rfl) (pe_lst pa_nil))
  (pss_cons (ps_for PassesOwn.never rfl (pi_range2 rfl B.range (pa_cons pe_int (pa_cons pe_int pa_nil))) (pg_name (i := 3) scLawTies.nd rfl (Or.inl rfl))
  (pss_cons (ps_set (i := 4) scLawTies.nd rfl (Or.inl rfl) pe_int)
  (pss_one (ps_for PassesOwn.never rfl (pi_range1 rfl B.range (pa_cons (pe_callB call_len_seq (by rfl) B.len PySem.boot_len (pa_cons (pv 1) pa_nil)) pa_nil)) (pg_name (i := 5) scLawTies.nd rfl (Or.inl rfl))
  (pss_cons (ps_set (i := 6) scLawTies.nd rfl (Or.inl rfl) (pe_ix ix_list (pv 1) (pe_op op_sub (pe_op op_sub (pe_callB call_len_seq (by rfl) B.len PySem.boot_len (pa_cons (pv 1) pa_nil)) pe_int) (pv 5)) (fun _ _ => rfl)))
  (pss_cons (ps_set (i := 7) scLawTies.nd rfl (Or.inl rfl) (pe_dn D__law_most (hr.mono (by decide)) (by rfl) pass0 (pa_cons (pe_op op_fdivW (pv 0) (pv 6)) (pa_cons (pv 6) (pa_cons (pv 3) (pa_cons pe_bl pa_nil))))))
  (C8.pss_cut (ps_if (pt_cmpR op_eq (pv 7) (pv 4) (nomark _)) (pss_one (ps_expr (pe_bm PySem.F.plainAttrs_list PySem.F.slot_list_append PySem.F.type_list_append mt_append (pv 2) (pa_cons (pe_tup (pa_cons (pv 3) (pa_cons (pv 6) pa_nil))) pa_nil))))
  pss_nil)
  (pss_one (ps_set (i := 4) scLawTies.nd rfl (Or.inl rfl) (pe_callB (call_max2 rfl) (by rfl) B.max (by decide +kernel) (pa_cons (pv 4) (pa_cons (pv 7) pa_nil))))))))))))
  (pss_one (ps_ret (pv 2))))), ?_⟩
    refine ⟨(by show 0 ≤ sizeLine; decide), fun L hL => ?_⟩
    walk_at "rd"
    have sz : (24000 : Nat) < sizeLine := by decide
    refine for_range (fun i σ H' => ∃ (u v x y w : Option V) (ts : List Addr), σ = [some (.int n), some (.ref z), some (.ref L), u, v, x, y, w] ∧ H' L = some (.lst (ts.map V.ref)) ∧ Ties H' (divs n r) ts ∧ L ∉ ts ∧ ts.length ≤ i * 2000 ∧ Same H H')
      ⟨_, _, _, _, _, [], rfl, upd_same, (fun t ht => by cases ht), (by simp), (by simp), same_upd2 hL (Same.refl _)⟩ ?_ ?_
    · rintro i σ H1 hi ⟨u, v, x, y, w, ts, rfl, h1, h2, h3, h4, e1⟩
      replace hi : i < 12 := hi
      walk_at "rd"
      refine ⟨z, _, rfl, .inl (SqL.of (e1 _ _ hz)), ?_⟩
      rw [hl]
      walk_at "rd"
      refine ⟨by omega, by omega, ?_⟩
      refine for_range (fun j σ H' => ∃ (bt : Int) (x y w : Option V) (ts : List Addr), σ = [some (.int n), some (.ref z), some (.ref L), some (.int (1 + (i : Int))), some (.int bt), x, y, w] ∧ H' L = some (.lst (ts.map V.ref)) ∧ Ties H' (divs n r) ts ∧ L ∉ ts ∧ ts.length ≤ i * 2000 + j ∧ Same H H')
        ⟨0, _, _, _, ts, rfl, h1, h2, h3, by omega, e1⟩ ?_ ?_
      · rintro j σ H2 hj ⟨bt, x2, y2, w2, ts2, rfl, g1, g2, g3, g4, e2⟩
        have hj2 : j < (divs n r).length := by omega
        have hz2 := e2 _ _ hz
        refine ⟨_, rfl, _, rfl, z, _, rfl, .inl (SqL.of hz2), ?_⟩
        rw [hl]
        refine ⟨_, _, rfl, rfl, _, rfl, _, _, rfl, rfl, ?_⟩
        obtain ⟨s', hs', hg⟩ := get_of (bs := divs n r) (d := ((divs n r).length : Int) - 1 - (0 + (j : Int))) (by omega) (by omega)
        obtain ⟨y1, y2'⟩ := divs_mem n1 hs'
        obtain ⟨z1, z2⟩ := div_pos n1 y1 y2'
        refine ⟨z, _, _, _, rfl, rfl, SqL.of hz2, at_of (by omega) hg, ?_⟩
        walk_at "rd"
        refine ⟨divB (by omega) (by omega), ?_⟩
        walk_at "rd"
        refine ⟨z1, by omega, y1, by omega, by omega, by omega, ?_⟩
        refine ⟨fun σ H' => ∃ (ts : List Addr) (x : Option V), σ = [some (.int n), some (.ref z), some (.ref L), some (.int (1 + (i : Int))), some (.int bt), x, some (.int s'), some (.int (lim (n / s') s' (1 + (i : Int)) false))] ∧ H' L = some (.lst (ts.map V.ref)) ∧ Ties H' (divs n r) ts ∧ L ∉ ts ∧ ts.length ≤ i * 2000 + (j + 1) ∧ Same H H', ?_, ?_⟩
        · walk_at "rd"
          refine iti (fun _ => ?_) (fun _ => ?_)
          · refine ⟨_, rfl, .inl ⟨rfl, _, SqL.of g1⟩, ?_⟩
            walk_at "rd"
            refine ⟨(by show 2 ≤ sizeLine; decide), fun q hq => ?_⟩
            have qL : q ≠ L := fun e => by rw [e] at hq; rw [hq] at g1; cases g1
            have e3 : Same H2 (upd H2 q (.tup [.int (1 + (i : Int)), .int s'])) := Same.upd hq
            have g1' := e3 _ _ g1
            refine ⟨L, _, _, rfl, rfl, g1', (by rw [List.length_map]; omega), ?_⟩
            refine ⟨ts2 ++ [q], _, rfl, by rw [upd_same, List.map_append]; rfl, fun t ht => ?_, fun ht => ?_, by rw [List.length_append]; show ts2.length + 1 ≤ _; omega, same_upd2 hL (e2.trans e3)⟩
            · rcases List.mem_append.mp ht with ht | ht
              · obtain ⟨b', s2, q1, q2⟩ := g2 t ht
                refine ⟨b', s2, ?_, q2⟩
                rw [upd_ne (fun e => g3 (by rw [← e]; exact ht))]
                exact e3 _ _ q1
              · simp at ht
                subst ht
                exact ⟨1 + (i : Int), s', by rw [upd_ne qL]; exact upd_same, by omega, by omega, hs'⟩
            · rcases List.mem_append.mp ht with ht | ht
              · exact g3 ht
              · simp at ht
                exact qL ht.symm
          · exact ⟨ts2, _, rfl, g1, g2, g3, by omega, e2⟩
        · rintro σ H3 ⟨ts3, x3, rfl, g1, g2, g3, g4, e3⟩
          walk_at "rd"
          exact ⟨_, _, _, _, ts3, rfl, g1, g2, g3, g4, e3⟩
      · rintro σ H2 ⟨bt, x2, y2, w2, ts2, rfl, g1, g2, g3, g4, e2⟩
        exact ⟨_, _, _, _, _, ts2, rfl, g1, g2, g3, by omega, e2⟩
    · rintro σ H1 ⟨u, v, x, y, w, ts, rfl, h1, h2, h3, h4, e1⟩
      replace h4 : ts.length ≤ 12 * 2000 := h4
      exact ⟨_, rfl, k L ts H1 hL h1 h2 (by omega) e1⟩
def tD (l : List (Int × Int)) : List PyData := l.map fun q => PyData.tuple [.int q.1, .int q.2]
theorem ties_dp {K : PySem.W.Frag} {H : Hp} {ls : List Int} : ∀ {ts : List Addr}, Ties H ls ts → ∃ l : List (Int × Int), DpAll K H (ts.map V.ref) (tD l) ∧ l.length = ts.length
  | [], _ => ⟨[], .nil, rfl⟩
  | t :: ts, h => by
    obtain ⟨b, s, e, _⟩ := h t List.mem_cons_self
    obtain ⟨l, d, hl⟩ := ties_dp (K := K) (ts := ts) fun t ht => h t (List.mem_cons_of_mem _ ht)
    exact ⟨(b, s) :: l, .cons (.tup (SqT.of e) (dpAll_ints [b, s])) d, by rw [List.length_cons, List.length_cons, hl]⟩
theorem ties_lay : ∀ (l : List (Int × Int)), PyData.canLayAll0 (tD l) = true
  | [] => rfl
  | q :: l => by
    show PyData.canLayAll0 (PyData.tuple [.int q.1, .int q.2] :: tD l) = true
    rw [PyData.canLayAll0, ties_lay l]
    simp [PyData.canLay0, PyData.canLayAll0]
theorem ties_dep : ∀ (l : List (Int × Int)), PyData.depthAll (tD l) ≤ 1
  | [] => by simp [tD, PyData.depthAll]
  | q :: l => by
    have := ties_dep l
    show PyData.depthAll (PyData.tuple [.int q.1, .int q.2] :: tD l) ≤ 1
    rw [PyData.depthAll]
    simp [PyData.depth, PyData.depthAll]
    omega
theorem ties_shaped (l : List (Int × Int)) : SeqAt.shaped (.list (tD l)) = true := by
  show (PyData.canLayAll0 (tD l) && decide (PyData.depthAll (tD l) + 1 ≤ 64)) = true
  have := ties_dep l
  rw [ties_lay, decide_eq_true (by omega)]; rfl
def spCase : Sp := fun vs H Q _ => ∃ (a : Addr), vs = [.ref a] ∧ BagAt H a ∧ ∀ (H' : Hp), But a H H' → Q (.bl true) H'
theorem scLawCase : FnScope ["bag", "places", "sizes", "budget", "least_size", "ties", "size", "segments"] ["bag"] (defScope sLawCase) := ⟨rfl, rfl, rfl, by decide +kernel, rfl, by decide +kernel, by decide +kernel⟩
theorem ok_case {f : Addr} {fd : FuncData} (F : Fun K "_law_case" "_law_case" sLawCase f fd) (B : Bi mg) (D__law_take : Dn P w K mg base "_law_take" 1 ["bag", "size"] spTake) (D__law_number : Dn P w K mg base "_law_number" 2 ["bag", "most"] spNumber)
    (D__law_places : Dn P w K mg base "_law_places" 2 ["bag"] spPl) (D__law_divisors : Dn P w K mg base "_law_divisors" 1 ["places"] spDivs) (D__law_budget : Dn P w K mg base "_law_budget" 3 ["bag", "sizes"] spBud) (D__law_least_size : Dn P w K mg base "_law_least_size" 2 ["bag", "places", "sizes"] spLs)
    (D__law_ties : Dn P w K mg base "_law_ties" 3 ["places", "sizes"] spTies) (D__law_best_agrees : Dn P w K mg base "_law_best_agrees" 6 ["places", "sizes", "budget", "least_size"] spBA) (D__law_compare_agrees : Dn P w K mg base "_law_compare_agrees" 9 ["segments", "size", "budget"] spCA) :
    FnOk P w K mg base CX0 10 f fd ["bag"] spCase := by
  refine F.ok scLawCase (fun vs H Q E h => ?_) (fun cdv A outer s H vs Q E hr h => ?_)
  · obtain ⟨l, rfl, _⟩ := h
    rfl
  · obtain ⟨a, rfl, hB, k⟩ := h
    have p30 : (10 : Int) ^ (30 : Int).toNat = 1000000000000000000000000000000 := by decide
    refine ⟨_, (pss_cons (ps_set (i := 1) scLawCase.nd rfl (Or.inl rfl) (pe_dn D__law_places (hr.mono (by decide)) (by rfl) pass0 (pa_cons (pv 0) pa_nil)))
  (pss_cons (ps_set (i := 2) scLawCase.nd rfl (Or.inl rfl) (pe_dn D__law_divisors (hr.mono (by decide)) (by rfl) pass0 (pa_cons (pv 1) pa_nil)))
  (pss_cons (ps_set (i := 3) scLawCase.nd rfl (Or.inl rfl) (pe_dn D__law_budget (hr.mono (by decide)) (by rfl) pass0 (pa_cons (pv 0) (pa_cons (pv 2) pa_nil))))
  (pss_cons (ps_set (i := 4) scLawCase.nd rfl (Or.inl rfl) (pe_dn D__law_least_size (hr.mono (by decide)) (by rfl) pass0 (pa_cons (pv 0) (pa_cons (pv 1) (pa_cons (pv 2) pa_nil)))))
  (pss_cons (ps_set (i := 5) scLawCase.nd rfl (Or.inl rfl) (pe_dn D__law_ties (hr.mono (by decide)) (by rfl) pass0 (pa_cons (pv 1) (pa_cons (pv 2) pa_nil))))
  (C8.pss_cut (ps_if (PW.pt (pw_and (pt_cmpR (op_neD hr.units) (pv 5) (pe_lst pa_nil) (nomark _)) (pw_and1 (pt_cmpR op_eq (pe_dn D__law_take (hr.mono (by decide)) (by rfl) pass0 (pa_cons (pv 0) (pa_cons pe_int pa_nil))) pe_int (nomark _))))) (pss_one (ps_asg (pe_ix ix_list (pv 5) (pe_dn D__law_take (hr.mono (by decide)) (by rfl) pass0 (pa_cons (pv 0) (pa_cons (pe_callB call_len_seq (by rfl) B.len PySem.boot_len (pa_cons (pv 5) pa_nil)) pa_nil))) (fun _ _ => rfl)) (pg_tup (by rfl) (pgs_cons (pg_name (i := 3) scLawCase.nd rfl (Or.inl rfl)) (pgs_cons (pg_name (i := 4) scLawCase.nd rfl (Or.inl rfl)) pgs_nil)))))
  pss_nil)
  (pss_cons (ps_if (pt_not (pt_val (pe_dn D__law_best_agrees (hr.mono (by decide)) (by rfl) pass0 (pa_cons (pv 1) (pa_cons (pv 2) (pa_cons (pv 3) (pa_cons (pv 4) pa_nil))))))) (pss_one (ps_ret pe_bl))
  pss_nil)
  (pss_cons (ps_set (i := 6) scLawCase.nd rfl (Or.inl rfl) (pe_ix ix_list (pv 2) (pe_dn D__law_take (hr.mono (by decide)) (by rfl) pass0 (pa_cons (pv 0) (pa_cons (pe_callB call_len_seq (by rfl) B.len PySem.boot_len (pa_cons (pv 2) pa_nil)) pa_nil))) (fun _ _ => rfl)))
  (pss_cons (ps_if (pt_not (pt_val (pe_dn D__law_compare_agrees (hr.mono (by decide)) (by rfl) pass0 (pa_cons (pe_op op_fdivW (pv 1) (pv 6)) (pa_cons (pv 6) (pa_cons (pv 3) pa_nil)))))) (pss_one (ps_ret pe_bl))
  pss_nil)
  (pss_cons (ps_set (i := 7) scLawCase.nd rfl (Or.inl rfl) (pe_op op_add pe_int (pe_dn D__law_number (hr.mono (by decide)) (by rfl) pass0 (pa_cons (pv 0) (pa_cons (pe_op op_sub (pe_op op_pow pe_int pe_int) pe_int) pa_nil)))))
  (pss_cons (ps_set (i := 6) scLawCase.nd rfl (Or.inl rfl) (pe_op op_add pe_int (pe_dn D__law_number (hr.mono (by decide)) (by rfl) pass0 (pa_cons (pv 0) (pa_cons (pe_op op_sub (pe_op op_pow pe_int pe_int) pe_int) pa_nil)))))
  (C8.pss_cut (ps_if (pt_cmpR op_eq (pe_dn D__law_take (hr.mono (by decide)) (by rfl) pass0 (pa_cons (pv 0) (pa_cons pe_int pa_nil))) pe_int (nomark _)) (pss_one (ps_set (i := 7) scLawCase.nd rfl (Or.inl rfl) (pe_op op_add pe_int (pe_dn D__law_take (hr.mono (by decide)) (by rfl) pass0 (pa_cons (pv 0) (pa_cons pe_int pa_nil))))))
  pss_nil)
  (pss_one (ps_ret (pe_dn D__law_compare_agrees (hr.mono (by decide)) (by rfl) pass0 (pa_cons (pv 7) (pa_cons (pv 6) (pa_cons (pe_dn D__law_number (hr.mono (by decide)) (by rfl) pass0 (pa_cons (pv 0) (pa_cons (pe_op op_pow pe_int pe_int) pa_nil))) pa_nil)))))))))))))))))), ?_⟩
    walk_at "rd"
    refine ⟨hB, fun n H1 n1 n2 hB1 b1 => ?_⟩
    obtain ⟨r, hrt⟩ := rt_ex n (by omega)
    have dl := divs_len (n := n) (rt_1000 n2 hrt)
    have dp := List.length_pos_of_mem (last_divs n1 hrt)
    have hl : ((divs n r).map V.int).length = (divs n r).length := List.length_map ..
    refine ⟨_, rfl, n, r, rfl, n1, n2, hrt, fun z H2 hz0 hz e2 => ?_⟩
    have hB2 := hB1.same e2
    have za := bag_ne hB1 hz0
    replace b1 := b1.trans (But.of e2)
    refine ⟨_, rfl, _, rfl, a, z, n, r, rfl, hB2, za, hz, n1, n2, hrt, fun b H3 bb0 bb1 hB3 b3 => ?_⟩
    have hz3 := b3 z _ za hz
    replace b3 := b1.trans b3
    refine ⟨_, rfl, _, rfl, _, rfl, a, z, n, r, rfl, hB3, za, hz3, n1, n2, hrt, fun l H4 l0 l1 hB4 b4 => ?_⟩
    have hz4 := b4 z _ za hz3
    replace b4 := b3.trans b4
    refine ⟨_, rfl, _, rfl, z, n, r, rfl, hz4, n1, n2, hrt, fun F ts H5 hF0 hF hts tl e5 => ?_⟩
    have hB5 := hB4.same e5
    have Fa := bag_ne hB4 hF0
    have hz5 := e5 _ _ hz4
    replace b4 := b4.trans (But.of e5)
    have htl : (ts.map V.ref).length = ts.length := List.length_map ..
    refine ⟨fun σ H' => ∃ b l, σ = [some (V.ref a), some (V.int n), some (V.ref z), some (V.int b), some (V.int l), some (V.ref F), none, none] ∧ 0 ≤ b ∧ b ≤ 1000000000000000000000000000000 ∧ 1 ≤ l ∧ l ≤ n ∧ H' z = some (.lst ((divs n r).map V.int)) ∧ BagAt H' a ∧ But a H H', ?_, ?_⟩
    · walk_at "rd"
      refine ⟨(by show 0 ≤ sizeLine; decide), fun Z hZ => ?_⟩
      have eZ : Same H5 (upd H5 Z (.lst [])) := Same.upd hZ
      have htZ := hts.same eZ
      obtain ⟨dd, hdd, hdl⟩ := ties_dp (K := K) htZ
      have hFZ := eZ _ _ hF
      have hzZ := eZ _ _ hz5
      have hBZ := hB5.same eZ
      refine ⟨.list (tD dd), .list [], .lst (SqL.of hFZ) hdd, .lst (SqL.of upd_same) .nil, ties_shaped dd, rfl, _, rfl, ?_⟩
      cases dd with
      | nil =>
        refine iteF ?_
        exact ⟨b, l, rfl, bb0, bb1, l0, l1, hzZ, hBZ, b4.trans (But.of eZ)⟩
      | cons q dd =>
        refine iteT ?_
        walk_at "rd"
        refine ⟨hBZ, by decide, by decide, fun d6 H6 _ _ hB6 b6 => ?_⟩
        have hF6 := b6 F _ Fa hFZ
        have hz6 := b6 z _ za hzZ
        walk_at "rd"
        refine iti (fun _ => ?_) (fun _ => ?_)
        · refine ⟨_, rfl, _, rfl, _, rfl, F, _, rfl, .inl (SqL.of hF6), ?_⟩
          rw [htl]
          rw [List.length_cons] at hdl
          refine ⟨a, _, rfl, hB6, by omega, by omega, fun d H7 d0 d1 hB7 b7 => ?_⟩
          have hF7 := b7 F _ Fa hF6
          have hz7 := b7 z _ za hz6
          have hd : d.toNat < ts.length := by omega
          obtain ⟨b', s', q1, q2, q3, q4⟩ := htZ ts[d.toNat] (List.getElem_mem hd)
          have ta : ts[d.toNat] ≠ a := fun e => by
            obtain ⟨_, _, _, e2⟩ := hBZ
            rw [e] at q1
            rw [q1] at e2
            cases e2
          have q7 := b7 _ _ ta (b6 _ _ ta q1)
          obtain ⟨x1, x2⟩ := divs_mem n1 q4
          refine ⟨F, _, _, _, rfl, rfl, SqL.of hF7, at_of (j := d.toNat) (v := .ref ts[d.toNat]) (by omega) (by rw [List.getElem?_map, List.getElem?_eq_getElem hd]; rfl), ?_⟩
          refine ⟨ts[d.toNat], _, rfl, SqT.of q7, rfl, _, _, rfl, _, _, rfl, rfl, ?_⟩
          exact ⟨b', s', rfl, by omega, by omega, x1, x2, hz7, hB7, ((b4.trans (But.of eZ)).trans b6).trans b7⟩
        · exact ⟨b, l, rfl, bb0, bb1, l0, l1, hz6, hB6, (b4.trans (But.of eZ)).trans b6⟩
    clear hz5 hB5 b4
    rintro σ H6 ⟨b, l, rfl, bb0, bb1, l0, l1, hz6, hB6, b6⟩
    refine ⟨_, rfl, _, rfl, _, rfl, _, rfl, n, z, b, l, r, rfl, hz6, n1, n2, hrt, bb0, by omega, l0, l1, fun H7 e7 => ?_⟩
    have hz7 := e7 _ _ hz6
    have hB7 := hB6.same e7
    refine ⟨_, rfl, ?_⟩
    refine iteF ?_
    refine ⟨_, rfl, _, rfl, _, rfl, z, _, rfl, .inl (SqL.of hz7), ?_⟩
    rw [hl]
    refine ⟨a, _, rfl, hB7, by omega, by omega, fun d H8 d0 d1 hB8 b8 => ?_⟩
    have hz8 := b8 z _ za hz7
    obtain ⟨s', hs', hg⟩ := get_of d0 d1
    obtain ⟨y1, y2⟩ := divs_mem n1 hs'
    obtain ⟨z1, z2⟩ := div_pos n1 y1 y2
    refine ⟨z, _, _, _, rfl, rfl, SqL.of hz8, at_of (j := d.toNat) (by omega) hg, ?_⟩
    walk_at "rd"
    refine ⟨divB (by omega) (by omega), ?_⟩
    walk_at "rd"
    refine ⟨z1, by omega, y1, by omega, bb0, by omega, fun H9 e9 => ?_⟩
    refine ⟨_, rfl, ?_⟩
    refine iteF ?_
    have b9 := ((b6.trans (But.of e7)).trans b8).trans (But.of e9)
    walk_at "rd"
    refine ⟨hB8.same e9, by decide, by decide, fun x1 HA x10 x11 hBA bA => ?_⟩
    replace bA := b9.trans bA
    rw [p30] at x11
    walk_at "rd"
    refine ⟨hBA, by decide, by decide, fun x2 HB x20 x21 hBB bB => ?_⟩
    replace bB := bA.trans bB
    rw [p30] at x21
    refine ⟨_, _, rfl, rfl, ?_⟩
    refine ⟨fun σ H' => ∃ sg, σ = [some (V.ref a), some (V.int n), some (V.ref z), some (V.int b), some (V.int l), some (V.ref F), some (V.int (1 + x2)), some (V.int sg)] ∧ 1 ≤ sg ∧ sg ≤ 1000000000000000000000000000000 ∧ BagAt H' a ∧ But a H H', ?_, ?_⟩
    · walk_at "rd"
      refine ⟨hBB, by decide, by decide, fun t HC _ _ hBC bC => ?_⟩
      replace bC := bB.trans bC
      walk_at "rd"
      refine iti (fun _ => ?_) (fun _ => ?_)
      · walk_at "rd"
        refine ⟨hBC, by decide, by decide, fun t HD _ _ hBD bD => ?_⟩
        exact ⟨_, _, rfl, rfl, _, rfl, by omega, by omega, hBD, bC.trans bD⟩
      · exact ⟨_, rfl, by omega, by omega, hBC, bC⟩
    rintro σ HC ⟨sg, rfl, sg0, sg1, hBC, bC⟩
    walk_at "rd"
    refine ⟨hBC, by decide, by decide, fun x3 HD x30 x31 hBD bD => ?_⟩
    rw [p30] at x31
    refine ⟨sg, 1 + x2, x3, rfl, sg0, sg1, by omega, by omega, x30, x31, fun HE eE => ?_⟩
    exact k _ ((bC.trans bD).trans (But.of eE))
def spLaw (K : PySem.W.Frag) : Sp := fun vs H Q _ => ∃ (a : Addr) (ns : List Int), vs = [.ref a] ∧ SqL K H a (ns.map V.int) ∧ ns.length ≤ 63 ∧ ∀ H', Q (.bl true) H'
theorem scLaw : FnScope ["script", "k"] ["script"] (defScope sLaw) := ⟨rfl, rfl, rfl, by decide +kernel, rfl, by decide +kernel, by decide +kernel⟩
theorem ok_law {f : Addr} {fd : FuncData} (F : Fun K "law" "law" sLaw f fd) (B : Bi mg) (D__law_case : Dn P w K mg base "_law_case" 10 ["bag"] spCase) (D__law_bag : Dn P w K mg base "_law_bag" 1 ["script", "k"] (spBag K)) : FnOk P w K mg base CX0 11 f fd ["script"] (spLaw K) := by
  refine F.ok scLaw (fun vs H Q E h => ?_) (fun cdv A outer s H vs Q E hr h => ?_)
  · obtain ⟨a, ns, rfl, _⟩ := h
    rfl
  · obtain ⟨a, ns, rfl, hS, hl, k⟩ := h
    refine ⟨_, (pss_cons (ps_for PassesOwn.never rfl (pi_range1 rfl B.range (pa_cons (pe_callB (call_max2 rfl) (by rfl) B.max (by decide +kernel) (pa_cons pe_int (pa_cons (pe_callB (call_min2 rfl) (by rfl) B.min (by decide +kernel) (pa_cons pe_int (pa_cons (pe_callB call_len_seq (by rfl) B.len PySem.boot_len (pa_cons (pv 0) pa_nil)) pa_nil))) pa_nil))) pa_nil)) (pg_name (i := 1) scLaw.nd rfl (Or.inl rfl))
  (pss_one (ps_if (pt_not (pt_val (pe_dn D__law_case (hr.mono (by decide)) (by rfl) pass0 (pa_cons (pe_dn D__law_bag (hr.mono (by decide)) (by rfl) pass0 (pa_cons (pv 0) (pa_cons (pv 1) pa_nil))) pa_nil)))) (pss_one (ps_ret pe_bl))
  pss_nil)))
  (pss_one (ps_ret pe_bl))), ?_⟩
    refine ⟨_, rfl, a, _, rfl, .inl hS, ?_⟩
    walk_at "rd"
    have hn : (ns.map V.int).length ≤ 63 := by rw [List.length_map]; exact hl
    refine ⟨by split <;> split <;> omega, by split <;> split <;> omega, ?_⟩
    refine for_range (fun i σ H' => ∃ v : Option V, σ = [some (.ref a), v] ∧ Same H H') ⟨_, rfl, Same.refl _⟩ ?_ ?_
    · rintro i σ H1 hi ⟨v, rfl, e1⟩
      refine ⟨_, rfl, _, rfl, a, ns, i, by rw [Int.zero_add]; rfl, e1.seq hS, fun p H2 hp hB e2 => ?_⟩
      walk_at "rd"
      refine ⟨hB, fun H3 c3 => ?_⟩
      walk_at "rd"
      intro b o e
      refine c3 b o ?_ (e2 b o (e1 b o e))
      intro q
      rw [q] at e
      have := e1 _ _ e
      rw [hp] at this
      cases this
    · rintro σ H1 ⟨v, rfl, e1⟩
      exact k _
end
end Cl

namespace Cl
open StX ClX
set_option maxHeartbeats 0 in
theorem all_mk {l : PySem.W.OpenLaw} {w : World} {K : PySem.W.Frag} {h : Heap} {mg : Str → Option Value} {fa C : Addr} (X : K.In h) (G : h.Ns mainGlobals mg) (hfa : mg "law" = some (.ref fa))
    (c_Round : AtC K "Round" C)
    (n_Round : PySem.W.findIn K (.ref C) "_budgets" = some none)
    (v_Round : ∃ mc u, CRead K C mc ∧ CVal K C mc "MOST" (.int 12) u)
    (g_isqrt : PySem.W.nsIn K mainGlobals "isqrt" = some (some (.builtin "math.isqrt")))
    (t_is_whole : AtTop K "is_whole" "is_whole" sIsWhole [])
    (t_check_least : AtTop K "check_least" "check_least" sCheckLeast [])
    (t__law_is_number : AtTop K "_law_is_number" "_law_is_number" sLawIsNumber [])
    (t__law_take : AtTop K "_law_take" "_law_take" sLawTake [])
    (t__law_bag : AtTop K "_law_bag" "_law_bag" sLawBag [])
    (t__law_number : AtTop K "_law_number" "_law_number" sLawNumber [])
    (t_Round___init__ : AtCls K C "__init__" "Round.__init__" sRoundInit)
    (t_Round_constant : AtStat K C "constant" "Round.constant" sRoundConstant)
    (t_Round_budgets : AtProp K C "budgets" "Round.budgets" sRoundBudgets)
    (t_Round___len__ : AtCls K C "__len__" "Round.__len__" sRoundLen)
    (t_Round___eq__ : AtCls K C "__eq__" "Round.__eq__" sRoundEq)
    (t_Round___add__ : AtCls K C "__add__" "Round.__add__" sRoundAdd)
    (t_Round_at : AtCls K C "at" "Round.at" sRoundAt)
    (t_Round_total : AtCls K C "total" "Round.total" sRoundTotal)
    (t_Round__totals : AtCls K C "_totals" "Round._totals" sRoundTotals)
    (t_Round_least : AtCls K C "least" "Round.least" sRoundLeast)
    (t_Round_reach : AtCls K C "reach" "Round.reach" sRoundReach)
    (t_check_round : AtTop K "check_round" "check_round" sCheckRound [])
    (t__check_order : AtTop K "_check_order" "_check_order" sCheckOrder [])
    (t__places_lost : AtTop K "_places_lost" "_places_lost" sPlacesLost [])
    (t_greatest_limit : AtTop K "greatest_limit" "greatest_limit" sGreatestLimit [("late", V.bl false), ("tears", V.int 0)])
    (t_segment_share : AtTop K "segment_share" "segment_share" sSegmentShare [])
    (t_segments_limit : AtTop K "segments_limit" "segments_limit" sSegmentsLimit [("late", V.bl false)])
    (t__law_most : AtTop K "_law_most" "_law_most" sLawMost [])
    (t__divisors : AtTop K "_divisors" "_divisors" sDivisors [])
    (t_best_size : AtTop K "best_size" "best_size" sBestSize [("late", V.bl false)])
    (t__law_is_pair : AtTop K "_law_is_pair" "_law_is_pair" sLawIsPair [])
    (t__law_holds : AtTop K "_law_holds" "_law_holds" sLawHolds [])
    (t_compare_houses : AtTop K "compare_houses" "compare_houses" sCompareHouses [])
    (t__law_compare_agrees : AtTop K "_law_compare_agrees" "_law_compare_agrees" sLawCompareAgrees [])
    (t__law_divisors : AtTop K "_law_divisors" "_law_divisors" sLawDivisors [])
    (t__law_best : AtTop K "_law_best" "_law_best" sLawBest [])
    (t__law_best_agrees : AtTop K "_law_best_agrees" "_law_best_agrees" sLawBestAgrees [])
    (t__law_places : AtTop K "_law_places" "_law_places" sLawPlaces [])
    (t__law_least_size : AtTop K "_law_least_size" "_law_least_size" sLawLeastSize [])
    (t__law_budget : AtTop K "_law_budget" "_law_budget" sLawBudget [])
    (t__law_ties : AtTop K "_law_ties" "_law_ties" sLawTies [])
    (t__law_case : AtTop K "_law_case" "_law_case" sLawCase [])
    (t_law : AtTop K "law" "law" sLaw [])
    (z_len : PySem.W.nsIn K mainGlobals "len" = some none)
    (z_abs : PySem.W.nsIn K mainGlobals "abs" = some none)
    (z_max : PySem.W.nsIn K mainGlobals "max" = some none)
    (z_min : PySem.W.nsIn K mainGlobals "min" = some none)
    (z_sum : PySem.W.nsIn K mainGlobals "sum" = some none)
    (z_all : PySem.W.nsIn K mainGlobals "all" = some none)
    (z_any : PySem.W.nsIn K mainGlobals "any" = some none)
    (z_range : PySem.W.nsIn K mainGlobals "range" = some none)
    (z_isinstance : PySem.W.nsIn K mainGlobals "isinstance" = some none)
    (z_intT : PySem.W.nsIn K mainGlobals "int" = some none)
    (z_strT : PySem.W.nsIn K mainGlobals "str" = some none)
    (z_boolT : PySem.W.nsIn K mainGlobals "bool" = some none)
    (z_listT : PySem.W.nsIn K mainGlobals "list" = some none)
    (z_divmod : PySem.W.nsIn K mainGlobals "divmod" = some none)
    (z_tupleT : PySem.W.nsIn K mainGlobals "tuple" = some none)
    (z_reversed : PySem.W.nsIn K mainGlobals "reversed" = some none)
    : ∃ fd : FuncData, (∀ (s : Shared) (v : Value), BindsTo s fd ⟨[v], []⟩ [("script", v)]) ∧ ∀ base : Heap, K.In base → base.Ns mainGlobals mg → FnOk l.prog w K mg base CX0 11 fa fd ["script"] (spLaw K) := by
  obtain ⟨f, fd, a, F, FD⟩ := t_law.ex
  have e := hfa.symm.trans (PySem.W.mg_of X G a)
  cases e
  have B : Bi mg := ⟨PySem.W.mg_none_of X G z_len, PySem.W.mg_none_of X G z_abs, PySem.W.mg_none_of X G z_max, PySem.W.mg_none_of X G z_min, PySem.W.mg_none_of X G z_sum, PySem.W.mg_none_of X G z_all, PySem.W.mg_none_of X G z_any, PySem.W.mg_none_of X G z_range, PySem.W.mg_none_of X G z_isinstance, PySem.W.mg_none_of X G z_intT, PySem.W.mg_none_of X G z_strT, PySem.W.mg_none_of X G z_boolT, PySem.W.mg_none_of X G z_listT, PySem.W.mg_none_of X G z_divmod, PySem.W.mg_none_of X G z_tupleT, PySem.W.mg_none_of X G z_reversed⟩
  refine ⟨fd, fun s v => FD.bindsA (ps := ["script"]) (fun _ _ _ _ _ _ us hl => match us, hl with | [_], _ => rfl) s [v] rfl, fun base _ _ => ?_⟩
  have R_Round : ClsC K mg "Round" C := c_Round.cc X G
  have N_Round : NoAttr K C "_budgets" := n_Round
  have V_Round : CV K C "MOST" (.int 12) := ⟨v_Round⟩
  have G_isqrt : mg "isqrt" = some (.builtin "math.isqrt") := PySem.W.mg_of X G g_isqrt
  have D_is_whole : Dn l.prog w K mg base "is_whole" 1 ["value"] spIsWhole := t_is_whole.dn X G (fun _ _ _ _ _ _ us hl => match us, hl with | [_], _ => rfl) (fun f fd F => ok_is_whole F B)
  have D_check_least : Dn l.prog w K mg base "check_least" 2 ["value", "least", "field"] spCheckLeast := t_check_least.dn X G (fun _ _ _ _ _ _ us hl => match us, hl with | [_, _, _], _ => rfl) (fun f fd F => ok_check_least F D_is_whole)
  have D__law_is_number : Dn l.prog w K mg base "_law_is_number" 1 ["told"] spIsWhole := t__law_is_number.dn X G (fun _ _ _ _ _ _ us hl => match us, hl with | [_], _ => rfl) (fun f fd F => ok_is_number F B)
  have D__law_take : Dn l.prog w K mg base "_law_take" 1 ["bag", "size"] spTake := t__law_take.dn X G (fun _ _ _ _ _ _ us hl => match us, hl with | [_, _], _ => rfl) (fun f fd F => ok_take F B)
  have D__law_bag : Dn l.prog w K mg base "_law_bag" 1 ["script", "k"] (spBag K) := t__law_bag.dn X G (fun _ _ _ _ _ _ us hl => match us, hl with | [_, _], _ => rfl) (fun f fd F => ok_bag F B)
  have D__law_number : Dn l.prog w K mg base "_law_number" 2 ["bag", "most"] spNumber := t__law_number.dn X G (fun _ _ _ _ _ _ us hl => match us, hl with | [_, _], _ => rfl) (fun f fd F => ok_number F B D__law_take)
  have MK_Round : Cn l.prog w K mg base C 3 (spInit C) := t_Round___init__.cn c_Round (fun f fd F => ok_Round_init F B R_Round N_Round V_Round D_check_least)
  have S_Round_constant : Sn l.prog w K mg base C "constant" 5 ["budget"] (spConst C) := t_Round_constant.sn (fun _ _ _ _ _ _ us hl => match us, hl with | [_], _ => rfl) (fun f fd F => ok_Round_constant F R_Round MK_Round)
  have P_Round_budgets : Pn l.prog w K mg base C "budgets" 1 (spBudgets C) := t_Round_budgets.pn (fun _ _ _ _ _ _ us hl => match us, hl with | [_], _ => rfl) (fun f fd F => ok_Round_budgets F B R_Round N_Round)
  have O_Round___len__ : On l.prog w K mg base C "__len__" 1 ["self"] (spLen C) := t_Round___len__.on (fun _ _ _ _ _ _ us hl => match us, hl with | [_], _ => rfl) (fun f fd F => ok_Round_len F B R_Round N_Round)
  have O_Round___eq__ : On l.prog w K mg base C "__eq__" 1 ["self", "other"] (spEqR C) := t_Round___eq__.on (fun _ _ _ _ _ _ us hl => match us, hl with | [_, _], _ => rfl) (fun f fd F => ok_Round_eq F B R_Round N_Round)
  have O_Round___add__ : On l.prog w K mg base C "__add__" 5 ["self", "other"] (spAddR C) := t_Round___add__.on (fun _ _ _ _ _ _ us hl => match us, hl with | [_, _], _ => rfl) (fun f fd F => ok_Round_add F B R_Round N_Round MK_Round)
  have M_Round_at : Mn l.prog w K mg base C "at" 3 ["self", "t"] (spAt C) := t_Round_at.mn (fun _ _ _ _ _ _ us hl => match us, hl with | [_, _], _ => rfl) (fun f fd F => ok_Round_at F B R_Round N_Round D_check_least)
  have M_Round_total : Mn l.prog w K mg base C "total" 3 ["self", "start", "count"] (spTotal C) := t_Round_total.mn (fun _ _ _ _ _ _ us hl => match us, hl with | [_, _, _], _ => rfl) (fun f fd F => ok_Round_total F B R_Round N_Round D_check_least)
  have M_Round__totals : Mn l.prog w K mg base C "_totals" 4 ["self", "count"] (spTotals C) := t_Round__totals.mn (fun _ _ _ _ _ _ us hl => match us, hl with | [_, _], _ => rfl) (fun f fd F => ok_Round_totals F B R_Round N_Round M_Round_total)
  have M_Round_least : Mn l.prog w K mg base C "least" 5 ["self", "count"] (spLeast C) := t_Round_least.mn (fun _ _ _ _ _ _ us hl => match us, hl with | [_, _], _ => rfl) (fun f fd F => ok_Round_least F B R_Round D_check_least M_Round__totals)
  have M_Round_reach : Mn l.prog w K mg base C "reach" 6 ["self", "need"] (spReach C) := t_Round_reach.mn (fun _ _ _ _ _ _ us hl => match us, hl with | [_, _], _ => rfl) (fun f fd F => ok_Round_reach F B R_Round N_Round D_is_whole M_Round_least)
  have D_check_round : Dn l.prog w K mg base "check_round" 1 ["budgets"] (spCkRound C) := t_check_round.dn X G (fun _ _ _ _ _ _ us hl => match us, hl with | [_], _ => rfl) (fun f fd F => ok_check_round F B R_Round)
  have D__check_order : Dn l.prog w K mg base "_check_order" 3 ["late", "tears", "readers"] spOrd := t__check_order.dn X G (fun _ _ _ _ _ _ us hl => match us, hl with | [_, _, _], _ => rfl) (fun f fd F => ok_check_order F D_check_least)
  have D__places_lost : Dn l.prog w K mg base "_places_lost" 1 ["late", "tears"] spLost := t__places_lost.dn X G (fun _ _ _ _ _ _ us hl => match us, hl with | [_, _], _ => rfl) (fun f fd F => ok_places_lost F)
  have D_greatest_limit : Dn l.prog w K mg base "greatest_limit" 7 ["places", "budgets", "late", "tears"] (spGreat C) [.bl false, .int 0] := t_greatest_limit.dd X G 2 (by simp) rfl (fun _ _ _ _ _ _ us ks hl hk => match us, ks, hl, hk with | [_, _], [_, _], _, _ => ⟨_, _, _, _, _, _, rfl, rfl, ⟨_, _, _, _, _, _, rfl, rfl, rfl⟩⟩) (fun f fd F => ok_greatest_limit F B R_Round D_check_least D_check_round D__check_order D__places_lost P_Round_budgets MK_Round M_Round_reach)
  have D_segment_share : Dn l.prog w K mg base "segment_share" 3 ["size", "budget"] spShare := t_segment_share.dn X G (fun _ _ _ _ _ _ us hl => match us, hl with | [_, _], _ => rfl) (fun f fd F => ok_segment_share F D_check_least)
  have K_segments_limit_late : Dk l.prog w K mg base "segments_limit" 4 ["segments", "size", "budget", "late"] spLim 3 ["late"] (fun vs zs => vs ++ zs) := t_segments_limit.dk X G 3 ["late"] (fun _ _ _ _ _ _ us ws hl hk => match us, ws, hl, hk with | [_, _, _], [_], _, _ => rfl) (fun f fd F => ok_segments_limit F D_check_least D_segment_share)
  have D_segments_limit : Dn l.prog w K mg base "segments_limit" 4 ["segments", "size", "budget", "late"] spLim [.bl false] := t_segments_limit.dd X G 3 (by simp) rfl (fun _ _ _ _ _ _ us ks hl hk => match us, ks, hl, hk with | [_, _, _], [_], _, _ => ⟨_, _, _, _, _, _, rfl, rfl, rfl⟩) (fun f fd F => ok_segments_limit F D_check_least D_segment_share)
  have D__law_most : Dn l.prog w K mg base "_law_most" 2 ["segments", "size", "budget", "written_first"] spLim := t__law_most.dn X G (fun _ _ _ _ _ _ us hl => match us, hl with | [_, _, _, _], _ => rfl) (fun f fd F => ok_law_most F B)
  have D__divisors : Dn l.prog w K mg base "_divisors" 1 ["number"] spDivs := t__divisors.dn X G (fun _ _ _ _ _ _ us hl => match us, hl with | [_], _ => rfl) (fun f fd F => ok_divisors F B G_isqrt)
  have K_best_size_late : Dk l.prog w K mg base "best_size" 5 ["places", "budget", "least", "late"] spBest 3 ["late"] (fun vs zs => vs ++ zs) := t_best_size.dk X G 3 ["late"] (fun _ _ _ _ _ _ us ws hl hk => match us, ws, hl, hk with | [_, _, _], [_], _, _ => rfl) (fun f fd F => ok_best_size F B D_check_least D__divisors K_segments_limit_late)
  have D_best_size : Dn l.prog w K mg base "best_size" 5 ["places", "budget", "least", "late"] spBest [.bl false] := t_best_size.dd X G 3 (by simp) rfl (fun _ _ _ _ _ _ us ks hl hk => match us, ks, hl, hk with | [_, _, _], [_], _, _ => ⟨_, _, _, _, _, _, rfl, rfl, rfl⟩) (fun f fd F => ok_best_size F B D_check_least D__divisors K_segments_limit_late)
  have D__law_is_pair : Dn l.prog w K mg base "_law_is_pair" 2 ["told"] spIsPair := t__law_is_pair.dn X G (fun _ _ _ _ _ _ us hl => match us, hl with | [_], _ => rfl) (fun f fd F => ok_is_pair F B D__law_is_number)
  have D__law_holds : Dn l.prog w K mg base "_law_holds" 1 ["places", "budget", "keys"] spHolds := t__law_holds.dn X G (fun _ _ _ _ _ _ us hl => match us, hl with | [_, _, _], _ => rfl) (fun f fd F => ok_holds F)
  have D_compare_houses : Dn l.prog w K mg base "compare_houses" 8 ["segments", "size", "budget"] spComp := t_compare_houses.dn X G (fun _ _ _ _ _ _ us hl => match us, hl with | [_, _, _], _ => rfl) (fun f fd F => ok_compare F R_Round D_segments_limit D_greatest_limit S_Round_constant)
  have D__law_compare_agrees : Dn l.prog w K mg base "_law_compare_agrees" 9 ["segments", "size", "budget"] spCA := t__law_compare_agrees.dn X G (fun _ _ _ _ _ _ us hl => match us, hl with | [_, _, _], _ => rfl) (fun f fd F => ok_compare_agrees F B R_Round MK_Round D_compare_houses D__law_is_pair D__law_holds D__law_most D_segments_limit D_greatest_limit)
  have D__law_divisors : Dn l.prog w K mg base "_law_divisors" 1 ["places"] spDivs := t__law_divisors.dn X G (fun _ _ _ _ _ _ us hl => match us, hl with | [_], _ => rfl) (fun f fd F => ok_ldivisors F B)
  have D__law_best : Dn l.prog w K mg base "_law_best" 3 ["places", "sizes", "budget", "least_size", "written_first"] spLBest := t__law_best.dn X G (fun _ _ _ _ _ _ us hl => match us, hl with | [_, _, _, _, _], _ => rfl) (fun f fd F => ok_lbest F D__law_most)
  have D__law_best_agrees : Dn l.prog w K mg base "_law_best_agrees" 6 ["places", "sizes", "budget", "least_size"] spBA := t__law_best_agrees.dn X G (fun _ _ _ _ _ _ us hl => match us, hl with | [_, _, _, _], _ => rfl) (fun f fd F => ok_best_agrees F B D__law_best K_best_size_late D_best_size D__law_is_pair)
  have D__law_places : Dn l.prog w K mg base "_law_places" 2 ["bag"] spPl := t__law_places.dn X G (fun _ _ _ _ _ _ us hl => match us, hl with | [_], _ => rfl) (fun f fd F => ok_lplaces F B D__law_take)
  have D__law_least_size : Dn l.prog w K mg base "_law_least_size" 2 ["bag", "places", "sizes"] spLs := t__law_least_size.dn X G (fun _ _ _ _ _ _ us hl => match us, hl with | [_, _, _], _ => rfl) (fun f fd F => ok_least_size F B D__law_take)
  have D__law_budget : Dn l.prog w K mg base "_law_budget" 3 ["bag", "sizes"] spBud := t__law_budget.dn X G (fun _ _ _ _ _ _ us hl => match us, hl with | [_, _], _ => rfl) (fun f fd F => ok_budget F B D__law_take D__law_number)
  have D__law_ties : Dn l.prog w K mg base "_law_ties" 3 ["places", "sizes"] spTies := t__law_ties.dn X G (fun _ _ _ _ _ _ us hl => match us, hl with | [_, _], _ => rfl) (fun f fd F => ok_ties F B D__law_most)
  have D__law_case : Dn l.prog w K mg base "_law_case" 10 ["bag"] spCase := t__law_case.dn X G (fun _ _ _ _ _ _ us hl => match us, hl with | [_], _ => rfl) (fun f fd F => ok_case F B D__law_take D__law_number D__law_places D__law_divisors D__law_budget D__law_least_size D__law_ties D__law_best_agrees D__law_compare_agrees)
  exact ok_law F B D__law_case D__law_bag
theorem walk {l : PySem.W.OpenLaw} {q : Program} {loose : List Str} {XP : (Str → Option Value) → Heap → Prop} {YP : World → Heap → Prop} {d : DefRec} {K : Params → PySem.W.Frag} (hn : l.most = some 63) (hdf : d.params.defaults = [])
    (hY : ∀ (w : World) (h : Heap), YP w h → (K w.params).In h)
    (F : ∀ (w : World) (mg : Str → Option Value) (fa : Addr) (h : Heap), (K w.params).In h → h.Ns mainGlobals mg → mg d.name = some (.ref fa) →
      ∃ fd : FuncData, (∀ (s : Shared) (u : Value), BindsTo s fd ⟨[u], []⟩ [("script", u)]) ∧ ∀ base : Heap, (K w.params).In base → base.Ns mainGlobals mg → FnOk l.prog w (K w.params) mg base CX0 11 fa fd ["script"] (spLaw (K w.params))) :
    PySem.W.WalkO q loose XP YP l.row.toRowW d [] (fun f vs => PySem.call f vs) :=
  L2.walk_of (n := 63) (k := 11) (x := "script") (CX := fun _ => CX0) (sp := fun w => spLaw (K w.params)) hn (by decide) hdf ⟨rfl, by decide, by decide⟩ hY F (fun _ _ a ns hl _ hS => ⟨a, ns, rfl, hS, hl, fun _ => rfl⟩) fun _ _ _ _ _ z => z
end Cl
open PySem PySem.W PyProof.Rows
set_option maxRecDepth 100000 in
set_option maxHeartbeats 0 in
theorem PySem.Challenge.cw_carrylog_k05_houses_and_best_size_holds : PySem.Challenge.rw_carrylog_k05_houses_and_best_size.Holds := by
  w_on; o_law; k_head; (case hw => w_witness2)
  k_fill
  refine Cl.walk (l := PySem.Challenge.rw_carrylog_k05_houses_and_best_size) rfl rfl (fun w h Y => PySem.W.kIn_of Y) ?F
  case F =>
    intro w mg fa h KX G hmg
    refine' Cl.all_mk KX G hmg ?c_Round ?n_Round ?v_Round ?g_isqrt ?t_is_whole ?t_check_least ?t__law_is_number ?t__law_take ?t__law_bag ?t__law_number ?t_Round___init__ ?t_Round_constant ?t_Round_budgets ?t_Round___len__ ?t_Round___eq__ ?t_Round___add__ ?t_Round_at ?t_Round_total ?t_Round__totals ?t_Round_least ?t_Round_reach ?t_check_round ?t__check_order ?t__places_lost ?t_greatest_limit ?t_segment_share ?t_segments_limit ?t__law_most ?t__divisors ?t_best_size ?t__law_is_pair ?t__law_holds ?t_compare_houses ?t__law_compare_agrees ?t__law_divisors ?t__law_best ?t__law_best_agrees ?t__law_places ?t__law_least_size ?t__law_budget ?t__law_ties ?t__law_case ?t_law ?z_len ?z_abs ?z_max ?z_min ?z_sum ?z_all ?z_any ?z_range ?z_isinstance ?z_intT ?z_strT ?z_boolT ?z_listT ?z_divmod ?z_tupleT ?z_reversed
    (case c_Round => (refine' Cl.atC ?u1_a ?u1_pg ?u1_hd ?u1_po ?u1_sa ?u1_ha ?u1_hn ?u1_htk ?u1_hm ?u1_sf ?u1_mk ?u1_kp; (case u1_a => k_is); (case u1_pg => k_is); (case u1_hd => k_is); (case u1_po => k_is); (case u1_sa => k_is); (case u1_ha => k_is); (case u1_hn => k_is); (case u1_htk => k_is); (case u1_hm => k_is); (case u1_sf => k_is); (case u1_mk => k_is); (case u1_kp => k_is)))
    (case n_Round => k_is)
    (case v_Round => (refine' Cl.cvAt ?u2_ty ?u2_rd ?u2_ga ?u2_fc ?u2_r; (case u2_ty => k_is); (case u2_rd => k_is); (case u2_ga => k_is); (case u2_fc => k_is); (case u2_r => first | rfl | exact ⟨_, rfl⟩)))
    (case g_isqrt => k_is)
    (case t_is_whole => (refine' Cl.atTop0 ?u3_xa ?u3_xl ?u3_xc ?u3_xp; (case u3_xa => k_is); (case u3_xl => k_is); (case u3_xc => k_is); (case u3_xp => k_is)))
    (case t_check_least => (refine' Cl.atTop0 ?u4_xa ?u4_xl ?u4_xc ?u4_xp; (case u4_xa => k_is); (case u4_xl => k_is); (case u4_xc => k_is); (case u4_xp => k_is)))
    (case t__law_is_number => (refine' Cl.atTop0 ?u5_xa ?u5_xl ?u5_xc ?u5_xp; (case u5_xa => k_is); (case u5_xl => k_is); (case u5_xc => k_is); (case u5_xp => k_is)))
    (case t__law_take => (refine' Cl.atTop0 ?u6_xa ?u6_xl ?u6_xc ?u6_xp; (case u6_xa => k_is); (case u6_xl => k_is); (case u6_xc => k_is); (case u6_xp => k_is)))
    (case t__law_bag => (refine' Cl.atTop0 ?u7_xa ?u7_xl ?u7_xc ?u7_xp; (case u7_xa => k_is); (case u7_xl => k_is); (case u7_xc => k_is); (case u7_xp => k_is)))
    (case t__law_number => (refine' Cl.atTop0 ?u8_xa ?u8_xl ?u8_xc ?u8_xp; (case u8_xa => k_is); (case u8_xl => k_is); (case u8_xc => k_is); (case u8_xp => k_is)))
    (case t_Round___init__ => (refine' Cl.atCls ?u9_a ?u9_i ?u9_l ?u9_c ?u9_p; (case u9_a => k_is); (case u9_i => k_is); (case u9_l => k_is); (case u9_c => k_is); (case u9_p => k_is)))
    (case t_Round_constant => (refine' Cl.atStat ?u10_ty ?u10_rd ?u10_ga ?u10_fc ?u10_rc ?u10_l ?u10_c ?u10_p; (case u10_ty => k_is); (case u10_rd => k_is); (case u10_ga => k_is); (case u10_fc => k_is); (case u10_rc => k_is); (case u10_l => k_is); (case u10_c => k_is); (case u10_p => k_is)))
    (case t_Round_budgets => (refine' Cl.atProp ?u11_a ?u11_gt ?u11_tk ?u11_rc ?u11_l ?u11_c ?u11_p; (case u11_a => k_is); (case u11_gt => k_is); (case u11_tk => k_is); (case u11_rc => k_is); (case u11_l => k_is); (case u11_c => k_is); (case u11_p => k_is)))
    (case t_Round___len__ => (refine' Cl.atCls ?u12_a ?u12_i ?u12_l ?u12_c ?u12_p; (case u12_a => k_is); (case u12_i => k_is); (case u12_l => k_is); (case u12_c => k_is); (case u12_p => k_is)))
    (case t_Round___eq__ => (refine' Cl.atCls ?u13_a ?u13_i ?u13_l ?u13_c ?u13_p; (case u13_a => k_is); (case u13_i => k_is); (case u13_l => k_is); (case u13_c => k_is); (case u13_p => k_is)))
    (case t_Round___add__ => (refine' Cl.atCls ?u14_a ?u14_i ?u14_l ?u14_c ?u14_p; (case u14_a => k_is); (case u14_i => k_is); (case u14_l => k_is); (case u14_c => k_is); (case u14_p => k_is)))
    (case t_Round_at => (refine' Cl.atCls ?u15_a ?u15_i ?u15_l ?u15_c ?u15_p; (case u15_a => k_is); (case u15_i => k_is); (case u15_l => k_is); (case u15_c => k_is); (case u15_p => k_is)))
    (case t_Round_total => (refine' Cl.atCls ?u16_a ?u16_i ?u16_l ?u16_c ?u16_p; (case u16_a => k_is); (case u16_i => k_is); (case u16_l => k_is); (case u16_c => k_is); (case u16_p => k_is)))
    (case t_Round__totals => (refine' Cl.atCls ?u17_a ?u17_i ?u17_l ?u17_c ?u17_p; (case u17_a => k_is); (case u17_i => k_is); (case u17_l => k_is); (case u17_c => k_is); (case u17_p => k_is)))
    (case t_Round_least => (refine' Cl.atCls ?u18_a ?u18_i ?u18_l ?u18_c ?u18_p; (case u18_a => k_is); (case u18_i => k_is); (case u18_l => k_is); (case u18_c => k_is); (case u18_p => k_is)))
    (case t_Round_reach => (refine' Cl.atCls ?u19_a ?u19_i ?u19_l ?u19_c ?u19_p; (case u19_a => k_is); (case u19_i => k_is); (case u19_l => k_is); (case u19_c => k_is); (case u19_p => k_is)))
    (case t_check_round => (refine' Cl.atTop0 ?u20_xa ?u20_xl ?u20_xc ?u20_xp; (case u20_xa => k_is); (case u20_xl => k_is); (case u20_xc => k_is); (case u20_xp => k_is)))
    (case t__check_order => (refine' Cl.atTop0 ?u21_xa ?u21_xl ?u21_xc ?u21_xp; (case u21_xa => k_is); (case u21_xl => k_is); (case u21_xc => k_is); (case u21_xp => k_is)))
    (case t__places_lost => (refine' Cl.atTop0 ?u22_xa ?u22_xl ?u22_xc ?u22_xp; (case u22_xa => k_is); (case u22_xl => k_is); (case u22_xc => k_is); (case u22_xp => k_is)))
    (case t_greatest_limit => (refine' Cl.atTop2 ?u23_xa ?u23_xl ?u23_xc ?u23_xp ?u23_xk0 ?u23_xr0 ?u23_xk1 ?u23_xr1; (case u23_xa => k_is); (case u23_xl => k_is); (case u23_xc => k_is); (case u23_xp => k_is); (case u23_xk0 => k_is); (case u23_xr0 => first | rfl | exact ⟨_, rfl⟩); (case u23_xk1 => k_is); (case u23_xr1 => first | rfl | exact ⟨_, rfl⟩)))
    (case t_segment_share => (refine' Cl.atTop0 ?u24_xa ?u24_xl ?u24_xc ?u24_xp; (case u24_xa => k_is); (case u24_xl => k_is); (case u24_xc => k_is); (case u24_xp => k_is)))
    (case t_segments_limit => (refine' Cl.atTop1 ?u25_xa ?u25_xl ?u25_xc ?u25_xp ?u25_xk0 ?u25_xr0; (case u25_xa => k_is); (case u25_xl => k_is); (case u25_xc => k_is); (case u25_xp => k_is); (case u25_xk0 => k_is); (case u25_xr0 => first | rfl | exact ⟨_, rfl⟩)))
    (case t__law_most => (refine' Cl.atTop0 ?u26_xa ?u26_xl ?u26_xc ?u26_xp; (case u26_xa => k_is); (case u26_xl => k_is); (case u26_xc => k_is); (case u26_xp => k_is)))
    (case t__divisors => (refine' Cl.atTop0 ?u27_xa ?u27_xl ?u27_xc ?u27_xp; (case u27_xa => k_is); (case u27_xl => k_is); (case u27_xc => k_is); (case u27_xp => k_is)))
    (case t_best_size => (refine' Cl.atTop1 ?u28_xa ?u28_xl ?u28_xc ?u28_xp ?u28_xk0 ?u28_xr0; (case u28_xa => k_is); (case u28_xl => k_is); (case u28_xc => k_is); (case u28_xp => k_is); (case u28_xk0 => k_is); (case u28_xr0 => first | rfl | exact ⟨_, rfl⟩)))
    (case t__law_is_pair => (refine' Cl.atTop0 ?u29_xa ?u29_xl ?u29_xc ?u29_xp; (case u29_xa => k_is); (case u29_xl => k_is); (case u29_xc => k_is); (case u29_xp => k_is)))
    (case t__law_holds => (refine' Cl.atTop0 ?u30_xa ?u30_xl ?u30_xc ?u30_xp; (case u30_xa => k_is); (case u30_xl => k_is); (case u30_xc => k_is); (case u30_xp => k_is)))
    (case t_compare_houses => (refine' Cl.atTop0 ?u31_xa ?u31_xl ?u31_xc ?u31_xp; (case u31_xa => k_is); (case u31_xl => k_is); (case u31_xc => k_is); (case u31_xp => k_is)))
    (case t__law_compare_agrees => (refine' Cl.atTop0 ?u32_xa ?u32_xl ?u32_xc ?u32_xp; (case u32_xa => k_is); (case u32_xl => k_is); (case u32_xc => k_is); (case u32_xp => k_is)))
    (case t__law_divisors => (refine' Cl.atTop0 ?u33_xa ?u33_xl ?u33_xc ?u33_xp; (case u33_xa => k_is); (case u33_xl => k_is); (case u33_xc => k_is); (case u33_xp => k_is)))
    (case t__law_best => (refine' Cl.atTop0 ?u34_xa ?u34_xl ?u34_xc ?u34_xp; (case u34_xa => k_is); (case u34_xl => k_is); (case u34_xc => k_is); (case u34_xp => k_is)))
    (case t__law_best_agrees => (refine' Cl.atTop0 ?u35_xa ?u35_xl ?u35_xc ?u35_xp; (case u35_xa => k_is); (case u35_xl => k_is); (case u35_xc => k_is); (case u35_xp => k_is)))
    (case t__law_places => (refine' Cl.atTop0 ?u36_xa ?u36_xl ?u36_xc ?u36_xp; (case u36_xa => k_is); (case u36_xl => k_is); (case u36_xc => k_is); (case u36_xp => k_is)))
    (case t__law_least_size => (refine' Cl.atTop0 ?u37_xa ?u37_xl ?u37_xc ?u37_xp; (case u37_xa => k_is); (case u37_xl => k_is); (case u37_xc => k_is); (case u37_xp => k_is)))
    (case t__law_budget => (refine' Cl.atTop0 ?u38_xa ?u38_xl ?u38_xc ?u38_xp; (case u38_xa => k_is); (case u38_xl => k_is); (case u38_xc => k_is); (case u38_xp => k_is)))
    (case t__law_ties => (refine' Cl.atTop0 ?u39_xa ?u39_xl ?u39_xc ?u39_xp; (case u39_xa => k_is); (case u39_xl => k_is); (case u39_xc => k_is); (case u39_xp => k_is)))
    (case t__law_case => (refine' Cl.atTop0 ?u40_xa ?u40_xl ?u40_xc ?u40_xp; (case u40_xa => k_is); (case u40_xl => k_is); (case u40_xc => k_is); (case u40_xp => k_is)))
    (case t_law => (refine' Cl.atTop0 ?u41_xa ?u41_xl ?u41_xc ?u41_xp; (case u41_xa => k_is); (case u41_xl => k_is); (case u41_xc => k_is); (case u41_xp => k_is)))
    (case z_len => k_is)
    (case z_abs => k_is)
    (case z_max => k_is)
    (case z_min => k_is)
    (case z_sum => k_is)
    (case z_all => k_is)
    (case z_any => k_is)
    (case z_range => k_is)
    (case z_isinstance => k_is)
    (case z_intT => k_is)
    (case z_strT => k_is)
    (case z_boolT => k_is)
    (case z_listT => k_is)
    (case z_divmod => k_is)
    (case z_tupleT => k_is)
    (case z_reversed => k_is)
