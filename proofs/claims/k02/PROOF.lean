import PyProof.Rows.All
import Wide.All
import OpenK.AllK
import Wide.FinOn
import HandS.ForMost
import HandS.Wide
import HandS.IsInst
import HandS.Defaults
import HandS.Codes
import HandS.MakeKwOnly
import PySem.Challenge.RW_carrylog_k02_whole_rule_of_the_ring
import HandS.Star
import HandS.ClsMeth
import HandS.Property
import HandS.TupLe
import HandS.Sort
import HandS.Evl
import HandS.TupAny
import HandS.DeepEq
import KE.KTupSum
import KE.KMathG
import Flt.RightSqrt
import HandS.Struct
import HandS.Iter
import HandS.Walk
set_option Elab.async false
set_option maxRecDepth 100000
/-! ### my words over the hand layer -/
namespace Cl
open PySem L2
/-- the built-in names that the law's text uses are still the built-ins -/
structure Bi (mg : Str → Option Value) : Prop where
  len : mg "len" = none
  abs : mg "abs" = none
  max : mg "max" = none
  min : mg "min" = none
  sum : mg "sum" = none
  all : mg "all" = none
  any : mg "any" = none
  range : mg "range" = none
  isinstance : mg "isinstance" = none
  intT : mg "int" = none
  strT : mg "str" = none
  boolT : mg "bool" = none
  listT : mg "list" = none
  divmod : mg "divmod" = none
  tupleT : mg "tuple" = none
  reversed : mg "reversed" = none
  repr : mg "repr" = none
/-- a def of the text, by its name: what it promises -/
structure Dn (P : Program) (w : World) (K : PySem.W.Frag) (mg : Str → Option Value) (base : Heap) (x : Str) (k : Nat) (ps : List Str) (sp : Sp) (dvs : List V := []) : Prop where
  ex : ∃ (f : Addr) (fd : FuncData) (ds : List Value), FnOk P w K mg base CX0 k f fd ps sp ∧ mg x = some (.ref f) ∧ PySem.W.keepIn K (.ref f) = true ∧ Binds K fd ps ds ∧ Vals dvs ds
/-- the same called with keywords -/
structure Dk (P : Program) (w : World) (K : PySem.W.Frag) (mg : Str → Option Value) (base : Heap) (x : Str) (k : Nat) (ps : List Str) (sp : Sp) (n : Nat) (ks : List Str) (gV : List V → List V → List V) : Prop where
  ex : ∃ (f : Addr) (fd : FuncData) (g : List Value → List Value → List Value), FnOk P w K mg base CX0 k f fd ps sp ∧ mg x = some (.ref f) ∧ PySem.W.keepIn K (.ref f) = true ∧ KBn K fd ps n ks g gV
section
variable {X : Cx} {k n : Nat} {ps ks : List Str} {sp : Sp} {dvs : List V} {E : XK} {x : Str} {p pos : Pos} {e : Expr} {es : List Expr} {kws : List Keyword} {t tk : TA} {gV : List V → List V → List V}
theorem pe_dn (D : Dn X.prog X.w X.K X.mg X.base x k ps sp dvs) (hr : Room k X.A) (hg : Gl X x) (hx : Passes CX0 X E) (ha : PA X (e :: es) t)
    (hdb : (x == ("__debug__" : Str)) = false := by decide) (he : starEach (e :: es) X.env = (false, eval e X.env) :: starEach es X.env := by rfl)
    (hpl : (backTo pos (starEach es X.env)).any (·.1) = false := by rfl) : PE X (.Call (.Name x p) (e :: es) [] pos) (tCall sp dvs E t) := by
  obtain ⟨f, fd, ds, G, m, kp, b, v⟩ := D.ex
  exact pe_call G hr hg m kp b v hx ha hdb he hpl
theorem pe_dn0 (D : Dn X.prog X.w X.K X.mg X.base x k ps sp dvs) (hr : Room k X.A) (hg : Gl X x) (hx : Passes CX0 X E)
    (hdb : (x == ("__debug__" : Str)) = false := by decide) : PE X (.Call (.Name x p) [] [] pos) (tCall sp dvs E tNil) := by
  obtain ⟨f, fd, ds, G, m, kp, b, v⟩ := D.ex
  exact pe_call0 G hr hg m kp b v hx hdb
theorem pe_dk (D : Dk X.prog X.w X.K X.mg X.base x k ps sp n ks gV) (hr : Room k X.A) (hg : Gl X x) (hx : Passes CX0 X E) (ha : PA X (e :: es) t) (hkw : PK X kws tk)
    (hall : (backToKw pos (keywordEach kws X.env)).all (·.1.isSome) = true := by rfl) (hks : (backToKw pos (keywordEach kws X.env)).filterMap (·.1) = ks := by rfl)
    (hdb : (x == ("__debug__" : Str)) = false := by decide) (he : starEach (e :: es) X.env = (false, eval e X.env) :: starEach es X.env := by rfl)
    (hpl : ((backTo pos (starEach (e :: es) X.env)).any (·.1) || (backToKw pos (keywordEach kws X.env)).any (·.1.isNone)) = false := by rfl) :
    PE X (.Call (.Name x p) (e :: es) kws pos) (tCallN n ks.length sp gV E t tk) := by
  obtain ⟨f, fd, g, G, m, kp, b⟩ := D.ex
  exact pe_callN G hr hg m kp b hx ha hkw hall hks hdb he hpl
end
theorem mulB {i j : Int} (h1 : -100000000000000000000000000000000000000000000000000000000000000 ≤ i) (h2 : i ≤ 100000000000000000000000000000000000000000000000000000000000000) (h3 : -100000000000000000000000000000000000000000000000000000000000000 ≤ j) (h4 : j ≤ 100000000000000000000000000000000000000000000000000000000000000) : CMulW i j :=
  wide_mul (a := 220) (b := 220) (Nat.lt_of_le_of_lt (show i.natAbs ≤ 100000000000000000000000000000000000000000000000000000000000000 by omega) (by decide)) (Nat.lt_of_le_of_lt (show j.natAbs ≤ 100000000000000000000000000000000000000000000000000000000000000 by omega) (by decide)) (by decide) (by decide) (by decide)
theorem divB {i j : Int} (h : 0 < j) (h2 : j ≤ 100000000000000000000000000000000000000000000000000000000000000) : CDivW i j :=
  wide_div h (b := 220) (Nat.lt_of_le_of_lt (show j.natAbs ≤ 100000000000000000000000000000000000000000000000000000000000000 by omega) (by decide)) (by decide) (by decide)
theorem strB {i : Int} (h1 : -100000000000000000000000000000000000000000000000000000000000000 ≤ i) (h2 : i ≤ 100000000000000000000000000000000000000000000000000000000000000) : i.natAbs.log2 < 1920 :=
  Nat.lt_of_lt_of_le (PySem.Flt.log2_lt_of (k := 220) (by decide) (Nat.lt_of_le_of_lt (show i.natAbs ≤ 100000000000000000000000000000000000000000000000000000000000000 by omega) (by decide))) (by decide)
/-- all that was tracked but what stands at a is as it was -/
def But (a : Addr) (H H' : Hp) : Prop := ∀ b o, b ≠ a → H b = some o → H' b = some o
theorem But.refl (a : Addr) (H : Hp) : But a H H := fun _ _ _ h => h
theorem But.trans {a : Addr} {H H1 H2 : Hp} (x : But a H H1) (y : But a H1 H2) : But a H H2 := fun b o n h => y b o n (x b o n h)
theorem But.of {a : Addr} {H H' : Hp} (x : Same H H') : But a H H' := fun b o _ h => x b o h
theorem But.upd {a : Addr} {H : Hp} {o : HO} : But a H (upd H a o) := fun b u n h => by rw [upd_ne n]; exact h
theorem Same.upd {p : Addr} {H : Hp} {o : HO} (h : H p = none) : Same H (upd H p o) := fun b u e => by rw [upd_ne (ne_of_none e h)]; exact e
theorem itd {c A B : Prop} [Decidable c] (h1 : c → A) (h2 : ¬ c → B) : if decide c = true then A else B := by
  by_cases h : c
  · rw [decide_eq_true h]; exact iteT (h1 h)
  · rw [decide_eq_false h]; exact iteF (h2 h)
theorem itn {c A B : Prop} [Decidable c] (h1 : ¬ c → A) (h2 : c → B) : if (!decide c) = true then A else B := by
  by_cases h : c
  · rw [decide_eq_true h]; exact iteF (h2 h)
  · rw [decide_eq_false h]; exact iteT (h1 h)
theorem iti {a b : Int} {A B : Prop} (h1 : a = b → A) (h2 : a ≠ b → B) : if decide (V.int a = V.int b) = true then A else B :=
  itd (fun h => h1 (V.int.inj h)) (fun h => h2 fun e => h (by rw [e]))
theorem itni {a b : Int} {A B : Prop} (h1 : a ≠ b → A) (h2 : a = b → B) : if (!decide (V.int a = V.int b)) = true then A else B :=
  itn (fun h => h1 fun e => h (by rw [e])) (fun h => h2 (V.int.inj h))
theorem But.sub {a b : Addr} {H H1 H2 : Hp} {o : HO} (n : b ≠ a) (x : But a H H1) (h : H b = some o) : H1 b = some o := x b o n h
/-- a comprehension without tests whose element is reckoned without a trace: the new list is the old one, mapped -/
theorem lc_pure {K : PySem.W.Frag} {a D : Addr} {xs : List V} {g : TG} {te : TE} {vs : List Nat} {σ : L2.St} {H1 : Hp} {Qd : Hp → Prop} (f : V → V) (hx : SqL K H1 a xs) (hD : H1 D = none) (hlen : xs.length < 10000)
    (hs : ∀ (x : V) (H : Hp) (R : V → Hp → Prop), x ∈ xs → (∀ b o, H1 b = some o → H b = some o) → R (f x) H → g x (wipe σ vs) H fun σ2 H2 => wipe σ2 vs = wipe σ vs ∧ te σ2 H2 R) (hd : Qd (upd H1 D (.lst (xs.map f)))) :
    ∃ W : Nat → Nat → Hp → Prop, (∃ m, W 0 m (upd H1 D (.lst []))) ∧ ∀ i m H, W i m H →
      ((Itl K a).stop i H ∧ Qd H) ∨ ((Itl K a).go i H ∧ ∃ Nx : Hp → Prop, (∀ H', Nx H' → ∃ m', m' < m ∧ W (i + 1) m' H') ∧ ∀ x H', (Itl K a).yld i H x H' → g x (wipe σ vs) H' fun σ2 H2 => wipe σ2 vs = wipe σ vs ∧ tYes σ2 H2 fun b H3 =>
        if b = true then te σ2 H3 fun y H4 => ∃ acc, H4 D = some (.lst acc) ∧ acc.length < sizeLine ∧ Nx (upd H4 D (.lst (acc ++ [y]))) else Nx H3) := by
  refine lc_list (K := K) (a := a) (xs := xs) (fun i H => H = upd H1 D (.lst ((xs.take i).map f))) (by rw [List.take_zero]; rfl) (fun i H _ e => by rw [e]; exact Same.seq (Same.upd hD) hx) ?_ ?_
  · rintro i x H hi rfl
    have hm : x ∈ xs := List.mem_of_getElem? hi
    have hi2 := (List.getElem?_eq_some_iff.mp hi).1
    have key : ∀ R : V → Hp → Prop, R (f x) (upd H1 D (.lst ((xs.take i).map f))) → g x (wipe σ vs) (upd H1 D (.lst ((xs.take i).map f))) fun σ2 H2 => wipe σ2 vs = wipe σ vs ∧ te σ2 H2 R := fun R hR =>
      hs x _ R hm (fun b o e => Same.upd hD b o e) hR
    have k2 := key (fun y H4 => ∃ acc, H4 D = some (.lst acc) ∧ acc.length < sizeLine ∧ upd H4 D (.lst (acc ++ [y])) = upd H1 D (.lst ((xs.take (i + 1)).map f))) ⟨_, upd_same, ?_, ?_⟩
    · exact k2
    · rw [List.length_map, List.length_take]
      have : (10000 : Nat) ≤ sizeLine := by decide
      omega
    · rw [upd_upd]
      have e : xs.take (i + 1) = xs.take i ++ [x] := by
        rw [List.take_add_one, hi]; rfl
      rw [e, List.map_append]; rfl
  · rintro H rfl
    rw [List.take_length]
    exact hd
/-- what stays while a new list at D grows: all that H1 tracks -/
theorem grow_same {D : Addr} {H1 H : Hp} {o : HO} (hD : H1 D = none) (x : Same H1 H) : Same H1 (upd H D o) := fun b u e => by
  rw [upd_ne (ne_of_none e hD)]; exact x b u e
/-- a comprehension over a range; its element may make objects -/
theorem lc_growR {lo : Int} {n : Nat} {g : TG} {te : TE} {vs : List Nat} {σ : L2.St} {H1 : Hp} {D : Addr} {Qd : Hp → Prop} (f : Nat → V) (hD : H1 D = none) (hlen : n < 10000)
    (hs : ∀ (i : Nat) (H : Hp) (R : V → Hp → Prop), i < n → Same H1 H → (∀ H', Same H H' → R (f i) H') → g (.int (lo + i)) (wipe σ vs) H fun σ2 H2 => wipe σ2 vs = wipe σ vs ∧ te σ2 H2 R)
    (hd : ∀ H, Same H1 H → H D = some (.lst ((List.range n).map f)) → Qd H) :
    ∃ W : Nat → Nat → Hp → Prop, (∃ m, W 0 m (upd H1 D (.lst []))) ∧ ∀ i m H, W i m H →
      ((Itr lo n).stop i H ∧ Qd H) ∨ ((Itr lo n).go i H ∧ ∃ Nx : Hp → Prop, (∀ H', Nx H' → ∃ m', m' < m ∧ W (i + 1) m' H') ∧ ∀ x H', (Itr lo n).yld i H x H' → g x (wipe σ vs) H' fun σ2 H2 => wipe σ2 vs = wipe σ vs ∧ tYes σ2 H2 fun b H3 =>
        if b = true then te σ2 H3 fun y H4 => ∃ acc, H4 D = some (.lst acc) ∧ acc.length < sizeLine ∧ Nx (upd H4 D (.lst (acc ++ [y]))) else Nx H3) := by
  refine lc_range (lo := lo) (n := n) (fun i H => Same H1 H ∧ H D = some (.lst ((List.range i).map f))) ⟨grow_same hD (Same.refl H1), upd_same⟩ ?_ (fun H h => hd H h.1 h.2)
  rintro i H hi ⟨hS, hL⟩
  have key := hs i H (fun y H4 => ∃ acc, H4 D = some (.lst acc) ∧ acc.length < sizeLine ∧ (Same H1 (upd H4 D (.lst (acc ++ [y]))) ∧ upd H4 D (.lst (acc ++ [y])) D = some (.lst ((List.range (i + 1)).map f)))) hi hS fun H' hS' => ⟨_, hS' _ _ hL, ?_, grow_same hD (hS.trans hS'), ?_⟩
  · exact key
  · rw [List.length_map, List.length_range]
    have : (10000 : Nat) ≤ sizeLine := by decide
    omega
  · rw [upd_same, List.range_succ, List.map_append]; rfl
/-- .. with a test -/
theorem lc_filtR {lo : Int} {n : Nat} {g : TG} {tt : TT} {te : TE} {vs : List Nat} {σ : L2.St} {H1 : Hp} {D : Addr} {Qd : Hp → Prop} (f : Nat → V) (p : Nat → Bool) (hD : H1 D = none) (hlen : n < 10000)
    (hs : ∀ (i : Nat) (H : Hp) (R : V → Hp → Prop) (R0 : Hp → Prop), i < n → Same H1 H → (p i = true → ∀ H', Same H H' → R (f i) H') → (p i = false → ∀ H', Same H H' → R0 H') →
      g (.int (lo + i)) (wipe σ vs) H fun σ2 H2 => wipe σ2 vs = wipe σ vs ∧ tt σ2 H2 fun b H3 => if b = true then te σ2 H3 R else R0 H3)
    (hd : ∀ H, Same H1 H → H D = some (.lst (((List.range n).filter p).map f)) → Qd H) :
    ∃ W : Nat → Nat → Hp → Prop, (∃ m, W 0 m (upd H1 D (.lst []))) ∧ ∀ i m H, W i m H →
      ((Itr lo n).stop i H ∧ Qd H) ∨ ((Itr lo n).go i H ∧ ∃ Nx : Hp → Prop, (∀ H', Nx H' → ∃ m', m' < m ∧ W (i + 1) m' H') ∧ ∀ x H', (Itr lo n).yld i H x H' → g x (wipe σ vs) H' fun σ2 H2 => wipe σ2 vs = wipe σ vs ∧ tt σ2 H2 fun b H3 =>
        if b = true then te σ2 H3 fun y H4 => ∃ acc, H4 D = some (.lst acc) ∧ acc.length < sizeLine ∧ Nx (upd H4 D (.lst (acc ++ [y]))) else Nx H3) := by
  refine lc_range (lo := lo) (n := n) (fun i H => Same H1 H ∧ H D = some (.lst (((List.range i).filter p).map f))) ⟨grow_same hD (Same.refl H1), upd_same⟩ ?_ (fun H h => hd H h.1 h.2)
  rintro i H hi ⟨hS, hL⟩
  have e1 : (List.range (i + 1)).filter p = (List.range i).filter p ++ (if p i = true then [i] else []) := by
    rw [List.range_succ, List.filter_append, List.filter_cons, List.filter_nil]
  have key := hs i H (fun y H4 => ∃ acc, H4 D = some (.lst acc) ∧ acc.length < sizeLine ∧ (Same H1 (upd H4 D (.lst (acc ++ [y]))) ∧ upd H4 D (.lst (acc ++ [y])) D = some (.lst (((List.range (i + 1)).filter p).map f))))
    (fun H4 => Same H1 H4 ∧ H4 D = some (.lst (((List.range (i + 1)).filter p).map f))) hi hS (fun hp H' hS' => ⟨_, hS' _ _ hL, ?_, grow_same hD (hS.trans hS'), ?_⟩) (fun hp H' hS' => ⟨hS.trans hS', ?_⟩)
  · exact key
  · rw [List.length_map]
    have : (10000 : Nat) ≤ sizeLine := by decide
    have h2 := List.length_filter_le p (List.range i)
    rw [List.length_range] at h2
    omega
  · rw [upd_same, e1, if_pos hp, List.map_append]; rfl
  · rw [hS' _ _ hL, e1, if_neg (by rw [hp]; exact Bool.false_ne_true), List.append_nil]
/-- .. over a list that stands still -/
theorem lc_growL {K : PySem.W.Frag} {a D : Addr} {xs : List V} {g : TG} {te : TE} {vs : List Nat} {σ : L2.St} {H1 : Hp} {Qd : Hp → Prop} (f : V → V) (hx : SqL K H1 a xs) (hD : H1 D = none) (hlen : xs.length < 10000)
    (hs : ∀ (x : V) (H : Hp) (R : V → Hp → Prop), x ∈ xs → Same H1 H → (∀ H', Same H H' → R (f x) H') → g x (wipe σ vs) H fun σ2 H2 => wipe σ2 vs = wipe σ vs ∧ te σ2 H2 R)
    (hd : ∀ H, Same H1 H → H D = some (.lst (xs.map f)) → Qd H) :
    ∃ W : Nat → Nat → Hp → Prop, (∃ m, W 0 m (upd H1 D (.lst []))) ∧ ∀ i m H, W i m H →
      ((Itl K a).stop i H ∧ Qd H) ∨ ((Itl K a).go i H ∧ ∃ Nx : Hp → Prop, (∀ H', Nx H' → ∃ m', m' < m ∧ W (i + 1) m' H') ∧ ∀ x H', (Itl K a).yld i H x H' → g x (wipe σ vs) H' fun σ2 H2 => wipe σ2 vs = wipe σ vs ∧ tYes σ2 H2 fun b H3 =>
        if b = true then te σ2 H3 fun y H4 => ∃ acc, H4 D = some (.lst acc) ∧ acc.length < sizeLine ∧ Nx (upd H4 D (.lst (acc ++ [y]))) else Nx H3) := by
  refine lc_list (K := K) (a := a) (xs := xs) (fun i H => Same H1 H ∧ H D = some (.lst ((xs.take i).map f))) ⟨grow_same hD (Same.refl H1), upd_same⟩ (fun i H _ h => Same.seq h.1 hx) ?_ (fun H h => hd H h.1 (by rw [h.2, List.take_length]))
  rintro i x H hi ⟨hS, hL⟩
  have hi2 := (List.getElem?_eq_some_iff.mp hi).1
  have key := hs x H (fun y H4 => ∃ acc, H4 D = some (.lst acc) ∧ acc.length < sizeLine ∧ (Same H1 (upd H4 D (.lst (acc ++ [y]))) ∧ upd H4 D (.lst (acc ++ [y])) D = some (.lst ((xs.take (i + 1)).map f)))) (List.mem_of_getElem? hi) hS fun H' hS' => ⟨_, hS' _ _ hL, ?_, grow_same hD (hS.trans hS'), ?_⟩
  · exact key
  · rw [List.length_map, List.length_take]
    have : (10000 : Nat) ≤ sizeLine := by decide
    omega
  · rw [upd_same]
    have e : xs.take (i + 1) = xs.take i ++ [x] := by
      rw [List.take_add_one, hi]; rfl
    rw [e, List.map_append]; rfl
/-- a bag stands at a -/
def BagAt (H : Hp) (a : Addr) : Prop := ∃ c t s : Int, H a = some (.lst [.int c, .int t, .int s])
theorem BagAt.same {H H' : Hp} {a : Addr} (h : BagAt H a) (x : Same H H') : BagAt H' a := by
  obtain ⟨c, t, s, e⟩ := h
  exact ⟨c, t, s, x _ _ e⟩
/-- a comprehension over a range whose element draws from a bag: the ints that it makes, each of which P holds -/
theorem lc_bagR {lo : Int} {n : Nat} {g : TG} {te : TE} {vs : List Nat} {σ : L2.St} {H1 : Hp} {D a : Addr} {Qd : Hp → Prop} (P : Int → Prop) (hB : BagAt H1 a) (hD : H1 D = none) (hlen : n < 10000)
    (hs : ∀ (i : Nat) (H : Hp) (R : V → Hp → Prop), i < n → BagAt H a → But a H1 H → (∀ d H', P d → BagAt H' a → But a H H' → R (.int d) H') → g (.int (lo + i)) (wipe σ vs) H fun σ2 H2 => wipe σ2 vs = wipe σ vs ∧ te σ2 H2 R)
    (hd : ∀ (ls : List Int) (H : Hp), H D = some (.lst (ls.map V.int)) → ls.length = n → (∀ x, x ∈ ls → P x) → BagAt H a → But a H1 H → Qd H) :
    ∃ W : Nat → Nat → Hp → Prop, (∃ m, W 0 m (upd H1 D (.lst []))) ∧ ∀ i m H, W i m H →
      ((Itr lo n).stop i H ∧ Qd H) ∨ ((Itr lo n).go i H ∧ ∃ Nx : Hp → Prop, (∀ H', Nx H' → ∃ m', m' < m ∧ W (i + 1) m' H') ∧ ∀ x H', (Itr lo n).yld i H x H' → g x (wipe σ vs) H' fun σ2 H2 => wipe σ2 vs = wipe σ vs ∧ tYes σ2 H2 fun b H3 =>
        if b = true then te σ2 H3 fun y H4 => ∃ acc, H4 D = some (.lst acc) ∧ acc.length < sizeLine ∧ Nx (upd H4 D (.lst (acc ++ [y]))) else Nx H3) := by
  have nDa : D ≠ a := fun e => by
    subst e
    obtain ⟨_, _, _, e2⟩ := hB
    rw [e2] at hD; cases hD
  have bagU : ∀ {H : Hp} {o : HO}, BagAt H a → BagAt (upd H D o) a := fun {H o} hb => by
    obtain ⟨x, y, z, e⟩ := hb
    exact ⟨x, y, z, by rw [upd_ne nDa.symm]; exact e⟩
  have butU : ∀ {H : Hp} {o : HO}, But a H1 H → But a H1 (upd H D o) := fun {H o} hb b u nb e => by
    rw [upd_ne (ne_of_none e hD)]; exact hb b u nb e
  refine lc_range (lo := lo) (n := n) (fun i H => ∃ ls : List Int, H D = some (.lst (ls.map V.int)) ∧ ls.length = i ∧ (∀ x, x ∈ ls → P x) ∧ BagAt H a ∧ But a H1 H) ⟨[], upd_same, rfl, fun x hx => (by cases hx), bagU hB, butU (But.refl _ _)⟩ ?_ (fun H ⟨ls, h1, h2, h3, h4, h5⟩ => hd ls H h1 h2 h3 h4 h5)
  rintro i H hi ⟨ls, h1, h2, h3, h4, h5⟩
  have key := hs i H (fun y H4 => ∃ acc, H4 D = some (.lst acc) ∧ acc.length < sizeLine ∧ ∃ ls : List Int, upd H4 D (.lst (acc ++ [y])) D = some (.lst (ls.map V.int)) ∧ ls.length = i + 1 ∧ (∀ x, x ∈ ls → P x) ∧ BagAt (upd H4 D (.lst (acc ++ [y]))) a ∧ But a H1 (upd H4 D (.lst (acc ++ [y])))) hi h4 h5
    fun d H' hP hB' hb' => ⟨ls.map V.int, hb' D _ nDa h1, ?_, ls ++ [d], by rw [upd_same, List.map_append]; rfl, by rw [List.length_append, h2]; rfl, fun x hx => ?_, bagU hB', butU (h5.trans hb')⟩
  · exact key
  · rw [List.length_map]
    have : (10000 : Nat) ≤ sizeLine := by decide
    omega
  · rcases List.mem_append.mp hx with h | h
    · exact h3 x h
    · simp at h; subst h; exact hP
/-! ### what the top has written -/
structure AtTop (K : PySem.W.Frag) (x qual : Str) (st : Stmt) (kws : List (Str × V)) : Prop where
  ex : ∃ (f : Addr) (fd : FuncData), PySem.W.nsIn K mainGlobals x = some (some (.ref f)) ∧ Fun K x qual st f fd ∧ FunD K x qual (defArgs st) (defBody st) (defScope st) [] kws f fd
section
variable {P : Program} {w : World} {K : PySem.W.Frag} {mg : Str → Option Value} {base : Heap} {x qual : Str} {st : Stmt} {ps : List Str} {k : Nat} {sp : Sp} {kws : List (Str × V)} {h : Heap}
theorem atTop0 {f : Addr} {oc : Value} {od an : Option Addr} {osl : Array (Option Value)} {kV doc pm cdv ct : Value} (a : PySem.W.nsIn K mainGlobals x = some (some (.ref f)))
    (l : K.lookup f = some ⟨oc, od, .func (PySem.W.fnOf x qual (defArgs st) (defBody st) (defScope st) .none kV doc pm an cdv ct), osl⟩) (c : PySem.W.codeIn K cdv qual = true) (p : PySem.W.keepIn K (.ref f) = true) : AtTop K x qual st [] :=
  ⟨f, _, a, fun_mk l c p, ⟨⟨oc, od, .none, kV, doc, pm, an, cdv, ct, osl, rfl, l, c, .inl ⟨rfl, rfl⟩, .inl rfl⟩, p⟩⟩
theorem atTop1 {f D : Addr} {oc : Value} {od an : Option Addr} {osl : Array (Option Value)} {doc pm cdv ct u : Value} {n : Str} {v : V} (a : PySem.W.nsIn K mainGlobals x = some (some (.ref f)))
    (l : K.lookup f = some ⟨oc, od, .func (PySem.W.fnOf x qual (defArgs st) (defBody st) (defScope st) .none (.ref D) doc pm an cdv ct), osl⟩) (c : PySem.W.codeIn K cdv qual = true) (p : PySem.W.keepIn K (.ref f) = true)
    (hk : PySem.W.nsIn K D n = some (some u)) (r : RelV v u) : AtTop K x qual st [(n, v)] :=
  ⟨f, _, a, fun_mk l c p, ⟨⟨oc, od, .none, .ref D, doc, pm, an, cdv, ct, osl, rfl, l, c, .inl ⟨rfl, rfl⟩, .inr ⟨D, rfl, fun q hq => by
    rcases List.mem_cons.mp hq with rfl | hq
    · exact ⟨u, hk, r⟩
    · cases hq⟩⟩, p⟩⟩
theorem atTop2 {f D : Addr} {oc : Value} {od an : Option Addr} {osl : Array (Option Value)} {doc pm cdv ct u u1 : Value} {n n1 : Str} {v v1 : V} (a : PySem.W.nsIn K mainGlobals x = some (some (.ref f)))
    (l : K.lookup f = some ⟨oc, od, .func (PySem.W.fnOf x qual (defArgs st) (defBody st) (defScope st) .none (.ref D) doc pm an cdv ct), osl⟩) (c : PySem.W.codeIn K cdv qual = true) (p : PySem.W.keepIn K (.ref f) = true)
    (hk : PySem.W.nsIn K D n = some (some u)) (r : RelV v u) (hk1 : PySem.W.nsIn K D n1 = some (some u1)) (r1 : RelV v1 u1) : AtTop K x qual st [(n, v), (n1, v1)] :=
  ⟨f, _, a, fun_mk l c p, ⟨⟨oc, od, .none, .ref D, doc, pm, an, cdv, ct, osl, rfl, l, c, .inl ⟨rfl, rfl⟩, .inr ⟨D, rfl, fun q hq => by
    rcases List.mem_cons.mp hq with rfl | hq
    · exact ⟨u, hk, r⟩
    rcases List.mem_cons.mp hq with rfl | hq
    · exact ⟨u1, hk1, r1⟩
    · cases hq⟩⟩, p⟩⟩
theorem atTop3 {f D : Addr} {oc : Value} {od an : Option Addr} {osl : Array (Option Value)} {doc pm cdv ct u u1 u2 : Value} {n n1 n2 : Str} {v v1 v2 : V} (a : PySem.W.nsIn K mainGlobals x = some (some (.ref f)))
    (l : K.lookup f = some ⟨oc, od, .func (PySem.W.fnOf x qual (defArgs st) (defBody st) (defScope st) .none (.ref D) doc pm an cdv ct), osl⟩) (c : PySem.W.codeIn K cdv qual = true) (p : PySem.W.keepIn K (.ref f) = true)
    (hk : PySem.W.nsIn K D n = some (some u)) (r : RelV v u) (hk1 : PySem.W.nsIn K D n1 = some (some u1)) (r1 : RelV v1 u1) (hk2 : PySem.W.nsIn K D n2 = some (some u2)) (r2 : RelV v2 u2) : AtTop K x qual st [(n, v), (n1, v1), (n2, v2)] :=
  ⟨f, _, a, fun_mk l c p, ⟨⟨oc, od, .none, .ref D, doc, pm, an, cdv, ct, osl, rfl, l, c, .inl ⟨rfl, rfl⟩, .inr ⟨D, rfl, fun q hq => by
    rcases List.mem_cons.mp hq with rfl | hq
    · exact ⟨u, hk, r⟩
    rcases List.mem_cons.mp hq with rfl | hq
    · exact ⟨u1, hk1, r1⟩
    rcases List.mem_cons.mp hq with rfl | hq
    · exact ⟨u2, hk2, r2⟩
    · cases hq⟩⟩, p⟩⟩
/-- the arguments in the parameters' order: of each keyword-only one, whether it was written (which one of the call's) or lacks (which one of those) -/
def pick {α : Type} (sel : List (Sum Nat Nat)) (us mv ws : List α) : List α := us ++ sel.flatMap fun q => match q with | .inl i => (ws.drop i).take 1 | .inr j => (mv.drop j).take 1
abbrev kwp (sel : List (Sum Nat Nat)) (mz : List V) : List V → List V → List V := fun vs zs => pick sel vs mz zs
theorem pick_rel {vs mz zs : List V} {us mv ws : List Value} (r1 : Vals vs us) (r2 : Vals mz mv) (r3 : Vals zs ws) : ∀ sel : List (Sum Nat Nat), Vals (pick sel vs mz zs) (pick sel us mv ws) := fun sel => by
  refine r1.append ?_
  induction sel with
  | nil => exact .nil
  | cons q l ih =>
    rw [List.flatMap_cons, List.flatMap_cons]
    refine Vals.append ?_ ih
    cases q with
    | inl i => exact (r3.drop i).take 1
    | inr j => exact (r2.drop j).take 1
theorem AtTop.dn (t : AtTop K x qual st kws) (X : K.In h) (G : h.Ns mainGlobals mg)
    (hb : ∀ (kV doc pm : Value) (an : Option Addr) (cdv ct : Value) (us : List Value), us.length = ps.length → bindArgs (PySem.W.fnOf x qual (defArgs st) (defBody st) (defScope st) .none kV doc pm an cdv ct) ⟨us, []⟩ = pure (ps.zip us))
    (ok : ∀ (f : Addr) (fd : FuncData), Fun K x qual st f fd → FnOk P w K mg base CX0 k f fd ps sp) : Dn P w K mg base x k ps sp := by
  obtain ⟨f, fd, a, F, _⟩ := t.ex
  exact ⟨f, fd, [], ok f fd F, PySem.W.mg_of X G a, F.kp, F.binds hb, .nil⟩
/-- a def that calls itself: the knot is tied level by level -/
theorem AtTop.dnR (t : AtTop K x qual st kws) (X : K.In h) (G : h.Ns mainGlobals mg)
    (hb : ∀ (kV doc pm : Value) (an : Option Addr) (cdv ct : Value) (us : List Value), us.length = ps.length → bindArgs (PySem.W.fnOf x qual (defArgs st) (defBody st) (defScope st) .none kV doc pm an cdv ct) ⟨us, []⟩ = pure (ps.zip us))
    (ok : ∀ (f : Addr) (fd : FuncData), Fun K x qual st f fd → (∀ (j : Nat) (sq : Sp), FnOk P w K mg base CX0 j f fd ps sq → Dn P w K mg base x j ps sq) → FnOk P w K mg base CX0 k f fd ps sp) : Dn P w K mg base x k ps sp := by
  obtain ⟨f, fd, a, F, _⟩ := t.ex
  have I : ∀ (j : Nat) (sq : Sp), FnOk P w K mg base CX0 j f fd ps sq → Dn P w K mg base x j ps sq := fun j sq g => ⟨f, fd, [], g, PySem.W.mg_of X G a, F.kp, F.binds hb, .nil⟩
  exact I k sp (ok f fd F I)
/-- called without its keywords: all the defaults -/
theorem AtTop.dd (t : AtTop K x qual st kws) (X : K.In h) (G : h.Ns mainGlobals mg) (n : Nat) (hk : kws ≠ []) (hn : n + kws.length = ps.length)
    (hb : ∀ (D : Addr) (doc pm : Value) (an : Option Addr) (cdv ct : Value) (us ks : List Value), us.length = n → ks.length = kws.length →
      KwChain D ((kws.map (·.1)).zip ks) (bindArgs (PySem.W.fnOf x qual (defArgs st) (defBody st) (defScope st) .none (.ref D) doc pm an cdv ct) ⟨us, []⟩) (ps.zip (us ++ ks)))
    (ok : ∀ (f : Addr) (fd : FuncData), Fun K x qual st f fd → FnOk P w K mg base CX0 k f fd ps sp) : Dn P w K mg base x k ps sp (kws.map (·.2)) := by
  obtain ⟨f, fd, a, F, FD⟩ := t.ex
  obtain ⟨ds, v, b⟩ := FD.binds0 n hk hn hb
  exact ⟨f, fd, ds, ok f fd F, PySem.W.mg_of X G a, F.kp, b, v⟩
/-- called with all its keywords, in their order -/
theorem AtTop.dk (t : AtTop K x qual st kws) (X : K.In h) (G : h.Ns mainGlobals mg) (n : Nat) (ks : List Str)
    (hb : ∀ (kV doc pm : Value) (an : Option Addr) (cdv ct : Value) (us ws : List Value), us.length = n → ws.length = ks.length → bindArgs (PySem.W.fnOf x qual (defArgs st) (defBody st) (defScope st) .none kV doc pm an cdv ct) ⟨us, ks.zip ws⟩ = pure (ps.zip (us ++ ws)))
    (ok : ∀ (f : Addr) (fd : FuncData), Fun K x qual st f fd → FnOk P w K mg base CX0 k f fd ps sp) : Dk P w K mg base x k ps sp n ks (fun vs zs => vs ++ zs) := by
  obtain ⟨f, fd, a, F, _⟩ := t.ex
  obtain ⟨oc, od, kV, doc, pm, an, cdv, ct, osl, rfl, lk, hcd⟩ := F.ex
  exact ⟨f, _, fun us ws => us ++ ws, ok f _ F, PySem.W.mg_of X G a, F.kp, ⟨fun s us ws _ l1 l2 => .of_eq (hb kV doc pm an cdv ct us ws l1 l2), fun r1 r2 => r1.append r2⟩⟩
/-- called with some of its keywords: of the rest the defaults -/
theorem AtTop.dkp (t : AtTop K x qual st kws) (X : K.In h) (G : h.Ns mainGlobals mg) (n : Nat) (ks : List Str) (ms : List (Str × V)) (sel : List (Sum Nat Nat)) (hk : kws ≠ []) (hms : ∀ q ∈ ms, q ∈ kws)
    (hb : ∀ (D : Addr) (doc pm : Value) (an : Option Addr) (cdv ct : Value) (us mv ws : List Value), us.length = n → mv.length = ms.length → ws.length = ks.length →
      KwChain D ((ms.map (·.1)).zip mv) (bindArgs (PySem.W.fnOf x qual (defArgs st) (defBody st) (defScope st) .none (.ref D) doc pm an cdv ct) ⟨us, ks.zip ws⟩) (ps.zip (pick sel us mv ws)))
    (ok : ∀ (f : Addr) (fd : FuncData), Fun K x qual st f fd → FnOk P w K mg base CX0 k f fd ps sp) : Dk P w K mg base x k ps sp n ks (kwp sel (ms.map (·.2))) := by
  obtain ⟨f, fd, a, F, FD⟩ := t.ex
  obtain ⟨mv, b⟩ := FD.kbinds0 (ps := ps) n ks ms (fun us mv ws => pick sel us mv ws) hk hms (fun r1 r2 r3 => pick_rel r1 r2 r3 sel) hb
  exact ⟨f, fd, _, ok f fd F, PySem.W.mg_of X G a, F.kp, b⟩
end
end Cl

open PySem L2 Cl
local macro_rules | `(tactic| walk_at "rd") => `(tactic| (repeat (first | refine ⟨_, rfl, ?_⟩ | refine ⟨_, _, rfl, rfl, ?_⟩ | refine ⟨_, _, rfl, ?_⟩ | refine ⟨_, _, _, rfl, ?_⟩ | refine ⟨_, _, _, _, rfl, ?_⟩ | refine ⟨.inr ⟨by decide, by decide⟩, ?_⟩ | refine ⟨.inl ⟨by decide, by decide⟩, ?_⟩ | refine ⟨⟨by decide, by decide⟩, ?_⟩ | refine ⟨⟨by decide, by decide, by decide⟩, ?_⟩ | refine ⟨(by show (0 : Int) < _; decide), ?_⟩ | refine ⟨rfl, ?_⟩ | refine .inl ⟨_, rfl, ?_⟩ | refine .inr ⟨_, rfl, ?_⟩)))
/-! ### my rules: own __len__, __add__, __eq__, static methods, C(*xs) -/
namespace Cl
open StX ClX PyProof.Rows
section
variable {X : Cx} {CX : CXT} {k : Nat} {C f p g : Addr} {mc : Value} {fd : FuncData} {ps : List Str} {sp : Sp} {dvs : List V} {ds : List Value} {E : XK} {x m : Str} {pn pos apos : Pos} {e o : Expr} {es : List Expr} {te ta : TE} {t : TA} {pl : Sem Bool}
theorem call_lenO (F : FnOk X.prog X.w X.K X.mg X.base CX k f fd ps sp) (hr : Room (k + 1) X.A) (hs : PySem.W.findIn X.K (.ref C) "__len__" = some (some (.ref f))) (hf : PySem.W.isFn X.K (.ref f) = true) (hb : Binds X.K fd ps []) (hx : Passes CX X E) :
    CallR X (.builtin "len") (fun xs H Q => ∃ a dx fs, xs = [.ref a] ∧ H a = some (.ins C dx fs) ∧ sp [.ref a] H (fun v H' => ∃ n : Nat, v = .int n ∧ n < 4611686018427387904 ∧ Q (.int n) H') E) := by
  intro pins s σ H xs us Q I r h
  obtain ⟨a, dx, fs, rfl, ha, hq⟩ := h
  obtain ⟨u, rfl, r1⟩ := vals1 r
  cases r1
  obtain ⟨mA, O, _⟩ := ins_get I.hok ha
  obtain ⟨od, J, _⟩ := O.look
  obtain ⟨mm, hF⟩ := I.fr
  have hl := F.len _ _ _ _ hq
  refine PySem.W.len_K hF I.ok.mod.kin J hs hf ?_
  refine wpAny_call (codeAny_mono (F.run X.A.in1 X.stack s H ⟨[.ref a], []⟩ [.ref a] [.ref a] _ E hr.in1 I.env0.in1 (by
    have := hb s [.ref a] I.kIn (by simpa using hl)
    simpa using this) (.cons rfl .nil) hq) fun r s' hq => ?_)
  cases r with
  | error e => exact hx pins σ H s e s' I hq
  | ok fl =>
    cases fl with
    | ret w =>
      obtain ⟨z, H', I', rz, n, ez, hn, q⟩ := I.after hq
      subst ez
      obtain ⟨tk, rfl⟩ := rz
      exact ⟨⟨by omega, by omega⟩, .int n, H', I'.tok _, ⟨_, rfl⟩, q⟩
    | next => exact False.elim hq
    | brk => exact False.elim hq
    | cont => exact False.elim hq
theorem notNI {v : V} {u : Value} {Q : Value → Shared → Prop} {s : Shared} (r : RelV v u) (q : Q u s) : PySem.W.CmpBack Q u s := by
  cases v with
  | non => cases r; exact q
  | bl b => cases r; exact q
  | int i => obtain ⟨t, rfl⟩ := r; exact q
  | str i => obtain ⟨t, rfl⟩ := r; exact q
  | byt i => obtain ⟨t, rfl⟩ := r; exact q
  | flt i => obtain ⟨t, rfl⟩ := r; exact q
  | ref a => cases r; exact q
  | ty n => cases r; exact q
def rOwn2 (C : Addr) (sp : Sp) (E : XK) : R2 := fun x y H Q => ∃ a b dx dy fs gs, x = .ref a ∧ y = .ref b ∧ H a = some (.ins C dx fs) ∧ H b = some (.ins C dy gs) ∧ sp [.ref a, .ref b] H Q E
theorem op_addO (F : FnOk X.prog X.w X.K X.mg X.base CX k f fd ps sp) (hr : Room k X.A) (hc : PySem.W.selfFirst X.K C = true) (hs : PySem.W.findIn X.K (.ref C) "__add__" = some (some (.ref f))) (hf : PySem.W.isFn X.K (.ref f) = true) (hb : Binds X.K fd ps []) (hx : Passes CX X E) :
    OpR X (binaryOp .Add) (rOwn2 C sp E) := by
  intro pins s σ H x y v u Q I rx ry h
  obtain ⟨a, b, dx, dy, fs, gs, rfl, rfl, ha, hb2, hq⟩ := h
  cases rx
  cases ry
  obtain ⟨mA, J, _⟩ := ins_get I.hok ha
  obtain ⟨mB, J', _⟩ := ins_get I.hok hb2
  obtain ⟨od, J, _⟩ := J.look
  obtain ⟨od', J', _⟩ := J'.look
  obtain ⟨mm, hF⟩ := I.fr
  refine PySem.W.binop_K (op := .Add) hF I.ok.mod.kin J J'.type hc hs hf ?_
  exact thn (run_fn (us := [.ref a, .ref b]) (vs := [.ref a, .ref b]) (dvs := []) (ds := []) F hr hb .nil hx I (.cons rfl (.cons rfl .nil)) hq) fun w s' hw => by
    obtain ⟨z, H', I', rz, q⟩ := hw
    exact notNI rz ⟨z, H', I', rz, q⟩
theorem op_eqO (F : FnOk X.prog X.w X.K X.mg X.base CX k f fd ps sp) (hr : Room k X.A) (hs : PySem.W.findIn X.K (.ref C) "__eq__" = some (some (.ref f))) (hf : PySem.W.isFn X.K (.ref f) = true) (hb : Binds X.K fd ps []) (hx : Passes CX X E) :
    OpR X (compareOp .Eq) (rOwn2 C sp E) := by
  intro pins s σ H x y v u Q I rx ry h
  obtain ⟨a, b, dx, dy, fs, gs, rfl, rfl, ha, hb2, hq⟩ := h
  cases rx
  cases ry
  obtain ⟨mA, J, _⟩ := ins_get I.hok ha
  obtain ⟨mB, J', _⟩ := ins_get I.hok hb2
  obtain ⟨od, J, _⟩ := J.look
  obtain ⟨od', J', _⟩ := J'.look
  obtain ⟨mm, hF⟩ := I.fr
  show wpAny (model X.prog X.w) X.A (richCompare .Eq (.ref a) (.ref b)) (EP X pins σ Q) X.xe s
  refine PySem.W.cmp_K (op := .Eq) (tb := .ref C) hr.units0 hF I.ok.mod.kin J J'.type (by simp [PySem.W.notFirst]) hs hf ?_
  exact thn (run_fn (us := [.ref a, .ref b]) (vs := [.ref a, .ref b]) (dvs := []) (ds := []) F hr hb .nil hx I (.cons rfl (.cons rfl .nil)) hq) fun w s' hw => by
    obtain ⟨z, H', I', rz, q⟩ := hw
    exact notNI rz ⟨z, H', I', rz, q⟩
/-- C.m is a static method: its record at p, its def at g -/
structure SMet (K : PySem.W.Frag) (C : Addr) (mc : Value) (m : Str) (p g : Addr) : Prop where
  at_ : PySem.W.findCls K (.ref C) mc m = some (.get (.builtin "staticmethod.__get__") (.ref p) .none (.ref C))
  rc : ∃ rest, PySem.W.recIn K p "staticmethod" = some (.ref g :: rest)
def tSMeth (C : Addr) (sp : Sp) (dvs : List V) (E : XK) (ta : TE) (t : TA) : TE := fun σ H Q => ta σ H fun x H1 => x = .ref C ∧ t σ H1 fun vs H2 => sp (vs ++ dvs) H2 Q E
theorem pe_smeth (he : PE X o ta) (r : CRead X.K C mc) (c : SMet X.K C mc m p f) (F : FnOk X.prog X.w X.K X.mg X.base CX k f fd ps sp) (hr : Room k X.A) (hk : PySem.W.keepIn X.K (.ref f) = true) (hb : Binds X.K fd ps ds) (hd : Vals dvs ds) (hx : Passes CX X E) (ha : PA X (e :: es) t)
    (hst : starEach (e :: es) X.env = (false, eval e X.env) :: starEach es X.env := by rfl) (hpl : (backTo pos (starEach es X.env)).any (·.1) = false := by rfl)
    (ht : eval (.Call (.Attribute o m apos) (e :: es) [] pos) X.env = (do
      let ov ← eval o X.env
      standAt apos.atName
      let (f, first) ← holding [ov] (getMethod ov m pl)
      callWith pos f first (backTo pos (starEach (e :: es) X.env)) (backToKw pos (keywordEach [] X.env))) := by rfl) :
    PE X (.Call (.Attribute o m apos) (e :: es) [] pos) (tSMeth C sp dvs E ta t) := by
  refine ⟨fun pins s σ H Q I h => ?_⟩
  refine PySem.W.methodCall_KW (pl := pl) (thn (he.run pins s σ H _ I h) fun u s1 ⟨x, H1, I1, rx, ex, q⟩ => ?_) ht
  subst ex
  obtain rfl : u = Value.ref C := rx
  obtain ⟨rest, hp⟩ := c.rc
  refine PySem.W.method_cls I1.kIn r.ga ?_
  refine PySem.W.cls_bind I1.kIn r.rd c.at_ ?_
  refine wpAny_call (PySem.W.sm_get (s := { s1 with toks := s1.toks + 1 }) I1.kIn hp ?_)
  refine PySem.W.handed_on rfl ?_
  refine PySem.W.callWith_K (h₀ := X.base) I.ok.mod.kin hk (thn (ha.run pos pins _ σ H1 _ (I1.tok _) q) fun us s2 ⟨vs, H2, I2, r2, q2⟩ => ⟨I2.kIn, ?_⟩) hst hpl
  exact run_fn F hr hb hd hx I2 r2 q2
def tMakeS (K : PySem.W.Frag) (C : Addr) (sp : Sp) (E : XK) (te : TE) : TE := fun σ H Q => te σ H fun y H1 => ∃ a xs, y = V.ref a ∧ (SqT K H1 a xs ∨ SqL K H1 a xs) ∧
  ∀ x dx, H1 x = Option.none → H1 dx = Option.none → dx ≠ x → sp (V.ref x :: xs) (upd (upd H1 dx (.own x)) x (.ins C dx [])) (fun v H2 => v = .non ∧ Q (.ref x) H2) E
theorem pe_makeS {sp_ : Pos} (M : Mk X.K C f) (F : FnR X.prog X.w X.K X.mg X.base CX k f sp) (hr : Room (k + 1) X.A) (hg : Gl X x) (hm : X.mg x = some (.ref C)) (hx : Passes CX X E) (he : PE X e te) (hdb : (x == ("__debug__" : Str)) = false := by decide)
    (hst : starEach [.Starred e sp_] X.env = [(true, eval e X.env)] := by rfl) : PE X (.Call (.Name x pn) [.Starred e sp_] [] pos) (tMakeS X.K C sp E te) := by
  refine ⟨fun pins s σ H Q I h => ?_⟩
  refine wpAny_Call_Name_kw (ld_glob I hg hm ?_ hdb)
  refine PySem.W.callWith_S (h₀ := X.base) I.ok.mod.kin M.kp (thn (he.run pins s σ H _ I h) fun v s1 ⟨y, H1, I1, ry, a, xs, ey, hxs, q⟩ => ?_) hst
  subst ey
  obtain rfl : v = Value.ref a := ry
  exact star_any I1 hxs fun us s2 I2 rv => ⟨I2.kIn, run_makeR M F hr hx I2 rv q⟩
/-- sum(t) of a tuple of ints -/
def rSumT (K : PySem.W.Frag) : List V → Hp → VK → Prop := fun vs H Q => ∃ (a : Addr) (ns : List Int), vs = [V.ref a] ∧ SqT K H a (ns.map V.int) ∧ Q (.int ns.sum) H
theorem cr_sumT (hc : X.calm = true) : CallR X (.builtin "sum") (rSumT X.K) := by
  intro pins s σ H vs us Q I r h
  obtain ⟨a, ns, rfl, hs, q⟩ := h
  obtain ⟨its, rv, hl, _⟩ := I.tuple hs
  rw [Vals.ref1 r]
  have hi := rv.ints
  obtain ⟨xs, e⟩ := hi.allInts.items
  have hn : numsOf (intItems xs).toList = ns := by rw [← e]; exact hi.numsOf
  rw [nums_intItems] at hn
  rw [e] at hl
  refine PySem.W.ktm_sumG (I.ok.hd hc) hl fun h' tk t' hk => ?_
  rw [preSum_eq, List.take_of_length_le (by simp), hn]
  exact ⟨.int _, H, I.kept hk, ⟨_, rfl⟩, q⟩
/-! rules that say a new tuple by what can be read of it -/
def rSlE (K : PySem.W.Frag) : V → Option Int → Option Int → Hp → VK → Prop := fun x lo hi H Q => ∃ a xs, x = .ref a ∧ SqT K H a xs ∧ ∀ p H', SqT K H' p (cutV xs lo hi) → Same H H' → Q (.ref p) H'
theorem sl_tupE : SlR X (rSlE X.K) := by
  intro pins s σ H x v vl vu lo hi sl Q I rx hs pl pu h
  refine sl_tupA pins s σ H x v vl vu lo hi sl Q I rx hs pl pu ?_
  obtain ⟨a, xs, e, ha, q⟩ := h
  refine ⟨a, xs, e, ha, fun hw => ?_, fun _ p hp => ?_⟩
  · refine q a H ?_ (Same.refl H)
    obtain ⟨h1, h2⟩ := hw
    unfold cutV
    rw [h1, h2, Nat.sub_zero, List.drop_zero, List.take_length]
    exact ha
  · exact q p _ (SqT.of upd_same) (Same.upd hp)
def rCatE (K : PySem.W.Frag) : R2 := fun x y H Q => ∃ a b xs ys, x = .ref a ∧ y = .ref b ∧ SqT K H a xs ∧ SqT K H b ys ∧ xs.length + ys.length ≤ 10000 ∧ ∀ p H', SqT K H' p (xs ++ ys) → Same H H' → Q (.ref p) H'
theorem op_catE : OpR X (binaryOp .Add) (rCatE X.K) := by
  intro pins s σ H x y v u Q I rx ry h
  refine op_catA pins s σ H x y v u Q I rx ry ?_
  obtain ⟨a, b, xs, ys, e1, e2, ha, hb, hl, q⟩ := h
  refine ⟨a, b, xs, ys, e1, e2, ha, hb, Nat.le_trans hl (by decide), fun h1 => ?_, fun _ h2 => ?_, fun _ _ p hp => ?_⟩
  · exact q b H (by rw [h1]; exact hb) (Same.refl H)
  · exact q a H (by rw [h2, List.append_nil]; exact ha) (Same.refl H)
  · exact q p _ (SqT.of upd_same) (Same.upd hp)
end
/-! ### a class's defs by their names -/
structure ClsC (K : PySem.W.Frag) (mg : Str → Option Value) (x : Str) (C : Addr) : Prop where
  cl : Cls K C
  mg : mg x = some (.ref C)
  ic : C8.InsC K C
  sf : PySem.W.selfFirst K C = true
structure Mn (P : Program) (w : World) (K : PySem.W.Frag) (mg : Str → Option Value) (base : Heap) (C : Addr) (m : Str) (k : Nat) (ps : List Str) (sp : Sp) : Prop where
  ex : ∃ (f : Addr) (fd : FuncData), Meth K C m f ∧ FnOk P w K mg base CX0 k f fd ps sp ∧ Binds K fd ps []
structure Pn (P : Program) (w : World) (K : PySem.W.Frag) (mg : Str → Option Value) (base : Heap) (C : Addr) (m : Str) (k : Nat) (sp : Sp) : Prop where
  ex : ∃ (p g : Addr) (fd : FuncData), PropOf K C m p g ∧ FnOk P w K mg base CX0 k g fd ["self"] sp ∧ Binds K fd ["self"] []
structure Sn (P : Program) (w : World) (K : PySem.W.Frag) (mg : Str → Option Value) (base : Heap) (C : Addr) (m : Str) (k : Nat) (ps : List Str) (sp : Sp) : Prop where
  ex : ∃ (p f : Addr) (fd : FuncData) (mc : Value), CRead K C mc ∧ SMet K C mc m p f ∧ FnOk P w K mg base CX0 k f fd ps sp ∧ PySem.W.keepIn K (.ref f) = true ∧ Binds K fd ps []
structure Cn (P : Program) (w : World) (K : PySem.W.Frag) (mg : Str → Option Value) (base : Heap) (C : Addr) (k : Nat) (sp : Sp) : Prop where
  ex : ∃ (f : Addr), Mk K C f ∧ FnR P w K mg base CX0 k f sp
structure On (P : Program) (w : World) (K : PySem.W.Frag) (mg : Str → Option Value) (base : Heap) (C : Addr) (m : Str) (k : Nat) (ps : List Str) (sp : Sp) : Prop where
  ex : ∃ (f : Addr) (fd : FuncData), PySem.W.findIn K (.ref C) m = some (some (.ref f)) ∧ PySem.W.isFn K (.ref f) = true ∧ FnOk P w K mg base CX0 k f fd ps sp ∧ Binds K fd ps []
section
variable {X : Cx} {k : Nat} {C : Addr} {ps : List Str} {sp : Sp} {E : XK} {x m : Str} {pn pos apos : Pos} {e o : Expr} {es : List Expr} {te ta : TE} {t : TA} {pl : Sem Bool}
theorem pe_cls (c : ClsC X.K X.mg x C) (hg : Gl X x) (hd : (x == ("__debug__" : Str)) = false := by decide) : PE X (.Name x pos) (tC (.ref C)) := pe_glob (v := .ref C) hg c.mg rfl hd
theorem pe_mn (D : Mn X.prog X.w X.K X.mg X.base C m k ps sp) (cl : Cls X.K C) (hr : Room k X.A) (hx : Passes CX0 X E) (he : PE X o ta) (ha : PA X (e :: es) t)
    (hst : starEach (e :: es) X.env = (false, eval e X.env) :: starEach es X.env := by rfl) (hpl : (backTo pos (starEach es X.env)).any (·.1) = false := by rfl)
    (ht : eval (.Call (.Attribute o m apos) (e :: es) [] pos) X.env = (do
      let ov ← eval o X.env
      standAt apos.atName
      let (f, first) ← holding [ov] (getMethod ov m pl)
      callWith pos f first (backTo pos (starEach (e :: es) X.env)) (backToKw pos (keywordEach [] X.env))) := by rfl) :
    PE X (.Call (.Attribute o m apos) (e :: es) [] pos) (tMeth C m sp [] E ta t) := by
  obtain ⟨f, fd, M, F, b⟩ := D.ex
  exact pe_meth (pl := pl) he cl M F hr b .nil hx ha hst hpl ht
theorem pe_mn0 (D : Mn X.prog X.w X.K X.mg X.base C m k ps sp) (cl : Cls X.K C) (hr : Room k X.A) (hx : Passes CX0 X E) (he : PE X o ta)
    (ht : eval (.Call (.Attribute o m apos) [] [] pos) X.env = (do
      let ov ← eval o X.env
      standAt apos.atName
      let (f, first) ← holding [ov] (getMethod ov m pl)
      callWith pos f first (backTo pos (starEach [] X.env)) (backToKw pos (keywordEach [] X.env))) := by rfl) :
    PE X (.Call (.Attribute o m apos) [] [] pos) (tMeth C m sp [] E ta tNil) := by
  obtain ⟨f, fd, M, F, b⟩ := D.ex
  exact pe_meth0 (pl := pl) he cl M F hr b .nil hx ht
theorem pe_pn (D : Pn X.prog X.w X.K X.mg X.base C m k sp) (cl : Cls X.K C) (hr : Room (k + 1) X.A) (he : PE X o ta) (hab : attributeBase o m X.env (eval o X.env) = eval o X.env := by rfl) : PE X (.Attribute o m pos) (tProp C sp [] E0 ta) := by
  obtain ⟨p, g, fd, hp, F, b⟩ := D.ex
  exact pe_prop he cl hp F hr b .nil pass0 hab
theorem pe_sn (D : Sn X.prog X.w X.K X.mg X.base C m k ps sp) (hr : Room k X.A) (hx : Passes CX0 X E) (he : PE X o ta) (ha : PA X (e :: es) t)
    (hst : starEach (e :: es) X.env = (false, eval e X.env) :: starEach es X.env := by rfl) (hpl : (backTo pos (starEach es X.env)).any (·.1) = false := by rfl)
    (ht : eval (.Call (.Attribute o m apos) (e :: es) [] pos) X.env = (do
      let ov ← eval o X.env
      standAt apos.atName
      let (f, first) ← holding [ov] (getMethod ov m pl)
      callWith pos f first (backTo pos (starEach (e :: es) X.env)) (backToKw pos (keywordEach [] X.env))) := by rfl) :
    PE X (.Call (.Attribute o m apos) (e :: es) [] pos) (tSMeth C sp [] E ta t) := by
  obtain ⟨p, f, fd, mc, r, c, F, kp, b⟩ := D.ex
  exact pe_smeth (pl := pl) he r c F hr kp b .nil hx ha hst hpl ht
theorem pe_mkR (D : Cn X.prog X.w X.K X.mg X.base C k sp) (hr : Room (k + 1) X.A) (hg : Gl X x) (hm : X.mg x = some (.ref C)) (hx : Passes CX0 X E) (ha : PA X (e :: es) t) (hdb : (x == ("__debug__" : Str)) = false := by decide)
    (he : starEach (e :: es) X.env = (false, eval e X.env) :: starEach es X.env := by rfl) (hpl : (backTo pos (starEach es X.env)).any (·.1) = false := by rfl) : PE X (.Call (.Name x pn) (e :: es) [] pos) (tMakeR C sp E t) := by
  obtain ⟨f, M, F⟩ := D.ex
  exact pe_makeR M F hr hg hm hx ha hdb he hpl
theorem pe_mkS {sp_ : Pos} (D : Cn X.prog X.w X.K X.mg X.base C k sp) (hr : Room (k + 1) X.A) (hg : Gl X x) (hm : X.mg x = some (.ref C)) (hx : Passes CX0 X E) (he : PE X e te) (hdb : (x == ("__debug__" : Str)) = false := by decide)
    (hst : starEach [.Starred e sp_] X.env = [(true, eval e X.env)] := by rfl) : PE X (.Call (.Name x pn) [.Starred e sp_] [] pos) (tMakeS X.K C sp E te) := by
  obtain ⟨f, M, F⟩ := D.ex
  exact pe_makeS M F hr hg hm hx he hdb hst
theorem op_addN (D : On X.prog X.w X.K X.mg X.base C "__add__" k ps sp) (c : ClsC X.K X.mg x C) (hr : Room k X.A) : OpR X (binaryOp .Add) (rOwn2 C sp E0) := by
  obtain ⟨f, fd, a, i, F, b⟩ := D.ex
  exact op_addO F hr c.sf a i b pass0
theorem op_eqN (D : On X.prog X.w X.K X.mg X.base C "__eq__" k ps sp) (hr : Room k X.A) : OpR X (compareOp .Eq) (rOwn2 C sp E0) := by
  obtain ⟨f, fd, a, i, F, b⟩ := D.ex
  exact op_eqO F hr a i b pass0
def rLenO (C : Addr) (sp : Sp) : List V → Hp → VK → Prop := fun xs H Q => ∃ a dx fs, xs = [.ref a] ∧ H a = some (.ins C dx fs) ∧ sp [.ref a] H (fun v H' => ∃ n : Nat, v = .int n ∧ n < 4611686018427387904 ∧ Q (.int n) H') E0
theorem call_lenN (D : On X.prog X.w X.K X.mg X.base C "__len__" k ps sp) (hr : Room (k + 1) X.A) : CallR X (.builtin "len") (rLenO C sp) := by
  obtain ⟨f, fd, a, i, F, b⟩ := D.ex
  exact call_lenO F hr a i b pass0
/-! a range kept as a value, walked -/
def iRngV (tl : TE) : TI := fun σ H R => tl σ H fun x H1 => ∃ a lo hi, x = .ref a ∧ H1 a = some (.rng lo hi) ∧ (-(2 ^ 62) ≤ lo ∧ lo < 2 ^ 62 ∧ -(2 ^ 62) ≤ hi ∧ hi < 2 ^ 62) ∧ R (Itr lo (hi - lo).toNat) H1
theorem pi_rng {tg l : Expr} {tl : TE} (hl : PE X l tl) : PI X tg l (iRngV tl) := by
  refine ⟨fun pins s σ H R I h => ?_⟩
  refine thn (hl.run pins s σ H _ I h) fun v s1 ⟨x, H1, I1, r1, q1⟩ => ?_
  obtain ⟨a, lo, hi, e, ha, ⟨h1, h2, h3, h4⟩, q⟩ := q1
  subst e
  cases r1
  obtain ⟨t, u, w', hg⟩ := I1.hok a _ ha
  refine wpAny_pyIter_range (show IsRange _ _ _ _ _ _ _ _ from hg) (small_one h1 h2 h3 h4) ?_
  refine ⟨s1.heap.objs.size, [s1.heap.objs.size], _, _, H1, rfl, I1.kept (t' := s1.toks) fun b o e => Heap.get?_push_of_some _ e, turn_range _ lo (hi - lo).toNat, ?_, fun b hb => ?_, q⟩
  · have e1 : lo + ((0 : Nat) : Int) * 1 = lo := by simp
    have e2 : (((hi - lo).toNat : Nat) : Int) - ((0 : Nat) : Int) = Builtin.Range.rangeSize lo hi 1 := by rw [rangeSize_one]; split <;> omega
    show IsRangeIter _ _ (lo + ((0 : Nat) : Int) * 1) ((((hi - lo).toNat : Nat) : Int) - ((0 : Nat) : Int)) 1
    rw [e1, e2]
    exact Heap.get?_push_size _ rfl
  · have e : b = s1.heap.objs.size := by simpa using hb
    subst e
    exact I1.fpOk (Nat.le_refl _) (I1.hok.fresh (Nat.le_refl _))
/-! the rules that name the written part, with its name given (for the element of a comprehension) -/
theorem ix_listK (K : PySem.W.Frag) (h : X.K = K := by rfl) : IxR X (rIxL K) := h ▸ ix_list
theorem ix_tupK (K : PySem.W.Frag) (h : X.K = K := by rfl) : IxR X (rIxT K) := h ▸ ix_tup
def rLenK (K : PySem.W.Frag) : List V → Hp → VK → Prop := fun xs H Q => ∃ p ys, xs = [.ref p] ∧ (SqL K H p ys ∨ SqT K H p ys) ∧ Q (.int ys.length) H
theorem call_lenK (K : PySem.W.Frag) (h : X.K = K := by rfl) : CallR X (.builtin "len") (rLenK K) := h ▸ call_len_seq
theorem cr_sumK (K : PySem.W.Frag) (hc : X.calm = true) (h : X.K = K := by rfl) : CallR X (.builtin "sum") (rSum K) := h ▸ cr_sum hc
theorem cr_minK (K : PySem.W.Frag) (hc : X.calm = true) (h : X.K = K := by rfl) : CallR X (.builtin "min") (rMin K) := h ▸ cr_min hc
theorem call_isiK (K : PySem.W.Frag) (h : X.K = K := by rfl) : CallR X (.builtin "isinstance") (rIsi K) := h ▸ call_isi
theorem op_eqDK (K : PySem.W.Frag) (hu : X.A.units + 64 < cLine) (h : X.K = K := by rfl) : OpR X (compareOp .Eq) (rEqD K) := h ▸ op_eqD hu
def rIsqrt : List V → Hp → VK → Prop := fun vs H Q => ∃ a : Int, vs = [.int a] ∧ 0 ≤ a ∧ a < 2 ^ 64 ∧ ∀ r : Nat, r * r ≤ a.toNat → a.toNat < (r + 1) * (r + 1) → Q (.int (r : Int)) H
theorem cr_isqrt : CallR X (.builtin "math.isqrt") rIsqrt := by
  intro pins s σ H vs us Q I r h
  obtain ⟨a, rfl, h0, h1, q⟩ := h
  obtain ⟨u, rfl, t, rfl⟩ := Vals.one r
  have sp := PySem.Float64.isqrt_spec a.toNat
  exact PySem.W.mg_isqrt h0 h1 ⟨.int _, H, I.tok _, ⟨_, rfl⟩, q _ sp.1 sp.2⟩
theorem sl_listK (K : PySem.W.Frag) (h : X.K = K := by rfl) : SlR X (rSlL K) := h ▸ sl_list
theorem pe_fldK (K : PySem.W.Frag) {f : Str} (he : PE X e ta) (hb : attributeBase e f X.env (eval e X.env) = eval e X.env) (h : X.K = K := by rfl) : PE X (.Attribute e f pos) (tFld K ta f) := h ▸ pe_fld he hb
end
/-! ### what the top has written of a class -/
structure AtC (K : PySem.W.Frag) (x : Str) (C : Addr) : Prop where
  at_ : PySem.W.nsIn K mainGlobals x = some (some (.ref C))
  cl : Cls K C
  ic : C8.InsC K C
  sf : PySem.W.selfFirst K C = true
  made : PySem.W.makesIn K C = true
  kp : PySem.W.keepIn K (.ref C) = true
theorem atC {K : PySem.W.Frag} {x : Str} {C : Addr} (a : PySem.W.nsIn K mainGlobals x = some (some (.ref C))) (pg : PySem.W.plainGet K C Str.empty = true) (hd : PySem.W.hasDictIn K C = true) (po : PySem.W.plainOver K C = true) (sa : PySem.W.findIn K (.ref C) "__setattr__" = some (some (.builtin "object.__setattr__")))
    (ha : PySem.W.findIn K (.ref C) "__class__" = some (some (.builtin "object.__class__"))) (hn : PySem.W.specialIn K (.builtin "object.__class__") "__get__" = some (some (.builtin "getset_descriptor.__get__"))) (htk : PySem.W.takesIn K (.builtin "object.__class__") = some true)
    (hm : PySem.W.mroIn K C (.type "object") = some true) (sf : PySem.W.selfFirst K C = true) (mk : PySem.W.makesIn K C = true) (kp : PySem.W.keepIn K (.ref C) = true) : AtC K x C :=
  ⟨a, ⟨pg, hd, po, sa⟩, ⟨⟨pg, hd, po, sa⟩, ha, hn, htk, hm, by unfold PySem.W.kitOne; simp⟩, sf, mk, kp⟩
structure AtCls (K : PySem.W.Frag) (C : Addr) (m qual : Str) (st : Stmt) : Prop where
  ex : ∃ (f : Addr) (fd : FuncData), PySem.W.findIn K (.ref C) m = some (some (.ref f)) ∧ PySem.W.isFn K (.ref f) = true ∧ Fun K m qual st f fd
theorem atCls {K : PySem.W.Frag} {C f : Addr} {m qual : Str} {st : Stmt} {oc : Value} {od an : Option Addr} {osl : Array (Option Value)} {kV doc pm cdv ct : Value} (a : PySem.W.findIn K (.ref C) m = some (some (.ref f))) (i : PySem.W.isFn K (.ref f) = true)
    (l : K.lookup f = some ⟨oc, od, .func (PySem.W.fnOf m qual (defArgs st) (defBody st) (defScope st) .none kV doc pm an cdv ct), osl⟩) (c : PySem.W.codeIn K cdv qual = true) (p : PySem.W.keepIn K (.ref f) = true) : AtCls K C m qual st :=
  ⟨f, _, a, i, fun_mk l c p⟩
structure AtProp (K : PySem.W.Frag) (C : Addr) (m qual : Str) (st : Stmt) : Prop where
  ex : ∃ (p g : Addr) (fd : FuncData), PropOf K C m p g ∧ Fun K m qual st g fd
theorem atProp {K : PySem.W.Frag} {C p g : Addr} {m qual : Str} {st : Stmt} {oc : Value} {od an : Option Addr} {osl : Array (Option Value)} {kV doc pm cdv ct : Value} {rest : List Value} (a : PySem.W.findIn K (.ref C) m = some (some (.ref p))) (gt : PySem.W.specialIn K (.ref p) "__get__" = some (some (.builtin "property.__get__")))
    (tk : PySem.W.takesIn K (.ref p) = some true) (rc : PySem.W.recIn K p "property" = some (.ref g :: rest))
    (l : K.lookup g = some ⟨oc, od, .func (PySem.W.fnOf m qual (defArgs st) (defBody st) (defScope st) .none kV doc pm an cdv ct), osl⟩) (c : PySem.W.codeIn K cdv qual = true) (kp : PySem.W.keepIn K (.ref g) = true) : AtProp K C m qual st :=
  ⟨p, g, _, ⟨a, gt, tk, _, rc⟩, fun_mk l c kp⟩
structure AtStat (K : PySem.W.Frag) (C : Addr) (m qual : Str) (st : Stmt) : Prop where
  ex : ∃ (p g : Addr) (fd : FuncData) (mc : Value), CRead K C mc ∧ SMet K C mc m p g ∧ Fun K m qual st g fd
theorem atStat {K : PySem.W.Frag} {C p g : Addr} {m qual : Str} {st : Stmt} {oc mc : Value} {od an : Option Addr} {osl : Array (Option Value)} {kV doc pm cdv ct : Value} {rest : List Value} (_ty : PySem.W.typeIn K (.ref C) = some mc) (rd : PySem.W.readsIn K C mc = true)
    (ga : PySem.W.specialIn K (.ref C) "__getattribute__" = some (some (.builtin "type.__getattribute__"))) (fc : PySem.W.findCls K (.ref C) mc m = some (.get (.builtin "staticmethod.__get__") (.ref p) .none (.ref C))) (rc : PySem.W.recIn K p "staticmethod" = some (.ref g :: rest))
    (l : K.lookup g = some ⟨oc, od, .func (PySem.W.fnOf m qual (defArgs st) (defBody st) (defScope st) .none kV doc pm an cdv ct), osl⟩) (c : PySem.W.codeIn K cdv qual = true) (kp : PySem.W.keepIn K (.ref g) = true) : AtStat K C m qual st :=
  ⟨p, g, _, mc, ⟨rd, ga⟩, ⟨fc, _, rc⟩, fun_mk l c kp⟩
theorem cvAt {K : PySem.W.Frag} {C : Addr} {m : Str} {v : V} {mc u : Value} (_ty : PySem.W.typeIn K (.ref C) = some mc) (rd : PySem.W.readsIn K C mc = true)
    (ga : PySem.W.specialIn K (.ref C) "__getattribute__" = some (some (.builtin "type.__getattribute__"))) (fc : PySem.W.findCls K (.ref C) mc m = some (.val u)) (r : RelV v u) : ∃ mc u, CRead K C mc ∧ CVal K C mc m v u := ⟨mc, u, ⟨rd, ga⟩, ⟨fc, r⟩⟩
section
variable {P : Program} {w : World} {K : PySem.W.Frag} {mg : Str → Option Value} {base : Heap} {C : Addr} {x m qual : Str} {st : Stmt} {ps : List Str} {k : Nat} {sp : Sp} {h : Heap}
theorem AtC.cc (t : AtC K x C) (X : K.In h) (G : h.Ns mainGlobals mg) : ClsC K mg x C := ⟨t.cl, PySem.W.mg_of X G t.at_, t.ic, t.sf⟩
abbrev Bd (m qual : Str) (st : Stmt) (ps : List Str) : Prop := ∀ (kV doc pm : Value) (an : Option Addr) (cdv ct : Value) (us : List Value), us.length = ps.length → bindArgs (PySem.W.fnOf m qual (defArgs st) (defBody st) (defScope st) .none kV doc pm an cdv ct) ⟨us, []⟩ = pure (ps.zip us)
theorem AtCls.mn (t : AtCls K C m qual st) (hb : Bd m qual st ps) (ok : ∀ (f : Addr) (fd : FuncData), Fun K m qual st f fd → FnOk P w K mg base CX0 k f fd ps sp) : Mn P w K mg base C m k ps sp := by
  obtain ⟨f, fd, a, i, F⟩ := t.ex
  exact ⟨f, fd, ⟨a, i, F.kp⟩, ok f fd F, F.binds hb⟩
theorem AtCls.on (t : AtCls K C m qual st) (hb : Bd m qual st ps) (ok : ∀ (f : Addr) (fd : FuncData), Fun K m qual st f fd → FnOk P w K mg base CX0 k f fd ps sp) : On P w K mg base C m k ps sp := by
  obtain ⟨f, fd, a, i, F⟩ := t.ex
  exact ⟨f, fd, a, i, ok f fd F, F.binds hb⟩
theorem AtCls.cn (t : AtCls K C "__init__" qual st) (c : AtC K x C) (ok : ∀ (f : Addr) (fd : FuncData), Fun K "__init__" qual st f fd → FnR P w K mg base CX0 k f sp) : Cn P w K mg base C k sp := by
  obtain ⟨f, fd, a, i, F⟩ := t.ex
  exact ⟨f, ⟨c.made, a, i, c.kp⟩, ok f fd F⟩
theorem AtProp.pn (t : AtProp K C m qual st) (hb : Bd m qual st ["self"]) (ok : ∀ (f : Addr) (fd : FuncData), Fun K m qual st f fd → FnOk P w K mg base CX0 k f fd ["self"] sp) : Pn P w K mg base C m k sp := by
  obtain ⟨p, g, fd, a, F⟩ := t.ex
  exact ⟨p, g, fd, a, ok g fd F, F.binds hb⟩
theorem AtStat.sn (t : AtStat K C m qual st) (hb : Bd m qual st ps) (ok : ∀ (f : Addr) (fd : FuncData), Fun K m qual st f fd → FnOk P w K mg base CX0 k f fd ps sp) : Sn P w K mg base C m k ps sp := by
  obtain ⟨p, g, fd, mc, r, c, F⟩ := t.ex
  exact ⟨p, g, fd, mc, r, c, ok g fd F, F.kp, F.binds hb⟩
end
end Cl

/-! ### the checks and the draws that all laws share -/
namespace Cl
def top (i : Nat) : Stmt := PySem.Challenge.pw_carrylog_k02_whole_rule_of_the_ring.main.body.getD i (.Pass ⟨0, 0, 0, 0⟩)
abbrev sWall : Stmt := top 0
abbrev sInvalidinputInit : Stmt := inClass (top 3) 0
abbrev sIsWhole : Stmt := top 5
abbrev sCheckLeast : Stmt := top 6
abbrev sRoundInit : Stmt := inClass (top 8) 1
abbrev sRoundConstant : Stmt := inClass (top 8) 2
abbrev sRoundBudgets : Stmt := inClass (top 8) 3
abbrev sRoundLen : Stmt := inClass (top 8) 4
abbrev sRoundEq : Stmt := inClass (top 8) 5
abbrev sRoundAdd : Stmt := inClass (top 8) 6
abbrev sRoundAt : Stmt := inClass (top 8) 7
abbrev sRoundShifted : Stmt := inClass (top 8) 8
abbrev sRoundTotal : Stmt := inClass (top 8) 9
abbrev sRoundLeast : Stmt := inClass (top 8) 10
abbrev sRoundWorstStart : Stmt := inClass (top 8) 11
abbrev sRoundReach : Stmt := inClass (top 8) 12
abbrev sRoundTotals : Stmt := inClass (top 8) 13
abbrev sCheckRound : Stmt := top 9
abbrev sEffective : Stmt := top 11
abbrev sRingGoesOn : Stmt := top 12
abbrev sCheckOrder : Stmt := top 13
abbrev sPlacesLost : Stmt := top 14
abbrev sLawIsNumber : Stmt := top 16
abbrev sLawBag : Stmt := top 17
abbrev sLawTake : Stmt := top 18
abbrev sLawNumber : Stmt := top 19
abbrev sLawRow : Stmt := top 20
abbrev sLawRound : Stmt := top 21
abbrev sLawSum : Stmt := top 22
abbrev sLawLeast : Stmt := top 23
abbrev sLawEdge : Stmt := top 24
abbrev sLawPair : Stmt := top 25
abbrev sLawRule : Stmt := top 26
abbrev sLawTrim : Stmt := top 27
abbrev sLawUnneeded : Stmt := top 28
abbrev sLawPlayed : Stmt := top 29
abbrev sLawNeverStalls : Stmt := top 30
abbrev sLawWidth : Stmt := top 31
abbrev sLawTerms : Stmt := top 32
abbrev sLawAnswers : Stmt := top 33
abbrev sLawPairs : Stmt := top 34
abbrev sLawPairsAgree : Stmt := top 35
abbrev sLawCase : Stmt := top 36
abbrev sLaw : Stmt := top 37
section
variable {P : Program} {w : World} {K : PySem.W.Frag} {mg : Str → Option Value} {base : Heap}
/-! is_whole, check_least, _law_is_number -/
def spIsWhole : Sp := fun vs H Q _ => ∃ (v : Int), vs = [.int v] ∧ Q (.bl true) H
theorem kit_ii (K : PySem.W.Frag) : PySem.W.kitOne K (.type "int") (.type "int") = some true := kit_ty (by decide +kernel)
theorem kit_ib (K : PySem.W.Frag) : PySem.W.kitOne K (.type "int") (.type "bool") = some false := kit_ty (by decide +kernel)
theorem scIsWhole : FnScope ["value"] ["value"] (defScope sIsWhole) := ⟨rfl, rfl, rfl, by decide +kernel, rfl, by decide +kernel, by decide +kernel⟩
theorem ok_is_whole {f : Addr} {fd : FuncData} (F : Fun K "is_whole" "is_whole" sIsWhole f fd) (B : Bi mg) : FnOk P w K mg base CX0 1 f fd ["value"] spIsWhole := by
  refine F.ok scIsWhole (fun vs H Q E h => ?_) (fun cdv A outer s H vs Q E hr h => ?_)
  · obtain ⟨v, rfl, _⟩ := h
    rfl
  · obtain ⟨v, rfl, k⟩ := h
    refine ⟨_, (pss_one (ps_ret (pe_and (pe_callB call_isi (by rfl) B.isinstance (by decide +kernel) (pa_cons (pv 0) (pa_cons (pe_bltn (v := .ty "int") (by rfl) B.intT (by decide +kernel) rfl) pa_nil))) (pe_one (pe_not (pe_callB call_isi (by rfl) B.isinstance (by decide +kernel) (pa_cons (pv 0) (pa_cons (pe_bltn (v := .ty "bool") (by rfl) B.boolT (by decide +kernel) rfl) pa_nil)))))))), ?_⟩
    refine ⟨_, rfl, _, _, _, _, _, rfl, .ty _, .base (.int _), kit_ii _, _, rfl, iteT ?_⟩
    exact ⟨_, rfl, _, _, _, _, _, rfl, .ty _, .base (.int _), kit_ib _, _, rfl, k⟩
def spCheckLeast : Sp := fun vs H Q _ => ∃ (v l : Int) (x : Str), vs = [.int v, .int l, .str x] ∧ l ≤ v ∧ Q .non H
theorem scCheckLeast : FnScope ["value", "least", "field"] ["value", "least", "field"] (defScope sCheckLeast) := ⟨rfl, rfl, rfl, by decide +kernel, rfl, by decide +kernel, by decide +kernel⟩
theorem ok_check_least {f : Addr} {fd : FuncData} (F : Fun K "check_least" "check_least" sCheckLeast f fd) (D_is_whole : Dn P w K mg base "is_whole" 1 ["value"] spIsWhole) : FnOk P w K mg base CX0 2 f fd ["value", "least", "field"] spCheckLeast := by
  refine F.ok scCheckLeast (fun vs H Q E h => ?_) (fun cdv A outer s H vs Q E hr h => ?_)
  · obtain ⟨v, l, x, rfl, _⟩ := h
    rfl
  · obtain ⟨v, l, x, rfl, hl, k⟩ := h
    refine ⟨_, (pss_one (ps_if (PW.pt (pw_or (pt_not (pt_val (pe_dn D_is_whole (hr.mono (by decide)) (by rfl) pass0 (pa_cons (pv 0) pa_nil)))) (pw_or1 (pt_cmpR op_lt (pv 0) (pv 1) (nomark _))))) (pss_one ps_never)
  pss_nil)), ?_⟩
    refine ⟨_, rfl, v, rfl, _, rfl, iteF ?_⟩
    walk_at "rd"
    rw [decide_eq_false (by omega)]
    exact iteF k
theorem scLawIsNumber : FnScope ["told"] ["told"] (defScope sLawIsNumber) := ⟨rfl, rfl, rfl, by decide +kernel, rfl, by decide +kernel, by decide +kernel⟩
theorem ok_is_number {f : Addr} {fd : FuncData} (F : Fun K "_law_is_number" "_law_is_number" sLawIsNumber f fd) (B : Bi mg) : FnOk P w K mg base CX0 1 f fd ["told"] spIsWhole := by
  refine F.ok scLawIsNumber (fun vs H Q E h => ?_) (fun cdv A outer s H vs Q E hr h => ?_)
  · obtain ⟨v, rfl, _⟩ := h
    rfl
  · obtain ⟨v, rfl, k⟩ := h
    refine ⟨_, (pss_one (ps_ret (pe_and (pe_callB call_isi (by rfl) B.isinstance (by decide +kernel) (pa_cons (pv 0) (pa_cons (pe_bltn (v := .ty "int") (by rfl) B.intT (by decide +kernel) rfl) pa_nil))) (pe_one (pe_not (pe_callB call_isi (by rfl) B.isinstance (by decide +kernel) (pa_cons (pv 0) (pa_cons (pe_bltn (v := .ty "bool") (by rfl) B.boolT (by decide +kernel) rfl) pa_nil)))))))), ?_⟩
    refine ⟨_, rfl, _, _, _, _, _, rfl, .ty _, .base (.int _), kit_ii _, _, rfl, iteT ?_⟩
    exact ⟨_, rfl, _, _, _, _, _, rfl, .ty _, .base (.int _), kit_ib _, _, rfl, k⟩
/-! the bag: what is drawn from it is any number of its range -/
def spTake : Sp := fun vs H Q _ => ∃ (a : Addr) (z : Int), vs = [.ref a, .int z] ∧ BagAt H a ∧ 1 ≤ z ∧ z ≤ 100000000000000000000000000000000000000000000000000000000000000 ∧ ∀ (d : Int) (H' : Hp), 0 ≤ d → d < z → BagAt H' a → But a H H' → Q (.int d) H'
theorem scLawTake : FnScope ["bag", "size", "digit", "found", "turn", "one", "two"] ["bag", "size"] (defScope sLawTake) := ⟨rfl, rfl, rfl, by decide +kernel, rfl, by decide +kernel, by decide +kernel⟩
theorem ok_take {f : Addr} {fd : FuncData} (F : Fun K "_law_take" "_law_take" sLawTake f fd) (B : Bi mg) : FnOk P w K mg base CX0 1 f fd ["bag", "size"] spTake := by
  refine F.ok scLawTake (fun vs H Q E h => ?_) (fun cdv A outer s H vs Q E hr h => ?_)
  · obtain ⟨a, z, rfl, _⟩ := h
    rfl
  · obtain ⟨a, z, rfl, ⟨c, t, s, ha⟩, z1, z2, k⟩ := h
    refine ⟨_, (pss_cons (ps_if (pt_cmpR op_gt (pe_ix ix_list (pv 0) pe_int (fun _ _ => rfl)) pe_int (nomark _)) (pss_cons (ps_set (i := 2) scLawTake.nd rfl (Or.inl rfl) (pe_op op_mod (pe_callTy call_int1 (by rfl) B.intT (by decide +kernel) (pa_cons (pe_ix ix_list (pv 0) pe_int (fun _ _ => rfl)) pa_nil)) (pv 1)))
  (pss_cons (ps_asg (pe_op op_fdivW (pe_ix ix_list (pv 0) pe_int (fun _ _ => rfl)) (pv 1)) (pg_sub (pv 0) pe_int set_list))
  (pss_one (ps_ret (pv 2)))))
  pss_nil)
  (pss_cons (ps_set (i := 3) scLawTake.nd rfl (Or.inl rfl) pe_int)
  (pss_cons (ps_for PassesOwn.never rfl (pi_range1 rfl B.range (pa_cons (pe_op op_add pe_int (pe_op op_fdiv (pe_callB call_len_str (by rfl) B.len PySem.boot_len (pa_cons (pe_callTy call_str_int (by rfl) B.strT (by decide +kernel) (pa_cons (pv 1) pa_nil)) pa_nil)) pe_int)) pa_nil)) (pg_name (i := 4) scLawTake.nd rfl (Or.inl rfl))
  (pss_cons (ps_asg (pe_op op_add (pe_ix ix_list (pv 0) pe_int (fun _ _ => rfl)) pe_int) (pg_sub (pv 0) pe_int set_list))
  (pss_cons (ps_set (i := 5) scLawTake.nd rfl (Or.inl rfl) (pe_op op_mod (pe_callTy call_int1 (by rfl) B.intT (by decide +kernel) (pa_cons (pe_op op_add (pe_op op_add (pe_op op_mul (pe_ix ix_list (pv 0) pe_int (fun _ _ => rfl)) pe_int) (pe_op op_mul (pe_ix ix_list (pv 0) pe_int (fun _ _ => rfl)) pe_int)) pe_int) pa_nil)) pe_int))
  (pss_cons (ps_set (i := 6) scLawTake.nd rfl (Or.inl rfl) (pe_op op_mod (pe_callTy call_int1 (by rfl) B.intT (by decide +kernel) (pa_cons (pe_op op_add (pe_op op_add (pe_op op_mulW (pv 5) (pv 5)) (pe_op op_mul (pe_ix ix_list (pv 0) pe_int (fun _ _ => rfl)) pe_int)) pe_int) pa_nil)) pe_int))
  (pss_one (ps_set (i := 3) scLawTake.nd rfl (Or.inl rfl) (pe_op op_add (pe_op op_mul (pv 3) pe_int) (pe_op op_fdiv (pe_op op_mod (pe_callTy call_int1 (by rfl) B.intT (by decide +kernel) (pa_cons (pe_op op_add (pe_op op_mulW (pv 6) (pv 6)) (pv 5)) pa_nil)) pe_int) pe_int))))))))
  (pss_one (ps_ret (pe_op op_mod (pe_callTy call_int1 (by rfl) B.intT (by decide +kernel) (pa_cons (pv 3) pa_nil)) (pv 1))))))), ?_⟩
    refine ⟨_, rfl, a, _, _, _, rfl, rfl, SqL.of ha, rfl, _, _, rfl, rfl, _, rfl, ?_⟩
    refine ite2 (fun _ => ?_) (fun _ => ?_)
    · refine ⟨_, rfl, a, _, _, _, rfl, rfl, SqL.of ha, rfl, .inl ⟨_, rfl, _, rfl, _, _, rfl, rfl, (by show (0 : Int) < z; omega), ?_⟩⟩
      refine ⟨_, rfl, a, _, _, _, rfl, rfl, SqL.of ha, rfl, _, rfl, _, _, rfl, rfl, divB (by omega) z2, ?_⟩
      refine ⟨_, rfl, a, _, _, 0, rfl, rfl, ha, rfl, _, rfl, ?_⟩
      exact k _ _ (Int.emod_nonneg _ (by omega)) (Int.emod_lt_of_pos _ (by omega)) ⟨_, _, _, upd_same⟩ But.upd
    · have hl := int_text_fits (strB (i := z) (by omega) z2)
      have hl2 : (PySem.sizeLine : Int) ≤ 100000000 := by rw [PySem.sizeLine_eq]; decide
      refine ⟨_, rfl, _, rfl, strB (by omega) z2, _, rfl, hl, ?_⟩
      walk_at "rd"
      refine ⟨?_, ?_, ?_⟩
      · have : 0 ≤ (((toString z : Str)).length : Int) / 7 := by omega
        omega
      · have : (((toString z : Str)).length : Int) ≤ 100000000 := Int.le_trans (Int.ofNat_le.mpr hl) hl2
        omega
      refine for_range (fun i σ H' => ∃ (x y u v : Option V) (n : Int), σ = [some (.ref a), some (.int z), x, some (.int n), y, u, v] ∧ BagAt H' a ∧ But a H H') ⟨_, _, _, _, 0, rfl, ⟨c, t, s, ha⟩, But.refl _ _⟩ ?_ ?_
      · rintro i σ H' _ ⟨x, y, u, v, n, rfl, ⟨c, t, s, ha⟩, hb⟩
        refine ⟨_, rfl, a, _, _, _, rfl, rfl, SqL.of ha, rfl, _, _, rfl, rfl, _, rfl, a, _, _, 1, rfl, rfl, ha, rfl, ?_⟩
        have ha' : upd H' a (.lst [.int c, .int (t + 1), .int s]) a = some (.lst [.int c, .int (t + 1), .int s]) := upd_same
        refine ⟨_, rfl, a, _, _, _, rfl, rfl, SqL.of ha', rfl, _, _, rfl, rfl, .inr ⟨by decide, by decide⟩, ?_⟩
        refine ⟨_, rfl, a, _, _, _, rfl, rfl, SqL.of ha', rfl, _, _, rfl, rfl, .inr ⟨by decide, by decide⟩, ?_⟩
        refine ⟨_, _, rfl, rfl, _, _, rfl, rfl, .inl ⟨_, rfl, _, _, rfl, rfl, (by show (0 : Int) < 2147483647; decide), ?_⟩⟩
        generalize hone : (s * 48271 + (t + 1) * 69621 + 12345) % 2147483647 = one
        have o1 : 0 ≤ one := by omega
        have o2 : one < 2147483647 := by omega
        refine ⟨_, rfl, _, rfl, _, _, rfl, rfl, mulB (by omega) (by omega) (by omega) (by omega), ?_⟩
        refine ⟨_, rfl, a, _, _, _, rfl, rfl, SqL.of ha', rfl, _, _, rfl, rfl, .inr ⟨by decide, by decide⟩, ?_⟩
        refine ⟨_, _, rfl, rfl, _, _, rfl, rfl, .inl ⟨_, rfl, _, _, rfl, rfl, (by show (0 : Int) < 2147483629; decide), ?_⟩⟩
        generalize htwo : (one * one + (t + 1) * 40692 + 777) % 2147483629 = two
        have w1 : 0 ≤ two := by omega
        have w2 : two < 2147483629 := by omega
        refine ⟨_, rfl, _, _, rfl, rfl, .inr ⟨by decide, by decide⟩, ?_⟩
        refine ⟨_, rfl, _, rfl, _, _, rfl, rfl, mulB (by omega) (by omega) (by omega) (by omega), ?_⟩
        refine ⟨_, rfl, _, _, rfl, rfl, .inl ⟨_, rfl, _, _, rfl, rfl, (by show (0 : Int) < 2147483587; decide), ?_⟩⟩
        refine ⟨_, _, rfl, rfl, ⟨by decide, by decide⟩, _, _, rfl, rfl, ?_⟩
        exact ⟨_, _, _, _, _, rfl, ⟨_, _, _, ha'⟩, hb.trans But.upd⟩
      · rintro σ H' ⟨x, y, u, v, n, rfl, hB, hb⟩
        refine ⟨_, rfl, .inl ⟨_, rfl, _, rfl, _, _, rfl, rfl, (by show (0 : Int) < z; omega), ?_⟩⟩
        exact k _ _ (Int.emod_nonneg _ (by omega)) (Int.emod_lt_of_pos _ (by omega)) hB hb
def spBag (K : PySem.W.Frag) : Sp := fun vs H Q _ => ∃ (a : Addr) (ns : List Int) (i : Nat), vs = [.ref a, .int i] ∧ SqL K H a (ns.map V.int) ∧ ∀ (p : Addr) (H' : Hp), H p = none → BagAt H' p → Same H H' → Q (.ref p) H'
theorem scLawBag : FnScope ["script", "k", "cell", "seed"] ["script", "k"] (defScope sLawBag) := ⟨rfl, rfl, rfl, by decide +kernel, rfl, by decide +kernel, by decide +kernel⟩
theorem ok_bag {f : Addr} {fd : FuncData} (F : Fun K "_law_bag" "_law_bag" sLawBag f fd) (B : Bi mg) : FnOk P w K mg base CX0 1 f fd ["script", "k"] (spBag K) := by
  refine F.ok scLawBag (fun vs H Q E h => ?_) (fun cdv A outer s H vs Q E hr h => ?_)
  · obtain ⟨a, ns, i, rfl, _⟩ := h
    rfl
  · obtain ⟨a, ns, i, rfl, hS, k⟩ := h
    refine ⟨_, (pss_cons (ps_set (i := 2) scLawBag.nd rfl (Or.inl rfl) pe_int)
  (pss_cons (ps_set (i := 3) scLawBag.nd rfl (Or.inl rfl) (pe_op op_add (pe_op op_mul (pe_op op_mod (pe_callTy call_int1 (by rfl) B.intT (by decide +kernel) (pa_cons (pe_callB (cr_sum rfl) (by rfl) B.sum (by decide +kernel) (pa_cons (pv 0) pa_nil)) pa_nil)) pe_int) pe_int) (pe_op op_mul pe_int (pv 1))))
  (pss_cons (ps_if (pt_cmpR op_lt (pv 1) (pe_callB call_len_seq (by rfl) B.len PySem.boot_len (pa_cons (pv 0) pa_nil)) (nomark _)) (pss_cons (ps_set (i := 2) scLawBag.nd rfl (Or.inl rfl) (pe_callB call_abs (by rfl) B.abs (by decide +kernel) (pa_cons (pe_callTy call_int1 (by rfl) B.intT (by decide +kernel) (pa_cons (pe_ix ix_list (pv 0) (pv 1) (fun _ _ => rfl)) pa_nil)) pa_nil)))
  (pss_one (ps_set (i := 3) scLawBag.nd rfl (Or.inl rfl) (pe_op op_add (pe_op op_add (pe_op op_mod (pe_callTy call_int1 (by rfl) B.intT (by decide +kernel) (pa_cons (pv 2) pa_nil)) pe_int) (pe_op op_mul pe_int (pe_callTy call_int1 (by rfl) B.intT (by decide +kernel) (pa_cons (pe_cmpR op_lt (pe_ix ix_list (pv 0) (pv 1) (fun _ _ => rfl)) pe_int (nomark _)) pa_nil)))) (pe_op op_mul pe_int (pv 1))))))
  pss_nil)
  (pss_cons (ps_if (pt_cmpR op_lt (pv 2) (pe_op op_pow pe_int pe_int) (nomark _)) (pss_one (ps_set (i := 2) scLawBag.nd rfl (Or.inl rfl) pe_int))
  pss_nil)
  (pss_one (ps_ret (pe_lst (pa_cons (pv 2) (pa_cons pe_int (pa_cons (pv 3) pa_nil)))))))))), ?_⟩
    refine ⟨_, rfl, _, _, rfl, hS, ?_⟩
    walk_at "rd"
    refine ⟨_, _, rfl, .inl hS, ?_⟩
    walk_at "rd"
    refine itd (fun h => ?_) (fun h => ?_)
    · have hi : i < (ns.map V.int).length := by omega
      obtain ⟨v, hv⟩ : ∃ v : Int, (ns.map V.int)[i]? = some (V.int v) := by
        rw [List.length_map] at hi
        exact ⟨ns[i], by rw [List.getElem?_map, List.getElem?_eq_getElem hi]; rfl⟩
      refine ⟨_, rfl, _, rfl, a, _, _, _, rfl, rfl, hS, atI_nat hv, ?_⟩
      walk_at "rd"
      refine ⟨a, _, _, _, rfl, rfl, hS, atI_nat hv, ?_⟩
      walk_at "rd"
      refine ite2 (fun _ => ?_) (fun _ => ?_)
      all_goals
        walk_at "rd"
        refine ⟨by show 3 ≤ sizeLine; decide, fun p hp => ?_⟩
        exact k p _ hp ⟨_, _, _, upd_same⟩ (Same.upd hp)
    · walk_at "rd"
      refine ⟨by show 3 ≤ sizeLine; decide, fun p hp => ?_⟩
      exact k p _ hp ⟨_, _, _, upd_same⟩ (Same.upd hp)
def spNumber : Sp := fun vs H Q _ => ∃ (a : Addr) (m : Int), vs = [.ref a, .int m] ∧ BagAt H a ∧ 0 ≤ m ∧ m ≤ 10000000000000000000000000000000000000000000000000000000000000 ∧ ∀ (d : Int) (H' : Hp), 0 ≤ d → d ≤ m → BagAt H' a → But a H H' → Q (.int d) H'
theorem scLawNumber : FnScope ["bag", "most", "way"] ["bag", "most"] (defScope sLawNumber) := ⟨rfl, rfl, rfl, by decide +kernel, rfl, by decide +kernel, by decide +kernel⟩
theorem ok_number {f : Addr} {fd : FuncData} (F : Fun K "_law_number" "_law_number" sLawNumber f fd) (B : Bi mg) (D__law_take : Dn P w K mg base "_law_take" 1 ["bag", "size"] spTake) : FnOk P w K mg base CX0 2 f fd ["bag", "most"] spNumber := by
  refine F.ok scLawNumber (fun vs H Q E h => ?_) (fun cdv A outer s H vs Q E hr h => ?_)
  · obtain ⟨a, m, rfl, _⟩ := h
    rfl
  · obtain ⟨a, m, rfl, hB, m0, m1, k⟩ := h
    refine ⟨_, (pss_cons (ps_set (i := 2) scLawNumber.nd rfl (Or.inl rfl) (pe_dn D__law_take (hr.mono (by decide)) (by rfl) pass0 (pa_cons (pv 0) (pa_cons pe_int pa_nil))))
  (pss_cons (ps_if (pt_cmpR op_lt (pv 2) pe_int (nomark _)) (pss_one (ps_ret (pe_callB (call_min2 rfl) (by rfl) B.min (by decide +kernel) (pa_cons (pv 1) (pa_cons (pe_dn D__law_take (hr.mono (by decide)) (by rfl) pass0 (pa_cons (pv 0) (pa_cons pe_int pa_nil))) pa_nil)))))
  pss_nil)
  (pss_cons (ps_if (pt_cmpR op_eq (pv 2) pe_int (nomark _)) (pss_one (ps_ret (pe_callB (call_min2 rfl) (by rfl) B.min (by decide +kernel) (pa_cons (pv 1) (pa_cons (pe_dn D__law_take (hr.mono (by decide)) (by rfl) pass0 (pa_cons (pv 0) (pa_cons pe_int pa_nil))) pa_nil)))))
  pss_nil)
  (pss_cons (ps_if (pt_cmpR op_eq (pv 2) pe_int (nomark _)) (pss_one (ps_ret (pe_op op_sub (pv 1) (pe_dn D__law_take (hr.mono (by decide)) (by rfl) pass0 (pa_cons (pv 0) (pa_cons (pe_callB (call_min2 rfl) (by rfl) B.min (by decide +kernel) (pa_cons (pe_op op_add (pv 1) pe_int) (pa_cons pe_int pa_nil))) pa_nil))))))
  pss_nil)
  (pss_cons (ps_if (pt_cmpR op_eq (pv 2) pe_int (nomark _)) (pss_one (ps_ret (pe_op op_fdivW (pe_dn D__law_take (hr.mono (by decide)) (by rfl) pass0 (pa_cons (pv 0) (pa_cons (pe_op op_add (pv 1) pe_int) pa_nil))) (pe_op op_add pe_int (pe_dn D__law_take (hr.mono (by decide)) (by rfl) pass0 (pa_cons (pv 0) (pa_cons (pe_op op_pow pe_int pe_int) pa_nil)))))))
  pss_nil)
  (pss_one (ps_ret (pe_dn D__law_take (hr.mono (by decide)) (by rfl) pass0 (pa_cons (pv 0) (pa_cons (pe_op op_add (pv 1) pe_int) pa_nil)))))))))), ?_⟩
    walk_at "rd"
    refine ⟨hB, by decide, by decide, fun way H1 _ _ hB1 b1 => ?_⟩
    walk_at "rd"
    refine itd (fun _ => ?_) (fun _ => ?_)
    · walk_at "rd"
      refine ⟨hB1, by decide, by decide, fun d H2 d0 d1 hB2 b2 => ?_⟩
      walk_at "rd"
      refine k _ _ ?_ ?_ hB2 (b1.trans b2)
      · split <;> omega
      · split <;> omega
    walk_at "rd"
    refine iti (fun _ => ?_) (fun _ => ?_)
    · walk_at "rd"
      refine ⟨hB1, by decide, by decide, fun d H2 d0 d1 hB2 b2 => ?_⟩
      walk_at "rd"
      refine k _ _ ?_ ?_ hB2 (b1.trans b2)
      · split <;> omega
      · split <;> omega
    walk_at "rd"
    refine iti (fun _ => ?_) (fun _ => ?_)
    · walk_at "rd"
      refine ⟨hB1, ?_, ?_, fun d H2 d0 d1 hB2 b2 => ?_⟩
      · split <;> omega
      · split <;> omega
      walk_at "rd"
      refine k _ _ ?_ ?_ hB2 (b1.trans b2)
      · split at d1 <;> omega
      · omega
    walk_at "rd"
    refine iti (fun _ => ?_) (fun _ => ?_)
    · walk_at "rd"
      refine ⟨hB1, by omega, by omega, fun d H2 d0 d1 hB2 b2 => ?_⟩
      walk_at "rd"
      refine ⟨hB2, by decide, by decide, fun e H3 e0 e1 hB3 b3 => ?_⟩
      have e2 : e < 1000000000000000 := e1
      walk_at "rd"
      refine ⟨divB (by omega) (by omega), k _ _ (Int.ediv_nonneg d0 (by omega)) ?_ hB3 ((b1.trans b2).trans b3)⟩
      exact Int.le_trans (Int.ediv_le_self _ d0) (by omega)
    walk_at "rd"
    exact ⟨hB1, by omega, by omega, fun d H2 d0 d1 hB2 b2 => k _ _ d0 (by omega) hB2 (b1.trans b2)⟩
end
end Cl

/-! ### the class Round -/
namespace Cl
open StX ClX
/-- the budgets of a Round -/
structure Okb (bs : List Int) : Prop where
  l1 : 1 ≤ bs.length
  l2 : bs.length ≤ 12
  nn : ∀ b, b ∈ bs → 0 ≤ b ∧ b ≤ 10000000000000000000000000000000
def bF (t : Addr) : List (Str × V) := [("_budgets", .ref t)]
def RoundAt (C : Addr) (H : Hp) (r : Addr) (bs : List Int) : Prop := ∃ dx t, H r = some (.ins C dx (bF t)) ∧ H t = some (.tup (bs.map V.int))
theorem RoundAt.same {C r : Addr} {H H' : Hp} {bs : List Int} (h : RoundAt C H r bs) (x : Same H H') : RoundAt C H' r bs := by
  obtain ⟨dx, t, h1, h2⟩ := h
  exact ⟨dx, t, x _ _ h1, x _ _ h2⟩
theorem RoundAt.but {C a r : Addr} {H H' : Hp} {bs : List Int} (h : RoundAt C H r bs) (x : But a H H') (b : BagAt H a) : RoundAt C H' r bs := by
  obtain ⟨dx, t, h1, h2⟩ := h
  obtain ⟨_, _, _, e⟩ := b
  exact ⟨dx, t, x _ _ (ne_of h1 e (by intro q; cases q)) h1, x _ _ (ne_of h2 e (by intro q; cases q)) h2⟩
theorem no_ (m : Str) (h : (m == ("_budgets" : Str)) = false) (t : Addr) : (bF t).lookup m = none := by
  unfold bF
  rw [List.lookup_cons, h]
  rfl
structure CV (K : PySem.W.Frag) (C : Addr) (m : Str) (v : V) : Prop where
  ex : ∃ mc u, CRead K C mc ∧ CVal K C mc m v u
section
variable {P : Program} {w : World} {K : PySem.W.Frag} {mg : Str → Option Value} {base : Heap} {C : Addr}
/-! making one -/
def spInit (C : Addr) : Sp := fun vs H Q _ => ∃ (x dx : Addr) (bs : List Int), vs = .ref x :: bs.map V.int ∧ H x = some (.ins C dx []) ∧ Okb bs ∧
  ∀ (t : Addr) (H' : Hp), H t = none → H' x = some (.ins C dx (bF t)) → H' t = some (.tup (bs.map V.int)) → (∀ b o, b ≠ x → H b = some o → H' b = some o) → Q .non H'
theorem scRoundInit : FnScope ["self", "budgets", "budget"] ["self", "budgets"] (defScope sRoundInit) := ⟨rfl, rfl, rfl, by decide +kernel, rfl, by decide +kernel, by decide +kernel⟩
theorem ok_Round_init {f : Addr} {fd : FuncData} (F : Fun K "__init__" "Round.__init__" sRoundInit f fd) (B : Bi mg) (R_Round : ClsC K mg "Round" C) (N_Round : NoAttr K C "_budgets") (V_Round : CV K C "MOST" (.int 12))
    (D_check_least : Dn P w K mg base "check_least" 2 ["value", "least", "field"] spCheckLeast) : FnR P w K mg base CX0 3 f (spInit C) := by
  obtain ⟨oc, od, kV, doc, pm, an, cdv, ct, osl, rfl, lk, hcd⟩ := F.ex
  refine FnR.imp (fn_star (ps := ["self"]) (pv := "budgets") (sp := fun vs H Q _ => ∃ (x dx t : Addr) (bs : List Int), vs = [.ref x, .ref t] ∧ H x = some (.ins C dx []) ∧ H t = some (.tup (bs.map V.int)) ∧ Okb bs ∧
    ∀ (H' : Hp), H' x = some (.ins C dx (bF t)) → (∀ b o, b ≠ x → H b = some o → H' b = some o) → Q .non H') lk hcd scRoundInit cxUp_none (bind_star1 (B := fun us => bindArgs (PySem.W.fnOf "__init__" "Round.__init__" (defArgs sRoundInit) (defBody sRoundInit) (defScope sRoundInit) .none kV doc pm an cdv ct) ⟨us, []⟩) (p1 := "self") (pv := "budgets") (fun _ => rfl) (fun _ _ _ => rfl)) ?_) ?_
  · rintro A outer s H vs Q E hr ⟨x, dx, t, bs, rfl, hx, ht, ok, k⟩
    refine ⟨_, PSs.nox (pss_cons (ps_if (pt_not (pt_chain op_le op_le pe_int (pe_callB call_len_seq (by rfl) B.len PySem.boot_len (pa_cons (pv 1) pa_nil)) (pe_cval (pe_cls R_Round rfl)))) (pss_one ps_never)
  pss_nil)
  (pss_cons (ps_for PassesOwn.never rfl (pi_tup (pv 1)) (pg_name (i := 2) scRoundInit.nd rfl (Or.inl rfl))
  (pss_one (ps_expr (pe_dn D_check_least (hr.mono (by decide)) (by rfl) pass0 (pa_cons (pv 2) (pa_cons pe_int (pa_cons pe_str pa_nil)))))))
  (pss_one (ps_fld (pv 0) (pv 1) rfl)))), ?_⟩
    obtain ⟨mc, u, hrd, hcv⟩ := V_Round.ex
    have hl : (bs.map V.int).length = bs.length := List.length_map ..
    walk_at "rd"
    refine ⟨t, _, rfl, .inr (SqT.of ht), ?_⟩
    walk_at "rd"
    rw [decide_eq_true (by have := ok.l1; omega)]
    refine iteT ?_
    walk_at "rd"
    refine ⟨C, mc, _, u, rfl, hrd, hcv, ?_⟩
    walk_at "rd"
    rw [decide_eq_true (by have := ok.l2; omega)]
    walk_at "rd"
    refine ⟨⟨_, SqT.of ht⟩, for_tup (K := K) (a := t) (xs := bs.map V.int) (fun i σ H' => ∃ v, σ = [some (.ref x), some (.ref t), v] ∧ H' = H) ⟨_, rfl, rfl⟩ (fun i σ H' _ ⟨_, _, e⟩ => by rw [e]; exact SqT.of ht) ?_ ?_⟩
    · rintro i y σ H' hi ⟨v, rfl, rfl⟩
      obtain ⟨z, hz, rfl⟩ : ∃ z, bs[i]? = some z ∧ y = V.int z := by
        rw [List.getElem?_map] at hi
        cases e : bs[i]? with
        | none => rw [e] at hi; cases hi
        | some z => rw [e] at hi; exact ⟨z, rfl, (Option.some.inj hi).symm⟩
      walk_at "rd"
      exact ⟨(ok.nn z (List.mem_of_getElem? hz)).1, _, rfl, rfl⟩
    · rintro σ H' ⟨v, rfl, rfl⟩
      refine ⟨_, rfl, _, rfl, x, C, dx, _, rfl, hx, R_Round.cl, N_Round, (by show 0 < 1000; decide), ?_⟩
      exact k _ upd_same fun b o n e => by rw [upd_ne n]; exact e
  · rintro vs H Q E ⟨x, dx, bs, rfl, hx, ok, k⟩
    refine ⟨[.ref x], bs.map V.int, rfl, rfl, ?_, fun t ht => ⟨x, dx, t, bs, rfl, ?_, upd_same, ok, fun H' h1 h2 => ?_⟩⟩
    · rw [List.length_map]
      exact Nat.le_trans ok.l2 (by decide)
    · rw [upd_ne (ne_of_none hx ht)]; exact hx
    · have ntx : t ≠ x := (ne_of_none hx ht).symm
      refine k t H' ht h1 (h2 t _ ntx upd_same) fun b o n e => h2 b o n ?_
      rw [upd_ne (ne_of_none e ht)]; exact e
/-- what the reading of Round(..) asks, from what a caller has -/
theorem mkRound {vs : List V} {H : Hp} {Q : VK} {E : XK} (h : ∃ bs : List Int, vs = bs.map V.int ∧ Okb bs ∧ ∀ (x : Addr) (H' : Hp), H x = none → RoundAt C H' x bs → Same H H' → Q (.ref x) H') :
    ∀ x dx, H x = Option.none → H dx = Option.none → dx ≠ x → spInit C (V.ref x :: vs) (upd (upd H dx (.own x)) x (.ins C dx [])) (fun v H2 => v = .non ∧ Q (.ref x) H2) E := by
  obtain ⟨bs, rfl, ok, k⟩ := h
  intro x dx hx hdx nd
  refine ⟨x, dx, bs, rfl, upd_same, ok, fun t H' ht h1 h2 h3 => ⟨rfl, k x H' hx ⟨dx, t, h1, h2⟩ fun b o e => ?_⟩⟩
  refine h3 b o (ne_of_none e hx) ?_
  rw [upd_ne (ne_of_none e hx), upd_ne (ne_of_none e hdx)]
  exact e
theorem mkRoundX {vs : List V} {H : Hp} {Qx : Addr → Hp → Prop} {E : XK} (h : ∃ bs : List Int, vs = bs.map V.int ∧ Okb bs ∧ ∀ (x : Addr) (H' : Hp), H x = none → RoundAt C H' x bs → Same H H' → Qx x H') :
    ∀ x dx, H x = Option.none → H dx = Option.none → dx ≠ x → spInit C (V.ref x :: vs) (upd (upd H dx (.own x)) x (.ins C dx [])) (fun v H2 => v = .non ∧ Qx x H2) E := by
  obtain ⟨bs, rfl, ok, k⟩ := h
  intro x dx hx hdx nd
  refine ⟨x, dx, bs, rfl, upd_same, ok, fun t H' ht h1 h2 h3 => ⟨rfl, k x H' hx ⟨dx, t, h1, h2⟩ fun b o e => ?_⟩⟩
  refine h3 b o (ne_of_none e hx) ?_
  rw [upd_ne (ne_of_none e hx), upd_ne (ne_of_none e hdx)]
  exact e
def spConst (C : Addr) : Sp := fun vs H Q _ => ∃ (b : Int), vs = [.int b] ∧ 0 ≤ b ∧ b ≤ 10000000000000000000000000000000 ∧ ∀ (x : Addr) (H' : Hp), H x = none → RoundAt C H' x [b] → Same H H' → Q (.ref x) H'
theorem ok1 {b : Int} (h0 : 0 ≤ b) (h1 : b ≤ 10000000000000000000000000000000) : Okb [b] := ⟨by simp, by simp, fun x hx => by simp at hx; subst hx; exact ⟨h0, h1⟩⟩
/-! its properties and methods -/
def spBudgets (C : Addr) : Sp := fun vs H Q _ => ∃ (r : Addr) (bs : List Int), vs = [.ref r] ∧ RoundAt C H r bs ∧ ∀ (p : Addr), H p = none → Q (.ref p) (upd H p (.lst (bs.map V.int)))
theorem scRoundBudgets : FnScope ["self"] ["self"] (defScope sRoundBudgets) := ⟨rfl, rfl, rfl, by decide +kernel, rfl, by decide +kernel, by decide +kernel⟩
theorem ok_Round_budgets {f : Addr} {fd : FuncData} (F : Fun K "budgets" "Round.budgets" sRoundBudgets f fd) (B : Bi mg) (R_Round : ClsC K mg "Round" C) (N_Round : NoAttr K C "_budgets") : FnOk P w K mg base CX0 1 f fd ["self"] (spBudgets C) := by
  refine F.ok scRoundBudgets (fun vs H Q E h => ?_) (fun cdv A outer s H vs Q E hr h => ?_)
  · obtain ⟨r, bs, rfl, _⟩ := h
    rfl
  · obtain ⟨r, bs, rfl, ⟨dx, t, h1, h2⟩, k⟩ := h
    refine ⟨_, (pss_one (ps_ret (pe_callTy call_list_of (by rfl) B.listT (by decide +kernel) (pa_cons (pe_fld (pv 0) rfl) pa_nil)))), ?_⟩
    refine ⟨_, rfl, r, C, dx, _, _, rfl, h1, R_Round.cl, N_Round, rfl, t, _, rfl, .inr (SqT.of h2), k⟩
def spLen (C : Addr) : Sp := fun vs H Q _ => ∃ (r : Addr) (bs : List Int), vs = [.ref r] ∧ RoundAt C H r bs ∧ Q (.int bs.length) H
theorem scRoundLen : FnScope ["self"] ["self"] (defScope sRoundLen) := ⟨rfl, rfl, rfl, by decide +kernel, rfl, by decide +kernel, by decide +kernel⟩
theorem ok_Round_len {f : Addr} {fd : FuncData} (F : Fun K "__len__" "Round.__len__" sRoundLen f fd) (B : Bi mg) (R_Round : ClsC K mg "Round" C) (N_Round : NoAttr K C "_budgets") : FnOk P w K mg base CX0 1 f fd ["self"] (spLen C) := by
  refine F.ok scRoundLen (fun vs H Q E h => ?_) (fun cdv A outer s H vs Q E hr h => ?_)
  · obtain ⟨r, bs, rfl, _⟩ := h
    rfl
  · obtain ⟨r, bs, rfl, ⟨dx, t, h1, h2⟩, k⟩ := h
    refine ⟨_, (pss_one (ps_ret (pe_callB call_len_seq (by rfl) B.len PySem.boot_len (pa_cons (pe_fld (pv 0) rfl) pa_nil)))), ?_⟩
    refine ⟨_, rfl, r, C, dx, _, _, rfl, h1, R_Round.cl, N_Round, rfl, t, _, rfl, .inr (SqT.of h2), ?_⟩
    have e : ((bs.map V.int).length : Int) = bs.length := by rw [List.length_map]
    rw [e]
    exact k
theorem eqvAll_ints : ∀ (as bs : List Int), PyData.eqvAll (as.map PyData.int) (bs.map PyData.int) = decide (as = bs)
  | [], [] => by simp [PyData.eqvAll]
  | [], b :: bs => by simp [PyData.eqvAll]
  | a :: as, [] => by simp [PyData.eqvAll]
  | a :: as, b :: bs => by
    simp only [List.map_cons, PyData.eqvAll, PyData.eqv, eqvAll_ints as bs, List.cons.injEq]
    by_cases h : a = b
    · subst h; simp
    · simp [h]
theorem dpAll_ints {K : PySem.W.Frag} {H : Hp} : ∀ (as : List Int), DpAll K H (as.map V.int) (as.map PyData.int)
  | [] => .nil
  | a :: as => .cons (.int a) (dpAll_ints as)
theorem lay_ints : ∀ (as : List Int), PyData.canLayAll0 (as.map PyData.int) = true
  | [] => rfl
  | a :: as => by simp only [List.map_cons, PyData.canLayAll0, PyData.canLay0, lay_ints as]; rfl
theorem dep_ints : ∀ (as : List Int), PyData.depthAll (as.map PyData.int) = 0
  | [] => rfl
  | a :: as => by simp only [List.map_cons, PyData.depthAll, PyData.depth, dep_ints as]; rfl
theorem shaped_tup (as : List Int) : SeqAt.shaped (.tuple (as.map PyData.int)) = true := by
  show (PyData.canLayAll0 (as.map PyData.int) && decide (PyData.depthAll (as.map PyData.int) + 1 ≤ 64)) = true
  rw [lay_ints, dep_ints]; rfl
theorem shaped_lst (as : List Int) : SeqAt.shaped (.list (as.map PyData.int)) = true := by
  show (PyData.canLayAll0 (as.map PyData.int) && decide (PyData.depthAll (as.map PyData.int) + 1 ≤ 64)) = true
  rw [lay_ints, dep_ints]; rfl
def spEqR (C : Addr) : Sp := fun vs H Q _ => ∃ (r q : Addr) (as bs : List Int), vs = [.ref r, .ref q] ∧ RoundAt C H r as ∧ RoundAt C H q bs ∧ Q (.bl (decide (as = bs))) H
theorem scRoundEq : FnScope ["self", "other"] ["self", "other"] (defScope sRoundEq) := ⟨rfl, rfl, rfl, by decide +kernel, rfl, by decide +kernel, by decide +kernel⟩
theorem ok_Round_eq {f : Addr} {fd : FuncData} (F : Fun K "__eq__" "Round.__eq__" sRoundEq f fd) (B : Bi mg) (R_Round : ClsC K mg "Round" C) (N_Round : NoAttr K C "_budgets") : FnOk P w K mg base CX0 1 f fd ["self", "other"] (spEqR C) := by
  refine F.ok scRoundEq (fun vs H Q E h => ?_) (fun cdv A outer s H vs Q E hr h => ?_)
  · obtain ⟨r, q, as, bs, rfl, _⟩ := h
    rfl
  · obtain ⟨r, q, as, bs, rfl, ⟨dx, t, h1, h2⟩, ⟨dy, u, g1, g2⟩, k⟩ := h
    refine ⟨_, (pss_one (ps_ret (pe_and (pe_callB (C8.call_isC R_Round.ic) (by rfl) B.isinstance (by decide +kernel) (pa_cons (pv 1) (pa_cons (pe_cls R_Round rfl) pa_nil))) (pe_one (pe_cmpR (op_eqD hr.units) (pe_fld (pv 0) rfl) (pe_fld (pv 1) rfl) (nomark _)))))), ?_⟩
    refine ⟨_, rfl, q, dy, _, rfl, g1, _, rfl, iteT ?_⟩
    refine ⟨_, rfl, r, C, dx, _, _, rfl, h1, R_Round.cl, N_Round, rfl, _, rfl, q, C, dy, _, _, rfl, g1, R_Round.cl, N_Round, rfl, .tuple (as.map .int), .tuple (bs.map .int), .tup (SqT.of h2) (dpAll_ints as), .tup (SqT.of g2) (dpAll_ints bs), ?_, ?_, ?_⟩
    · exact shaped_tup as
    · exact shaped_tup bs
    · show Q (.bl (PyData.eqvAll (as.map .int) (bs.map .int))) H
      rw [eqvAll_ints]
      exact k
def spAddR (C : Addr) : Sp := fun vs H Q _ => ∃ (r q : Addr) (as bs : List Int), vs = [.ref r, .ref q] ∧ RoundAt C H r as ∧ RoundAt C H q bs ∧ Okb as ∧ Okb bs ∧ as.length + bs.length ≤ 12 ∧ ∀ (x : Addr) (H' : Hp), H x = none → RoundAt C H' x (as ++ bs) → Same H H' → Q (.ref x) H'
theorem Okb.app {as bs : List Int} (a : Okb as) (b : Okb bs) (h : as.length + bs.length ≤ 12) : Okb (as ++ bs) :=
  ⟨by rw [List.length_append]; have := a.l1; omega, by rw [List.length_append]; exact h, fun x hx => (List.mem_append.mp hx).elim (a.nn x) (b.nn x)⟩
theorem scRoundAdd : FnScope ["self", "other", "both"] ["self", "other"] (defScope sRoundAdd) := ⟨rfl, rfl, rfl, by decide +kernel, rfl, by decide +kernel, by decide +kernel⟩
theorem ok_Round_add {f : Addr} {fd : FuncData} (F : Fun K "__add__" "Round.__add__" sRoundAdd f fd) (B : Bi mg) (R_Round : ClsC K mg "Round" C) (N_Round : NoAttr K C "_budgets") (MK_Round : Cn P w K mg base C 3 (spInit C)) : FnOk P w K mg base CX0 5 f fd ["self", "other"] (spAddR C) := by
  refine F.ok scRoundAdd (fun vs H Q E h => ?_) (fun cdv A outer s H vs Q E hr h => ?_)
  · obtain ⟨r, q, as, bs, rfl, _⟩ := h
    rfl
  · obtain ⟨r, q, as, bs, rfl, ⟨dx, t, h1, h2⟩, ⟨dy, u, g1, g2⟩, oa, ob, hl, k⟩ := h
    refine ⟨_, (pss_cons (ps_if (pt_not (pt_val (pe_callB (C8.call_isC R_Round.ic) (by rfl) B.isinstance (by decide +kernel) (pa_cons (pv 1) (pa_cons (pe_cls R_Round rfl) pa_nil))))) (pss_one ps_never)
  pss_nil)
  (pss_cons (ps_set (i := 2) scRoundAdd.nd rfl (Or.inl rfl) (pe_op op_catE (pe_fld (pv 0) rfl) (pe_fld (pv 1) rfl)))
  (pss_one (ps_ret (pe_mkS MK_Round (hr.mono (by decide)) rfl R_Round.mg pass0 (pv 2)))))), ?_⟩
    refine ⟨_, rfl, q, dy, _, rfl, g1, ?_⟩
    walk_at "rd"
    refine ⟨r, C, dx, _, _, rfl, h1, R_Round.cl, N_Round, rfl, ?_⟩
    refine ⟨_, rfl, q, C, dy, _, _, rfl, g1, R_Round.cl, N_Round, rfl, ?_⟩
    refine ⟨_, _, _, _, rfl, rfl, SqT.of h2, SqT.of g2, by rw [List.length_map, List.length_map]; omega, fun p H1 hp e1 => ?_⟩
    walk_at "rd"
    refine ⟨p, _, rfl, .inl hp, ?_⟩
    intro x dx' hx hdx nd
    exact mkRound (E := E0) ⟨as ++ bs, by rw [List.map_append], oa.app ob hl, fun x H2 hx h3 e2 => k x H2 (e1.free hx) h3 (e1.trans e2)⟩ x dx' hx hdx nd
def spAt (C : Addr) : Sp := fun vs H Q _ => ∃ (r : Addr) (bs : List Int) (t v : Int), vs = [.ref r, .int t] ∧ RoundAt C H r bs ∧ Okb bs ∧ 0 ≤ t ∧ bs[(t % bs.length).toNat]? = some v ∧ Q (.int v) H
theorem scRoundAt : FnScope ["self", "t"] ["self", "t"] (defScope sRoundAt) := ⟨rfl, rfl, rfl, by decide +kernel, rfl, by decide +kernel, by decide +kernel⟩
theorem ok_Round_at {f : Addr} {fd : FuncData} (F : Fun K "at" "Round.at" sRoundAt f fd) (B : Bi mg) (R_Round : ClsC K mg "Round" C) (N_Round : NoAttr K C "_budgets") (D_check_least : Dn P w K mg base "check_least" 2 ["value", "least", "field"] spCheckLeast) :
    FnOk P w K mg base CX0 3 f fd ["self", "t"] (spAt C) := by
  refine F.ok scRoundAt (fun vs H Q E h => ?_) (fun cdv A outer s H vs Q E hr h => ?_)
  · obtain ⟨r, bs, t, v, rfl, _⟩ := h
    rfl
  · obtain ⟨r, bs, m, v, rfl, ⟨dx, t, h1, h2⟩, ok, m0, hv, k⟩ := h
    refine ⟨_, (pss_cons (ps_expr (pe_dn D_check_least (hr.mono (by decide)) (by rfl) pass0 (pa_cons (pv 1) (pa_cons pe_int (pa_cons pe_str pa_nil)))))
  (pss_one (ps_ret (pe_ix ix_tup (pe_fld (pv 0) rfl) (pe_op op_mod (pv 1) (pe_callB call_len_seq (by rfl) B.len PySem.boot_len (pa_cons (pe_fld (pv 0) rfl) pa_nil))) (fun _ _ => rfl))))), ?_⟩
    have hl : (bs.map V.int).length = bs.length := List.length_map ..
    have l1 := ok.l1
    walk_at "rd"
    refine ⟨m0, ?_⟩
    refine ⟨_, rfl, r, C, dx, _, _, rfl, h1, R_Round.cl, N_Round, rfl, ?_⟩
    refine ⟨_, rfl, _, rfl, r, C, dx, _, _, rfl, h1, R_Round.cl, N_Round, rfl, t, _, rfl, .inr (SqT.of h2), ?_⟩
    refine ⟨_, _, rfl, rfl, (by show (0 : Int) < ((bs.map V.int).length : Int); omega), ?_⟩
    refine ⟨t, _, _, _, rfl, rfl, SqT.of h2, at_of (j := (m % bs.length).toNat) (v := .int v) ?_ ?_, k⟩
    · rw [hl]
      have := Int.emod_nonneg m (show (bs.length : Int) ≠ 0 by omega)
      omega
    · rw [List.getElem?_map, hv]; rfl
/-- the list from this place on, around -/
def rot (bs : List Int) (f : Nat) : List Int := bs.drop f ++ bs.take f
theorem rot_len {bs : List Int} {f : Nat} (h : f ≤ bs.length) : (rot bs f).length = bs.length := by
  unfold rot
  rw [List.length_append, List.length_drop, List.length_take]; omega
theorem Okb.rot {bs : List Int} {f : Nat} (o : Okb bs) (h : f ≤ bs.length) : Okb (rot bs f) :=
  ⟨by rw [rot_len h]; exact o.l1, by rw [rot_len h]; exact o.l2, fun b hb => o.nn b ((List.mem_append.mp hb).elim List.mem_of_mem_drop List.mem_of_mem_take)⟩
theorem cut_from {xs : List V} {f : Nat} : cutV xs (some (f : Int)) none = xs.drop f := by
  unfold cutV
  rw [HT.sIx_nat, HT.sIx_none]
  by_cases h : f ≤ xs.length
  · rw [Nat.min_eq_left h, List.take_of_length_le (by rw [List.length_drop]; omega)]
  · rw [Nat.min_eq_right (by omega), List.drop_length, List.drop_eq_nil_iff.mpr (by omega)]; simp
theorem cut_to {xs : List V} {f : Nat} : cutV xs none (some (f : Int)) = xs.take f := by
  unfold cutV
  rw [HT.sIx_nat, HT.sIx_none, Nat.sub_zero, List.drop_zero]
  by_cases h : f ≤ xs.length
  · rw [Nat.min_eq_left h]
  · rw [Nat.min_eq_right (by omega), List.take_length, List.take_of_length_le (by omega)]
theorem cut_both {xs : List V} {f g : Nat} (h : g ≤ xs.length) (h2 : f ≤ g) : cutV xs (some (f : Int)) (some (g : Int)) = (xs.drop f).take (g - f) := by
  unfold cutV
  rw [HT.sIx_nat, HT.sIx_nat, Nat.min_eq_left h, Nat.min_eq_left (by omega)]
def spShifted (C : Addr) : Sp := fun vs H Q _ => ∃ (r : Addr) (bs : List Int) (m : Int), vs = [.ref r, .int m] ∧ RoundAt C H r bs ∧ Okb bs ∧ 0 ≤ m ∧ ∀ (x : Addr) (H' : Hp), H x = none → RoundAt C H' x (rot bs (m % bs.length).toNat) → Same H H' → Q (.ref x) H'
/-- what total reckons -/
def tot (bs : List Int) (s c : Int) : Int := c / bs.length * bs.sum + (((bs ++ bs).drop (s % bs.length).toNat).take (c % bs.length).toNat).sum
theorem sum_le : ∀ {bs : List Int} {M : Int}, (∀ b, b ∈ bs → 0 ≤ b ∧ b ≤ M) → 0 ≤ bs.sum ∧ bs.sum ≤ bs.length * M
  | [], M, _ => by simp
  | b :: bs, M, h => by
    have h1 := h b List.mem_cons_self
    have h2 := sum_le (bs := bs) (M := M) fun x hx => h x (List.mem_cons_of_mem _ hx)
    rw [List.sum_cons, List.length_cons]
    have e : ((bs.length + 1 : Nat) : Int) * M = bs.length * M + M := by rw [Int.natCast_add, Int.add_mul]; simp
    rw [e]
    omega
theorem Okb.sum_b {bs : List Int} (o : Okb bs) : 0 ≤ bs.sum ∧ bs.sum ≤ 1000000000000000000000000000000000 := by
  have h := sum_le o.nn
  have l2 := o.l2
  have : (bs.length : Int) * 10000000000000000000000000000000 ≤ 12 * 10000000000000000000000000000000 := Int.mul_le_mul_of_nonneg_right (by omega) (by decide)
  omega
def spTotal (C : Addr) : Sp := fun vs H Q _ => ∃ (r : Addr) (bs : List Int) (s c : Int), vs = [.ref r, .int s, .int c] ∧ RoundAt C H r bs ∧ Okb bs ∧ 0 ≤ s ∧ 0 ≤ c ∧ c ≤ 1000000000000000000000000000000000000000000000000000000000000 ∧ ∀ (H' : Hp), Same H H' → Q (.int (tot bs s c)) H'
theorem scRoundTotal : FnScope ["self", "start", "count", "whole", "rest", "first", "twice"] ["self", "start", "count"] (defScope sRoundTotal) := ⟨rfl, rfl, rfl, by decide +kernel, rfl, by decide +kernel, by decide +kernel⟩
theorem ok_Round_total {f : Addr} {fd : FuncData} (F : Fun K "total" "Round.total" sRoundTotal f fd) (B : Bi mg) (R_Round : ClsC K mg "Round" C) (N_Round : NoAttr K C "_budgets") (D_check_least : Dn P w K mg base "check_least" 2 ["value", "least", "field"] spCheckLeast) :
    FnOk P w K mg base CX0 3 f fd ["self", "start", "count"] (spTotal C) := by
  refine F.ok scRoundTotal (fun vs H Q E h => ?_) (fun cdv A outer s H vs Q E hr h => ?_)
  · obtain ⟨r, bs, s, c, rfl, _⟩ := h
    rfl
  · obtain ⟨r, bs, st, c, rfl, ⟨dx, t, h1, h2⟩, ok, s0, c0, c1, k⟩ := h
    refine ⟨_, (pss_cons (ps_expr (pe_dn D_check_least (hr.mono (by decide)) (by rfl) pass0 (pa_cons (pv 1) (pa_cons pe_int (pa_cons pe_str pa_nil)))))
  (pss_cons (ps_expr (pe_dn D_check_least (hr.mono (by decide)) (by rfl) pass0 (pa_cons (pv 2) (pa_cons pe_int (pa_cons pe_str pa_nil)))))
  (pss_cons (ps_asg (pe_callB call_divmod (by rfl) B.divmod (by decide +kernel) (pa_cons (pv 2) (pa_cons (pe_callB call_len_seq (by rfl) B.len PySem.boot_len (pa_cons (pe_fld (pv 0) rfl) pa_nil)) pa_nil))) (pg_tup (by rfl) (pgs_cons (pg_name (i := 3) scRoundTotal.nd rfl (Or.inl rfl)) (pgs_cons (pg_name (i := 4) scRoundTotal.nd rfl (Or.inl rfl)) pgs_nil))))
  (pss_cons (ps_set (i := 5) scRoundTotal.nd rfl (Or.inl rfl) (pe_op op_mod (pv 1) (pe_callB call_len_seq (by rfl) B.len PySem.boot_len (pa_cons (pe_fld (pv 0) rfl) pa_nil))))
  (pss_cons (ps_set (i := 6) scRoundTotal.nd rfl (Or.inl rfl) (pe_op op_catE (pe_fld (pv 0) rfl) (pe_fld (pv 0) rfl)))
  (pss_one (ps_ret (pe_op op_add (pe_op op_mulW (pv 3) (pe_callB (cr_sumT rfl) (by rfl) B.sum (by decide +kernel) (pa_cons (pe_fld (pv 0) rfl) pa_nil))) (pe_callB (cr_sumT rfl) (by rfl) B.sum (by decide +kernel) (pa_cons (pe_slice sl_tupE (pv 6) (po_some (pv 5)) (po_some (pe_op op_add (pv 5) (pv 4)))) pa_nil)))))))))), ?_⟩
    have hl : (bs.map V.int).length = bs.length := List.length_map ..
    have l1 := ok.l1
    have l2 := ok.l2
    have ln : (0 : Int) < bs.length := by omega
    walk_at "rd"
    refine ⟨s0, ?_⟩
    walk_at "rd"
    refine ⟨c0, ?_⟩
    refine ⟨_, rfl, _, rfl, r, C, dx, _, _, rfl, h1, R_Round.cl, N_Round, rfl, t, _, rfl, .inr (SqT.of h2), ?_⟩
    refine ⟨_, _, rfl, ⟨by omega, by omega⟩, fun p hp => ?_⟩
    refine ⟨p, _, rfl, SqT.of upd_same, rfl, _, _, rfl, _, _, rfl, rfl, ?_⟩
    have e1 : Same H (upd H p (.tup [V.int (c / ((bs.map V.int).length : Int)), V.int (c % ((bs.map V.int).length : Int))])) := Same.upd hp
    generalize upd H p (.tup [V.int (c / ((bs.map V.int).length : Int)), V.int (c % ((bs.map V.int).length : Int))]) = H1 at e1 ⊢
    refine ⟨_, rfl, _, rfl, r, C, dx, _, _, rfl, e1 _ _ h1, R_Round.cl, N_Round, rfl, t, _, rfl, .inr (SqT.of (e1 _ _ h2)), ?_⟩
    refine ⟨_, _, rfl, rfl, (by show (0 : Int) < ((bs.map V.int).length : Int); omega), ?_⟩
    refine ⟨_, rfl, r, C, dx, _, _, rfl, e1 _ _ h1, R_Round.cl, N_Round, rfl, _, rfl, r, C, dx, _, _, rfl, e1 _ _ h1, R_Round.cl, N_Round, rfl, t, t, _, _, rfl, rfl, SqT.of (e1 _ _ h2), SqT.of (e1 _ _ h2), by omega, fun q H2 hq e2 => ?_⟩
    refine ⟨_, rfl, _, rfl, r, C, dx, _, _, rfl, e2 _ _ (e1 _ _ h1), R_Round.cl, N_Round, rfl, t, bs, rfl, SqT.of (e2 _ _ (e1 _ _ h2)), ?_⟩
    have sb := ok.sum_b
    have f0 := Int.emod_nonneg st (show (bs.length : Int) ≠ 0 by omega)
    have f1 := Int.emod_lt_of_pos st ln
    have g0 := Int.emod_nonneg c (show (bs.length : Int) ≠ 0 by omega)
    have g1 := Int.emod_lt_of_pos c ln
    have d0 : 0 ≤ c / bs.length := Int.ediv_nonneg c0 (by omega)
    have d1 : c / bs.length ≤ c := Int.ediv_le_self _ c0
    rw [hl]
    refine ⟨_, _, rfl, rfl, mulB (by omega) (by omega) (by omega) (by omega), ?_⟩
    obtain ⟨a, ha⟩ : ∃ a : Nat, st % bs.length = (a : Int) := ⟨(st % bs.length).toNat, by omega⟩
    obtain ⟨b, hb⟩ : ∃ b : Nat, c % bs.length = (b : Int) := ⟨(c % bs.length).toNat, by omega⟩
    have ha' : a < bs.length := by omega
    have hb' : b < bs.length := by omega
    refine ⟨_, rfl, _, rfl, _, rfl, _, rfl, _, rfl, _, _, rfl, rfl, _, rfl, q, _, rfl, hq, fun o H3 ho e3 => ?_⟩
    rw [ha, hb] at ho
    have ecut : cutV (bs.map V.int ++ bs.map V.int) (some (a : Int)) (some ((a : Int) + (b : Int))) = (((bs ++ bs).drop a).take b).map V.int := by
      rw [← Int.natCast_add, cut_both (by rw [List.length_append, hl]; omega) (by omega), Nat.add_sub_cancel_left, ← List.map_append, List.map_take, List.map_drop]
    rw [ecut] at ho
    refine ⟨o, _, rfl, ho, _, _, rfl, rfl, ?_⟩
    have key := k H3 ((e1.trans e2).trans e3)
    unfold tot at key
    rw [ha, hb, Int.toNat_natCast, Int.toNat_natCast] at key
    exact key
end
end Cl

/-! ### the rows of budgets that the laws draw, and the Round of each -/
namespace Cl
theorem int_of_map {ns : List Int} {i : Nat} {y : V} (h : (ns.map V.int)[i]? = some y) : ∃ z, ns[i]? = some z ∧ y = V.int z := by
  rw [List.getElem?_map] at h
  cases e : ns[i]? with
  | none => rw [e] at h; cases h
  | some z => rw [e] at h; exact ⟨z, rfl, (Option.some.inj h).symm⟩
theorem bag_ne {H : Hp} {a l : Addr} (hB : BagAt H a) (hl : H l = none) : l ≠ a := fun e => by
  subst e
  obtain ⟨_, _, _, e2⟩ := hB
  rw [e2] at hl; cases hl
theorem But.none {a p : Addr} {H H1 : Hp} (x : But a H H1) (ha : BagAt H1 a) (h : H1 p = Option.none) : H p = Option.none := by
  cases q : H p with
  | none => rfl
  | some o =>
    by_cases e : p = a
    · subst e
      obtain ⟨_, _, _, e2⟩ := ha
      rw [e2] at h; cases h
    · rw [x p o e q] at h; cases h
section
variable {P : Program} {w : World} {K : PySem.W.Frag} {mg : Str → Option Value} {base : Heap} {C : Addr}
def spRow : Sp := fun vs H Q _ => ∃ (a : Addr) (n : Int), vs = [.ref a, .int n] ∧ BagAt H a ∧ 1 ≤ n ∧ n ≤ 12 ∧
  ∀ (p : Addr) (bs : List Int) (H' : Hp), H p = none → H' p = some (.lst (bs.map V.int)) → (bs.length : Int) = n → (∀ b, b ∈ bs → 0 ≤ b ∧ b ≤ 1000000000000000000000000000000) → BagAt H' a → But a H H' → Q (.ref p) H'
theorem scLawRow : FnScope ["bag", "size", "mode", "alike", "row", "k"] ["bag", "size"] (defScope sLawRow) := ⟨rfl, rfl, rfl, by decide +kernel, rfl, by decide +kernel, by decide +kernel⟩
theorem ok_row {f : Addr} {fd : FuncData} (F : Fun K "_law_row" "_law_row" sLawRow f fd) (B : Bi mg) (D__law_take : Dn P w K mg base "_law_take" 1 ["bag", "size"] spTake) (D__law_number : Dn P w K mg base "_law_number" 2 ["bag", "most"] spNumber) : FnOk P w K mg base CX0 3 f fd ["bag", "size"] spRow := by
  refine F.ok scLawRow (fun vs H Q E h => ?_) (fun cdv A outer s H vs Q E hr h => ?_)
  · obtain ⟨a, n, rfl, _⟩ := h
    rfl
  · obtain ⟨a, n, rfl, hB, n1, n2, k⟩ := h
    refine ⟨_, (pss_cons (ps_set (i := 2) scLawRow.nd rfl (Or.inl rfl) (pe_dn D__law_take (hr.mono (by decide)) (by rfl) pass0 (pa_cons (pv 0) (pa_cons pe_int pa_nil))))
  (pss_cons (ps_set (i := 3) scLawRow.nd rfl (Or.inl rfl) (pe_dn D__law_take (hr.mono (by decide)) (by rfl) pass0 (pa_cons (pv 0) (pa_cons pe_int pa_nil))))
  (pss_cons (ps_set (i := 4) scLawRow.nd rfl (Or.inl rfl) (pe_lst pa_nil))
  (pss_cons (ps_for PassesOwn.never rfl (pi_range1 rfl B.range (pa_cons (pv 1) pa_nil)) (pg_name (i := 5) scLawRow.nd rfl (Or.inl rfl))
  (pss_one (ps_if (pt_cmpR op_eq (pv 2) pe_int (nomark _)) (pss_one (ps_expr (pe_bm PySem.F.plainAttrs_list PySem.F.slot_list_append PySem.F.type_list_append mt_append (pv 4) (pa_cons (pe_dn D__law_take (hr.mono (by decide)) (by rfl) pass0 (pa_cons (pv 0) (pa_cons pe_int pa_nil))) pa_nil))))
  (pss_one (ps_if (pt_cmpR op_eq (pv 2) pe_int (nomark _)) (pss_one (ps_expr (pe_bm PySem.F.plainAttrs_list PySem.F.slot_list_append PySem.F.type_list_append mt_append (pv 4) (pa_cons (pv 3) pa_nil))))
  (pss_one (ps_if (pt_cmpR op_eq (pv 2) pe_int (nomark _)) (pss_one (ps_expr (pe_bm PySem.F.plainAttrs_list PySem.F.slot_list_append PySem.F.type_list_append mt_append (pv 4) (pa_cons (pe_op op_mulW (pe_dn D__law_take (hr.mono (by decide)) (by rfl) pass0 (pa_cons (pv 0) (pa_cons pe_int pa_nil))) (pe_dn D__law_take (hr.mono (by decide)) (by rfl) pass0 (pa_cons (pv 0) (pa_cons pe_int pa_nil)))) pa_nil))))
  (pss_one (ps_if (pt_cmpR op_eq (pv 2) pe_int (nomark _)) (pss_one (ps_expr (pe_bm PySem.F.plainAttrs_list PySem.F.slot_list_append PySem.F.type_list_append mt_append (pv 4) (pa_cons (pe_dn D__law_number (hr.mono (by decide)) (by rfl) pass0 (pa_cons (pv 0) (pa_cons (pe_op op_pow pe_int pe_int) pa_nil))) pa_nil))))
  (pss_one (ps_expr (pe_bm PySem.F.plainAttrs_list PySem.F.slot_list_append PySem.F.type_list_append mt_append (pv 4) (pa_cons (pe_dn D__law_take (hr.mono (by decide)) (by rfl) pass0 (pa_cons (pv 0) (pa_cons pe_int pa_nil))) pa_nil)))))))))))))
  (pss_one (ps_ret (pv 4))))))), ?_⟩
    walk_at "rd"
    refine ⟨hB, by decide, by decide, fun mode H1 _ _ hB1 b1 => ?_⟩
    walk_at "rd"
    refine ⟨hB1, by decide, by decide, fun al H2 al0 al1 hB2 b2 => ?_⟩
    walk_at "rd"
    refine ⟨Nat.zero_le _, fun l hl => ?_⟩
    have la := bag_ne hB2 hl
    have hlH : H l = Option.none := (b1.trans b2).none hB2 hl
    walk_at "rd"
    refine ⟨by omega, by omega, ?_⟩
    refine for_range (fun i σ H' => ∃ (v : Option V) (bs : List Int), σ = [some (.ref a), some (.int n), some (.int mode), some (.int al), some (.ref l), v] ∧ H' l = some (.lst (bs.map V.int)) ∧ bs.length = i ∧ (∀ b, b ∈ bs → 0 ≤ b ∧ b ≤ 1000000000000000000000000000000) ∧ BagAt H' a ∧ But a H H')
      ⟨_, [], rfl, upd_same, rfl, by simp, hB2.same (Same.upd hl), (b1.trans b2).trans (But.of (Same.upd hl))⟩ ?_ ?_
    · rintro i σ H3 hi ⟨v, bs, rfl, hL, hlen, hb, hB3, b3⟩
      -- what a turn makes of a new number d
      have fin : ∀ (d : Int) (H4 : Hp) (v' : Option V), 0 ≤ d → d ≤ 1000000000000000000000000000000 → BagAt H4 a → But a H3 H4 → ∃ (w' : Option V) (cs : List Int), [some (V.ref a), some (.int n), some (.int mode), some (.int al), some (.ref l), v'] = [some (V.ref a), some (.int n), some (.int mode), some (.int al), some (.ref l), w'] ∧
          upd H4 l (.lst (bs.map V.int ++ [V.int d])) l = some (.lst (cs.map V.int)) ∧ cs.length = i + 1 ∧ (∀ b, b ∈ cs → 0 ≤ b ∧ b ≤ 1000000000000000000000000000000) ∧ BagAt (upd H4 l (.lst (bs.map V.int ++ [V.int d]))) a ∧ But a H (upd H4 l (.lst (bs.map V.int ++ [V.int d]))) := fun d H4 v' d0 d1 hB4 b4 => by
        refine ⟨v', bs ++ [d], rfl, by rw [upd_same, List.map_append]; rfl, by rw [List.length_append, hlen]; rfl, fun b hb' => ?_, ?_, fun b o nb e => ?_⟩
        · rcases List.mem_append.mp hb' with h | h
          · exact hb b h
          · simp at h; subst h; exact ⟨d0, d1⟩
        · obtain ⟨x, y, z, e⟩ := hB4
          exact ⟨x, y, z, by rw [upd_ne la.symm]; exact e⟩
        · have nbl : b ≠ l := fun q => by rw [q, hlH] at e; cases e
          rw [upd_ne nbl]
          exact b4 b o nb (b3 b o nb e)
      have hsz : (bs.map V.int).length < sizeLine := by
        rw [List.length_map, hlen]
        have : (10000 : Nat) ≤ sizeLine := by decide
        omega
      walk_at "rd"
      refine iti (fun _ => ?_) (fun _ => ?_)
      · refine ⟨_, rfl, .inl ⟨rfl, _, SqL.of hL⟩, ?_⟩
        walk_at "rd"
        refine ⟨hB3, by decide, by decide, fun d H4 d0 d1 hB4 b4 => ?_⟩
        refine ⟨l, _, _, rfl, rfl, b4 l _ la hL, hsz, ?_⟩
        exact fin d H4 _ d0 (by omega) hB4 b4
      walk_at "rd"
      refine iti (fun _ => ?_) (fun _ => ?_)
      · refine ⟨_, rfl, .inl ⟨rfl, _, SqL.of hL⟩, ?_⟩
        refine ⟨_, rfl, l, _, _, rfl, rfl, hL, hsz, ?_⟩
        exact fin al H3 _ al0 (by omega) hB3 (But.refl _ _)
      walk_at "rd"
      refine iti (fun _ => ?_) (fun _ => ?_)
      · refine ⟨_, rfl, .inl ⟨rfl, _, SqL.of hL⟩, ?_⟩
        walk_at "rd"
        refine ⟨hB3, by decide, by decide, fun d H4 d0 d1 hB4 b4 => ?_⟩
        walk_at "rd"
        refine ⟨hB4, by decide, by decide, fun e H5 e0 e1 hB5 b5 => ?_⟩
        walk_at "rd"
        refine ⟨mulB (by omega) (by omega) (by omega) (by omega), ?_⟩
        have p0 : 0 ≤ d * e := Int.mul_nonneg d0 e0
        have p1 : d * e ≤ 1 * e := Int.mul_le_mul_of_nonneg_right (by omega) e0
        refine ⟨l, _, _, rfl, rfl, b5 l _ la (b4 l _ la hL), hsz, ?_⟩
        exact fin (d * e) H5 _ p0 (by omega) hB5 (b4.trans b5)
      walk_at "rd"
      refine iti (fun _ => ?_) (fun _ => ?_)
      · refine ⟨_, rfl, .inl ⟨rfl, _, SqL.of hL⟩, ?_⟩
        walk_at "rd"
        refine ⟨hB3, by decide, by decide, fun d H4 d0 d1 hB4 b4 => ?_⟩
        have d2 : d ≤ 1000000000000000000000000000000 := d1
        refine ⟨l, _, _, rfl, rfl, b4 l _ la hL, hsz, ?_⟩
        exact fin d H4 _ d0 d2 hB4 b4
      · refine ⟨_, rfl, .inl ⟨rfl, _, SqL.of hL⟩, ?_⟩
        walk_at "rd"
        refine ⟨hB3, by decide, by decide, fun d H4 d0 d1 hB4 b4 => ?_⟩
        refine ⟨l, _, _, rfl, rfl, b4 l _ la hL, hsz, ?_⟩
        exact fin d H4 _ d0 (by omega) hB4 b4
    · rintro σ H3 ⟨v, bs, rfl, hL, hlen, hb, hB3, b3⟩
      refine ⟨_, rfl, k l bs H3 hlH hL (by omega) hb hB3 b3⟩
/-! the plain sums -/
theorem wrap_at {bs : List Int} {s : Int} {i : Nat} (hn : 0 < bs.length) (hi : i < bs.length) :
    ((bs ++ bs).drop (s % bs.length).toNat)[i]? = bs[((s + i) % bs.length).toNat]? := by
  have f0 := Int.emod_nonneg s (show (bs.length : Int) ≠ 0 by omega)
  have f1 := Int.emod_lt_of_pos s (show (0 : Int) < bs.length by omega)
  rw [List.getElem?_drop, Int.add_emod, Int.emod_eq_of_lt (a := (i : Int)) (by omega) (by omega)]
  obtain ⟨f, hf⟩ : ∃ f : Nat, s % bs.length = (f : Int) := ⟨(s % bs.length).toNat, by omega⟩
  rw [hf, Int.toNat_natCast]
  by_cases h : f + i < bs.length
  · rw [List.getElem?_append_left h]
    have e : ((f : Int) + (i : Int)) % (bs.length : Int) = ((f + i : Nat) : Int) := by rw [Int.emod_eq_of_lt (by omega) (by omega)]; omega
    rw [e, Int.toNat_natCast]
  · rw [List.getElem?_append_right (by omega)]
    have e : ((f : Int) + (i : Int)) % (bs.length : Int) = ((f + i - bs.length : Nat) : Int) := by
      have : ((f : Int) + (i : Int)) = ((f + i - bs.length : Nat) : Int) + bs.length := by omega
      rw [this, Int.add_emod_right, Int.emod_eq_of_lt (by omega) (by omega)]
    rw [e, Int.toNat_natCast]
def spSum : Sp := fun vs H Q _ => ∃ (p : Addr) (bs : List Int) (s c : Int), vs = [.ref p, .int s, .int c] ∧ H p = some (.lst (bs.map V.int)) ∧ Okb bs ∧ 0 ≤ s ∧ 0 ≤ c ∧ c ≤ 1000000000000000000000000000000000000000000000000000000000000 ∧ Q (.int (tot bs s c)) H
theorem scLawSum : FnScope ["row", "start", "count", "size", "found", "k"] ["row", "start", "count"] (defScope sLawSum) := ⟨rfl, rfl, rfl, by decide +kernel, rfl, by decide +kernel, by decide +kernel⟩
theorem ok_sum {f : Addr} {fd : FuncData} (F : Fun K "_law_sum" "_law_sum" sLawSum f fd) (B : Bi mg) : FnOk P w K mg base CX0 1 f fd ["row", "start", "count"] spSum := by
  refine F.ok scLawSum (fun vs H Q E h => ?_) (fun cdv A outer s H vs Q E hr h => ?_)
  · obtain ⟨a, n, _, _, rfl, _⟩ := h
    rfl
  · obtain ⟨p, bs, st, c, rfl, hp, ok, s0, c0, c1, k⟩ := h
    have hl : (bs.map V.int).length = bs.length := List.length_map ..
    have l1 := ok.l1
    have l2 := ok.l2
    have sb := ok.sum_b
    have ln : (0 : Int) < bs.length := by omega
    refine ⟨_, (pss_cons (ps_set (i := 3) scLawSum.nd rfl (Or.inl rfl) (pe_callB call_len_seq (by rfl) B.len PySem.boot_len (pa_cons (pv 0) pa_nil)))
  (pss_cons (ps_set (i := 4) scLawSum.nd rfl (Or.inl rfl) (pe_op op_mulW (pe_op op_fdivW (pv 2) (pv 3)) (pe_callB (cr_sum rfl) (by rfl) B.sum (by decide +kernel) (pa_cons (pv 0) pa_nil))))
  (pss_cons (ps_for PassesOwn.never rfl (pi_range1 rfl B.range (pa_cons (pe_op op_mod (pe_callTy call_int1 (by rfl) B.intT (by decide +kernel) (pa_cons (pv 2) pa_nil)) (pv 3)) pa_nil)) (pg_name (i := 5) scLawSum.nd rfl (Or.inl rfl))
  (pss_one (ps_set (i := 4) scLawSum.nd rfl (Or.inl rfl) (pe_op op_add (pv 4) (pe_ix ix_list (pv 0) (pe_op op_mod (pe_callTy call_int1 (by rfl) B.intT (by decide +kernel) (pa_cons (pe_op op_add (pv 1) (pv 5)) pa_nil)) (pv 3)) (fun _ _ => rfl))))))
  (pss_one (ps_ret (pv 4)))))), ?_⟩
    refine ⟨_, rfl, p, _, rfl, .inl (SqL.of hp), ?_⟩
    rw [hl]
    refine ⟨_, rfl, _, rfl, _, _, rfl, rfl, divB ln (by omega), _, rfl, p, bs, rfl, SqL.of hp, ?_⟩
    have d0 : 0 ≤ c / bs.length := Int.ediv_nonneg c0 (by omega)
    have d1 : c / bs.length ≤ c := Int.ediv_le_self _ c0
    refine ⟨_, _, rfl, rfl, mulB (by omega) (by omega) (by omega) (by omega), ?_⟩
    have g0 := Int.emod_nonneg c (show (bs.length : Int) ≠ 0 by omega)
    have g1 := Int.emod_lt_of_pos c ln
    refine ⟨_, rfl, .inl ⟨_, rfl, _, rfl, _, _, rfl, rfl, ln, _, rfl, by omega, by omega, ?_⟩⟩
    refine for_range (fun i σ H' => ∃ (v : Option V), σ = [some (.ref p), some (.int st), some (.int c), some (.int bs.length), some (.int (c / bs.length * bs.sum + (((bs ++ bs).drop (st % bs.length).toNat).take i).sum)), v] ∧ H' = H) ⟨_, by rw [List.take_zero, List.sum_nil, Int.add_zero]; rfl, rfl⟩ ?_ ?_
    · rintro i σ H' hi ⟨v, rfl, rfl⟩
      have hi2 : i < bs.length := by omega
      have m0 := Int.emod_nonneg (st + i) (show (bs.length : Int) ≠ 0 by omega)
      have m1 := Int.emod_lt_of_pos (st + i) ln
      obtain ⟨z, hz⟩ : ∃ z, bs[((st + i) % bs.length).toNat]? = some z := ⟨_, List.getElem?_eq_getElem (by omega)⟩
      refine ⟨_, rfl, _, rfl, _, rfl, _, rfl, _, _, rfl, rfl, .inl ⟨_, rfl, _, rfl, _, _, rfl, rfl, ln, ?_⟩⟩
      refine ⟨p, _, _, _, rfl, rfl, SqL.of hp, at_of (j := ((st + i) % bs.length).toNat) (v := .int z) (by rw [Int.zero_add]; omega) (by rw [List.getElem?_map, hz]; rfl), _, _, rfl, rfl, ?_⟩
      have e := sum_take (l := (bs ++ bs).drop (st % bs.length).toNat) (i := i) (z := z) (by rw [wrap_at (by omega) hi2]; exact hz)
      exact ⟨_, by rw [e, ← Int.add_assoc]; rfl, rfl⟩
    · rintro σ H' ⟨v, rfl, rfl⟩
      exact ⟨_, rfl, k⟩
theorem rot_at {bs : List Int} {s : Int} {i : Nat} (hn : 0 < bs.length) (hi : i < bs.length) : (rot bs (s % bs.length).toNat)[i]? = bs[((s + i) % bs.length).toNat]? := by
  have f0 := Int.emod_nonneg s (show (bs.length : Int) ≠ 0 by omega)
  have f1 := Int.emod_lt_of_pos s (show (0 : Int) < bs.length by omega)
  rw [← wrap_at hn hi]
  unfold rot
  rw [List.getElem?_drop]
  obtain ⟨f, hf⟩ : ∃ f : Nat, s % bs.length = (f : Int) := ⟨(s % bs.length).toNat, by omega⟩
  rw [hf, Int.toNat_natCast]
  by_cases h : f + i < bs.length
  · rw [List.getElem?_append_left (by rw [List.length_drop]; omega), List.getElem?_drop, List.getElem?_append_left h]
  · rw [List.getElem?_append_right (by rw [List.length_drop]; omega), List.getElem?_append_right (by omega), List.getElem?_take, List.length_drop, if_pos (by omega)]
    congr 1; omega
theorem moved_eq {bs : List Int} {s : Int} (hn : 0 < bs.length) : (List.range bs.length).map (fun i => V.int (bs[((s + (i : Nat)) % bs.length).toNat]?.getD 0)) = (rot bs (s % bs.length).toNat).map V.int := by
  have f1 := Int.emod_lt_of_pos s (show (0 : Int) < bs.length by omega)
  have f0 := Int.emod_nonneg s (show (bs.length : Int) ≠ 0 by omega)
  have hl := rot_len (bs := bs) (f := (s % bs.length).toNat) (by omega)
  refine List.ext_getElem? fun i => ?_
  by_cases hi : i < bs.length
  · rw [List.getElem?_map, List.getElem?_map, List.getElem?_range hi, rot_at hn hi]
    have m0 := Int.emod_nonneg (s + i) (show (bs.length : Int) ≠ 0 by omega)
    have m1 := Int.emod_lt_of_pos (s + i) (show (0 : Int) < bs.length by omega)
    have e := List.getElem?_eq_getElem (l := bs) (show ((s + i) % bs.length).toNat < bs.length by omega)
    rw [e]
    show some (V.int (bs[((s + i) % bs.length).toNat]?.getD 0)) = some (V.int _)
    rw [e]; rfl
  · rw [List.getElem?_eq_none (by rw [List.length_map, List.length_range]; omega), List.getElem?_eq_none (by rw [List.length_map, hl]; omega)]
def spMoved : Sp := fun vs H Q _ => ∃ (p : Addr) (bs : List Int) (m : Int), vs = [.ref p, .int m] ∧ H p = some (.lst (bs.map V.int)) ∧ Okb bs ∧ 0 ≤ m ∧ ∀ (q : Addr) (H' : Hp), H q = none → H' q = some (.lst ((rot bs (m % bs.length).toNat).map V.int)) → Same H H' → Q (.ref q) H'
def spCount : Sp := fun vs H Q _ => ∃ (a : Addr) (n : Int), vs = [.ref a, .int n] ∧ BagAt H a ∧ 1 ≤ n ∧ n ≤ 12 ∧ ∀ (d : Int) (H' : Hp), 0 ≤ d → d ≤ 1000000000000000000000000000000 → BagAt H' a → But a H H' → Q (.int d) H'
theorem dmul_b {c n : Int} (hc : 0 ≤ c) (hn : 1 ≤ n) : 0 ≤ c / n ∧ c / n ≤ c ∧ 0 ≤ c / n * n ∧ c / n * n ≤ c :=
  ⟨Int.ediv_nonneg hc (by omega), Int.ediv_le_self _ hc, Int.mul_nonneg (Int.ediv_nonneg hc (by omega)) (by omega), Int.ediv_mul_le _ (by omega)⟩
end
end Cl

/-! ### the Round of a row, four budgets at a time -/
namespace Cl
theorem len1 {α : Type} {l : List α} (h : l.length = 1) : ∃ a0, l = [a0] :=
  match l, h with
  | [a0], _ => ⟨a0, rfl⟩
theorem len2 {α : Type} {l : List α} (h : l.length = 2) : ∃ a0 a1, l = [a0, a1] :=
  match l, h with
  | [a0, a1], _ => ⟨a0, a1, rfl⟩
theorem len3 {α : Type} {l : List α} (h : l.length = 3) : ∃ a0 a1 a2, l = [a0, a1, a2] :=
  match l, h with
  | [a0, a1, a2], _ => ⟨a0, a1, a2, rfl⟩
theorem len4 {α : Type} {l : List α} (h : l.length = 4) : ∃ a0 a1 a2 a3, l = [a0, a1, a2, a3] :=
  match l, h with
  | [a0, a1, a2, a3], _ => ⟨a0, a1, a2, a3, rfl⟩
theorem len5 {α : Type} {l : List α} (h : 5 ≤ l.length) : ∃ a0 a1 a2 a3 b r, l = a0 :: a1 :: a2 :: a3 :: b :: r :=
  match l, h with
  | a0 :: a1 :: a2 :: a3 :: b :: r, _ => ⟨a0, a1, a2, a3, b, r, rfl⟩
section
variable {P : Program} {w : World} {K : PySem.W.Frag} {mg : Str → Option Value} {base : Heap} {C : Addr}
def spRoundN (C : Addr) (m : Nat) : Sp := fun vs H Q _ => ∃ (p : Addr) (bs : List Int), vs = [.ref p] ∧ H p = some (.lst (bs.map V.int)) ∧ Okb bs ∧ bs.length ≤ m ∧ ∀ (x : Addr) (H' : Hp), H x = none → RoundAt C H' x bs → Same H H' → Q (.ref x) H'
theorem scLawRound : FnScope ["row"] ["row"] (defScope sLawRound) := ⟨rfl, rfl, rfl, by decide +kernel, rfl, by decide +kernel, by decide +kernel⟩
theorem round_base {f : Addr} {fd : FuncData} (F : Fun K "_law_round" "_law_round" sLawRound f fd) (B : Bi mg) (R_Round : ClsC K mg "Round" C) (MK_Round : Cn P w K mg base C 3 (spInit C)) : FnOk P w K mg base CX0 5 f fd ["row"] (spRoundN C 4) := by
  refine F.ok scLawRound (fun vs H Q E h => ?_) (fun cdv A outer s H vs Q E hr h => ?_)
  · obtain ⟨a, n, rfl, _⟩ := h
    rfl
  · obtain ⟨p, bs, rfl, hp, ok, hm, k⟩ := h
    refine ⟨_, (pss_cons (ps_if (pt_cmpR op_eq (pe_callB call_len_seq (by rfl) B.len PySem.boot_len (pa_cons (pv 0) pa_nil)) pe_int (nomark _)) (pss_one (ps_ret (pe_mkR MK_Round (hr.mono (by decide)) rfl R_Round.mg pass0 (pa_cons (pe_ix ix_list (pv 0) pe_int (fun _ _ => rfl)) pa_nil))))
  pss_nil)
  (pss_cons (ps_if (pt_cmpR op_eq (pe_callB call_len_seq (by rfl) B.len PySem.boot_len (pa_cons (pv 0) pa_nil)) pe_int (nomark _)) (pss_one (ps_ret (pe_mkR MK_Round (hr.mono (by decide)) rfl R_Round.mg pass0 (pa_cons (pe_ix ix_list (pv 0) pe_int (fun _ _ => rfl)) (pa_cons (pe_ix ix_list (pv 0) pe_int (fun _ _ => rfl)) pa_nil)))))
  pss_nil)
  (pss_cons (ps_if (pt_cmpR op_eq (pe_callB call_len_seq (by rfl) B.len PySem.boot_len (pa_cons (pv 0) pa_nil)) pe_int (nomark _)) (pss_one (ps_ret (pe_mkR MK_Round (hr.mono (by decide)) rfl R_Round.mg pass0 (pa_cons (pe_ix ix_list (pv 0) pe_int (fun _ _ => rfl)) (pa_cons (pe_ix ix_list (pv 0) pe_int (fun _ _ => rfl)) (pa_cons (pe_ix ix_list (pv 0) pe_int (fun _ _ => rfl)) pa_nil))))))
  pss_nil)
  (pss_cons (ps_if (pt_cmpR op_eq (pe_callB call_len_seq (by rfl) B.len PySem.boot_len (pa_cons (pv 0) pa_nil)) pe_int (nomark _)) (pss_one (ps_ret (pe_mkR MK_Round (hr.mono (by decide)) rfl R_Round.mg pass0 (pa_cons (pe_ix ix_list (pv 0) pe_int (fun _ _ => rfl)) (pa_cons (pe_ix ix_list (pv 0) pe_int (fun _ _ => rfl)) (pa_cons (pe_ix ix_list (pv 0) pe_int (fun _ _ => rfl)) (pa_cons (pe_ix ix_list (pv 0) pe_int (fun _ _ => rfl)) pa_nil)))))))
  pss_nil)
  (pss_one ps_never))))), ?_⟩
    refine ⟨_, rfl, p, _, rfl, .inl (SqL.of hp), ?_⟩
    walk_at "rd"
    refine iti (fun e => ?_) (fun e1 => ?_)
    · obtain ⟨a0, rfl⟩ := len1 (l := bs) (by rw [List.length_map] at e; omega)
      refine ⟨_, rfl, p, _, _, _, rfl, rfl, SqL.of hp, rfl, ?_⟩
      exact mkRound ⟨_, rfl, ok, k⟩
    refine ⟨_, rfl, p, _, rfl, .inl (SqL.of hp), ?_⟩
    walk_at "rd"
    refine iti (fun e => ?_) (fun e2 => ?_)
    · obtain ⟨a0, a1, rfl⟩ := len2 (l := bs) (by rw [List.length_map] at e; omega)
      refine ⟨_, rfl, p, _, _, _, rfl, rfl, SqL.of hp, rfl, ?_⟩
      refine ⟨_, rfl, p, _, _, _, rfl, rfl, SqL.of hp, rfl, ?_⟩
      exact mkRound ⟨_, rfl, ok, k⟩
    refine ⟨_, rfl, p, _, rfl, .inl (SqL.of hp), ?_⟩
    walk_at "rd"
    refine iti (fun e => ?_) (fun e3 => ?_)
    · obtain ⟨a0, a1, a2, rfl⟩ := len3 (l := bs) (by rw [List.length_map] at e; omega)
      refine ⟨_, rfl, p, _, _, _, rfl, rfl, SqL.of hp, rfl, ?_⟩
      refine ⟨_, rfl, p, _, _, _, rfl, rfl, SqL.of hp, rfl, ?_⟩
      refine ⟨_, rfl, p, _, _, _, rfl, rfl, SqL.of hp, rfl, ?_⟩
      exact mkRound ⟨_, rfl, ok, k⟩
    refine ⟨_, rfl, p, _, rfl, .inl (SqL.of hp), ?_⟩
    walk_at "rd"
    refine iti (fun e => ?_) (fun e4 => ?_)
    · obtain ⟨a0, a1, a2, a3, rfl⟩ := len4 (l := bs) (by rw [List.length_map] at e; omega)
      refine ⟨_, rfl, p, _, _, _, rfl, rfl, SqL.of hp, rfl, ?_⟩
      refine ⟨_, rfl, p, _, _, _, rfl, rfl, SqL.of hp, rfl, ?_⟩
      refine ⟨_, rfl, p, _, _, _, rfl, rfl, SqL.of hp, rfl, ?_⟩
      refine ⟨_, rfl, p, _, _, _, rfl, rfl, SqL.of hp, rfl, ?_⟩
      exact mkRound ⟨_, rfl, ok, k⟩
    have := ok.l1
    rw [List.length_map] at e1 e2 e3 e4
    exact absurd rfl (fun _ : (0 : Nat) = 0 => by omega)
theorem round_step {f : Addr} {fd : FuncData} {j m : Nat} (F : Fun K "_law_round" "_law_round" sLawRound f fd) (B : Bi mg) (R_Round : ClsC K mg "Round" C) (MK_Round : Cn P w K mg base C 3 (spInit C)) (O_Round___add__ : On P w K mg base C "__add__" 5 ["self", "other"] (spAddR C))
    (h5 : 5 ≤ j) (D__law_round : Dn P w K mg base "_law_round" j ["row"] (spRoundN C m)) : FnOk P w K mg base CX0 (j + 1) f fd ["row"] (spRoundN C (m + 4)) := by
  refine F.ok scLawRound (fun vs H Q E h => ?_) (fun cdv A outer s H vs Q E hr0 h => ?_)
  · obtain ⟨a, n, rfl, _⟩ := h
    rfl
  · obtain ⟨p, bs, rfl, hp, ok, hm, k⟩ := h
    have hrj := hr0
    have hr := hr0.mono h5
    refine ⟨_, (pss_cons (ps_if (pt_cmpR op_eq (pe_callB call_len_seq (by rfl) B.len PySem.boot_len (pa_cons (pv 0) pa_nil)) pe_int (nomark _)) (pss_one (ps_ret (pe_mkR MK_Round (hr.mono (by decide)) rfl R_Round.mg pass0 (pa_cons (pe_ix ix_list (pv 0) pe_int (fun _ _ => rfl)) pa_nil))))
  pss_nil)
  (pss_cons (ps_if (pt_cmpR op_eq (pe_callB call_len_seq (by rfl) B.len PySem.boot_len (pa_cons (pv 0) pa_nil)) pe_int (nomark _)) (pss_one (ps_ret (pe_mkR MK_Round (hr.mono (by decide)) rfl R_Round.mg pass0 (pa_cons (pe_ix ix_list (pv 0) pe_int (fun _ _ => rfl)) (pa_cons (pe_ix ix_list (pv 0) pe_int (fun _ _ => rfl)) pa_nil)))))
  pss_nil)
  (pss_cons (ps_if (pt_cmpR op_eq (pe_callB call_len_seq (by rfl) B.len PySem.boot_len (pa_cons (pv 0) pa_nil)) pe_int (nomark _)) (pss_one (ps_ret (pe_mkR MK_Round (hr.mono (by decide)) rfl R_Round.mg pass0 (pa_cons (pe_ix ix_list (pv 0) pe_int (fun _ _ => rfl)) (pa_cons (pe_ix ix_list (pv 0) pe_int (fun _ _ => rfl)) (pa_cons (pe_ix ix_list (pv 0) pe_int (fun _ _ => rfl)) pa_nil))))))
  pss_nil)
  (pss_cons (ps_if (pt_cmpR op_eq (pe_callB call_len_seq (by rfl) B.len PySem.boot_len (pa_cons (pv 0) pa_nil)) pe_int (nomark _)) (pss_one (ps_ret (pe_mkR MK_Round (hr.mono (by decide)) rfl R_Round.mg pass0 (pa_cons (pe_ix ix_list (pv 0) pe_int (fun _ _ => rfl)) (pa_cons (pe_ix ix_list (pv 0) pe_int (fun _ _ => rfl)) (pa_cons (pe_ix ix_list (pv 0) pe_int (fun _ _ => rfl)) (pa_cons (pe_ix ix_list (pv 0) pe_int (fun _ _ => rfl)) pa_nil)))))))
  pss_nil)
  (pss_one (ps_ret (pe_op (op_addN O_Round___add__ R_Round (hr.mono (by decide))) (pe_mkR MK_Round (hr.mono (by decide)) rfl R_Round.mg pass0 (pa_cons (pe_ix ix_list (pv 0) pe_int (fun _ _ => rfl)) (pa_cons (pe_ix ix_list (pv 0) pe_int (fun _ _ => rfl)) (pa_cons (pe_ix ix_list (pv 0) pe_int (fun _ _ => rfl)) (pa_cons (pe_ix ix_list (pv 0) pe_int (fun _ _ => rfl)) pa_nil))))) (pe_dn D__law_round hrj (by rfl) pass0 (pa_cons (pe_slice sl_list (pv 0) (po_some pe_int) po_none) pa_nil))))))))), ?_⟩
    refine ⟨_, rfl, p, _, rfl, .inl (SqL.of hp), ?_⟩
    walk_at "rd"
    refine iti (fun e => ?_) (fun e1 => ?_)
    · obtain ⟨a0, rfl⟩ := len1 (l := bs) (by rw [List.length_map] at e; omega)
      refine ⟨_, rfl, p, _, _, _, rfl, rfl, SqL.of hp, rfl, ?_⟩
      exact mkRound ⟨_, rfl, ok, k⟩
    refine ⟨_, rfl, p, _, rfl, .inl (SqL.of hp), ?_⟩
    walk_at "rd"
    refine iti (fun e => ?_) (fun e2 => ?_)
    · obtain ⟨a0, a1, rfl⟩ := len2 (l := bs) (by rw [List.length_map] at e; omega)
      refine ⟨_, rfl, p, _, _, _, rfl, rfl, SqL.of hp, rfl, ?_⟩
      refine ⟨_, rfl, p, _, _, _, rfl, rfl, SqL.of hp, rfl, ?_⟩
      exact mkRound ⟨_, rfl, ok, k⟩
    refine ⟨_, rfl, p, _, rfl, .inl (SqL.of hp), ?_⟩
    walk_at "rd"
    refine iti (fun e => ?_) (fun e3 => ?_)
    · obtain ⟨a0, a1, a2, rfl⟩ := len3 (l := bs) (by rw [List.length_map] at e; omega)
      refine ⟨_, rfl, p, _, _, _, rfl, rfl, SqL.of hp, rfl, ?_⟩
      refine ⟨_, rfl, p, _, _, _, rfl, rfl, SqL.of hp, rfl, ?_⟩
      refine ⟨_, rfl, p, _, _, _, rfl, rfl, SqL.of hp, rfl, ?_⟩
      exact mkRound ⟨_, rfl, ok, k⟩
    refine ⟨_, rfl, p, _, rfl, .inl (SqL.of hp), ?_⟩
    walk_at "rd"
    refine iti (fun e => ?_) (fun e4 => ?_)
    · obtain ⟨a0, a1, a2, a3, rfl⟩ := len4 (l := bs) (by rw [List.length_map] at e; omega)
      refine ⟨_, rfl, p, _, _, _, rfl, rfl, SqL.of hp, rfl, ?_⟩
      refine ⟨_, rfl, p, _, _, _, rfl, rfl, SqL.of hp, rfl, ?_⟩
      refine ⟨_, rfl, p, _, _, _, rfl, rfl, SqL.of hp, rfl, ?_⟩
      refine ⟨_, rfl, p, _, _, _, rfl, rfl, SqL.of hp, rfl, ?_⟩
      exact mkRound ⟨_, rfl, ok, k⟩
    rw [List.length_map] at e1 e2 e3 e4
    have l1 := ok.l1
    have l2 := ok.l2
    obtain ⟨a0, a1, a2, a3, b, r, rfl⟩ := len5 (l := bs) (by omega)
    have hl : r.length + 5 ≤ 12 := l2
    refine ⟨_, rfl, p, _, _, _, rfl, rfl, SqL.of hp, at_of (j := 0) rfl rfl, ?_⟩
    refine ⟨_, rfl, p, _, _, _, rfl, rfl, SqL.of hp, at_of (j := 1) rfl rfl, ?_⟩
    refine ⟨_, rfl, p, _, _, _, rfl, rfl, SqL.of hp, at_of (j := 2) rfl rfl, ?_⟩
    refine ⟨_, rfl, p, _, _, _, rfl, rfl, SqL.of hp, at_of (j := 3) rfl rfl, ?_⟩
    have ok4 : Okb [a0, a1, a2, a3] := ⟨by simp, by simp, fun x hx => ok.nn x (by simp at hx ⊢; rcases hx with h | h | h | h <;> simp [h])⟩
    have okr : Okb (b :: r) := ⟨by simp, by rw [List.length_cons]; omega, fun x hx => ok.nn x (by simp at hx ⊢; rcases hx with h | h <;> simp [h])⟩
    intro x0 dx0 hx0 hdx0 nd0
    refine ⟨x0, dx0, [a0, a1, a2, a3], rfl, upd_same, ok4, fun t0 H1 ht0 i1 i2 i3 => ⟨rfl, ?_⟩⟩
    have hR : RoundAt C H1 x0 [a0, a1, a2, a3] := ⟨dx0, t0, i1, i2⟩
    have e1 : Same H H1 := fun b o e => i3 b o (ne_of_none e hx0) (by rw [upd_ne (ne_of_none e hx0), upd_ne (ne_of_none e hdx0)]; exact e)
    refine ⟨_, rfl, _, rfl, p, _, rfl, SqL.of (e1 _ _ hp), fun q hq => ?_⟩
    have hc : cutV (List.map V.int (a0 :: a1 :: a2 :: a3 :: b :: r)) (some (4 : Int)) none = (b :: r).map V.int := cut_from (f := 4)
    rw [hc]
    refine ⟨q, b :: r, rfl, upd_same, okr, ?_, fun y H3 hy hRy e3 => ?_⟩
    · have : r.length + 5 ≤ m + 4 := hm
      rw [List.length_cons]; omega
    have e2 : Same H1 H3 := (Same.upd hq).trans e3
    obtain ⟨dx, t, h1, h2⟩ := hR.same e2
    obtain ⟨dy, u, g1, g2⟩ := hRy
    exact ⟨x0, y, dx, dy, _, _, rfl, rfl, h1, g1, x0, y, [a0, a1, a2, a3], b :: r, rfl, ⟨dx, t, h1, h2⟩, ⟨dy, u, g1, g2⟩, ok4, okr, by show 4 + (r.length + 1) ≤ 12; omega, fun z H4 hz hRz e4 => k z H4 (e1.free (e2.free hz)) hRz ((e1.trans e2).trans e4)⟩
theorem ok_round {f : Addr} {fd : FuncData} (F : Fun K "_law_round" "_law_round" sLawRound f fd) (B : Bi mg) (R_Round : ClsC K mg "Round" C) (MK_Round : Cn P w K mg base C 3 (spInit C)) (O_Round___add__ : On P w K mg base C "__add__" 5 ["self", "other"] (spAddR C))
    (I_self : ∀ (k : Nat) (sp : Sp), FnOk P w K mg base CX0 k f fd ["row"] sp → Dn P w K mg base "_law_round" k ["row"] sp) : FnOk P w K mg base CX0 7 f fd ["row"] (spRoundN C 12) := by
  have h0 := I_self _ _ (round_base F B R_Round MK_Round)
  have h1 := I_self _ _ (round_step F B R_Round MK_Round O_Round___add__ (by decide) h0)
  exact round_step F B R_Round MK_Round O_Round___add__ (by decide) h1
end
end Cl

/-! ### the smallest sums, and how many budgets reach a need -/
namespace Cl
open StX ClX
def lo : List Int → Int
  | [] => 0
  | [a] => a
  | a :: b :: r => if a ≤ lo (b :: r) then a else lo (b :: r)
theorem lo_spec : ∀ {l : List Int}, l ≠ [] → lo l ∈ l ∧ ∀ y, y ∈ l → lo l ≤ y
  | [], h => absurd rfl h
  | [a], _ => by simp [lo]
  | a :: b :: r, _ => by
    have ih := lo_spec (l := b :: r) (by simp)
    unfold lo
    split
    · refine ⟨List.mem_cons_self, fun y hy => ?_⟩
      rcases List.mem_cons.mp hy with rfl | hy
      · exact Int.le_refl _
      · have := ih.2 y hy; omega
    · refine ⟨List.mem_cons_of_mem _ ih.1, fun y hy => ?_⟩
      rcases List.mem_cons.mp hy with rfl | hy
      · omega
      · exact ih.2 y hy
theorem lo_uniq {l : List Int} {m : Int} (h1 : m ∈ l) (h2 : ∀ y, y ∈ l → m ≤ y) : m = lo l := by
  have ne : l ≠ [] := fun e => by rw [e] at h1; cases h1
  obtain ⟨a, b⟩ := lo_spec ne
  have := b m h1
  have := h2 _ a
  omega
theorem lo_add {l : List Int} (k : Int) (ne : l ≠ []) : lo (l.map (k + ·)) = k + lo l := by
  obtain ⟨a, b⟩ := lo_spec ne
  refine (lo_uniq (List.mem_map.mpr ⟨_, a, rfl⟩) fun y hy => ?_).symm
  obtain ⟨z, hz, rfl⟩ := List.mem_map.mp hy
  have := b z hz
  show k + lo l ≤ k + z
  omega
def totals (bs : List Int) (c : Int) : List Int := (List.range bs.length).map fun (i : Nat) => tot bs (i : Int) c
def lv (bs : List Int) (c : Int) : Int := lo (totals bs c)
theorem totals_len {bs : List Int} {c : Int} : (totals bs c).length = bs.length := by unfold totals; rw [List.length_map, List.length_range]
theorem totals_ne {bs : List Int} {c : Int} (h : 1 ≤ bs.length) : totals bs c ≠ [] := fun e => by
  have := totals_len (bs := bs) (c := c)
  rw [e] at this
  simp at this; omega
theorem tot_more {bs : List Int} {s c w : Int} (h : 1 ≤ bs.length) : tot bs s (w * bs.length + c) = w * bs.sum + tot bs s c := by
  unfold tot
  have e1 : (w * bs.length + c) / bs.length = w + c / bs.length := by rw [Int.add_comm, Int.add_mul_ediv_right _ _ (by omega), Int.add_comm]
  have e2 : (w * bs.length + c) % bs.length = c % bs.length := by rw [Int.add_comm, Int.add_mul_emod_self_right]
  rw [e1, e2, Int.add_mul, Int.add_assoc]
theorem lv_more {bs : List Int} {c w : Int} (h : 1 ≤ bs.length) : lv bs (w * bs.length + c) = w * bs.sum + lv bs c := by
  unfold lv
  have e : totals bs (w * bs.length + c) = (totals bs c).map (w * bs.sum + ·) := by
    unfold totals
    rw [List.map_map]
    refine List.map_congr_left fun i _ => ?_
    exact tot_more h
  rw [e, lo_add _ (totals_ne h)]
theorem lv_const {bs : List Int} {c k : Int} (h : 1 ≤ bs.length) (hk : ∀ s, tot bs s c = k) : lv bs c = k := by
  refine (lo_uniq (List.mem_map.mpr ⟨0, List.mem_range.mpr (by omega), hk _⟩) fun y hy => ?_).symm
  obtain ⟨i, _, rfl⟩ := List.mem_map.mp hy
  rw [hk]; exact Int.le_refl _
theorem lv_zero {bs : List Int} (h : 1 ≤ bs.length) : lv bs 0 = 0 := lv_const h fun s => by
  unfold tot; simp
theorem lv_full {bs : List Int} (h : 1 ≤ bs.length) : lv bs bs.length = bs.sum := lv_const h fun s => by
  unfold tot
  rw [Int.ediv_self (by omega), Int.emod_self]; simp
/-- j is the first place of m -/
def FirstAt (l : List Int) (m : Int) (j : Nat) : Prop := l[j]? = some m ∧ ∀ i z, i < j → l[i]? = some z → z ≠ m
theorem first_ex : ∀ {l : List Int} {m : Int}, m ∈ l → ∃ j, FirstAt l m j
  | a :: r, m, h => by
    by_cases e : a = m
    · exact ⟨0, by simp [e], fun i z hi _ => by omega⟩
    · obtain ⟨j, h1, h2⟩ := first_ex (l := r) (m := m) (by simpa [Ne.symm e] using h)
      refine ⟨j + 1, by simpa using h1, fun i z hi hz => ?_⟩
      cases i with
      | zero => simp at hz; subst hz; exact e
      | succ i => exact h2 i z (by omega) (by simpa using hz)
theorem first_uniq {l : List Int} {m : Int} {i j : Nat} (a : FirstAt l m i) (b : FirstAt l m j) : i = j := by
  rcases Nat.lt_trichotomy i j with h | h | h
  · exact absurd rfl (b.2 i m h a.1)
  · exact h
  · exact absurd rfl (a.2 j m h b.1)
/-- what reach says -/
def ReachOk (bs : List Int) (need : Int) (v : V) : Prop :=
  (need ≤ 0 ∧ v = .int 0) ∨ (0 < need ∧ bs.sum = 0 ∧ v = .non) ∨ (0 < need ∧ bs.sum ≠ 0 ∧ ∃ r : Int, v = .int r ∧ 1 ≤ r ∧ r ≤ 13 * need + 13 ∧ need ≤ lv bs r ∧ lv bs (r - 1) < need)
theorem reach_math {bs : List Int} {need : Int} (ok : Okb bs) (hn : 0 < need) (hs : bs.sum ≠ 0) (cs : List Nat)
    (hc : cs = (List.range bs.length).filter fun i => decide (need - (need - 1) / bs.sum * bs.sum ≤ lv bs (1 + (i : Nat)))) :
    ∃ e r, cs = e :: r ∧ e < bs.length ∧ 0 ≤ (need - 1) / bs.sum ∧ (need - 1) / bs.sum ≤ need ∧ need ≤ lv bs ((need - 1) / bs.sum * bs.length + (1 + (e : Nat))) ∧ lv bs ((need - 1) / bs.sum * bs.length + (1 + (e : Nat)) - 1) < need := by
  have l1 := ok.l1
  have sb := ok.sum_b
  have sp : 0 < bs.sum := by omega
  have w0 : 0 ≤ (need - 1) / bs.sum := Int.ediv_nonneg (by omega) (by omega)
  have w1 : (need - 1) / bs.sum ≤ need - 1 := Int.ediv_le_self _ (by omega)
  have w2 : (need - 1) / bs.sum * bs.sum ≤ need - 1 := Int.ediv_mul_le _ (by omega)
  have w3 : need - 1 < ((need - 1) / bs.sum + 1) * bs.sum := Int.lt_ediv_add_one_mul_self _ sp
  rw [Int.add_mul, Int.one_mul] at w3
  generalize hw : (need - 1) / bs.sum = w at *
  have last : bs.length - 1 ∈ cs := by
    rw [hc, List.mem_filter, List.mem_range]
    refine ⟨by omega, decide_eq_true ?_⟩
    have e : (1 + ((bs.length - 1 : Nat) : Int)) = bs.length := by omega
    rw [e, lv_full l1]; omega
  cases hcs : cs with
  | nil => rw [hcs] at last; cases last
  | cons e r =>
    refine ⟨e, r, rfl, ?_, w0, by omega, ?_, ?_⟩
    · have : e ∈ cs := by rw [hcs]; exact List.mem_cons_self
      rw [hc, List.mem_filter, List.mem_range] at this
      exact this.1
    · have : e ∈ cs := by rw [hcs]; exact List.mem_cons_self
      rw [hc, List.mem_filter] at this
      have := of_decide_eq_true this.2
      rw [lv_more l1]; omega
    · have e1 : w * bs.length + (1 + (e : Nat)) - 1 = w * bs.length + (e : Nat) := by omega
      rw [e1, lv_more l1]
      cases e with
      | zero =>
        rw [show (((0 : Nat) : Int)) = 0 from rfl, lv_zero l1]; omega
      | succ e' =>
        -- e' is earlier in the range and was not taken
        have hlt : e' + 1 < bs.length := by
          have : e' + 1 ∈ cs := by rw [hcs]; exact List.mem_cons_self
          rw [hc, List.mem_filter, List.mem_range] at this
          exact this.1
        have no : ¬ (need - w * bs.sum ≤ lv bs (1 + (e' : Nat))) := fun h => by
          have hmem : e' ∈ cs := by
            rw [hc, List.mem_filter, List.mem_range]
            exact ⟨by omega, decide_eq_true h⟩
          have sorted : cs.Pairwise (· < ·) := by
            rw [hc]
            exact List.Pairwise.filter _ List.pairwise_lt_range
          rw [hcs] at hmem sorted
          rcases List.mem_cons.mp hmem with h | h
          · omega
          · have := (List.pairwise_cons.mp sorted).1 e' h
            omega
        have e2 : (1 + ((e' : Nat) : Int)) = ((e' + 1 : Nat) : Int) := by omega
        rw [e2] at no
        omega
section
variable {P : Program} {w : World} {K : PySem.W.Frag} {mg : Str → Option Value} {base : Heap} {C : Addr}
def spTotals (C : Addr) : Sp := fun vs H Q _ => ∃ (r : Addr) (bs : List Int) (c : Int), vs = [.ref r, .int c] ∧ RoundAt C H r bs ∧ Okb bs ∧ 0 ≤ c ∧ c ≤ 1000000000000000000000000000000000000000000000000000000000000 ∧ ∀ (p : Addr) (H' : Hp), H p = none → H' p = some (.lst ((totals bs c).map V.int)) → Same H H' → Q (.ref p) H'
theorem scRoundTotals : FnScope ["self", "count", "start"] ["self", "count"] (defScope sRoundTotals) := ⟨rfl, rfl, rfl, by decide +kernel, rfl, by decide +kernel, by decide +kernel⟩
theorem ok_Round_totals {f : Addr} {fd : FuncData} (F : Fun K "_totals" "Round._totals" sRoundTotals f fd) (B : Bi mg) (R_Round : ClsC K mg "Round" C) (N_Round : NoAttr K C "_budgets") (M_Round_total : Mn P w K mg base C "total" 3 ["self", "start", "count"] (spTotal C)) :
    FnOk P w K mg base CX0 4 f fd ["self", "count"] (spTotals C) := by
  refine F.ok scRoundTotals (fun vs H Q E h => ?_) (fun cdv A outer s H vs Q E hr h => ?_)
  · obtain ⟨r, bs, c, rfl, _⟩ := h
    rfl
  · obtain ⟨r, bs, c, rfl, ⟨dx, t, h1, h2⟩, ok, c0, c1, k⟩ := h
    have hl : (bs.map V.int).length = bs.length := List.length_map ..
    have l2 := ok.l2
    refine ⟨_, (pss_one (ps_ret (pe_lc (own := [("start", 2)]) (g := gName 2) rfl scRoundTotals.nd (pi_range1 rfl B.range (pa_cons (pe_callB call_len_seq (by rfl) B.len PySem.boot_len (pa_cons (pe_fld (pv 0) rfl) pa_nil)) pa_nil)) (blkOk_by (own := [("start", 2)]) (N := ["self", "count", "start"]) (sc := defScope sRoundTotals) (by decide +kernel)) (fun _ _ _ _ _ => pg_name (i := 2) scRoundTotals.nd rfl (Or.inl rfl)) (fun _ _ _ _ _ => pts_nil) (fun _ _ _ _ _ => (pe_mn M_Round_total R_Round.cl (hr.mono (by decide)) pass0 (pv 0) (pa_cons (pv 2) (pa_cons (pv 1) pa_nil))))))), ?_⟩
    refine ⟨_, rfl, r, C, dx, _, _, rfl, h1, R_Round.cl, N_Round, rfl, t, _, rfl, .inr (SqT.of h2), _, rfl, by omega, by omega, fun D hD => ?_⟩
    rw [hl, Int.toNat_natCast]
    refine lc_growR (fun i => V.int (tot bs (i : Int) c)) hD (by omega) (fun i H1 R hi hS hR => ?_) (fun H1 hS hL => k D H1 hD (by rw [hL]; unfold totals; rw [List.map_map]; rfl) hS)
    refine ⟨rfl, _, rfl, r, dx, _, rfl, hS _ _ h1, no_ _ (by decide +kernel) _, _, rfl, _, rfl, r, bs, (i : Int), c, by rw [Int.zero_add]; rfl, ⟨dx, t, hS _ _ h1, hS _ _ h2⟩, ok, by omega, c0, c1, fun H2 e2 => hR H2 e2⟩
def spLeast (C : Addr) : Sp := fun vs H Q _ => ∃ (r : Addr) (bs : List Int) (c : Int), vs = [.ref r, .int c] ∧ RoundAt C H r bs ∧ Okb bs ∧ 0 ≤ c ∧ c ≤ 1000000000000000000000000000000000000000000000000000000000000 ∧ ∀ (H' : Hp), Same H H' → Q (.int (lv bs c)) H'
theorem scRoundLeast : FnScope ["self", "count"] ["self", "count"] (defScope sRoundLeast) := ⟨rfl, rfl, rfl, by decide +kernel, rfl, by decide +kernel, by decide +kernel⟩
theorem ok_Round_least {f : Addr} {fd : FuncData} (F : Fun K "least" "Round.least" sRoundLeast f fd) (B : Bi mg) (R_Round : ClsC K mg "Round" C) (D_check_least : Dn P w K mg base "check_least" 2 ["value", "least", "field"] spCheckLeast) (M_Round__totals : Mn P w K mg base C "_totals" 4 ["self", "count"] (spTotals C)) :
    FnOk P w K mg base CX0 5 f fd ["self", "count"] (spLeast C) := by
  refine F.ok scRoundLeast (fun vs H Q E h => ?_) (fun cdv A outer s H vs Q E hr h => ?_)
  · obtain ⟨r, bs, c, rfl, _⟩ := h
    rfl
  · obtain ⟨r, bs, c, rfl, ⟨dx, t, h1, h2⟩, ok, c0, c1, k⟩ := h
    refine ⟨_, (pss_cons (ps_expr (pe_dn D_check_least (hr.mono (by decide)) (by rfl) pass0 (pa_cons (pv 1) (pa_cons pe_int (pa_cons pe_str pa_nil)))))
  (pss_one (ps_ret (pe_callB (cr_min rfl) (by rfl) B.min (by decide +kernel) (pa_cons (pe_mn M_Round__totals R_Round.cl (hr.mono (by decide)) pass0 (pv 0) (pa_cons (pv 1) pa_nil)) pa_nil))))), ?_⟩
    walk_at "rd"
    refine ⟨c0, ?_⟩
    refine ⟨_, rfl, r, dx, _, rfl, h1, no_ _ (by decide +kernel) _, _, rfl, r, bs, c, rfl, ⟨dx, t, h1, h2⟩, ok, c0, c1, fun p H1 _ hp e1 => ?_⟩
    refine ⟨p, totals bs c, rfl, SqL.of hp, by rw [totals_len]; exact ok.l1, fun m hm hle => ?_⟩
    rw [lo_uniq hm hle]
    exact k H1 e1
def spWorst (C : Addr) : Sp := fun vs H Q _ => ∃ (r : Addr) (bs : List Int) (c : Int), vs = [.ref r, .int c] ∧ RoundAt C H r bs ∧ Okb bs ∧ 0 ≤ c ∧ c ≤ 1000000000000000000000000000000000000000000000000000000000000 ∧ ∀ (j : Nat) (H' : Hp), FirstAt (totals bs c) (lv bs c) j → Same H H' → Q (.int (j : Int)) H'
theorem flat_ints (ns : List Int) : (ns.map V.int).all flatV = true := by
  rw [List.all_map, List.all_eq_true]
  intro x _; rfl
theorem eqV_int {a b : Int} : eqV (.int a) (.int b) = decide (a = b) := by
  by_cases h : a = b <;> simp [eqV, h]
/-- l.index(m), m in l -/
theorem index_ok {K : PySem.W.Frag} {H : Hp} {p : Addr} {ns : List Int} {m : Int} {Q : VK} (hp : SqL K H p (ns.map V.int)) (hm : m ∈ ns) (q : ∀ j : Nat, FirstAt ns m j → Q (.int (j : Int)) H) : rIndex K (.ref p) [.int m] H Q := by
  obtain ⟨j, hj⟩ := first_ex hm
  refine ⟨p, ns.map V.int, .int m, j, .int m, rfl, rfl, hp, rfl, flat_ints ns, by rw [List.getElem?_map, hj.1]; rfl, by rw [eqV_int]; exact decide_eq_true rfl, fun i z hi hz => ?_, q j hj⟩
  obtain ⟨y, hy, rfl⟩ := int_of_map hz
  rw [eqV_int]
  exact decide_eq_false (hj.2 i y hi hy)
theorem index_dat {ns : List Int} {m : Int} (hm : m ∈ ns) : ∃ j, FirstAt ns m j ∧ (ns.map V.int)[j]? = some (.int m) ∧ eqV (.int m) (.int m) = true ∧ ∀ (i : Nat) (z : V), i < j → (ns.map V.int)[i]? = some z → eqV z (.int m) = false := by
  obtain ⟨j, hj⟩ := first_ex hm
  refine ⟨j, hj, by rw [List.getElem?_map, hj.1]; rfl, by rw [eqV_int]; exact decide_eq_true rfl, fun i z hi hz => ?_⟩
  obtain ⟨y, hy, rfl⟩ := int_of_map hz
  rw [eqV_int]
  exact decide_eq_false (hj.2 i y hi hy)
def spReach (C : Addr) : Sp := fun vs H Q _ => ∃ (r : Addr) (bs : List Int) (need : Int), vs = [.ref r, .int need] ∧ RoundAt C H r bs ∧ Okb bs ∧ -10000000000000000000000000000000000000000000000000000000000000 ≤ need ∧ need ≤ 10000000000000000000000000000000000000000000000000000000000000 ∧ ∀ (v : V) (H' : Hp), ReachOk bs need v → Same H H' → Q v H'
end
end Cl

/-! ### the sums of rings -/
namespace Cl
open StX ClX
def lost (late : Bool) (tears : Int) : Int := if late then 1 + tears else 0
/-- what the order allows -/
structure Ord (late : Bool) (tears readers : Int) : Prop where
  t0 : 0 ≤ tears
  r0 : 0 ≤ readers
  t1 : tears ≤ 1000000000000000000000000000000
  r1 : readers ≤ 1000000000000000000000000000000
  e : late = false → tears = 0
  l : late = true → readers = 0
theorem Ord.lost_b {late : Bool} {tears readers : Int} (o : Ord late tears readers) : 0 ≤ lost late tears ∧ lost late tears ≤ 1000000000000000000000000000000 + 1 := by
  have := o.t0
  have := o.t1
  unfold lost
  split <;> omega
def goes (bs : List Int) (m n : Int) : Bool := decide (n ≤ m) && decide (n - 1 ≤ lv bs (m - n))
/-- reach's answer, said once more -/
def Rch (bs : List Int) (need : Int) (v : V) : Prop :=
  (0 < need ∧ bs.sum = 0 ∧ v = .non) ∨ ((need ≤ 0 ∨ bs.sum ≠ 0) ∧ ∃ x : Int, v = .int x ∧ 0 ≤ x ∧ x ≤ 13 * need + 13 ∧ need ≤ lv bs x ∧ (x = 0 ∨ lv bs (x - 1) < need))
theorem Rch.of {bs : List Int} {need : Int} {v : V} (ok : Okb bs) (h0 : 0 ≤ need) (h : ReachOk bs need v) : Rch bs need v := by
  rcases h with ⟨hn, rfl⟩ | ⟨hn, hs, rfl⟩ | ⟨hn, hs, x, rfl, x0, x1, x2, x3⟩
  · exact .inr ⟨.inl hn, 0, rfl, by omega, by omega, by rw [lv_zero ok.l1]; exact hn, .inl rfl⟩
  · exact .inl ⟨hn, hs, rfl⟩
  · exact .inr ⟨.inr hs, x, rfl, by omega, x1, x2, .inr x3⟩
theorem up_b {t p : Int} (hp : 0 < p) : (t + p - 1) / p * p ≤ t + p - 1 ∧ t ≤ (t + p - 1) / p * p := by
  have h2 : (t + p - 1) / p * p ≤ t + p - 1 := Int.ediv_mul_le _ (by omega)
  have h3 : t + p - 1 < ((t + p - 1) / p + 1) * p := Int.lt_ediv_add_one_mul_self _ hp
  rw [Int.add_mul] at h3
  omega
theorem lv_one {b c : Int} (hc : 0 ≤ c) : lv [b] c = b * c := by
  refine lv_const (by simp) fun s => ?_
  unfold tot
  simp
  rw [Int.mul_comm]
/-- one more in each budget -/
theorem sum_add1 : ∀ (l : List Int), (l.map (· + 1)).sum = l.sum + l.length
  | [] => by simp
  | a :: r => by
    rw [List.map_cons, List.sum_cons, List.sum_cons, sum_add1 r, List.length_cons]; omega
theorem tot_add1 {bs : List Int} {s c : Int} (h : 1 ≤ bs.length) (hc : 0 ≤ c) : tot (bs.map (· + 1)) s c = tot bs s c + c := by
  have f0 := Int.emod_nonneg s (show (bs.length : Int) ≠ 0 by omega)
  have f1 := Int.emod_lt_of_pos s (show (0 : Int) < bs.length by omega)
  have g0 := Int.emod_nonneg c (show (bs.length : Int) ≠ 0 by omega)
  have g1 := Int.emod_lt_of_pos c (show (0 : Int) < bs.length by omega)
  unfold tot
  rw [List.length_map, ← List.map_append, ← List.map_drop, ← List.map_take, sum_add1, sum_add1, Int.mul_add]
  have e : ((((bs ++ bs).drop (s % bs.length).toNat).take (c % bs.length).toNat).length : Int) = c % bs.length := by
    rw [List.length_take, List.length_drop, List.length_append]; omega
  rw [e]
  have := Int.mul_ediv_add_emod c bs.length
  rw [Int.mul_comm] at this
  omega
theorem lv_add1 {bs : List Int} {c : Int} (h : 1 ≤ bs.length) (hc : 0 ≤ c) : lv (bs.map (· + 1)) c = lv bs c + c := by
  unfold lv
  have e : totals (bs.map (· + 1)) c = (totals bs c).map (c + ·) := by
    unfold totals
    rw [List.map_map, List.length_map]
    refine List.map_congr_left fun i _ => ?_
    show tot (bs.map (· + 1)) (i : Int) c = c + tot bs (i : Int) c
    rw [tot_add1 h hc]; omega
  rw [e, lo_add _ (totals_ne h)]; omega
theorem sum_nn : ∀ {l : List Int}, (∀ b, b ∈ l → 0 ≤ b) → 0 ≤ l.sum
  | [], _ => by simp
  | a :: r, h => by
    rw [List.sum_cons]
    have := h a List.mem_cons_self
    have := sum_nn (l := r) fun x hx => h x (List.mem_cons_of_mem _ hx)
    omega
theorem tot_nn {bs : List Int} {s c : Int} (ok : Okb bs) (hc : 0 ≤ c) : 0 ≤ tot bs s c := by
  have l1 := ok.l1
  have sb := ok.sum_b
  have h1 : 0 ≤ c / bs.length * bs.sum := Int.mul_nonneg (Int.ediv_nonneg hc (by omega)) sb.1
  have h2 : 0 ≤ (((bs ++ bs).drop (s % bs.length).toNat).take (c % bs.length).toNat).sum := sum_nn fun b hb => by
    have := List.mem_of_mem_drop (List.mem_of_mem_take hb)
    rcases List.mem_append.mp this with h | h <;> exact (ok.nn b h).1
  unfold tot
  omega
theorem lv_nn {bs : List Int} {c : Int} (ok : Okb bs) (hc : 0 ≤ c) : 0 ≤ lv bs c := by
  obtain ⟨i, _, e⟩ := List.mem_map.mp (lo_spec (totals_ne (c := c) ok.l1)).1
  have := tot_nn (s := (i : Int)) ok hc
  unfold lv
  rw [← e]; exact this
theorem goes_t {bs : List Int} {m n : Int} (h1 : n ≤ m) (h2 : n - 1 ≤ lv bs (m - n)) : goes bs m n = true := by
  unfold goes
  rw [decide_eq_true h1, decide_eq_true h2]; rfl
theorem goes_f {bs : List Int} {m n : Int} (h : n ≤ m → lv bs (m - n) < n - 1) : goes bs m n = false := by
  unfold goes
  by_cases h1 : n ≤ m
  · rw [decide_eq_true h1, decide_eq_false (by have := h h1; omega)]; rfl
  · rw [decide_eq_false h1]; rfl
/-- the greatest limit -/
theorem most_ok {bs : List Int} {left x : Int} (ok : Okb bs) (hl : 1 ≤ left) (h : Rch (bs.map (· + 1)) (left - 1) (.int x)) :
    0 ≤ x ∧ 1 ≤ left - x ∧ goes bs left (left - x) = true ∧ goes bs left (left - x + 1) = false := by
  have l1 := ok.l1
  rcases h with ⟨_, _, e⟩ | ⟨_, y, e, y0, _, y2, y3⟩
  · cases e
  · have e' : x = y := V.int.inj e
    subst e'
    rw [lv_add1 l1 y0] at y2
    have hx : x ≤ left - 1 := by
      rcases y3 with h | h
      · omega
      · have := lv_nn ok (c := x - 1)
        rcases Int.lt_or_le (x - 1) 0 with h0 | h0
        · omega
        · rw [lv_add1 l1 h0] at h
          have := this h0
          omega
    have e1 : left - (left - x) = x := by omega
    have e2 : left - (left - x + 1) = x - 1 := by omega
    refine ⟨y0, by omega, goes_t (by omega) (by rw [e1]; omega), goes_f fun h5 => ?_⟩
    rw [e2]
    rcases y3 with h | h
    · omega
    · rw [lv_add1 l1 (by omega)] at h
      omega
section
variable {P : Program} {w : World} {K : PySem.W.Frag} {mg : Str → Option Value} {base : Heap} {C : Addr}
def spCkRound (C : Addr) : Sp := fun vs H Q _ => ∃ (r : Addr) (bs : List Int), vs = [.ref r] ∧ RoundAt C H r bs ∧ Q .non H
theorem scCheckRound : FnScope ["budgets"] ["budgets"] (defScope sCheckRound) := ⟨rfl, rfl, rfl, by decide +kernel, rfl, by decide +kernel, by decide +kernel⟩
theorem ok_check_round {f : Addr} {fd : FuncData} (F : Fun K "check_round" "check_round" sCheckRound f fd) (B : Bi mg) (R_Round : ClsC K mg "Round" C) : FnOk P w K mg base CX0 1 f fd ["budgets"] (spCkRound C) := by
  refine F.ok scCheckRound (fun vs H Q E h => ?_) (fun cdv A outer s H vs Q E hr h => ?_)
  · obtain ⟨r, bs, rfl, _⟩ := h
    rfl
  · obtain ⟨r, bs, rfl, ⟨dx, t, h1, h2⟩, k⟩ := h
    refine ⟨_, (pss_one (ps_if (pt_not (pt_val (pe_callB (C8.call_isC R_Round.ic) (by rfl) B.isinstance (by decide +kernel) (pa_cons (pv 0) (pa_cons (pe_cls R_Round rfl) pa_nil))))) (pss_one ps_never)
  pss_nil)), ?_⟩
    exact ⟨_, rfl, r, dx, _, rfl, h1, true, rfl, k⟩
def spOrd : Sp := fun vs H Q _ => ∃ (late : Bool) (tears readers : Int), vs = [.bl late, .int tears, .int readers] ∧ Ord late tears readers ∧ Q .non H
theorem scCheckOrder : FnScope ["late", "tears", "readers"] ["late", "tears", "readers"] (defScope sCheckOrder) := ⟨rfl, rfl, rfl, by decide +kernel, rfl, by decide +kernel, by decide +kernel⟩
theorem ok_check_order {f : Addr} {fd : FuncData} (F : Fun K "_check_order" "_check_order" sCheckOrder f fd) (D_check_least : Dn P w K mg base "check_least" 2 ["value", "least", "field"] spCheckLeast) : FnOk P w K mg base CX0 3 f fd ["late", "tears", "readers"] spOrd := by
  refine F.ok scCheckOrder (fun vs H Q E h => ?_) (fun cdv A outer s H vs Q E hr h => ?_)
  · obtain ⟨_, _, _, rfl, _⟩ := h
    rfl
  · obtain ⟨late, tears, readers, rfl, o, k⟩ := h
    refine ⟨_, (pss_cons (ps_expr (pe_dn D_check_least (hr.mono (by decide)) (by rfl) pass0 (pa_cons (pv 1) (pa_cons pe_int (pa_cons pe_str pa_nil)))))
  (pss_cons (ps_expr (pe_dn D_check_least (hr.mono (by decide)) (by rfl) pass0 (pa_cons (pv 2) (pa_cons pe_int (pa_cons pe_str pa_nil)))))
  (pss_cons (ps_if (PW.pt (pw_and (pt_cmpR op_gt (pv 1) pe_int (nomark _)) (pw_and1 (pt_not (pt_val (pv 0)))))) (pss_one ps_never)
  pss_nil)
  (pss_one (ps_if (PW.pt (pw_and (pt_cmpR op_gt (pv 2) pe_int (nomark _)) (pw_and1 (pt_val (pv 0))))) (pss_one ps_never)
  pss_nil))))), ?_⟩
    walk_at "rd"
    refine ⟨o.t0, ?_⟩
    walk_at "rd"
    refine ⟨o.r0, ?_⟩
    cases late
    · have := o.e rfl
      walk_at "rd"
      rw [decide_eq_false (by omega)]
      refine iteF ?_
      walk_at "rd"
      refine itd (fun _ => ?_) (fun _ => ?_)
      · walk_at "rd"
        exact k
      · exact k
    · have := o.l rfl
      walk_at "rd"
      refine itd (fun _ => ?_) (fun _ => ?_)
      · walk_at "rd"
        rw [decide_eq_false (by omega)]
        exact iteF k
      · walk_at "rd"
        rw [decide_eq_false (by omega)]
        exact iteF k
def spLost : Sp := fun vs H Q _ => ∃ (late : Bool) (tears : Int), vs = [.bl late, .int tears] ∧ Q (.int (lost late tears)) H
theorem scPlacesLost : FnScope ["late", "tears"] ["late", "tears"] (defScope sPlacesLost) := ⟨rfl, rfl, rfl, by decide +kernel, rfl, by decide +kernel, by decide +kernel⟩
theorem ok_places_lost {f : Addr} {fd : FuncData} (F : Fun K "_places_lost" "_places_lost" sPlacesLost f fd) : FnOk P w K mg base CX0 1 f fd ["late", "tears"] spLost := by
  refine F.ok scPlacesLost (fun vs H Q E h => ?_) (fun cdv A outer s H vs Q E hr h => ?_)
  · obtain ⟨_, _, rfl, _⟩ := h
    rfl
  · obtain ⟨late, tears, rfl, k⟩ := h
    refine ⟨_, (pss_one (ps_ret (pe_ifExp (pt_val (pv 0)) (pe_op op_add pe_int (pv 1)) pe_int))), ?_⟩
    cases late
    · walk_at "rd"
      exact k
    · walk_at "rd"
      exact k
/-- the terms of a ring -/
structure Tm (places limit : Int) (late : Bool) (tears readers : Int) : Prop where
  p0 : 1 ≤ places
  p1 : places ≤ 1000000000000000000000000000000000
  n0 : 1 ≤ limit
  n1 : limit ≤ 1000000000000000000000000000000000
  o : Ord late tears readers
  k1 : limit * (readers + 1) ≤ 1000000000000000000000000000000000
theorem keys_pos {limit readers : Int} (h : 1 ≤ limit) (h2 : 0 ≤ readers) : 1 ≤ limit * (readers + 1) := by
  have : 0 ≤ limit * readers := Int.mul_nonneg (by omega) h2
  rw [Int.mul_add]; omega
def spEff : Sp := fun vs H Q _ => ∃ (places limit : Int) (late : Bool) (tears readers : Int), vs = [.int places, .int limit, .bl late, .int tears, .int readers] ∧ Tm places limit late tears readers ∧
  ∀ p, H p = none → Q (.ref p) (upd H p (.tup [.int (places - lost late tears), .int (limit * (readers + 1))]))
theorem scEffective : FnScope ["places", "limit", "late", "tears", "readers"] ["places", "limit", "late", "tears", "readers"] (defScope sEffective) := ⟨rfl, rfl, rfl, by decide +kernel, rfl, by decide +kernel, by decide +kernel⟩
theorem ok_effective {f : Addr} {fd : FuncData} (F : Fun K "effective" "effective" sEffective f fd) (D_check_least : Dn P w K mg base "check_least" 2 ["value", "least", "field"] spCheckLeast) (D__check_order : Dn P w K mg base "_check_order" 3 ["late", "tears", "readers"] spOrd)
    (D__places_lost : Dn P w K mg base "_places_lost" 1 ["late", "tears"] spLost) : FnOk P w K mg base CX0 4 f fd ["places", "limit", "late", "tears", "readers"] spEff := by
  refine F.ok scEffective (fun vs H Q E h => ?_) (fun cdv A outer s H vs Q E hr h => ?_)
  · obtain ⟨_, _, _, _, _, rfl, _⟩ := h
    rfl
  · obtain ⟨places, limit, late, tears, readers, rfl, t, k⟩ := h
    obtain ⟨p0, p1, n0, n1, o, k1⟩ := t
    obtain ⟨t0, r0, t1, r1, _, _⟩ := id o
    refine ⟨_, (pss_cons (ps_expr (pe_dn D_check_least (hr.mono (by decide)) (by rfl) pass0 (pa_cons (pv 0) (pa_cons pe_int (pa_cons pe_str pa_nil)))))
  (pss_cons (ps_expr (pe_dn D_check_least (hr.mono (by decide)) (by rfl) pass0 (pa_cons (pv 1) (pa_cons pe_int (pa_cons pe_str pa_nil)))))
  (pss_cons (ps_expr (pe_dn D__check_order (hr.mono (by decide)) (by rfl) pass0 (pa_cons (pv 2) (pa_cons (pv 3) (pa_cons (pv 4) pa_nil)))))
  (pss_one (ps_ret (pe_tup (pa_cons (pe_op op_sub (pv 0) (pe_dn D__places_lost (hr.mono (by decide)) (by rfl) pass0 (pa_cons (pv 2) (pa_cons (pv 3) pa_nil)))) (pa_cons (pe_op op_mulW (pv 1) (pe_op op_add (pv 4) pe_int)) pa_nil)))))))), ?_⟩
    walk_at "rd"
    refine ⟨p0, ?_⟩
    walk_at "rd"
    refine ⟨n0, ?_⟩
    walk_at "rd"
    refine ⟨o, ?_⟩
    walk_at "rd"
    refine ⟨mulB (by omega) (by omega) (by omega) (by omega), ?_⟩
    exact ⟨by show 2 ≤ sizeLine; decide, k⟩
def spGoes (C : Addr) : Sp := fun vs H Q _ => ∃ (places limit : Int) (r : Addr) (bs : List Int) (late : Bool) (tears readers : Int), vs = [.int places, .int limit, .ref r, .bl late, .int tears, .int readers] ∧ Tm places limit late tears readers ∧ RoundAt C H r bs ∧ Okb bs ∧
  ∀ H', Same H H' → Q (.bl (goes bs (places - lost late tears) (limit * (readers + 1)))) H'
theorem scRingGoesOn : FnScope ["places", "limit", "budgets", "late", "tears", "readers", "left", "keys"] ["places", "limit", "budgets", "late", "tears", "readers"] (defScope sRingGoesOn) := ⟨rfl, rfl, rfl, by decide +kernel, rfl, by decide +kernel, by decide +kernel⟩
theorem ok_ring_goes_on {f : Addr} {fd : FuncData} (F : Fun K "ring_goes_on" "ring_goes_on" sRingGoesOn f fd) (R_Round : ClsC K mg "Round" C) (D_check_least : Dn P w K mg base "check_least" 2 ["value", "least", "field"] spCheckLeast) (D_check_round : Dn P w K mg base "check_round" 1 ["budgets"] (spCkRound C))
    (K_effective_late_tears_readers : Dk P w K mg base "effective" 4 ["places", "limit", "late", "tears", "readers"] spEff 2 ["late", "tears", "readers"] (fun vs zs => vs ++ zs)) (M_Round_least : Mn P w K mg base C "least" 5 ["self", "count"] (spLeast C)) : FnOk P w K mg base CX0 6 f fd ["places", "limit", "budgets", "late", "tears", "readers"] (spGoes C) := by
  refine F.ok scRingGoesOn (fun vs H Q E h => ?_) (fun cdv A outer s H vs Q E hr h => ?_)
  · obtain ⟨_, _, _, _, _, _, _, rfl, _⟩ := h
    rfl
  · obtain ⟨places, limit, r, bs, late, tears, readers, rfl, t, hR, ok, k⟩ := h
    refine ⟨_, (pss_cons (ps_expr (pe_dn D_check_least (hr.mono (by decide)) (by rfl) pass0 (pa_cons (pv 0) (pa_cons pe_int (pa_cons pe_str pa_nil)))))
  (pss_cons (ps_expr (pe_dn D_check_least (hr.mono (by decide)) (by rfl) pass0 (pa_cons (pv 1) (pa_cons pe_int (pa_cons pe_str pa_nil)))))
  (pss_cons (ps_expr (pe_dn D_check_round (hr.mono (by decide)) (by rfl) pass0 (pa_cons (pv 2) pa_nil)))
  (pss_cons (ps_asg (pe_dk K_effective_late_tears_readers (hr.mono (by decide)) (by rfl) pass0 (pa_cons (pv 0) (pa_cons (pv 1) pa_nil)) (pk_cons (pv 3) (pk_cons (pv 4) (pk_cons (pv 5) pk_nil)))) (pg_tup (by rfl) (pgs_cons (pg_name (i := 6) scRingGoesOn.nd rfl (Or.inl rfl)) (pgs_cons (pg_name (i := 7) scRingGoesOn.nd rfl (Or.inl rfl)) pgs_nil))))
  (pss_one (ps_ret (pe_and (pe_cmpR op_le (pv 7) (pv 6) (nomark _)) (pe_one (pe_cmpR op_ge (pe_mn M_Round_least R_Round.cl (hr.mono (by decide)) pass0 (pv 2) (pa_cons (pe_op op_sub (pv 6) (pv 7)) pa_nil)) (pe_op op_sub (pv 7) pe_int) (nomark _)))))))))), ?_⟩
    walk_at "rd"
    refine ⟨t.p0, ?_⟩
    walk_at "rd"
    refine ⟨t.n0, ?_⟩
    refine ⟨_, rfl, r, bs, rfl, hR, ?_⟩
    walk_at "rd"
    refine ⟨places, limit, late, tears, readers, rfl, t, fun p hp => ?_⟩
    refine ⟨p, _, rfl, SqT.of upd_same, rfl, _, _, rfl, _, _, rfl, rfl, ?_⟩
    have e1 : Same H (upd H p (.tup [V.int (places - lost late tears), V.int (limit * (readers + 1))])) := Same.upd hp
    generalize upd H p (.tup [V.int (places - lost late tears), V.int (limit * (readers + 1))]) = H1 at e1 ⊢
    have lb := t.o.lost_b
    have k0 := keys_pos t.n0 t.o.r0
    have k1 := t.k1
    have p1 := t.p1
    walk_at "rd"
    refine itd (fun h => ?_) (fun h => ?_)
    · obtain ⟨dx, u, i1, i2⟩ := id (hR.same e1)
      refine ⟨_, rfl, r, dx, _, rfl, i1, no_ _ (by decide +kernel) _, _, rfl, _, rfl, _, _, rfl, rfl, r, bs, _, rfl, hR.same e1, ok, by omega, by omega, fun H2 e2 => ?_⟩
      walk_at "rd"
      have q := k H2 (e1.trans e2)
      unfold goes at q
      rw [decide_eq_true h] at q
      exact q
    · have q := k H1 e1
      unfold goes at q
      rw [decide_eq_false h] at q
      exact q
def PlacesV (bs : List Int) (n l : Int) (v : V) : Prop := (v = .non ∧ Rch bs (n - 1) .non) ∨ ∃ x : Int, v = .int (n + x + l) ∧ Rch bs (n - 1) (.int x)
def spLeastP (C : Addr) : Sp := fun vs H Q _ => ∃ (limit : Int) (r : Addr) (bs : List Int) (late : Bool) (tears readers : Int), vs = [.int limit, .ref r, .bl late, .int tears, .int readers] ∧ 1 ≤ limit ∧ limit ≤ 10000000000000000000000000000000 ∧ Ord late tears readers ∧ limit * (readers + 1) ≤ 10000000000000000000000000000000 ∧ RoundAt C H r bs ∧ Okb bs ∧
  ∀ v H', PlacesV bs (limit * (readers + 1)) (lost late tears) v → Same H H' → Q v H'
def spGreat (C : Addr) : Sp := fun vs H Q _ => ∃ (places : Int) (r : Addr) (bs : List Int) (late : Bool) (tears : Int), vs = [.int places, .ref r, .bl late, .int tears] ∧ 1 ≤ places ∧ places ≤ 10000000000000000000000000000000000000000000000000000000000000 ∧ Ord late tears 0 ∧ RoundAt C H r bs ∧ Okb bs ∧ (∀ b, b ∈ bs → b ≤ 1000000000000000000000000000000) ∧
  ∀ (g : Int) H', ((places - lost late tears < 1 ∧ g = 0) ∨ (1 ≤ places - lost late tears ∧ 1 ≤ g ∧ g ≤ places - lost late tears ∧ goes bs (places - lost late tears) g = true ∧ goes bs (places - lost late tears) (g + 1) = false)) → Same H H' → Q (.int g) H'
theorem okb1 {bs : List Int} (ok : Okb bs) (h : ∀ b, b ∈ bs → b ≤ 1000000000000000000000000000000) : Okb (bs.map (· + 1)) :=
  ⟨by rw [List.length_map]; exact ok.l1, by rw [List.length_map]; exact ok.l2, fun b hb => by
    obtain ⟨x, hx, rfl⟩ := List.mem_map.mp hb
    have := ok.nn x hx
    have := h x hx
    show 0 ≤ x + 1 ∧ x + 1 ≤ _
    omega⟩
def LeastBV (m n : Int) (v : V) : Prop := (m < n ∧ v = .non) ∨ (n = m ∧ 1 < n ∧ v = .non) ∨ (n ≤ m ∧ n = 1 ∧ v = .int 0) ∨ (n < m ∧ 1 < n ∧ v = .int ((n - 1 + (m - n) - 1) / (m - n)))
def spUp : Sp := fun vs H Q _ => ∃ (t p : Int), vs = [.int t, .int p] ∧ 0 < p ∧ p ≤ 10000000000000000000000000000000000000000 ∧ Q (.int ((t + p - 1) / p)) H
def spLeastBd : Sp := fun vs H Q _ => ∃ (places limit : Int) (late : Bool) (tears readers : Int), vs = [.int places, .int limit, .bl late, .int tears, .int readers] ∧ Tm places limit late tears readers ∧
  ∀ v H', LeastBV (places - lost late tears) (limit * (readers + 1)) v → Same H H' → Q v H'
def spFree (C : Addr) : Sp := fun vs H Q _ => ∃ (limit : Int) (r : Addr) (bs : List Int), vs = [.int limit, .ref r] ∧ 1 ≤ limit ∧ limit ≤ 10000000000000000000000000000000 ∧ RoundAt C H r bs ∧ Okb bs ∧ ∀ v H', Rch bs (limit - 1) v → Same H H' → Q v H'
end
end Cl

/-! ### law k03: its own rule -/
namespace Cl
open StX ClX
theorem edge_b {need s l : Int} (h0 : 0 < need) (hs : 0 < s) (l0 : 1 ≤ l) (l1 : l ≤ 12) {x : Int} (hx : x = 0 ∨ x = need / s - 1) (h : 0 ≤ x) : 0 ≤ x * l ∧ x * l ≤ need * 12 := by
  have d0 : 0 ≤ need / s := Int.ediv_nonneg (by omega) (by omega)
  have d1 : need / s ≤ need := Int.ediv_le_self _ (by omega)
  have h2 : x ≤ need := by omega
  refine ⟨Int.mul_nonneg h (by omega), ?_⟩
  have a1 : x * l ≤ need * l := Int.mul_le_mul_of_nonneg_right h2 (by omega)
  have a2 : need * l ≤ need * 12 := Int.mul_le_mul_of_nonneg_left l1 (by omega)
  omega
section
variable {P : Program} {w : World} {K : PySem.W.Frag} {mg : Str → Option Value} {base : Heap} {C : Addr}
def spLLeast : Sp := fun vs H Q _ => ∃ (p : Addr) (bs : List Int) (c : Int), vs = [.ref p, .int c] ∧ H p = some (.lst (bs.map V.int)) ∧ Okb bs ∧ 0 ≤ c ∧ c ≤ 1000000000000000000000000000000000000000000000000000000000000 ∧ ∀ (H' : Hp), Same H H' → Q (.int (lv bs c)) H'
theorem scLawLeast : FnScope ["row", "count", "start"] ["row", "count"] (defScope sLawLeast) := ⟨rfl, rfl, rfl, by decide +kernel, rfl, by decide +kernel, by decide +kernel⟩
theorem ok_law_least {f : Addr} {fd : FuncData} (F : Fun K "_law_least" "_law_least" sLawLeast f fd) (B : Bi mg) (D__law_sum : Dn P w K mg base "_law_sum" 1 ["row", "start", "count"] spSum) : FnOk P w K mg base CX0 2 f fd ["row", "count"] spLLeast := by
  refine F.ok scLawLeast (fun vs H Q E h => ?_) (fun cdv A outer s H vs Q E hr h => ?_)
  · obtain ⟨a, n, _, rfl, _⟩ := h
    rfl
  · obtain ⟨p, bs, c, rfl, hp, ok, c0, c1, k⟩ := h
    have hl : (bs.map V.int).length = bs.length := List.length_map ..
    have l2 := ok.l2
    refine ⟨_, (pss_one (ps_ret (pe_callB (cr_min rfl) (by rfl) B.min (by decide +kernel) (pa_cons (pe_lc (own := [("start", 2)]) (g := gName 2) rfl scLawLeast.nd (pi_range1 rfl B.range (pa_cons (pe_callB call_len_seq (by rfl) B.len PySem.boot_len (pa_cons (pv 0) pa_nil)) pa_nil)) (blkOk_by (own := [("start", 2)]) (N := ["row", "count", "start"]) (sc := defScope sLawLeast) (by decide +kernel)) (fun _ _ _ _ _ => pg_name (i := 2) scLawLeast.nd rfl (Or.inl rfl)) (fun _ _ _ _ _ => pts_nil) (fun _ _ _ _ _ => (pe_dn D__law_sum (hr.mono (by decide)) (by rfl) pass0 (pa_cons (pv 0) (pa_cons (pv 2) (pa_cons (pv 1) pa_nil)))))) pa_nil)))), ?_⟩
    refine ⟨_, rfl, p, _, rfl, .inl (SqL.of hp), _, rfl, by omega, by omega, fun D hD => ?_⟩
    rw [hl, Int.toNat_natCast]
    refine lc_growR (fun i => V.int (tot bs (i : Int) c)) hD (by omega) (fun i H1 R hi hS hR => ?_) (fun H1 hS hL => ?_)
    · exact ⟨rfl, _, rfl, _, rfl, _, rfl, p, bs, (i : Int), c, by rw [Int.zero_add]; rfl, hS _ _ hp, ok, by omega, c0, c1, hR H1 (Same.refl _)⟩
    · have hL' : H1 D = some (.lst ((totals bs c).map V.int)) := by rw [hL]; unfold totals; rw [List.map_map]; rfl
      refine ⟨D, totals bs c, rfl, SqL.of hL', by rw [totals_len]; exact ok.l1, fun m hm hle => ?_⟩
      rw [lo_uniq hm hle]
      exact k H1 hS
def spEdge : Sp := fun vs H Q _ => ∃ (p : Addr) (bs : List Int) (need : Int), vs = [.ref p, .int need] ∧ H p = some (.lst (bs.map V.int)) ∧ Okb bs ∧ 0 ≤ need ∧ need ≤ 10000000000000000000000000000000 ∧
  ∀ (v : V) (H' : Hp), (v = .non ∨ ∃ x : Int, v = .int x ∧ 0 ≤ x ∧ x ≤ 12 * need + 26) → Same H H' → Q v H'
theorem scLawEdge : FnScope ["row", "need", "base", "more"] ["row", "need"] (defScope sLawEdge) := ⟨rfl, rfl, rfl, by decide +kernel, rfl, by decide +kernel, by decide +kernel⟩
theorem ok_edge {f : Addr} {fd : FuncData} (F : Fun K "_law_edge" "_law_edge" sLawEdge f fd) (B : Bi mg) (D__law_least : Dn P w K mg base "_law_least" 2 ["row", "count"] spLLeast) : FnOk P w K mg base CX0 3 f fd ["row", "need"] spEdge := by
  refine F.ok scLawEdge (fun vs H Q E h => ?_) (fun cdv A outer s H vs Q E hr h => ?_)
  · obtain ⟨a, n, _, rfl, _⟩ := h
    rfl
  · obtain ⟨p, bs, need, rfl, hp, ok, n0, n1, k⟩ := h
    have hl : (bs.map V.int).length = bs.length := List.length_map ..
    have l1 := ok.l1
    have l2 := ok.l2
    have sb := ok.sum_b
    refine ⟨_, (pss_cons (ps_if (pt_cmpR op_le (pv 1) pe_int (nomark _)) (pss_one (ps_ret pe_int))
  pss_nil)
  (pss_cons (ps_if (pt_cmpR op_eq (pe_callB (cr_sum rfl) (by rfl) B.sum (by decide +kernel) (pa_cons (pv 0) pa_nil)) pe_int (nomark _)) (pss_one (ps_ret pe_non))
  pss_nil)
  (pss_cons (ps_set (i := 2) scLawEdge.nd rfl (Or.inl rfl) (pe_op op_mulW (pe_callB (call_max2 rfl) (by rfl) B.max (by decide +kernel) (pa_cons pe_int (pa_cons (pe_op op_sub (pe_op op_fdivW (pv 1) (pe_callB (cr_sum rfl) (by rfl) B.sum (by decide +kernel) (pa_cons (pv 0) pa_nil))) pe_int) pa_nil))) (pe_callB call_len_seq (by rfl) B.len PySem.boot_len (pa_cons (pv 0) pa_nil))))
  (pss_cons (ps_for PassesOwn.never rfl (pi_range1 rfl B.range (pa_cons (pe_op op_add (pe_op op_mul pe_int (pe_callB call_len_seq (by rfl) B.len PySem.boot_len (pa_cons (pv 0) pa_nil))) pe_int) pa_nil)) (pg_name (i := 3) scLawEdge.nd rfl (Or.inl rfl))
  (pss_one (ps_if (pt_cmpR op_ge (pe_dn D__law_least (hr.mono (by decide)) (by rfl) pass0 (pa_cons (pv 0) (pa_cons (pe_op op_add (pv 2) (pv 3)) pa_nil))) (pv 1) (nomark _)) (pss_one (ps_ret (pe_op op_add (pv 2) (pv 3))))
  pss_nil)))
  (pss_one (ps_ret pe_non)))))), ?_⟩
    walk_at "rd"
    refine itd (fun h => ?_) (fun h => ?_)
    · walk_at "rd"
      exact k _ _ (.inr ⟨0, rfl, by omega, by omega⟩) (Same.refl _)
    refine ⟨_, rfl, p, bs, rfl, SqL.of hp, ?_⟩
    walk_at "rd"
    refine iti (fun hs => ?_) (fun hs => ?_)
    · walk_at "rd"
      exact k _ _ (.inl rfl) (Same.refl _)
    refine ⟨_, rfl, _, rfl, p, bs, rfl, SqL.of hp, _, _, rfl, rfl, divB (by omega) (by omega), _, _, rfl, rfl, ?_⟩
    refine ⟨_, _, rfl, _, rfl, p, _, rfl, .inl (SqL.of hp), ?_⟩
    rw [hl]
    have hx := edge_b (need := need) (s := bs.sum) (l := bs.length) (by omega) (by omega) (by omega) (by omega) (x := if need / bs.sum - 1 > 0 then need / bs.sum - 1 else 0) (by split <;> omega) (by split <;> omega)
    have hx2 : (if need / bs.sum - 1 > 0 then need / bs.sum - 1 else 0) ≤ need := by
      have := Int.ediv_le_self bs.sum n0
      split <;> omega
    have hx3 : 0 ≤ (if need / bs.sum - 1 > 0 then need / bs.sum - 1 else 0) := by split <;> omega
    generalize (if need / bs.sum - 1 > 0 then need / bs.sum - 1 else 0) = X at hx hx2 hx3 ⊢
    refine ⟨_, _, rfl, rfl, mulB (by omega) (by omega) (by omega) (by omega), ?_⟩
    refine ⟨_, rfl, p, _, rfl, .inl (SqL.of hp), ?_⟩
    rw [hl]
    walk_at "rd"
    refine ⟨by omega, by omega, ?_⟩
    refine for_range (fun i σ H' => ∃ v : Option V, σ = [some (.ref p), some (.int need), some (.int (X * bs.length)), v] ∧ Same H H') ⟨_, rfl, Same.refl _⟩ ?_ ?_
    · rintro i σ H1 hi ⟨v, rfl, e1⟩
      have hi2 : (i : Int) ≤ 26 := by omega
      refine ⟨_, rfl, _, rfl, _, rfl, _, _, rfl, rfl, p, bs, _, rfl, e1 _ _ hp, ok, by omega, by omega, fun H2 e2 => ?_⟩
      walk_at "rd"
      refine itd (fun h => ?_) (fun h => ?_)
      · walk_at "rd"
        exact k _ _ (.inr ⟨_, rfl, by omega, by omega⟩) (e1.trans e2)
      · exact ⟨_, rfl, e1.trans e2⟩
    · rintro σ H1 ⟨v, rfl, e1⟩
      exact k _ _ (.inl rfl) e1
def spPair : Sp := fun vs H Q _ => ∃ (places limit : Int) (late : Bool) (tears readers : Int), vs = [.int places, .int limit, .bl late, .int tears, .int readers] ∧ 0 ≤ limit ∧ limit ≤ 1000000000000000000000000000000000 ∧ Ord late tears readers ∧
  ∀ p, H p = none → Q (.ref p) (upd H p (.tup [.int (places - lost late tears), .int (limit * (readers + 1))]))
theorem scLawPair : FnScope ["places", "limit", "written_first", "tear_count", "reader_count"] ["places", "limit", "written_first", "tear_count", "reader_count"] (defScope sLawPair) := ⟨rfl, rfl, rfl, by decide +kernel, rfl, by decide +kernel, by decide +kernel⟩
theorem ok_pair {f : Addr} {fd : FuncData} (F : Fun K "_law_pair" "_law_pair" sLawPair f fd) : FnOk P w K mg base CX0 1 f fd ["places", "limit", "written_first", "tear_count", "reader_count"] spPair := by
  refine F.ok scLawPair (fun vs H Q E h => ?_) (fun cdv A outer s H vs Q E hr h => ?_)
  · obtain ⟨_, _, _, _, _, rfl, _⟩ := h
    rfl
  · obtain ⟨places, limit, late, tears, readers, rfl, n0, n1, o, k⟩ := h
    obtain ⟨t0, r0, t1, r1, oe, ol⟩ := id o
    refine ⟨_, (pss_cons (ps_if (pt_val (pv 2)) (pss_one (ps_ret (pe_tup (pa_cons (pe_op op_sub (pe_op op_sub (pv 0) pe_int) (pv 3)) (pa_cons (pv 1) pa_nil)))))
  pss_nil)
  (pss_one (ps_ret (pe_tup (pa_cons (pv 0) (pa_cons (pe_op op_mulW (pv 1) (pe_op op_add (pv 4) pe_int)) pa_nil)))))), ?_⟩
    cases late
    · refine ⟨_, rfl, _, rfl, ?_⟩
      refine iteF ?_
      walk_at "rd"
      refine ⟨mulB (by omega) (by omega) (by omega) (by omega), (by show 2 ≤ sizeLine; decide), fun q hq => ?_⟩
      have := k q hq
      unfold lost at this
      rw [if_neg Bool.false_ne_true, Int.sub_zero] at this
      exact this
    · refine ⟨_, rfl, _, rfl, ?_⟩
      refine iteT ?_
      walk_at "rd"
      refine ⟨(by show 2 ≤ sizeLine; decide), fun q hq => ?_⟩
      have := k q hq
      unfold lost at this
      rw [if_pos rfl, ol rfl, Int.zero_add, Int.mul_one] at this
      have e : places - 1 - tears = places - (1 + tears) := by omega
      show Q (.ref q) (upd H q (.tup [.int (places - 1 - tears), .int limit]))
      rw [e]
      exact this
end
end Cl

/-! ### words of a log (true: a living record), the newest play, and the rule of the ring -/
namespace Cl
def S (c : Nat → Nat) (s : Nat) : Nat → Nat
  | 0 => 0
  | k + 1 => S c s k + c (s + k)
def zer : List Bool → Nat
  | [] => 0
  | true :: u => zer u
  | false :: u => zer u + 1
def one : List Bool → Nat
  | [] => 0
  | true :: u => one u + 1
  | false :: u => one u
def trim : List Bool → List Bool
  | [] => []
  | true :: u => true :: u
  | false :: u => trim u
/-- nothing unneeded stands in front -/
def Hd : List Bool → Prop
  | [] => True
  | b :: _ => b = true
theorem wlen : ∀ u : List Bool, u.length = zer u + one u
  | [] => rfl
  | true :: u => by have := wlen u; simp only [List.length_cons, zer, one]; omega
  | false :: u => by have := wlen u; simp only [List.length_cons, zer, one]; omega
theorem zer_app : ∀ u v : List Bool, zer (u ++ v) = zer u + zer v
  | [], v => by simp [zer]
  | true :: u, v => by have := zer_app u v; simp only [List.cons_append, zer]; omega
  | false :: u, v => by have := zer_app u v; simp only [List.cons_append, zer]; omega
theorem one_app : ∀ u v : List Bool, one (u ++ v) = one u + one v
  | [], v => by simp [one]
  | true :: u, v => by have := one_app u v; simp only [List.cons_append, one]; omega
  | false :: u, v => by have := one_app u v; simp only [List.cons_append, one]; omega
theorem one_trim : ∀ u : List Bool, one (trim u) = one u
  | [] => rfl
  | true :: u => rfl
  | false :: u => by have := one_trim u; simp only [trim, one]; omega
theorem zer_trim : ∀ u : List Bool, zer (trim u) ≤ zer u
  | [] => Nat.le_refl _
  | true :: u => Nat.le_refl _
  | false :: u => by have := zer_trim u; simp only [trim, zer]; omega
theorem hd_trim : ∀ u : List Bool, Hd (trim u)
  | [] => trivial
  | true :: u => rfl
  | false :: u => hd_trim u
theorem trim_hd : ∀ {u : List Bool}, Hd u → trim u = u
  | [], _ => rfl
  | true :: u, _ => rfl
  | false :: u, h => by cases h
theorem hd_app : ∀ {u v : List Bool}, Hd u → u ≠ [] → Hd (u ++ v)
  | [], _, _, h => absurd rfl h
  | _ :: _, _, h, _ => h
/-- what stands in front of a living record may be trimmed first -/
theorem trim_app_one : ∀ (u v : List Bool), 0 < one u → trim (u ++ v) = trim u ++ v
  | [], _, h => by simp [one] at h
  | true :: u, v, _ => rfl
  | false :: u, v, h => trim_app_one u v (by simpa only [one] using h)
/-- the living records behind which at most j unneeded ones stand -/
def O (j : Nat) : List Bool → Nat
  | [] => 0
  | b :: u => if zer (b :: u) ≤ j then one (b :: u) else O j u
theorem O_all : ∀ {j : Nat} {u : List Bool}, zer u ≤ j → O j u = one u
  | _, [], _ => rfl
  | _, _ :: _, h => if_pos h
theorem O_le : ∀ {j : Nat} {u : List Bool}, O j u ≤ one u
  | _, [] => Nat.le_refl _
  | j, b :: u => by
    unfold O
    split
    · exact Nat.le_refl _
    · have := O_le (j := j) (u := u)
      cases b <;> simp only [one] <;> omega
theorem O_trim : ∀ {j : Nat} {u : List Bool}, O j (trim u) = O j u
  | _, [] => rfl
  | _, true :: _ => rfl
  | j, false :: u => by
    have ih := O_trim (j := j) (u := u)
    show O j (trim u) = if zer (false :: u) ≤ j then one (false :: u) else O j u
    rw [ih]
    split
    · rename_i h
      simp only [zer] at h
      exact O_all (by omega)
    · rfl
theorem O_one : ∀ {j : Nat} {u : List Bool}, O j (u ++ [true]) = O j u + 1
  | j, [] => by show (if 0 ≤ j then 1 else 0) = 1; rw [if_pos (Nat.zero_le _)]
  | j, b :: u => by
    have ih := O_one (j := j) (u := u)
    have e1 : zer ((b :: u) ++ [true]) = zer (b :: u) := by rw [zer_app]; rfl
    have e2 : one ((b :: u) ++ [true]) = one (b :: u) + 1 := by rw [one_app]; rfl
    show (if zer ((b :: u) ++ [true]) ≤ j then one ((b :: u) ++ [true]) else O j (u ++ [true])) = (if zer (b :: u) ≤ j then one (b :: u) else O j u) + 1
    rw [e1, e2, ih]
    split <;> rfl
theorem O_zero : ∀ {j : Nat} {u : List Bool}, O (j + 1) (u ++ [false]) = O j u
  | j, [] => by show (if 1 ≤ j + 1 then 0 else 0) = 0; split <;> rfl
  | j, b :: u => by
    have ih := O_zero (j := j) (u := u)
    have e1 : zer ((b :: u) ++ [false]) = zer (b :: u) + 1 := by rw [zer_app]; rfl
    have e2 : one ((b :: u) ++ [false]) = one (b :: u) := by rw [one_app]; rfl
    show (if zer ((b :: u) ++ [false]) ≤ j + 1 then one ((b :: u) ++ [false]) else O (j + 1) (u ++ [false])) = (if zer (b :: u) ≤ j then one (b :: u) else O j u)
    rw [e1, e2, ih]
    by_cases h : zer (b :: u) ≤ j
    · rw [if_pos (by omega), if_pos h]
    · rw [if_neg (by omega), if_neg h]
theorem O_last : ∀ {u : List Bool}, O 0 (u ++ [false]) = 0
  | [] => rfl
  | b :: u => by
    have e1 : zer ((b :: u) ++ [false]) = zer (b :: u) + 1 := by rw [zer_app]; rfl
    show (if zer ((b :: u) ++ [false]) ≤ 0 then one ((b :: u) ++ [false]) else O 0 (u ++ [false])) = 0
    rw [e1, if_neg (by omega)]
    exact O_last
theorem O_few {j : Nat} {u : List Bool} (h : Hd u) (e : O j u = one u) : zer u ≤ j := by
  cases u with
  | nil => exact Nat.zero_le _
  | cons b u =>
    have h : b = true := h
    subst h
    by_cases q : zer (true :: u) ≤ j
    · exact q
    · exfalso
      have e2 : O j (true :: u) = O j u := if_neg q
      have := O_le (j := j) (u := u)
      rw [e2] at e
      simp only [one] at e
      omega
def carry (u : List Bool) : List Bool := trim (u.tail ++ [true])
theorem hd_carry {u : List Bool} : Hd (carry u) := hd_trim _
theorem one_carry {u : List Bool} (h : Hd u) (h2 : u ≠ []) : one (carry u) = one u := by
  cases u with
  | nil => exact absurd rfl h2
  | cons b u =>
    have h : b = true := h
    subst h
    unfold carry
    rw [one_trim, List.tail_cons, one_app]; rfl
theorem zer_carry {u : List Bool} (h : Hd u) : zer (carry u) ≤ zer u := by
  have := zer_trim (u.tail ++ [true])
  cases u with
  | nil => exact Nat.le_refl _
  | cons b u =>
    have h : b = true := h
    subst h
    rw [List.tail_cons, zer_app] at this
    unfold carry
    exact this
theorem O_carry {j : Nat} {u : List Bool} (h : Hd u) (h2 : u ≠ []) : O j (carry u) = min (one u) (O j u + 1) := by
  cases u with
  | nil => exact absurd rfl h2
  | cons b u =>
    have h : b = true := h
    subst h
    unfold carry
    rw [O_trim, List.tail_cons, O_one]
    have l := O_le (j := j) (u := u)
    by_cases q : zer (true :: u) ≤ j
    · have e1 : O j (true :: u) = one u + 1 := if_pos q
      have e2 : O j u = one u := O_all (by simpa only [zer] using q)
      have e3 : one (true :: u) = one u + 1 := rfl
      rw [e1, e2, e3]; omega
    · have e1 : O j (true :: u) = O j u := if_neg q
      have e3 : one (true :: u) = one u + 1 := rfl
      rw [e1, e3]; omega
def carries : Nat → List Bool → List Bool
  | 0, u => u
  | n + 1, u => carry (carries n u)
theorem ne_of_one {u : List Bool} (h : 0 < one u) : u ≠ [] := fun e => by rw [e] at h; simp [one] at h
theorem carries_dat {u : List Bool} (h : Hd u) : ∀ {n : Nat}, (n = 0 ∨ 0 < one u) → Hd (carries n u) ∧ one (carries n u) = one u ∧ zer (carries n u) ≤ zer u ∧ ∀ j, O j (carries n u) = min (one u) (O j u + n)
  | 0, _ => ⟨h, rfl, Nat.le_refl _, fun j => by have := O_le (j := j) (u := u); show O j u = _; omega⟩
  | n + 1, h2 => by
    have p : 0 < one u := by omega
    obtain ⟨a, b, c, d⟩ := carries_dat h (n := n) (.inr p)
    have ne : carries n u ≠ [] := ne_of_one (by omega)
    refine ⟨hd_carry, ?_, ?_, fun j => ?_⟩
    · show one (carry (carries n u)) = _
      rw [one_carry a ne, b]
    · have := zer_carry a
      show zer (carry (carries n u)) ≤ _
      omega
    · show O j (carry (carries n u)) = _
      rw [O_carry a ne, b, d]; omega
def ones (n : Nat) : List Bool := List.replicate n true
theorem one_ones : ∀ n, one (ones n) = n
  | 0 => rfl
  | n + 1 => by have := one_ones n; show one (ones n) + 1 = n + 1; omega
theorem ones_succ (n : Nat) : ones (n + 1) = ones n ++ [true] := by unfold ones; rw [List.replicate_succ']
theorem ones_len (n : Nat) : (ones n).length = n := List.length_replicate
theorem hd_ones : ∀ n, Hd (ones n)
  | 0 => trivial
  | _ + 1 => rfl
theorem carry_ones {n : Nat} (h : 0 < n) : carry (ones n) = ones n := by
  obtain ⟨m, rfl⟩ : ∃ m, n = m + 1 := ⟨n - 1, by omega⟩
  have e : (ones (m + 1)).tail ++ [true] = ones (m + 1) := by
    rw [show (ones (m + 1)).tail = ones m from rfl, ones_succ]
  unfold carry
  rw [e, trim_hd (hd_ones _)]
theorem carries_ones {n : Nat} : ∀ {k : Nat}, k ≤ n → carries k (ones n) = ones n
  | 0, _ => rfl
  | k + 1, h => by
    show carry (carries k (ones n)) = _
    rw [carries_ones (by omega), carry_ones (by omega)]
/-- the word from which the records of a put are carried -/
def U (K : Nat) (w : List Bool) : List Bool := if K ≤ one w then trim (w.dropLast ++ [false]) else w
/-- the word after t puts of the newest play -/
def W (K : Nat) (b : Nat → Nat) : Nat → List Bool
  | 0 => []
  | t + 1 => carries (min (one (U K (W K b t))) (b t)) (U K (W K b t)) ++ [true]
section
variable {K N n : Nat} {b : Nat → Nat}
theorem W_new : ∀ {t : Nat}, t ≤ K → W K b t = ones t
  | 0, _ => rfl
  | t + 1, h => by
    have e := W_new (t := t) (by omega)
    have u : U K (W K b t) = ones t := by
      rw [e]; unfold U
      rw [one_ones, if_neg (by omega)]
    show carries (min (one (U K (W K b t))) (b t)) (U K (W K b t)) ++ [true] = _
    rw [u, one_ones, carries_ones (by omega), ones_succ]
theorem U_new {t : Nat} (h : t < K) : U K (W K b t) = ones t := by
  rw [W_new (by omega)]; unfold U
  rw [one_ones, if_neg (by omega)]
/-- a log of all keys: its newest record stands last -/
def Full (K : Nat) (w : List Bool) : Prop := ∃ v, w = v ++ [true] ∧ Hd v ∧ one v + 1 = K
theorem Full.u {w : List Bool} (h : Full K w) : ∃ v, w = v ++ [true] ∧ Hd v ∧ one v + 1 = K ∧ U K w = trim (v ++ [false]) := by
  obtain ⟨v, rfl, h1, h2⟩ := h
  refine ⟨v, rfl, h1, h2, ?_⟩
  unfold U
  rw [one_app, List.dropLast_concat, if_pos (by show K ≤ one v + 1; omega)]
theorem Full.dat {w : List Bool} (h : Full K w) : Hd (U K w) ∧ one (U K w) + 1 = K ∧ O 0 (U K w) = 0 := by
  obtain ⟨v, rfl, h1, h2, e⟩ := h.u
  rw [e]
  refine ⟨hd_trim _, ?_, ?_⟩
  · rw [one_trim, one_app]; exact h2
  · rw [O_trim]; exact O_last
/-- what a put makes of the word U -/
def V' (b : Nat) (u : List Bool) : List Bool := carries (min (one u) b) u
theorem V_dat {c : Nat} {u : List Bool} (h : Hd u) : Hd (V' c u) ∧ one (V' c u) = one u ∧ zer (V' c u) ≤ zer u ∧ ∀ j, O j (V' c u) = min (one u) (O j u + c) := by
  obtain ⟨a, b', c', d⟩ := carries_dat h (n := min (one u) c) (by omega)
  refine ⟨a, b', c', fun j => ?_⟩
  unfold V'
  rw [d]; omega
theorem W_full (hK : 1 ≤ K) : ∀ d, Full K (W K b (K + d))
  | 0 => by
    rw [Nat.add_zero, W_new (Nat.le_refl _)]
    obtain ⟨m, rfl⟩ : ∃ m, K = m + 1 := ⟨K - 1, by omega⟩
    exact ⟨ones m, ones_succ m, hd_ones m, by rw [one_ones]⟩
  | d + 1 => by
    obtain ⟨h1, h2, h3⟩ := (W_full hK d).dat
    obtain ⟨i1, i2, i3, i4⟩ := V_dat (c := b (K + d)) h1
    exact ⟨V' (b (K + d)) (U K (W K b (K + d))), rfl, i1, by omega⟩
theorem U_next (hK : 1 ≤ K) (d : Nat) : U K (W K b (K + (d + 1))) = trim (V' (b (K + d)) (U K (W K b (K + d))) ++ [false]) := by
  obtain ⟨v, e, h1, h2, q⟩ := (W_full (K := K) (b := b) hK (d + 1)).u
  rw [q]
  have e2 : W K b (K + (d + 1)) = V' (b (K + d)) (U K (W K b (K + d))) ++ [true] := rfl
  rw [e2] at e
  rw [List.append_cancel_right e]
theorem U_dat (hK : 1 ≤ K) (d : Nat) : Hd (U K (W K b (K + d))) ∧ one (U K (W K b (K + d))) + 1 = K ∧ O 0 (U K (W K b (K + d))) = 0 := (W_full hK d).dat
theorem U_zer (hK : 1 ≤ K) : ∀ d, zer (U K (W K b (K + d))) ≤ d + 1
  | 0 => by
    obtain ⟨v, e, h1, h2, q⟩ := (W_full (K := K) (b := b) hK 0).u
    rw [q]
    have := zer_trim (v ++ [false])
    rw [zer_app] at this
    have e2 : W K b (K + 0) = ones K := W_new (Nat.le_refl _)
    obtain ⟨m, rfl⟩ : ∃ m, K = m + 1 := ⟨K - 1, by omega⟩
    rw [e2, ones_succ] at e
    have e3 := List.append_cancel_right e
    subst e3
    have z : zer (ones m) = 0 := by have := wlen (ones m); rw [ones_len, one_ones] at this; omega
    have : zer [false] = 1 := rfl
    omega
  | d + 1 => by
    have ih := U_zer hK d
    obtain ⟨h1, h2, h3⟩ := U_dat (b := b) hK d
    obtain ⟨i1, i2, i3, i4⟩ := V_dat (c := b (K + d)) h1
    rw [U_next hK d]
    have := zer_trim (V' (b (K + d)) (U K (W K b (K + d))) ++ [false])
    rw [zer_app] at this
    have : zer [false] = 1 := rfl
    omega
/-- what was carried in the last j puts stands behind the last j unneeded records -/
theorem O_U (hK : 1 ≤ K) (d : Nat) : ∀ j, O j (U K (W K b (K + (d + j)))) = min (K - 1) (S b (K + d) j)
  | 0 => by
    obtain ⟨h1, h2, h3⟩ := U_dat (b := b) hK d
    show O 0 (U K (W K b (K + d))) = min (K - 1) 0
    omega
  | j + 1 => by
    have ih := O_U hK d j
    obtain ⟨h1, h2, h3⟩ := U_dat (b := b) hK (d + j)
    obtain ⟨i1, i2, i3, i4⟩ := V_dat (c := b (K + (d + j))) h1
    rw [show d + (j + 1) = (d + j) + 1 by omega, U_next hK, O_trim, O_zero, i4, ih]
    show _ = min (K - 1) (S b (K + d) j + b (K + d + j))
    rw [show K + d + j = K + (d + j) by omega]
    omega
theorem S_per (per : ∀ t u, t % n = u % n → b t = b u) {s u : Nat} (h : s % n = u % n) : ∀ k, S b s k = S b u k
  | 0 => rfl
  | k + 1 => by
    have ih := S_per per h k
    show S b s k + b (s + k) = S b u k + b (u + k)
    rw [ih, per (s + k) (u + k) (by rw [Nat.add_mod, h, ← Nat.add_mod])]
theorem same_start (hn : 1 ≤ n) (K s : Nat) : ∃ d, d < n ∧ (K + d) % n = s % n := by
  refine ⟨(s + (n - 1) * K) % n, Nat.mod_lt _ hn, ?_⟩
  rw [Nat.add_mod_mod]
  have : K + (s + (n - 1) * K) = s + n * K := by
    obtain ⟨m, rfl⟩ : ∃ m, n = m + 1 := ⟨n - 1, by omega⟩
    rw [Nat.add_sub_cancel, Nat.add_mul]; omega
  rw [this, Nat.add_mul_mod_self_left]
/-- the rule of the ring: the newest play never stalls exactly if every run of so many budgets as places are free carries all keys but one -/
theorem ring_iff (hK : 1 ≤ K) (hn : 1 ≤ n) (per : ∀ t u, t % n = u % n → b t = b u) : (∀ t, t < N + n + 2 → (U K (W K b t)).length < N) ↔ (K ≤ N ∧ ∀ s, K - 1 ≤ S b s (N - K)) := by
  constructor
  · intro h
    have hKN : K ≤ N := by
      rcases Nat.lt_or_ge N K with q | q
      · have := h N (by omega)
        rw [U_new q, ones_len] at this
        omega
      · exact q
    refine ⟨hKN, fun s => ?_⟩
    obtain ⟨d, d1, d2⟩ := same_start hn K s
    rw [← S_per per d2]
    have t := h (K + (d + (N - K))) (by omega)
    have e := O_U (b := b) hK d (N - K)
    obtain ⟨h1, h2, _⟩ := U_dat (b := b) hK (d + (N - K))
    rw [wlen] at t
    rw [O_all (by omega)] at e
    omega
  · rintro ⟨hKN, h⟩ t _
    rcases Nat.lt_or_ge t K with q | q
    · rw [U_new q, ones_len]; omega
    · obtain ⟨d, rfl⟩ := Nat.exists_eq_add_of_le q
      obtain ⟨h1, h2, _⟩ := U_dat (b := b) hK d
      rw [wlen]
      rcases Nat.lt_or_ge d (N - K) with q2 | q2
      · have := U_zer (b := b) hK d
        omega
      · obtain ⟨c, rfl⟩ : ∃ c, d = c + (N - K) := ⟨d - (N - K), by omega⟩
        have e := O_U (b := b) hK c (N - K)
        have := h (K + c)
        have := O_few (j := N - K) h1 (by omega)
        omega
/-! the played log of the law -/
theorem trim_snoc : ∀ x : List Bool, trim (x ++ [true]) = trim x ++ [true]
  | [] => rfl
  | true :: _ => rfl
  | false :: x => trim_snoc x
theorem carry_f {u f : List Bool} (hf : f = [] ∨ f = [true]) (h : u ≠ []) : trim ((u ++ f).drop 1 ++ [true]) = carry u ++ f := by
  cases u with
  | nil => exact absurd rfl h
  | cons b u =>
    unfold carry
    rcases hf with rfl | rfl
    · rw [List.append_nil, List.append_nil]; rfl
    · show trim ((u ++ [true]) ++ [true]) = trim (u ++ [true]) ++ [true]
      exact trim_snoc _
theorem W_cases (hK : 1 ≤ K) (t : Nat) : (t < K ∧ one (W K b t) = t ∧ U K (W K b t) = W K b t ∧ W K b t = ones t) ∨ (K ≤ one (W K b t) ∧ ∃ v, W K b t = v ++ [true] ∧ Hd v ∧ one v + 1 = K ∧ U K (W K b t) = trim (v ++ [false])) := by
  rcases Nat.lt_or_ge t K with h | h
  · refine .inl ⟨h, ?_, ?_, W_new (by omega)⟩
    · rw [W_new (by omega), one_ones]
    · rw [U_new h, W_new (by omega)]
  · obtain ⟨d, rfl⟩ := Nat.exists_eq_add_of_le h
    obtain ⟨v, e, h1, h2, q⟩ := (W_full (K := K) (b := b) hK d).u
    refine .inr ⟨?_, v, e, h1, h2, q⟩
    rw [e, one_app]
    show K ≤ one v + 1
    omega
theorem U_hd (hK : 1 ≤ K) (t : Nat) : Hd (U K (W K b t)) := by
  rcases W_cases (b := b) hK t with ⟨h, _, e, e2⟩ | ⟨_, v, _, _, _, e⟩
  · rw [e, e2]; exact hd_ones _
  · rw [e]; exact hd_trim _
theorem U_len (hK : 1 ≤ K) (t : Nat) : (U K (W K b t)).length ≤ (W K b t).length := by
  rcases W_cases (b := b) hK t with ⟨h, _, e, e2⟩ | ⟨_, v, e2, _, _, e⟩
  · rw [e]; exact Nat.le_refl _
  · rw [e, e2, wlen, wlen, one_trim, one_app, one_app, zer_app]
    have := zer_trim (v ++ [false])
    rw [zer_app] at this
    have : zer [false] = 1 := rfl
    have : one [false] = 0 := rfl
    have : zer [true] = 0 := rfl
    have : one [true] = 1 := rfl
    omega
theorem V_len {c : Nat} {u : List Bool} (h : Hd u) : (V' c u).length ≤ u.length := by
  obtain ⟨_, h2, h3, _⟩ := V_dat (c := c) h
  rw [wlen, wlen u]; omega
theorem carries_len {c : Nat} {u : List Bool} (h : Hd u) (h2 : c ≤ one u) : (carries c u).length ≤ u.length := by
  obtain ⟨_, h2, h3, _⟩ := carries_dat h (n := c) (by omega)
  rw [wlen, wlen u]; omega
theorem W_len (hK : 1 ≤ K) : ∀ t, (W K b t).length ≤ t
  | 0 => Nat.le_refl _
  | t + 1 => by
    have ih := W_len hK t
    have := U_len (b := b) hK t
    have := V_len (c := b t) (U_hd (b := b) hK t)
    show (V' (b t) (U K (W K b t)) ++ [true]).length ≤ t + 1
    rw [List.length_append]
    show _ + 1 ≤ t + 1
    omega
end
end Cl

/-! ### law k02: the rule, and the words of the played log -/
namespace Cl
open StX ClX
def bt (b : Bool) : Int := if b then 1 else 0
def bits (u : List Bool) : List Int := u.map bt
theorem bits_sum : ∀ u : List Bool, (bits u).sum = (one u : Int)
  | [] => rfl
  | true :: u => by have := bits_sum u; show (1 : Int) + (bits u).sum = ((one u + 1 : Nat) : Int); omega
  | false :: u => by have := bits_sum u; show (0 : Int) + (bits u).sum = (one u : Int); omega
def LW (u : List Bool) : HO := .lst ((bits u).map V.int)
theorem bits_len (u : List Bool) : ((bits u).map V.int).length = u.length := by unfold bits; rw [List.length_map, List.length_map]
theorem bits_app (u v : List Bool) : (bits (u ++ v)).map V.int = (bits u).map V.int ++ (bits v).map V.int := by unfold bits; rw [List.map_append, List.map_append]
theorem bits_drop (u : List Bool) (n : Nat) : ((bits u).map V.int).drop n = (bits (u.drop n)).map V.int := by unfold bits; rw [List.map_drop, List.map_drop]
theorem bits_take (u : List Bool) (n : Nat) : ((bits u).map V.int).take n = (bits (u.take n)).map V.int := by unfold bits; rw [List.map_take, List.map_take]
theorem bits_at {u : List Bool} {i : Nat} {b : Bool} (h : u[i]? = some b) : ((bits u).map V.int)[i]? = some (.int (bt b)) := by unfold bits; rw [List.getElem?_map, List.getElem?_map, h]; rfl
theorem bt_eq {b : Bool} : decide (V.int (bt b) = V.int 0) = !b := by cases b <;> rfl
theorem sline : (10000 : Nat) ≤ sizeLine := by decide
section
variable {P : Program} {w : World} {K : PySem.W.Frag} {mg : Str → Option Value} {base : Heap} {C : Addr}
def spRule : Sp := fun vs H Q _ => ∃ (p : Addr) (bs : List Int) (m n : Int), vs = [.ref p, .int m, .int n] ∧ H p = some (.lst (bs.map V.int)) ∧ Okb bs ∧ 0 ≤ n ∧ m ≤ 10000000000000000000000000000000000000000 ∧ ∀ (H' : Hp), Same H H' → Q (.bl (goes bs m n)) H'
theorem scLawRule : FnScope ["row", "room", "keys"] ["row", "room", "keys"] (defScope sLawRule) := ⟨rfl, rfl, rfl, by decide +kernel, rfl, by decide +kernel, by decide +kernel⟩
theorem ok_rule {f : Addr} {fd : FuncData} (F : Fun K "_law_rule" "_law_rule" sLawRule f fd) (D__law_least : Dn P w K mg base "_law_least" 2 ["row", "count"] spLLeast) : FnOk P w K mg base CX0 3 f fd ["row", "room", "keys"] spRule := by
  refine F.ok scLawRule (fun vs H Q E h => ?_) (fun cdv A outer s H vs Q E hr h => ?_)
  · obtain ⟨_, _, _, _, rfl, _⟩ := h
    rfl
  · obtain ⟨p, bs, m, n, rfl, hp, ok, n0, m1, k⟩ := h
    refine ⟨_, (pss_cons (ps_if (pt_cmpR op_gt (pv 2) (pv 1) (nomark _)) (pss_one (ps_ret pe_bl))
  pss_nil)
  (pss_one (ps_ret (pe_cmpR op_ge (pe_dn D__law_least (hr.mono (by decide)) (by rfl) pass0 (pa_cons (pv 0) (pa_cons (pe_op op_sub (pv 1) (pv 2)) pa_nil))) (pe_op op_sub (pv 2) pe_int) (nomark _))))), ?_⟩
    walk_at "rd"
    refine itd (fun h => ?_) (fun h => ?_)
    · have q' := k H (Same.refl _)
      unfold goes at q'
      rw [decide_eq_false (by omega)] at q'
      exact q'
    walk_at "rd"
    refine ⟨p, bs, _, rfl, hp, ok, by omega, by omega, fun H1 e1 => ?_⟩
    walk_at "rd"
    have q' := k H1 e1
    unfold goes at q'
    rw [decide_eq_true (by omega)] at q'
    exact q'
def spTrim : Sp := fun vs H Q _ => ∃ (p : Addr) (u : List Bool), vs = [.ref p] ∧ H p = some (LW u) ∧ u.length < 10000 ∧ ∀ (q : Addr) (H' : Hp), H q = none → H' q = some (LW (trim u)) → Same H H' → Q (.ref q) H'
theorem scLawTrim : FnScope ["queue", "spot"] ["queue"] (defScope sLawTrim) := ⟨rfl, rfl, rfl, by decide +kernel, rfl, by decide +kernel, by decide +kernel⟩
theorem ok_trim {f : Addr} {fd : FuncData} (F : Fun K "_law_trim" "_law_trim" sLawTrim f fd) (B : Bi mg) : FnOk P w K mg base CX0 1 f fd ["queue"] spTrim := by
  refine F.ok scLawTrim (fun vs H Q E h => ?_) (fun cdv A outer s H vs Q E hr h => ?_)
  · obtain ⟨_, _, rfl, _⟩ := h
    rfl
  · obtain ⟨p, u, rfl, hp, hl, k⟩ := h
    refine ⟨_, (pss_cons (ps_set (i := 1) scLawTrim.nd rfl (Or.inl rfl) pe_int)
  (pss_cons (ps_while PassesOwn.never (PW.pt (pw_and (pt_cmpR op_lt (pv 1) (pe_callB call_len_seq (by rfl) B.len PySem.boot_len (pa_cons (pv 0) pa_nil)) (nomark _)) (pw_and1 (pt_cmpR op_eq (pe_ix ix_list (pv 0) (pv 1) (fun _ _ => rfl)) pe_int (nomark _)))))
  (pss_one (ps_set (i := 1) scLawTrim.nd rfl (Or.inl rfl) (pe_op op_add (pv 1) pe_int))))
  (pss_one (ps_ret (pe_slice sl_list (pv 0) (po_some (pv 1)) po_none))))), ?_⟩
    refine ⟨fun m σ H' => ∃ i : Nat, σ = [some (.ref p), some (.int i)] ∧ m = u.length - i ∧ i ≤ u.length ∧ trim (u.drop i) = trim u ∧ H' = H, ⟨_, 0, rfl, rfl, Nat.zero_le _, rfl, rfl⟩, ?_⟩
    rintro m σ H' ⟨i, rfl, rfl, hi, ht, rfl⟩
    refine ⟨_, rfl, _, rfl, p, _, rfl, .inl (SqL.of hp), ?_⟩
    rw [bits_len]
    walk_at "rd"
    have fin : trim (u.drop i) = u.drop i → ∀ q, H' q = none → Q (.ref q) (upd H' q (.lst (cutV ((bits u).map V.int) (some (i : Int)) none))) := fun e q hq => by
      rw [cut_from, bits_drop]
      exact k q _ hq (by rw [upd_same, ← ht, e]; rfl) (Same.upd hq)
    refine itd (fun h => ?_) (fun h => ?_)
    · have hi2 : i < u.length := by omega
      obtain ⟨b, hb⟩ : ∃ b, u[i]? = some b := ⟨_, List.getElem?_eq_getElem hi2⟩
      have dr : u.drop i = b :: u.drop (i + 1) := by
        rw [List.drop_eq_getElem_cons hi2]
        rw [List.getElem?_eq_getElem hi2] at hb
        rw [Option.some.inj hb]
      refine ⟨_, rfl, _, rfl, p, _, _, _, rfl, rfl, SqL.of hp, at_of (j := i) (v := .int (bt b)) rfl (bits_at hb), rfl, _, rfl, ?_⟩
      rw [bt_eq]
      cases b
      · refine iteT ?_
        refine ⟨fun σ' Hx => ∃ j : Nat, σ' = [some (V.ref p), some (.int j)] ∧ j = i + 1 ∧ Hx = H', ?_, ?_⟩
        rotate_left
        · exact ⟨_, rfl, _, _, rfl, rfl, i + 1, rfl, rfl, rfl⟩
        · rintro σ' H2 ⟨j, rfl, rfl, rfl⟩
          refine ⟨_, ?_, i + 1, rfl, rfl, by omega, ?_, rfl⟩
          · omega
          · rw [← ht, dr]; rfl
      · refine iteF ?_
        walk_at "rd"
        exact ⟨p, _, rfl, SqL.of hp, fin (by rw [dr]; rfl)⟩
    · walk_at "rd"
      refine ⟨p, _, rfl, SqL.of hp, fin ?_⟩
      rw [List.drop_eq_nil_of_le (by omega)]; rfl
end
end Cl

/-! ### law k02: the played log -/
namespace Cl
open StX ClX
/-- the put t is not blocked -/
def unb (places : Int) (K : Nat) (b : Nat → Nat) (late : Bool) (t : Nat) : Prop := ((U K (W K b t)).length : Int) + (if late then 1 else 0) < places
def Nst (places : Int) (K : Nat) (b : Nat → Nat) (late : Bool) (M : Nat) : Prop :=
  if late then (0 < M → 0 < places) ∧ ∀ t, t + 1 < M → unb places K b true t else ∀ t, t < M → unb places K b false t
def bud (bs : List Int) (phase : Int) (t : Nat) : Nat := (bs[((phase + t) % bs.length).toNat]?.getD 0).toNat
theorem sum_tk {l : List Int} {i : Nat} {z : Int} (h : l[i]? = some z) : (l.take (i + 1)).sum = (l.take i).sum + z := by
  rw [List.take_add_one, h, List.sum_append]; simp
theorem rot_sum {bs : List Int} {f : Nat} : (rot bs f).sum = bs.sum := by
  unfold rot
  rw [List.sum_append, Int.add_comm, ← List.sum_append, List.take_append_drop]
theorem wrap_full {bs : List Int} {f : Nat} (h : f ≤ bs.length) : ((bs ++ bs).drop f).take bs.length = rot bs f := by
  unfold rot
  rw [List.drop_append_of_le_length h, List.take_append, List.length_drop, List.take_of_length_le (by rw [List.length_drop]; omega)]
  congr 2; omega
theorem tot_step {bs : List Int} {s : Int} {k : Nat} {z : Int} (ok : Okb bs) (hz : bs[((s + k) % bs.length).toNat]? = some z) : tot bs s ((k + 1 : Nat) : Int) = tot bs s (k : Int) + z := by
  have l1 := ok.l1
  have key : ∀ r : Nat, r < bs.length → bs[((s + r) % bs.length).toNat]? = some z → tot bs s ((r + 1 : Nat) : Int) = tot bs s (r : Int) + z := fun r hr hz => by
    have e0 : tot bs s (r : Int) = (((bs ++ bs).drop (s % bs.length).toNat).take r).sum := by
      unfold tot
      rw [Int.ediv_eq_zero_of_lt (by omega) (by omega), Int.emod_eq_of_lt (by omega) (by omega), Int.toNat_natCast]; simp
    have e1 := sum_tk (l := (bs ++ bs).drop (s % bs.length).toNat) (i := r) (z := z) (by rw [wrap_at (by omega) hr]; exact hz)
    rcases Nat.lt_or_ge (r + 1) bs.length with q | q
    · have e2 : tot bs s ((r + 1 : Nat) : Int) = (((bs ++ bs).drop (s % bs.length).toNat).take (r + 1)).sum := by
        unfold tot
        rw [Int.ediv_eq_zero_of_lt (by omega) (by omega), Int.emod_eq_of_lt (by omega) (by omega), Int.toNat_natCast]; simp
      rw [e2, e1, e0]
    · have e3 : r + 1 = bs.length := by omega
      have f0 := Int.emod_nonneg s (show (bs.length : Int) ≠ 0 by omega)
      have f1 := Int.emod_lt_of_pos s (show (0 : Int) < bs.length by omega)
      have e2 : tot bs s ((r + 1 : Nat) : Int) = bs.sum := by
        rw [e3]
        unfold tot
        rw [Int.ediv_self (by omega), Int.emod_self]; simp
      rw [e2, e0, ← e1, e3, wrap_full (by omega), rot_sum]
  obtain ⟨q, r, hr, rfl⟩ : ∃ q r : Nat, r < bs.length ∧ k = q * bs.length + r := ⟨k / bs.length, k % bs.length, Nat.mod_lt _ (by omega), by rw [Nat.mul_comm]; exact (Nat.div_add_mod _ _).symm⟩
  have c1 : ((q * bs.length + r : Nat) : Int) = (q : Int) * bs.length + (r : Nat) := by simp
  have c2 : ((q * bs.length + r + 1 : Nat) : Int) = (q : Int) * bs.length + ((r + 1 : Nat) : Int) := by
    rw [Nat.add_assoc]; simp
  rw [c1, c2, tot_more l1, tot_more l1]
  have := key r hr (by
    rw [c1] at hz
    have e : (s + ((q : Int) * bs.length + (r : Nat))) % bs.length = (s + (r : Nat)) % bs.length := by
      rw [show s + ((q : Int) * bs.length + (r : Nat)) = (s + (r : Nat)) + (q : Int) * bs.length by omega, Int.add_mul_emod_self_right]
    rw [e] at hz
    exact hz)
  omega
theorem bud_at {bs : List Int} {ph : Int} (ok : Okb bs) (i : Nat) : ∃ z, bs[((ph + i) % bs.length).toNat]? = some z ∧ 0 ≤ z ∧ z = (bud bs ph i : Int) := by
  have l1 := ok.l1
  have m0 := Int.emod_nonneg (ph + i) (show (bs.length : Int) ≠ 0 by omega)
  have m1 := Int.emod_lt_of_pos (ph + i) (show (0 : Int) < bs.length by omega)
  obtain ⟨z, hz⟩ : ∃ z, bs[((ph + i) % bs.length).toNat]? = some z := ⟨_, List.getElem?_eq_getElem (by omega)⟩
  have z0 := (ok.nn z (List.mem_of_getElem? hz)).1
  refine ⟨z, hz, z0, ?_⟩
  unfold bud
  rw [hz]
  show z = ((z.toNat : Nat) : Int)
  omega
theorem S_tot {bs : List Int} {ph : Int} (ok : Okb bs) (s : Nat) : ∀ k, (S (bud bs ph) s k : Int) = tot bs (ph + s) (k : Nat)
  | 0 => by unfold S tot; simp
  | k + 1 => by
    obtain ⟨z, hz, _, e⟩ := bud_at (ph := ph) ok (s + k)
    have e2 : ph + ((s + k : Nat) : Int) = ph + s + (k : Nat) := by simp [Int.add_assoc]
    rw [e2] at hz
    rw [tot_step ok hz, ← S_tot ok s k, e]
    show ((S (bud bs ph) s k + bud bs ph (s + k) : Nat) : Int) = _
    omega
theorem tot_per {bs : List Int} {s u c : Int} (h : s % bs.length = u % bs.length) : tot bs s c = tot bs u c := by
  unfold tot; rw [h]
theorem lv_iff {bs : List Int} {c x : Int} (ok : Okb bs) (ph : Int) : x ≤ lv bs c ↔ ∀ s : Nat, x ≤ tot bs (ph + s) c := by
  have l1 := ok.l1
  obtain ⟨a, b⟩ := lo_spec (totals_ne (c := c) l1)
  constructor
  · intro h s
    have f0 := Int.emod_nonneg (ph + s) (show (bs.length : Int) ≠ 0 by omega)
    have f1 := Int.emod_lt_of_pos (ph + s) (show (0 : Int) < bs.length by omega)
    have := b (tot bs (((ph + s) % bs.length).toNat : Nat) c) (List.mem_map.mpr ⟨((ph + s) % bs.length).toNat, List.mem_range.mpr (by omega), rfl⟩)
    have e : tot bs (((ph + s) % bs.length).toNat : Nat) c = tot bs (ph + s) c := tot_per (by
      rw [show ((((ph + s) % bs.length).toNat : Nat) : Int) = (ph + s) % bs.length by omega, Int.emod_emod])
    rw [e] at this
    unfold lv at h
    omega
  · intro h
    obtain ⟨i, _, e⟩ := List.mem_map.mp a
    have f0 := Int.emod_nonneg ((i : Int) - ph) (show (bs.length : Int) ≠ 0 by omega)
    have := h (((i : Int) - ph) % bs.length).toNat
    rw [tot_per (u := (i : Int))] at this
    · unfold lv; rw [← e]; exact this
    · rw [show (((((i : Int) - ph) % bs.length).toNat : Nat) : Int) = ((i : Int) - ph) % bs.length by omega, Int.add_emod, Int.emod_emod, ← Int.add_emod]
      congr 1; omega
theorem bud_per {bs : List Int} {ph : Int} (ok : Okb bs) : ∀ t u : Nat, t % bs.length = u % bs.length → bud bs ph t = bud bs ph u := fun t u h => by
  unfold bud
  have e : (ph + t) % bs.length = (ph + u) % bs.length := by
    rw [Int.add_emod, Int.add_emod ph u]
    have : (t : Int) % bs.length = (u : Int) % bs.length := by exact_mod_cast congrArg (Nat.cast (R := Int)) h
    rw [this]
  rw [e]
/-- the play that the law walks never stalls exactly if the rule holds -/
theorem nst_goes {bs : List Int} {ph room : Int} {K M : Nat} {late : Bool} (ok : Okb bs) (hK : 1 ≤ K)
    (hM : (M : Int) = (if room + (if late then 1 else 0) > 0 then room + (if late then 1 else 0) else 0) + bs.length + 2) :
    Nst (room + (if late then 1 else 0)) K (bud bs ph) late M ↔ goes bs room K = true := by
  have l1 := ok.l1
  rcases Int.lt_or_le room 0 with q | q
  · have g : goes bs room K = false := goes_f fun h => by omega
    rw [g]
    constructor
    · intro h
      exfalso
      unfold Nst at h
      cases late
      · simp only [Bool.false_eq_true, if_false] at h hM
        have := h 0 (by omega)
        unfold unb at this
        simp only [Bool.false_eq_true, if_false] at this
        omega
      · simp only [if_true] at h hM
        have := h.1 (by omega)
        omega
    · intro h; cases h
  · obtain ⟨N, rfl⟩ : ∃ N : Nat, room = N := ⟨room.toNat, by omega⟩
    have R := ring_iff (b := bud bs ph) (N := N) (n := bs.length) hK l1 (bud_per ok)
    have A : Nst (N + (if late then 1 else 0)) K (bud bs ph) late M ↔ ∀ t, t < N + bs.length + 2 → (U K (W K (bud bs ph) t)).length < N := by
      unfold Nst unb
      cases late
      · simp only [Bool.false_eq_true, if_false] at hM ⊢
        have e : M = N + bs.length + 2 := by split at hM <;> omega
        rw [e]
        constructor
        · intro h t ht; have := h t ht; omega
        · intro h t ht; have := h t ht; omega
      · simp only [if_true] at hM ⊢
        have e : M = N + bs.length + 3 := by split at hM <;> omega
        rw [e]
        constructor
        · intro h t ht; have := h.2 t (by omega); omega
        · intro h; exact ⟨fun _ => by omega, fun t ht => by have := h t (by omega); omega⟩
    rw [A, R]
    unfold goes
    rw [Bool.and_eq_true, decide_eq_true_iff, decide_eq_true_iff]
    constructor
    · rintro ⟨h1, h2⟩
      refine ⟨by omega, (lv_iff ok ph).mpr fun s => ?_⟩
      have h3 := h2 s
      have e := S_tot (ph := ph) ok s (N - K)
      have e2 : ((N - K : Nat) : Int) = (N : Int) - K := by omega
      rw [e2] at e
      omega
    · rintro ⟨h1, h2⟩
      refine ⟨by omega, fun s => ?_⟩
      have h3 := (lv_iff ok ph).mp h2 s
      have e := S_tot (ph := ph) ok s (N - K)
      have e2 : ((N - K : Nat) : Int) = (N : Int) - K := by omega
      rw [e2] at e
      omega
section
variable {P : Program} {w : World} {K : PySem.W.Frag} {mg : Str → Option Value} {base : Heap} {C : Addr}
def spUnneeded : Sp := fun vs H Q _ => ∃ (p : Addr) (v f : List Bool) (n : Int), vs = [.ref p, .int n] ∧ H p = some (LW (v ++ [true] ++ f)) ∧ v.length < 9000 ∧ (f = [] ∧ n = 0 ∨ f = [true] ∧ n = 1) ∧
  ∀ (q : Addr) (H' : Hp), H q = none → H' q = some (LW (trim (v ++ [false]) ++ f)) → Same H H' → Q (.ref q) H'
theorem scLawUnneeded : FnScope ["queue", "fresh", "spot"] ["queue", "fresh"] (defScope sLawUnneeded) := ⟨rfl, rfl, rfl, by decide +kernel, rfl, by decide +kernel, by decide +kernel⟩
theorem ok_unneeded {f : Addr} {fd : FuncData} (F : Fun K "_law_unneeded" "_law_unneeded" sLawUnneeded f fd) (B : Bi mg) (D__law_trim : Dn P w K mg base "_law_trim" 1 ["queue"] spTrim) : FnOk P w K mg base CX0 2 f fd ["queue", "fresh"] spUnneeded := by
  refine F.ok scLawUnneeded (fun vs H Q E h => ?_) (fun cdv A outer s H vs Q E hr h => ?_)
  · obtain ⟨_, _, _, _, rfl, _⟩ := h
    rfl
  · obtain ⟨p, v, f, n, rfl, hp, hl, hf, k⟩ := h
    have hlen : ((v ++ [true] ++ f).length : Int) - 1 - n = v.length := by
      rw [List.length_append, List.length_append]
      rcases hf with ⟨rfl, rfl⟩ | ⟨rfl, rfl⟩ <;> simp <;> omega
    have fl : f.length ≤ 1 := by rcases hf with ⟨rfl, rfl⟩ | ⟨rfl, rfl⟩ <;> simp
    refine ⟨_, (pss_cons (ps_set (i := 2) scLawUnneeded.nd rfl (Or.inl rfl) (pe_op op_sub (pe_op op_sub (pe_callB call_len_seq (by rfl) B.len PySem.boot_len (pa_cons (pv 0) pa_nil)) pe_int) (pv 1)))
  (pss_cons (ps_while PassesOwn.never (PW.pt (pw_and (pt_cmpR op_ge (pv 2) pe_int (nomark _)) (pw_and1 (pt_cmpR op_eq (pe_ix ix_list (pv 0) (pv 2) (fun _ _ => rfl)) pe_int (nomark _)))))
  (pss_one (ps_set (i := 2) scLawUnneeded.nd rfl (Or.inl rfl) (pe_op op_sub (pv 2) pe_int))))
  (pss_cons (ps_if (pt_cmpR op_lt (pv 2) pe_int (nomark _)) (pss_one (ps_ret (pv 0)))
  pss_nil)
  (pss_one (ps_ret (pe_dn D__law_trim (hr.mono (by decide)) (by rfl) pass0 (pa_cons (pe_op op_cat (pe_op op_cat (pe_slice sl_list (pv 0) po_none (po_some (pv 2))) (pe_lst (pa_cons pe_int pa_nil))) (pe_slice sl_list (pv 0) (po_some (pe_op op_add (pv 2) pe_int)) po_none)) pa_nil))))))), ?_⟩
    refine ⟨_, rfl, p, _, rfl, .inl (SqL.of hp), ?_⟩
    rw [bits_len]
    refine ⟨_, _, rfl, rfl, _, rfl, _, _, rfl, rfl, ?_⟩
    refine ⟨fun m σ H' => σ = [some (.ref p), some (.int n), some (.int v.length)] ∧ H' = H, ⟨0, by rw [← hlen]; rfl, rfl⟩, ?_⟩
    rintro m σ H' ⟨rfl, rfl⟩
    refine ⟨_, rfl, _, _, rfl, rfl, _, rfl, ?_⟩
    rw [decide_eq_true (by omega)]
    have hat : (v ++ [true] ++ f)[v.length]? = some true := by
      rw [List.append_assoc, List.getElem?_append_right (Nat.le_refl _), Nat.sub_self]; rfl
    refine iteT ?_
    refine ⟨_, rfl, _, rfl, p, _, _, _, rfl, rfl, SqL.of hp, at_of (j := v.length) (v := .int (bt true)) rfl (bits_at hat), rfl, _, rfl, ?_⟩
    refine iteF ?_
    walk_at "rd"
    refine ⟨p, _, rfl, SqL.of hp, fun p1 n1 => ?_⟩
    refine ⟨by show 1 ≤ sizeLine; decide, fun p2 n2 => ?_⟩
    have ec1 : cutV ((bits (v ++ [true] ++ f)).map V.int) none (some (v.length : Int)) = (bits v).map V.int := by
      rw [cut_to, bits_take, List.append_assoc, List.take_left]
    rw [ec1] at n2 ⊢
    have h21 : p1 ≠ p2 := fun e => by rw [e, upd_same] at n2; cases n2
    refine ⟨p1, p2, _, _, rfl, rfl, by rw [upd_ne h21]; exact upd_same, upd_same, ?_, fun p3 n3 => ?_⟩
    · rw [bits_len]
      show v.length + 1 ≤ sizeLine
      have := sline
      omega
    have e3 : Same H' (upd (upd (upd H' p1 (.lst ((bits v).map V.int))) p2 (.lst [.int 0])) p3 (.lst ((bits v).map V.int ++ [.int 0]))) := ((Same.upd n1).trans (Same.upd n2)).trans (Same.upd n3)
    have h3 : upd (upd (upd H' p1 (.lst ((bits v).map V.int))) p2 (.lst [.int 0])) p3 (.lst ((bits v).map V.int ++ [.int 0])) p3 = some (LW (v ++ [false])) := by
      rw [upd_same]; unfold LW; rw [bits_app]; rfl
    generalize upd (upd (upd H' p1 (.lst ((bits v).map V.int))) p2 (.lst [.int 0])) p3 (.lst ((bits v).map V.int ++ [.int 0])) = H3 at e3 h3 ⊢
    refine ⟨_, rfl, _, rfl, _, _, rfl, rfl, _, rfl, p, _, rfl, SqL.of (e3 _ _ hp), fun p4 n4 => ?_⟩
    have ec : cutV ((bits (v ++ [true] ++ f)).map V.int) (some ((v.length : Int) + 1)) none = (bits f).map V.int := by
      rw [show (v.length : Int) + 1 = ((v.length + 1 : Nat) : Int) by omega, cut_from, bits_drop]
      congr 2
      rw [show v.length + 1 = (v ++ [true]).length by rw [List.length_append]; rfl]
      exact List.drop_left
    have h34 : p3 ≠ p4 := fun e => by rw [e, n4] at h3; cases h3
    refine ⟨p3, p4, _, _, rfl, rfl, by rw [upd_ne h34]; exact h3, upd_same, ?_, fun p5 n5 => ?_⟩
    · rw [ec, bits_len, bits_len, List.length_append]
      show v.length + 1 + f.length ≤ sizeLine
      have := sline
      omega
    refine ⟨p5, v ++ [false] ++ f, rfl, by rw [upd_same, ec, ← bits_app]; rfl, ?_, fun q H6 n6 h6 e6 => ?_⟩
    · rw [List.length_append, List.length_append]
      show v.length + 1 + f.length < 10000
      omega
    refine k q H6 (((e3.trans (Same.upd n4)).trans (Same.upd n5)).free n6) ?_ (((e3.trans (Same.upd n4)).trans (Same.upd n5)).trans e6)
    rw [h6]
    rcases hf with ⟨rfl, _⟩ | ⟨rfl, _⟩
    · rw [List.append_nil, List.append_nil]
    · rw [trim_snoc]
end
end Cl

/-! ### law k02: the played log, walked -/
namespace Cl
open StX ClX
section
variable {P : Program} {w : World} {K : PySem.W.Frag} {mg : Str → Option Value} {base : Heap} {C : Addr}
def spPlayed : Sp := fun vs H Q _ => ∃ (p : Addr) (bs : List Int) (places ph : Int) (K M : Nat) (late : Bool), vs = [.int places, .int K, .ref p, .int ph, .bl late, .int M] ∧ H p = some (.lst (bs.map V.int)) ∧ Okb bs ∧ 0 ≤ ph ∧ 1 ≤ K ∧ 1 ≤ M ∧ M ≤ 1000 ∧
  ∀ (r : Int) (H' : Hp), (r = M ↔ Nst places K (bud bs ph) late M) → Same H H' → Q (.int r) H'
/-- what stands behind the word of a put, when its records are carried -/
def fr (late : Bool) : List Bool := if late then [true] else []
theorem fr_len (late : Bool) : ((fr late).length : Int) = if late then 1 else 0 := by cases late <;> rfl
/-- what is known ahead of the put i, the log being u -/
def StP (places : Int) (K : Nat) (b : Nat → Nat) (late : Bool) (i : Nat) (u : List Bool) : Prop :=
  (∀ t, t + 1 < i → unb places K b late t) ∧ (late = true → 0 < i → 0 < places) ∧
  ((u = W K b i ∧ (0 < i → unb places K b late (i - 1))) ∨ (late = true ∧ 0 < i ∧ ¬ unb places K b late (i - 1) ∧ places ≤ u.length ∧ u.length ≤ 3000))
/-- .. the put i goes on -/
def GoP (places : Int) (K : Nat) (b : Nat → Nat) (late : Bool) (i : Nat) : Prop :=
  (∀ t, t < i → unb places K b late t) ∧ (late = true → 0 < places)
theorem StP.len {places : Int} {K : Nat} {b : Nat → Nat} {late : Bool} {i : Nat} {u : List Bool} (hK : 1 ≤ K) (h : StP places K b late i u) (hi : i ≤ 1000) : u.length ≤ 3000 := by
  obtain ⟨_, _, ⟨rfl, _⟩ | ⟨_, _, _, _, h⟩⟩ := h
  · have := W_len (b := b) hK i; omega
  · exact h
theorem unb_all {places : Int} {K : Nat} {b : Nat → Nat} {late : Bool} {i : Nat} (h : ∀ t, t + 1 < i → unb places K b late t) (h2 : 0 < i → unb places K b late (i - 1)) : ∀ t, t < i → unb places K b late t := fun t ht => by
  rcases Nat.lt_or_ge (t + 1) i with q | q
  · exact h t q
  · have : t = i - 1 := by omega
    subst this
    exact h2 (by omega)
theorem StP.stall {places : Int} {K M : Nat} {b : Nat → Nat} {i : Nat} {u : List Bool} (hK : 1 ≤ K) (h : StP places K b true i u) (hi : i < M) (hl : places ≤ u.length) : ¬ Nst places K b true M := by
  rintro ⟨h1, h2⟩
  obtain ⟨a1, a2, ⟨rfl, a3⟩ | ⟨_, a3, a4, _, _⟩⟩ := h
  · rcases Nat.eq_zero_or_pos i with q | q
    · subst q
      have := h1 (by omega)
      have e : (W K b 0).length = 0 := rfl
      omega
    · obtain ⟨j, rfl⟩ : ∃ j, i = j + 1 := ⟨i - 1, by omega⟩
      have a3 := a3 q
      have l := V_len (c := b j) (U_hd (b := b) hK j)
      have e : (W K b (j + 1)).length = (V' (b j) (U K (W K b j))).length + 1 := by
        show (V' (b j) (U K (W K b j)) ++ [true]).length = _
        rw [List.length_append]; rfl
      unfold unb at a3
      simp only [Nat.add_sub_cancel, if_true] at a3
      omega
  · exact a4 (h2 (i - 1) (by omega))
theorem StP.go {places : Int} {K : Nat} {b : Nat → Nat} {late : Bool} {i : Nat} {u : List Bool} (h : StP places K b late i u) (hl : late = true → (u.length : Int) < places) : u = W K b i ∧ GoP places K b late i := by
  obtain ⟨a1, a2, ⟨a0, a3⟩ | ⟨e, _, _, a3, _⟩⟩ := h
  · exact ⟨a0, unb_all a1 a3, fun e => by have := hl e; omega⟩
  · have := hl e; omega
theorem GoP.next {places : Int} {K : Nat} {b : Nat → Nat} {late : Bool} {i : Nat} (h : GoP places K b late i) (hu : unb places K b late i) : StP places K b late (i + 1) (W K b (i + 1)) :=
  ⟨fun t ht => h.1 t (by omega), fun e _ => h.2 e, .inl ⟨rfl, fun _ => hu⟩⟩
theorem GoP.block {places : Int} {K : Nat} {b : Nat → Nat} {i : Nat} {u : List Bool} (h : GoP places K b true i) (hu : ¬ unb places K b true i) (e : u = U K (W K b i) ++ [true]) (hK : 1 ≤ K) (hi : i ≤ 1000) : StP places K b true (i + 1) u := by
  refine ⟨fun t ht => h.1 t (by omega), fun e _ => h.2 e, .inr ⟨rfl, by omega, hu, ?_, ?_⟩⟩
  · unfold unb at hu
    rw [e, List.length_append]
    simp only [if_true] at hu
    show places ≤ ((_ + 1 : Nat) : Int)
    omega
  · rw [e, List.length_append]
    have := U_len (b := b) hK i
    have := W_len (b := b) hK i
    show _ + 1 ≤ 3000
    omega
theorem StP.done {places : Int} {K M : Nat} {b : Nat → Nat} {late : Bool} {u : List Bool} (h : StP places K b late M u) (hM : 1 ≤ M) : Nst places K b late M := by
  obtain ⟨a1, a2, a3⟩ := h
  cases late
  · rcases a3 with ⟨_, a3⟩ | ⟨e, _⟩
    · exact unb_all a1 a3
    · cases e
  · exact ⟨fun h => a2 rfl h, a1⟩
theorem GoP.stall {places : Int} {K M : Nat} {b : Nat → Nat} {i : Nat} (hi : i < M) (hu : ¬ unb places K b false i) : ¬ Nst places K b false M := fun h => hu (h i hi)
theorem scLawPlayed : FnScope ["places", "keys", "row", "phase", "written_first", "moments", "queue", "moment", "full", "others", "k"] ["places", "keys", "row", "phase", "written_first", "moments"] (defScope sLawPlayed) := ⟨rfl, rfl, rfl, by decide +kernel, rfl, by decide +kernel, by decide +kernel⟩
theorem ok_played {f : Addr} {fd : FuncData} (F : Fun K "_law_played" "_law_played" sLawPlayed f fd) (B : Bi mg) (D__law_trim : Dn P w K mg base "_law_trim" 1 ["queue"] spTrim) (D__law_unneeded : Dn P w K mg base "_law_unneeded" 2 ["queue", "fresh"] spUnneeded) : FnOk P w K mg base CX0 3 f fd ["places", "keys", "row", "phase", "written_first", "moments"] spPlayed := by
  refine F.ok scLawPlayed (fun vs H Q E h => ?_) (fun cdv A outer s H vs Q E hr h => ?_)
  · obtain ⟨_, _, _, _, _, _, _, rfl, _⟩ := h
    rfl
  · obtain ⟨p, bs, places, ph, kk, M, late, rfl, hp, ok, ph0, hK, hM, hM2, k⟩ := h
    generalize hb : bud bs ph = b at k
    have l1 := ok.l1
    have l2 := ok.l2
    refine ⟨_, (pss_cons (ps_set (i := 6) scLawPlayed.nd rfl (Or.inl rfl) (pe_lst pa_nil))
  (pss_cons (ps_for PassesOwn.never rfl (pi_range1 rfl B.range (pa_cons (pv 5) pa_nil)) (pg_name (i := 7) scLawPlayed.nd rfl (Or.inl rfl))
  (pss_cons (ps_set (i := 8) scLawPlayed.nd rfl (Or.inl rfl) (pe_cmpR op_ge (pe_callB (cr_sum rfl) (by rfl) B.sum (by decide +kernel) (pa_cons (pv 6) pa_nil)) (pv 1) (nomark _)))
  (C8.pss_cut (ps_if (PW.pt (pw_and (pt_val (pv 4)) (pw_and1 (pt_cmpR op_ge (pe_callB call_len_seq (by rfl) B.len PySem.boot_len (pa_cons (pv 6) pa_nil)) (pv 0) (nomark _))))) (pss_one (ps_ret (pv 7)))
  pss_nil)
  (C8.pss_cut (ps_if (pt_val (pv 4)) (pss_one (ps_set (i := 6) scLawPlayed.nd rfl (Or.inl rfl) (pe_op op_cat (pv 6) (pe_lst (pa_cons pe_int pa_nil)))))
  pss_nil)
  (C8.pss_cut (ps_if (pt_val (pv 8)) (pss_one (ps_set (i := 6) scLawPlayed.nd rfl (Or.inl rfl) (pe_dn D__law_unneeded (hr.mono (by decide)) (by rfl) pass0 (pa_cons (pv 6) (pa_cons (pe_callTy call_int1 (by rfl) B.intT (by decide +kernel) (pa_cons (pv 4) pa_nil)) pa_nil)))))
  pss_nil)
  (pss_cons (ps_set (i := 9) scLawPlayed.nd rfl (Or.inl rfl) (pe_op op_sub (pe_callB (cr_sum rfl) (by rfl) B.sum (by decide +kernel) (pa_cons (pv 6) pa_nil)) (pe_callTy call_int1 (by rfl) B.intT (by decide +kernel) (pa_cons (pv 4) pa_nil))))
  (pss_cons (ps_for PassesOwn.never rfl (pi_range1 rfl B.range (pa_cons (pe_callB (call_min2 rfl) (by rfl) B.min (by decide +kernel) (pa_cons (pv 9) (pa_cons (pe_ix ix_list (pv 2) (pe_op op_mod (pe_callTy call_int1 (by rfl) B.intT (by decide +kernel) (pa_cons (pe_op op_add (pv 3) (pv 7)) pa_nil)) (pe_callB call_len_seq (by rfl) B.len PySem.boot_len (pa_cons (pv 2) pa_nil))) (fun _ _ => rfl)) pa_nil))) pa_nil)) (pg_name (i := 10) scLawPlayed.nd rfl (Or.inl rfl))
  (pss_one (ps_if (pt_cmpR op_lt (pe_callB call_len_seq (by rfl) B.len PySem.boot_len (pa_cons (pv 6) pa_nil)) (pv 0) (nomark _)) (pss_one (ps_set (i := 6) scLawPlayed.nd rfl (Or.inl rfl) (pe_dn D__law_trim (hr.mono (by decide)) (by rfl) pass0 (pa_cons (pe_op op_cat (pe_slice sl_list (pv 6) (po_some pe_int) po_none) (pe_lst (pa_cons pe_int pa_nil))) pa_nil))))
  pss_nil)))
  (C8.pss_cut (ps_if (PW.pt (pw_and (pt_not (pt_val (pv 4))) (pw_and1 (pt_cmpR op_ge (pe_callB call_len_seq (by rfl) B.len PySem.boot_len (pa_cons (pv 6) pa_nil)) (pv 0) (nomark _))))) (pss_one (ps_ret (pv 7)))
  pss_nil)
  (pss_one (ps_if (pt_not (pt_val (pv 4))) (pss_one (ps_set (i := 6) scLawPlayed.nd rfl (Or.inl rfl) (pe_op op_cat (pv 6) (pe_lst (pa_cons pe_int pa_nil)))))
  pss_nil))))))))))
  (pss_one (ps_ret (pv 5))))), ?_⟩
    refine ⟨Nat.zero_le _, fun q0 hq0 => ?_⟩
    walk_at "rd"
    refine ⟨by omega, by omega, ?_⟩
    refine for_range (fun i σ H' => ∃ (q : Addr) (u : List Bool) (x7 x8 x9 x10 : Option V), σ = [some (.int places), some (.int kk), some (.ref p), some (.int ph), some (.bl late), some (.int M), some (.ref q), x7, x8, x9, x10] ∧ Same H H' ∧ H' q = some (LW u) ∧ StP places kk b late i u)
      ⟨q0, [], _, _, _, _, rfl, Same.upd hq0, upd_same, fun t ht => by omega, fun _ h => by omega, .inl ⟨rfl, fun h => by omega⟩⟩ ?_ ?_
    · rintro i σ H1 hi ⟨q, u, x7, x8, x9, x10, rfl, e1, hq, st⟩
      have hi2 : i < M := by omega
      have hu := st.len hK (by omega)
      refine ⟨_, rfl, q, bits u, rfl, SqL.of hq, _, rfl, _, _, rfl, rfl, ?_⟩
      rw [bits_sum]
      have stp : ∀ (r : Int), (r = (0 + i : Int)) → ¬ Nst places kk b late M → ∀ H', Same H1 H' → Q (.int r) H' := fun r hr hn H' e => k r H' ⟨fun h => absurd h (by omega), fun h => absurd h hn⟩ (e1.trans e)
      -- a late put without a place
      refine ⟨fun σ' H' => σ' = [some (.int places), some (.int kk), some (.ref p), some (.int ph), some (.bl late), some (.int M), some (.ref q), some (.int (0 + i)), some (.bl (decide ((kk : Int) ≤ one u))), x9, x10] ∧ H1 = H' ∧ (late = true → (u.length : Int) < places), ?_, ?_⟩
      · cases late
        · refine ⟨_, rfl, _, rfl, ?_⟩
          refine iteF ?_
          exact ⟨rfl, rfl, fun h => Bool.noConfusion h⟩
        · refine ⟨_, rfl, _, rfl, ?_⟩
          refine iteT ?_
          refine ⟨_, rfl, q, _, rfl, .inl (SqL.of hq), ?_⟩
          rw [bits_len]
          refine ⟨_, rfl, _, _, rfl, rfl, _, rfl, ?_⟩
          refine itd (fun h => ?_) (fun h => ?_)
          · exact ⟨_, rfl, stp _ rfl (st.stall hK hi2 h) _ (Same.refl _)⟩
          · exact ⟨rfl, rfl, fun _ => by omega⟩
      rintro σ' H' ⟨rfl, rfl, hlt⟩
      obtain ⟨rfl, go⟩ := st.go hlt
      have wl := W_len (b := b) hK i
      have ul := U_len (b := b) hK i
      have uh := U_hd (b := b) hK i
      generalize hW : W kk b i = u at *
      -- written first
      refine ⟨fun σ' H' => ∃ q2, σ' = [some (.int places), some (.int kk), some (.ref p), some (.int ph), some (.bl late), some (.int M), some (.ref q2), some (.int (0 + i)), some (.bl (decide ((kk : Int) ≤ one u))), x9, x10] ∧ Same H1 H' ∧ H' q2 = some (LW (u ++ fr late)), ?_, ?_⟩
      · cases late
        · refine ⟨_, rfl, _, rfl, ?_⟩
          refine iteF ?_
          exact ⟨q, rfl, Same.refl _, by rw [hq]; unfold fr; rw [if_neg Bool.false_ne_true, List.append_nil]⟩
        · refine ⟨_, rfl, _, rfl, ?_⟩
          refine iteT ?_
          refine ⟨_, rfl, by show 1 ≤ sizeLine; decide, fun p1 n1 => ?_⟩
          have ne1 : q ≠ p1 := fun e => by rw [e, n1] at hq; cases hq
          refine ⟨q, p1, _, _, rfl, rfl, by rw [upd_ne ne1]; exact hq, upd_same, ?_, fun p2 n2 => ?_⟩
          · rw [bits_len]
            show u.length + 1 ≤ sizeLine
            have := sline
            omega
          · exact ⟨p2, rfl, (Same.upd n1).trans (Same.upd n2), by rw [upd_same]; show _ = some (LW (u ++ [true])); unfold LW; rw [bits_app]; rfl⟩
      rintro σ' H2 ⟨q2, rfl, e2, hq2⟩
      -- the old record of the key is no longer needed
      refine ⟨fun σ' H' => ∃ q3, σ' = [some (.int places), some (.int kk), some (.ref p), some (.int ph), some (.bl late), some (.int M), some (.ref q3), some (.int (0 + i)), some (.bl (decide ((kk : Int) ≤ one u))), x9, x10] ∧ Same H1 H' ∧ H' q3 = some (LW (U kk u ++ fr late)), ?_, ?_⟩
      · refine ⟨_, rfl, _, rfl, ?_⟩
        have wc := W_cases (b := b) hK i
        rw [hW] at wc
        rcases wc with ⟨c1, c2, c3, c4⟩ | ⟨c1, v, c2, c3, c4, c5⟩
        · rw [decide_eq_false (by omega)]
          refine iteF ?_
          exact ⟨q2, rfl, e2, by rw [c3]; exact hq2⟩
        · rw [decide_eq_true (by omega)]
          refine iteT ?_
          have hvl : v.length < 9000 := by
            have : u.length = v.length + 1 := by rw [c2, List.length_append]; rfl
            omega
          refine ⟨_, rfl, _, rfl, .inr ⟨late, rfl, ?_⟩⟩
          refine ⟨q2, v, fr late, _, rfl, by rw [hq2, c2], hvl, ?_, fun q3 H3 n3 h3 e3 => ?_⟩
          · cases late
            · exact .inl ⟨rfl, rfl⟩
            · exact .inr ⟨rfl, rfl⟩
          · exact ⟨q3, rfl, e2.trans e3, by rw [c5]; exact h3⟩
      rintro σ' H3 ⟨q3, rfl, e3, hq3⟩
      have hub : unb places kk b late i ↔ ((U kk u ++ fr late).length : Int) < places := by
        unfold unb
        rw [hW, List.length_append]
        have := fr_len late
        cases late <;> simp only [Bool.false_eq_true, if_true, if_false] at this ⊢ <;> omega
      have hf1 : one (fr late) = if late then 1 else 0 := by cases late <;> rfl
      generalize hU : U kk u = y at *
      refine ⟨_, rfl, q3, bits (y ++ fr late), rfl, SqL.of hq3, _, rfl, .inr ⟨late, rfl, ?_⟩⟩
      rw [bits_sum, one_app, hf1]
      refine ⟨_, _, rfl, rfl, ?_⟩
      have ho : (((one y + if late = true then 1 else 0 : Nat) : Int) - if late = true then 1 else 0) = one y := by split <;> simp
      dsimp only
      rw [ho]
      -- the records are carried
      obtain ⟨z, hz, z0, zb⟩ := bud_at (ph := ph) ok i
      rw [hb] at zb
      have m0 := Int.emod_nonneg (ph + i) (show (bs.length : Int) ≠ 0 by omega)
      have m1 := Int.emod_lt_of_pos (ph + i) (show (0 : Int) < bs.length by omega)
      have hp3 := e3 _ _ (e1 _ _ hp)
      refine ⟨_, rfl, _, rfl, _, rfl, _, rfl, _, _, rfl, rfl, .inl ⟨_, rfl, _, rfl, p, _, rfl, .inl (SqL.of hp3), ?_⟩⟩
      rw [List.length_map]
      refine ⟨_, _, rfl, rfl, (by omega), p, _, _, _, rfl, rfl, SqL.of hp3, at_of (j := ((ph + i) % bs.length).toNat) (v := .int z) (by rw [Int.zero_add]; omega) (by rw [List.getElem?_map, hz]; rfl), ?_⟩
      refine ⟨_, _, rfl, ?_⟩
      walk_at "rd"
      have hmin : (if z < (one y : Int) then z else (one y : Int)) = ((min (one y) (b i) : Nat) : Int) := by split <;> omega
      rw [hmin]
      have hy : one y ≤ 3000 := by have := wlen y; omega
      refine ⟨by omega, by omega, ?_⟩
      refine for_range (fun j σ H' => ∃ (q4 : Addr) (x : Option V) (v : List Bool), σ = [some (.int places), some (.int kk), some (.ref p), some (.int ph), some (.bl late), some (.int M), some (.ref q4), some (.int (0 + i)), some (.bl (decide ((kk : Int) ≤ one u))), some (.int (one y)), x] ∧ Same H3 H' ∧ H' q4 = some (LW (v ++ fr late)) ∧ (((y ++ fr late).length : Int) < places → v = carries j y) ∧ (¬ ((y ++ fr late).length : Int) < places → v = y))
        ⟨q3, _, y, rfl, Same.refl _, hq3, fun _ => rfl, fun _ => rfl⟩ ?_ ?_
      · rintro j σ H4 hj ⟨q4, x, v, rfl, e4, hq4, v1, v2⟩
        have hj2 : j < one y := by omega
        have hj3 := carries_dat uh (n := j) (.inr (by omega))
        have lf : (fr late).length ≤ 1 := by cases late <;> decide
        have lv : v.length ≤ y.length := by
          by_cases c : ((y ++ fr late).length : Int) < places
          · rw [v1 c]
            exact carries_len uh (by omega)
          · rw [v2 c]; exact Nat.le_refl _
        refine ⟨_, rfl, q4, _, rfl, .inl (SqL.of hq4), ?_⟩
        rw [bits_len]
        refine ⟨_, rfl, _, _, rfl, rfl, _, rfl, ?_⟩
        refine itd (fun h => ?_) (fun h => ?_)
        · have hun : ((y ++ fr late).length : Int) < places := by
            by_cases c : ((y ++ fr late).length : Int) < places
            · exact c
            · rw [v2 c] at h; exact h
          have hv := v1 hun
          refine ⟨_, rfl, _, rfl, q4, _, rfl, SqL.of hq4, fun p1 n1 => ?_⟩
          refine ⟨by show 1 ≤ sizeLine; decide, fun p2 n2 => ?_⟩
          have ec : cutV ((bits (v ++ fr late)).map V.int) (some (1 : Int)) none = (bits ((v ++ fr late).drop 1)).map V.int := by
            rw [show (1 : Int) = ((1 : Nat) : Int) from rfl, cut_from, bits_drop]
          rw [ec] at n2 ⊢
          have h12 : p1 ≠ p2 := fun e => by rw [e, upd_same] at n2; cases n2
          refine ⟨p1, p2, _, _, rfl, rfl, by rw [upd_ne h12]; exact upd_same, upd_same, ?_, fun p3 n3 => ?_⟩
          · rw [bits_len, List.length_drop, List.length_append]
            show v.length + (fr late).length - 1 + 1 ≤ sizeLine
            have := sline
            omega
          refine ⟨p3, (v ++ fr late).drop 1 ++ [true], rfl, by rw [upd_same]; unfold LW; rw [bits_app]; rfl, ?_, fun p4 H5 n5 h5 e5 => ?_⟩
          · rw [List.length_append, List.length_drop, List.length_append]
            show v.length + (fr late).length - 1 + 1 < 10000
            omega
          refine ⟨p4, _, carry v, rfl, e4.trans ((((Same.upd n1).trans (Same.upd n2)).trans (Same.upd n3)).trans e5), ?_, fun _ => by rw [hv]; rfl, fun c => absurd hun c⟩
          rw [h5, carry_f (by cases late; exact .inl rfl; exact .inr rfl) (by rw [hv]; exact ne_of_one (by omega))]
        · have hun : ¬ ((y ++ fr late).length : Int) < places := fun c => by
            apply h
            rw [List.length_append] at c ⊢
            omega
          exact ⟨q4, _, v, rfl, e4, hq4, fun c => absurd c hun, fun _ => v2 hun⟩
      rintro σ H4 ⟨q4, x, v, rfl, e4, hq4, v1, v2⟩
      rw [Int.toNat_natCast] at v1
      have cl := carries_len uh (c := min (one y) (b i)) (by omega)
      have ll : v.length ≤ y.length := by
        by_cases c : ((y ++ fr late).length : Int) < places
        · rw [v1 c]; exact cl
        · rw [v2 c]; exact Nat.le_refl _
      have e34 := e3.trans e4
      -- an early put without a place
      refine ⟨fun σ' H' => σ' = [some (.int places), some (.int kk), some (.ref p), some (.int ph), some (.bl late), some (.int M), some (.ref q4), some (.int (0 + i)), some (.bl (decide ((kk : Int) ≤ one u))), some (.int (one y)), x] ∧ H4 = H' ∧ (late = false → unb places kk b late i), ?_, ?_⟩
      · cases late
        · refine ⟨_, rfl, _, rfl, ?_⟩
          refine iteT ?_
          refine ⟨_, rfl, q4, _, rfl, .inl (SqL.of hq4), ?_⟩
          rw [bits_len]
          refine ⟨_, rfl, _, _, rfl, rfl, _, rfl, ?_⟩
          refine itd (fun h => ?_) (fun h => ?_)
          · refine ⟨_, rfl, stp _ rfl (GoP.stall hi2 fun c => ?_) _ e34⟩
            have c := hub.mp c
            rw [v1 c, List.length_append] at h
            rw [List.length_append] at c
            omega
          · refine ⟨rfl, rfl, fun _ => hub.mpr ?_⟩
            by_cases c : ((y ++ fr false).length : Int) < places
            · exact c
            · rw [v2 c] at h; omega
        · refine ⟨_, rfl, _, rfl, ?_⟩
          refine iteF ?_
          exact ⟨rfl, rfl, fun h => Bool.noConfusion h⟩
      rintro σ' H' ⟨rfl, rfl, hun⟩
      have hWn : carries (min (one y) (b i)) y ++ [true] = W kk b (i + 1) := by
        show _ = carries (min (one (U kk (W kk b i))) (b i)) (U kk (W kk b i)) ++ [true]
        rw [hW, hU]
      cases late
      · refine ⟨_, rfl, _, rfl, ?_⟩
        refine iteT ?_
        refine ⟨_, rfl, by show 1 ≤ sizeLine; decide, fun p1 n1 => ?_⟩
        have ne1 : q4 ≠ p1 := fun e => by rw [e, n1] at hq4; cases hq4
        refine ⟨q4, p1, _, _, rfl, rfl, by rw [upd_ne ne1]; exact hq4, upd_same, ?_, fun p2 n2 => ?_⟩
        · rw [bits_len, List.length_append]
          show v.length + 0 + 1 ≤ sizeLine
          have := sline
          omega
        · refine ⟨p2, v ++ [true], _, _, _, _, rfl, e1.trans (e34.trans ((Same.upd n1).trans (Same.upd n2))), ?_, ?_⟩
          · rw [upd_same]; show _ = some (LW (v ++ [true])); unfold LW; rw [bits_app, bits_app, show fr false = [] from rfl]; simp only [bits, List.map_nil, List.append_nil]; rfl
          · rw [v1 (hub.mp (hun rfl)), hWn]
            exact go.next (hun rfl)
      · refine ⟨_, rfl, _, rfl, ?_⟩
        refine iteF ?_
        refine ⟨q4, v ++ [true], _, _, _, _, rfl, e1.trans e34, hq4, ?_⟩
        by_cases c : unb places kk b true i
        · rw [v1 (hub.mp c), hWn]
          exact go.next c
        · refine go.block c ?_ hK (by omega)
          rw [v2 (fun h => c (hub.mpr h)), hW, hU]
    · rintro σ H1 ⟨q, u, x7, x8, x9, x10, rfl, e1, hq, st⟩
      refine ⟨_, rfl, k M H1 ⟨fun _ => ?_, fun _ => rfl⟩ e1⟩
      rw [show ((M : Int)).toNat = M by omega] at st
      exact st.done hM
def spStalls : Sp := fun vs H Q _ => ∃ (p : Addr) (bs : List Int) (m n ph : Int) (late : Bool), vs = [.ref p, .int m, .int n, .int ph, .bl late] ∧ H p = some (.lst (bs.map V.int)) ∧ Okb bs ∧ 0 ≤ ph ∧ 1 ≤ n ∧ m ≤ 30 ∧
  ∀ (H' : Hp), Same H H' → Q (.bl (goes bs m n)) H'
theorem scLawNeverStalls : FnScope ["row", "room", "keys", "phase", "written_first", "places", "moments"] ["row", "room", "keys", "phase", "written_first"] (defScope sLawNeverStalls) := ⟨rfl, rfl, rfl, by decide +kernel, rfl, by decide +kernel, by decide +kernel⟩
theorem ok_stalls {f : Addr} {fd : FuncData} (F : Fun K "_law_never_stalls" "_law_never_stalls" sLawNeverStalls f fd) (B : Bi mg) (D__law_played : Dn P w K mg base "_law_played" 3 ["places", "keys", "row", "phase", "written_first", "moments"] spPlayed) : FnOk P w K mg base CX0 4 f fd ["row", "room", "keys", "phase", "written_first"] spStalls := by
  refine F.ok scLawNeverStalls (fun vs H Q E h => ?_) (fun cdv A outer s H vs Q E hr h => ?_)
  · obtain ⟨_, _, _, _, _, _, rfl, _⟩ := h
    rfl
  · obtain ⟨p, bs, m, n, ph, late, rfl, hp, ok, ph0, n1, m1, k⟩ := h
    have l1 := ok.l1
    have l2 := ok.l2
    refine ⟨_, (pss_cons (ps_set (i := 5) scLawNeverStalls.nd rfl (Or.inl rfl) (pe_op op_add (pv 1) (pe_callTy call_int1 (by rfl) B.intT (by decide +kernel) (pa_cons (pv 4) pa_nil))))
  (pss_cons (ps_set (i := 6) scLawNeverStalls.nd rfl (Or.inl rfl) (pe_op op_add (pe_op op_add (pe_callB (call_max2 rfl) (by rfl) B.max (by decide +kernel) (pa_cons pe_int (pa_cons (pv 5) pa_nil))) (pe_callB call_len_seq (by rfl) B.len PySem.boot_len (pa_cons (pv 0) pa_nil))) pe_int))
  (pss_one (ps_ret (pe_cmpR op_eq (pe_dn D__law_played (hr.mono (by decide)) (by rfl) pass0 (pa_cons (pv 5) (pa_cons (pv 2) (pa_cons (pv 0) (pa_cons (pv 3) (pa_cons (pv 4) (pa_cons (pv 6) pa_nil))))))) (pv 6) (nomark _)))))), ?_⟩
    refine ⟨_, rfl, _, rfl, .inr ⟨late, rfl, _, _, rfl, rfl, ?_⟩⟩
    refine ⟨_, rfl, _, _, rfl, ?_⟩
    dsimp only
    obtain ⟨M, hM⟩ : ∃ M : Nat, (M : Int) = (if m + (if late then 1 else 0) > 0 then m + (if late then 1 else 0) else 0) + bs.length + 2 := ⟨((if m + (if late then 1 else 0) > 0 then m + (if late then 1 else 0) else 0) + bs.length + 2).toNat, by split <;> omega⟩
    obtain ⟨N, rfl⟩ : ∃ N : Nat, n = N := ⟨n.toNat, by omega⟩
    have key := nst_goes (ph := ph) (room := m) (K := N) (late := late) ok (by omega) hM
    refine ⟨_, rfl, p, _, rfl, .inl (SqL.of hp), ?_⟩
    rw [List.length_map]
    refine ⟨_, _, rfl, rfl, _, _, rfl, rfl, ?_⟩
    dsimp only
    rw [← hM]
    refine ⟨_, rfl, _, rfl, _, rfl, _, rfl, _, rfl, _, rfl, p, bs, _, ph, N, M, late, rfl, hp, ok, ph0, by omega, by omega, by split at hM <;> split at hM <;> omega, fun r H' hr e => ?_⟩
    refine ⟨_, rfl, ?_⟩
    have q := k H' e
    have e2 : decide (V.int r = V.int M) = goes bs m N := by
      cases g : goes bs m N
      · refine decide_eq_false fun h => ?_
        have := key.mp (hr.mp (V.int.inj h))
        rw [g] at this; cases this
      · exact decide_eq_true (by rw [hr.mpr (key.mpr g)])
    rw [← e2] at q
    walk_at "rd"
    exact q
end
end Cl

/-! ### law k02: the terms, and what is told -/
namespace Cl
open StX ClX
section
variable {P : Program} {w : World} {K : PySem.W.Frag} {mg : Str → Option Value} {base : Heap} {C : Addr}
def spWidth : Sp := fun vs H Q _ => ∃ (a p : Addr) (bs : List Int) (n : Int), vs = [.ref a, .ref p, .int n] ∧ BagAt H a ∧ p ≠ a ∧ H p = some (.lst (bs.map V.int)) ∧ Okb bs ∧ 1 ≤ n ∧ n ≤ 100000000000000000000000000000 ∧
  ∀ (d : Int) (H' : Hp), -3 ≤ d → d ≤ 12 * n + 30 → BagAt H' a → But a H H' → Q (.int d) H'
theorem scLawWidth : FnScope ["bag", "row", "keys", "way", "edge"] ["bag", "row", "keys"] (defScope sLawWidth) := ⟨rfl, rfl, rfl, by decide +kernel, rfl, by decide +kernel, by decide +kernel⟩
theorem ok_width {f : Addr} {fd : FuncData} (F : Fun K "_law_width" "_law_width" sLawWidth f fd) (B : Bi mg) (D__law_take : Dn P w K mg base "_law_take" 1 ["bag", "size"] spTake) (D__law_edge : Dn P w K mg base "_law_edge" 3 ["row", "need"] spEdge) :
    FnOk P w K mg base CX0 4 f fd ["bag", "row", "keys"] spWidth := by
  refine F.ok scLawWidth (fun vs H Q E h => ?_) (fun cdv A outer s H vs Q E hr h => ?_)
  · obtain ⟨_, _, _, _, rfl, _⟩ := h
    rfl
  · obtain ⟨a, p, bs, n, rfl, hB, pa, hp, ok, n1, n2, k⟩ := h
    refine ⟨_, (pss_cons (ps_set (i := 3) scLawWidth.nd rfl (Or.inl rfl) (pe_dn D__law_take (hr.mono (by decide)) (by rfl) pass0 (pa_cons (pv 0) (pa_cons pe_int pa_nil))))
  (pss_cons (ps_if (pt_cmpR op_eq (pv 3) pe_int (nomark _)) (pss_one (ps_ret (pe_dn D__law_take (hr.mono (by decide)) (by rfl) pass0 (pa_cons (pv 0) (pa_cons pe_int pa_nil)))))
  pss_nil)
  (pss_cons (ps_if (pt_cmpR op_eq (pv 3) pe_int (nomark _)) (pss_one (ps_ret pe_int))
  pss_nil)
  (pss_cons (ps_if (pt_cmpR op_eq (pv 3) pe_int (nomark _)) (pss_one (ps_ret (pe_op op_sub (pe_op op_sub pe_int pe_int) (pe_dn D__law_take (hr.mono (by decide)) (by rfl) pass0 (pa_cons (pv 0) (pa_cons pe_int pa_nil))))))
  pss_nil)
  (pss_cons (ps_set (i := 4) scLawWidth.nd rfl (Or.inl rfl) (pe_dn D__law_edge (hr.mono (by decide)) (by rfl) pass0 (pa_cons (pv 1) (pa_cons (pe_op op_sub (pv 2) pe_int) pa_nil))))
  (pss_cons (ps_if (pt_cmpR op_isN (pv 4) pe_non (nomark _)) (pss_one (ps_ret (pe_dn D__law_take (hr.mono (by decide)) (by rfl) pass0 (pa_cons (pv 0) (pa_cons pe_int pa_nil)))))
  pss_nil)
  (pss_one (ps_ret (pe_op op_sub (pe_op op_add (pv 4) (pe_dn D__law_take (hr.mono (by decide)) (by rfl) pass0 (pa_cons (pv 0) (pa_cons pe_int pa_nil)))) pe_int))))))))), ?_⟩
    walk_at "rd"
    refine ⟨hB, by decide, by decide, fun way H1 _ _ hB1 b1 => ?_⟩
    have hp1 := b1 p _ pa hp
    walk_at "rd"
    refine iti (fun _ => ?_) (fun _ => ?_)
    · walk_at "rd"
      exact ⟨hB1, by decide, by decide, fun d H2 d0 d1 hB2 b2 => k d H2 (by omega) (by omega) hB2 (b1.trans b2)⟩
    walk_at "rd"
    refine iti (fun _ => ?_) (fun _ => ?_)
    · walk_at "rd"
      exact k 0 H1 (by omega) (by omega) hB1 b1
    walk_at "rd"
    refine iti (fun _ => ?_) (fun _ => ?_)
    · walk_at "rd"
      refine ⟨hB1, by decide, by decide, fun d H2 d0 d1 hB2 b2 => ?_⟩
      walk_at "rd"
      exact k (0 - 1 - d) H2 (by omega) (by omega) hB2 (b1.trans b2)
    walk_at "rd"
    refine ⟨p, bs, _, rfl, hp1, ok, by omega, by omega, fun v H2 hv e2 => ?_⟩
    have hB2 := hB1.same e2
    rcases hv with rfl | ⟨x, rfl, x0, x1⟩
    · walk_at "rd"
      exact ⟨hB2, by decide, by decide, fun d H3 d0 d1 hB3 b3 => k d H3 (by omega) (by omega) hB3 ((b1.trans (But.of e2)).trans b3)⟩
    · walk_at "rd"
      refine ⟨hB2, by decide, by decide, fun d H3 d0 d1 hB3 b3 => ?_⟩
      walk_at "rd"
      exact k (x + d - 2) H3 (by omega) (by omega) hB3 ((b1.trans (But.of e2)).trans b3)
def spTerms : Sp := fun vs H Q _ => ∃ (a p : Addr) (bs : List Int), vs = [.ref a, .ref p] ∧ BagAt H a ∧ p ≠ a ∧ H p = some (.lst (bs.map V.int)) ∧ Okb bs ∧
  ∀ (q : Addr) (places limit : Int) (late : Bool) (tears readers : Int) (H' : Hp), H' q = some (.tup [.int places, .int limit, .bl late, .int tears, .int readers]) → 1 ≤ places → places ≤ 10000000000000000000000000000000 → 1 ≤ limit → limit ≤ 100000000000000000000000000000 → limit * (readers + 1) ≤ 100000000000000000000000000000 → Ord late tears readers → BagAt H' a → But a H H' → Q (.ref q) H'
theorem scLawTerms : FnScope ["bag", "row", "written_first", "tear_count", "reader_count", "limit", "keys", "places"] ["bag", "row"] (defScope sLawTerms) := ⟨rfl, rfl, rfl, by decide +kernel, rfl, by decide +kernel, by decide +kernel⟩
theorem ok_terms {f : Addr} {fd : FuncData} (F : Fun K "_law_terms" "_law_terms" sLawTerms f fd) (B : Bi mg) (D__law_take : Dn P w K mg base "_law_take" 1 ["bag", "size"] spTake) (D__law_number : Dn P w K mg base "_law_number" 2 ["bag", "most"] spNumber)
    (D__law_width : Dn P w K mg base "_law_width" 4 ["bag", "row", "keys"] spWidth) : FnOk P w K mg base CX0 5 f fd ["bag", "row"] spTerms := by
  refine F.ok scLawTerms (fun vs H Q E h => ?_) (fun cdv A outer s H vs Q E hr h => ?_)
  · obtain ⟨_, _, _, rfl, _⟩ := h
    rfl
  · obtain ⟨a, p, bs, rfl, hB, pa, hp, ok, k⟩ := h
    refine ⟨_, (pss_cons (ps_set (i := 2) scLawTerms.nd rfl (Or.inl rfl) (pe_cmpR op_eq (pe_dn D__law_take (hr.mono (by decide)) (by rfl) pass0 (pa_cons (pv 0) (pa_cons pe_int pa_nil))) pe_int (nomark _)))
  (pss_cons (ps_set (i := 3) scLawTerms.nd rfl (Or.inl rfl) pe_int)
  (pss_cons (ps_set (i := 4) scLawTerms.nd rfl (Or.inl rfl) pe_int)
  (pss_cons (ps_set (i := 5) scLawTerms.nd rfl (Or.inl rfl) (pe_op op_add pe_int (pe_dn D__law_take (hr.mono (by decide)) (by rfl) pass0 (pa_cons (pv 0) (pa_cons pe_int pa_nil)))))
  (C8.pss_cut (ps_if (pt_cmpR op_eq (pe_dn D__law_take (hr.mono (by decide)) (by rfl) pass0 (pa_cons (pv 0) (pa_cons pe_int pa_nil))) pe_int (nomark _)) (pss_one (ps_set (i := 5) scLawTerms.nd rfl (Or.inl rfl) (pe_op op_add pe_int (pe_dn D__law_number (hr.mono (by decide)) (by rfl) pass0 (pa_cons (pv 0) (pa_cons (pe_op op_sub (pe_op op_pow pe_int pe_int) pe_int) pa_nil))))))
  pss_nil)
  (C8.pss_cut (ps_if (PW.pt (pw_and (pt_val (pv 2)) (pw_and1 (pt_cmpR op_eq (pe_dn D__law_take (hr.mono (by decide)) (by rfl) pass0 (pa_cons (pv 0) (pa_cons pe_int pa_nil))) pe_int (nomark _))))) (pss_one (ps_set (i := 3) scLawTerms.nd rfl (Or.inl rfl) (pe_dn D__law_number (hr.mono (by decide)) (by rfl) pass0 (pa_cons (pv 0) (pa_cons (pe_op op_pow pe_int pe_int) pa_nil)))))
  pss_nil)
  (C8.pss_cut (ps_if (PW.pt (pw_and (pt_not (pt_val (pv 2))) (pw_and1 (pt_cmpR op_eq (pe_dn D__law_take (hr.mono (by decide)) (by rfl) pass0 (pa_cons (pv 0) (pa_cons pe_int pa_nil))) pe_int (nomark _))))) (pss_one (ps_set (i := 4) scLawTerms.nd rfl (Or.inl rfl) (pe_dn D__law_take (hr.mono (by decide)) (by rfl) pass0 (pa_cons (pv 0) (pa_cons pe_int pa_nil)))))
  pss_nil)
  (C8.pss_cut (ps_if (PW.pt (pw_and (pt_not (pt_val (pv 2))) (pw_and1 (pt_cmpR op_eq (pe_dn D__law_take (hr.mono (by decide)) (by rfl) pass0 (pa_cons (pv 0) (pa_cons pe_int pa_nil))) pe_int (nomark _))))) (pss_one (ps_set (i := 4) scLawTerms.nd rfl (Or.inl rfl) (pe_dn D__law_number (hr.mono (by decide)) (by rfl) pass0 (pa_cons (pv 0) (pa_cons (pe_op op_pow pe_int pe_int) pa_nil)))))
  pss_nil)
  (C8.pss_cut (ps_if (pt_cmpR op_gt (pv 4) pe_int (nomark _)) (pss_one (ps_set (i := 5) scLawTerms.nd rfl (Or.inl rfl) (pe_callB (call_min2 rfl) (by rfl) B.min (by decide +kernel) (pa_cons (pv 5) (pa_cons (pe_op op_pow pe_int pe_int) pa_nil)))))
  pss_nil)
  (pss_cons (ps_set (i := 6) scLawTerms.nd rfl (Or.inl rfl) (pe_op op_mulW (pv 5) (pe_op op_add (pv 4) pe_int)))
  (pss_cons (ps_set (i := 7) scLawTerms.nd rfl (Or.inl rfl) (pe_op op_add (pv 6) (pe_dn D__law_width (hr.mono (by decide)) (by rfl) pass0 (pa_cons (pv 0) (pa_cons (pv 1) (pa_cons (pv 6) pa_nil))))))
  (C8.pss_cut (ps_if (pt_val (pv 2)) (pss_one (ps_set (i := 7) scLawTerms.nd rfl (Or.inl rfl) (pe_op op_add (pe_op op_add (pv 7) pe_int) (pv 3))))
  pss_nil)
  (pss_one (ps_ret (pe_tup (pa_cons (pe_callB (call_max2 rfl) (by rfl) B.max (by decide +kernel) (pa_cons pe_int (pa_cons (pv 7) pa_nil))) (pa_cons (pv 5) (pa_cons (pv 2) (pa_cons (pv 3) (pa_cons (pv 4) pa_nil)))))))))))))))))))), ?_⟩
    walk_at "rd"
    refine ⟨hB, by decide, by decide, fun lt H1 _ _ hB1 b1 => ?_⟩
    walk_at "rd"
    refine ⟨hB1, by decide, by decide, fun l0 H2 l00 l01 hB2 b2 => ?_⟩
    replace b2 := b1.trans b2
    generalize decide (V.int lt = V.int 1) = late
    have p28 : (10 : Int) ^ (28 : Int).toNat = 10000000000000000000000000000 := by decide
    have p29 : (10 : Int) ^ (29 : Int).toNat = 100000000000000000000000000000 := by decide
    have p20 : (10 : Int) ^ (20 : Int).toNat = 100000000000000000000 := by decide
    have p6 : (10 : Int) ^ (6 : Int).toNat = 1000000 := by decide
    refine ⟨_, _, rfl, rfl, ?_⟩
    refine ⟨fun σ H' => ∃ l, σ = [some (V.ref a), some (V.ref p), some (V.bl late), some (V.int 0), some (V.int 0), some (V.int l), none, none] ∧ 1 ≤ l ∧ l ≤ 10000000000000000000000000000 ∧ BagAt H' a ∧ But a H H', ?_, ?_⟩
    · walk_at "rd"
      refine ⟨hB2, by decide, by decide, fun d H3 _ _ hB3 b3 => ?_⟩
      walk_at "rd"
      refine iti (fun _ => ?_) (fun _ => ?_)
      · walk_at "rd"
        refine ⟨hB3, by decide, by decide, fun d H4 d0 d1 hB4 b4 => ?_⟩
        rw [p28] at d1
        exact ⟨_, _, rfl, rfl, _, rfl, by omega, by omega, hB4, (b2.trans b3).trans b4⟩
      · exact ⟨_, rfl, by omega, by omega, hB3, b2.trans b3⟩
    rintro σ H3 ⟨l, rfl, l1, l2, hB3, b3⟩
    refine ⟨fun σ H' => ∃ l t, σ = [some (V.ref a), some (V.ref p), some (V.bl late), some (V.int t), some (V.int 0), some (V.int l), none, none] ∧ 1 ≤ l ∧ l ≤ 10000000000000000000000000000 ∧ 0 ≤ t ∧ t ≤ 100000000000000000000000000000 ∧ (late = false → t = 0) ∧ BagAt H' a ∧ But a H H', ?_, ?_⟩
    · cases late
      · refine ⟨_, rfl, _, rfl, ?_⟩
        refine iteF ?_
        exact ⟨_, _, rfl, l1, l2, by omega, by omega, fun _ => rfl, hB3, b3⟩
      · refine ⟨_, rfl, _, rfl, ?_⟩
        refine iteT ?_
        walk_at "rd"
        refine ⟨hB3, by decide, by decide, fun d H4 _ _ hB4 b4 => ?_⟩
        walk_at "rd"
        refine iti (fun _ => ?_) (fun _ => ?_)
        · walk_at "rd"
          refine ⟨hB4, by decide, by decide, fun d H5 d0 d1 hB5 b5 => ?_⟩
          rw [p29] at d1
          exact ⟨_, _, rfl, l1, l2, d0, d1, fun h => Bool.noConfusion h, hB5, (b3.trans b4).trans b5⟩
        · exact ⟨_, _, rfl, l1, l2, by omega, by omega, fun _ => rfl, hB4, b3.trans b4⟩
    rintro σ H4 ⟨l, t, rfl, l1, l2, t1, t2, te, hB4, b4⟩
    refine ⟨fun σ H' => ∃ r, σ = [some (V.ref a), some (V.ref p), some (V.bl late), some (V.int t), some (V.int r), some (V.int l), none, none] ∧ 0 ≤ r ∧ r ≤ 1000000 ∧ (late = true → r = 0) ∧ BagAt H' a ∧ But a H H', ?_, ?_⟩
    · cases late
      · refine ⟨_, rfl, _, rfl, ?_⟩
        refine iteT ?_
        walk_at "rd"
        refine ⟨hB4, by decide, by decide, fun d H5 _ _ hB5 b5 => ?_⟩
        walk_at "rd"
        refine iti (fun _ => ?_) (fun _ => ?_)
        · walk_at "rd"
          refine ⟨hB5, by decide, by decide, fun d H6 d0 d1 hB6 b6 => ?_⟩
          exact ⟨_, rfl, d0, by omega, fun h => Bool.noConfusion h, hB6, (b4.trans b5).trans b6⟩
        · exact ⟨_, rfl, by omega, by omega, fun _ => rfl, hB5, b4.trans b5⟩
      · refine ⟨_, rfl, _, rfl, ?_⟩
        refine iteF ?_
        exact ⟨_, rfl, by omega, by omega, fun _ => rfl, hB4, b4⟩
    rintro σ H5 ⟨r, rfl, r1, r2, re, hB5, b5⟩
    refine ⟨fun σ H' => ∃ r, σ = [some (V.ref a), some (V.ref p), some (V.bl late), some (V.int t), some (V.int r), some (V.int l), none, none] ∧ 0 ≤ r ∧ r ≤ 1000000 ∧ (late = true → r = 0) ∧ BagAt H' a ∧ But a H H', ?_, ?_⟩
    · cases late
      · refine ⟨_, rfl, _, rfl, ?_⟩
        refine iteT ?_
        walk_at "rd"
        refine ⟨hB5, by decide, by decide, fun d H6 _ _ hB6 b6 => ?_⟩
        walk_at "rd"
        refine iti (fun _ => ?_) (fun _ => ?_)
        · walk_at "rd"
          refine ⟨hB6, by decide, by decide, fun d H7 d0 d1 hB7 b7 => ?_⟩
          rw [p6] at d1
          exact ⟨_, rfl, d0, by omega, fun h => Bool.noConfusion h, hB7, (b5.trans b6).trans b7⟩
        · exact ⟨_, rfl, r1, r2, fun h => Bool.noConfusion h, hB6, b5.trans b6⟩
      · refine ⟨_, rfl, _, rfl, ?_⟩
        refine iteF ?_
        exact ⟨_, rfl, r1, r2, re, hB5, b5⟩
    clear r1 r2 re
    rintro σ H6 ⟨r, rfl, r1, r2, re, hB6, b6⟩
    refine ⟨fun σ H' => ∃ l, σ = [some (V.ref a), some (V.ref p), some (V.bl late), some (V.int t), some (V.int r), some (V.int l), none, none] ∧ 1 ≤ l ∧ l ≤ 10000000000000000000000000000 ∧ (r ≤ 4 ∨ l ≤ 100000000000000000000) ∧ H6 = H', ?_, ?_⟩
    · walk_at "rd"
      refine itd (fun h => ?_) (fun h => ?_)
      · walk_at "rd"
        rw [p20]
        refine ⟨?_, ?_, .inr ?_, rfl⟩ <;> (split <;> omega)
      · exact ⟨_, rfl, l1, l2, .inl (by omega), rfl⟩
    clear l1 l2
    rintro σ H' ⟨l, rfl, l1, l2, lr, rfl⟩
    have hlr : l * (r + 1) ≤ 100000000000000000000000000000 := by
      rcases lr with h | h
      · have := Int.mul_le_mul_of_nonneg_left (show r + 1 ≤ 5 by omega) (show 0 ≤ l by omega)
        omega
      · have a1 := Int.mul_le_mul_of_nonneg_left (show r + 1 ≤ 1000001 by omega) (show 0 ≤ l by omega)
        omega
    have k0 := keys_pos l1 r1
    walk_at "rd"
    refine ⟨mulB (by omega) (by omega) (by omega) (by omega), ?_⟩
    walk_at "rd"
    refine ⟨a, p, bs, _, rfl, hB6, pa, b6 p _ pa hp, ok, k0, hlr, fun d H7 d0 d1 hB7 b7 => ?_⟩
    replace b7 := b6.trans b7
    walk_at "rd"
    refine ⟨fun σ H' => ∃ pl, σ = [some (V.ref a), some (V.ref p), some (V.bl late), some (V.int t), some (V.int r), some (V.int l), some (V.int (l * (r + 1))), some (V.int pl)] ∧ pl ≤ 10000000000000000000000000000000 ∧ H7 = H', ?_, ?_⟩
    · cases late
      · refine ⟨_, rfl, _, rfl, ?_⟩
        refine iteF ?_
        exact ⟨_, rfl, by omega, rfl⟩
      · refine ⟨_, rfl, _, rfl, ?_⟩
        refine iteT ?_
        walk_at "rd"
        exact ⟨by omega, rfl⟩
    rintro σ H' ⟨pl, rfl, pl1, rfl⟩
    walk_at "rd"
    refine ⟨(by show 5 ≤ sizeLine; decide), fun q hq => ?_⟩
    refine k q _ l late t r _ upd_same ?_ ?_ l1 (by omega) hlr ⟨t1, r1, by omega, by omega, te, re⟩ (hB7.same (Same.upd hq)) (b7.trans (But.of (Same.upd hq)))
    · split <;> omega
    · split <;> omega
theorem kit_tt {K : PySem.W.Frag} : PySem.W.kitOne K (.type "tuple") (.type "tuple") = some true := by unfold PySem.W.kitOne; simp
/-- a list of pairs, all alike -/
def AllPair (H : Hp) (m n : Int) (xs : List V) : Prop := ∀ x, x ∈ xs → ∃ a, x = .ref a ∧ H a = some (.tup [.int m, .int n])
theorem AllPair.same {H H' : Hp} {m n : Int} {xs : List V} (h : AllPair H m n xs) (e : Same H H') : AllPair H' m n xs := fun x hx => by
  obtain ⟨a, r, ha⟩ := h x hx
  exact ⟨a, r, e _ _ ha⟩
def spPairs : Sp := fun vs H Q _ => ∃ (places limit : Int) (late : Bool) (tears readers : Int), vs = [.int places, .int limit, .bl late, .int tears, .int readers] ∧ Tm places limit late tears readers ∧
  ∀ (q : Addr) (xs : List V) (H' : Hp), H' q = some (.lst xs) → AllPair H' (places - lost late tears) (limit * (readers + 1)) xs → xs.length ≤ 3 → Same H H' → Q (.ref q) H'
theorem scLawPairs : FnScope ["places", "limit", "written_first", "tear_count", "reader_count", "told"] ["places", "limit", "written_first", "tear_count", "reader_count"] (defScope sLawPairs) := ⟨rfl, rfl, rfl, by decide +kernel, rfl, by decide +kernel, by decide +kernel⟩
theorem ok_pairs {f : Addr} {fd : FuncData} (F : Fun K "_law_pairs" "_law_pairs" sLawPairs f fd) (K_effective_late_tears_readers : Dk P w K mg base "effective" 4 ["places", "limit", "late", "tears", "readers"] spEff 2 ["late", "tears", "readers"] (fun vs zs => vs ++ zs))
    (K_effective_late : Dk P w K mg base "effective" 4 ["places", "limit", "late", "tears", "readers"] spEff 2 ["late"] (kwp [.inl 0, .inr 0, .inr 1] [.int 0, .int 0])) (D_effective : Dn P w K mg base "effective" 4 ["places", "limit", "late", "tears", "readers"] spEff [.bl false, .int 0, .int 0]) :
    FnOk P w K mg base CX0 5 f fd ["places", "limit", "written_first", "tear_count", "reader_count"] spPairs := by
  refine F.ok scLawPairs (fun vs H Q E h => ?_) (fun cdv A outer s H vs Q E hr h => ?_)
  · obtain ⟨_, _, _, _, _, rfl, _⟩ := h
    rfl
  · obtain ⟨places, limit, late, tears, readers, rfl, t, k⟩ := h
    refine ⟨_, (pss_cons (ps_set (i := 5) scLawPairs.nd rfl (Or.inl rfl) (pe_lst (pa_cons (pe_dk K_effective_late_tears_readers (hr.mono (by decide)) (by rfl) pass0 (pa_cons (pv 0) (pa_cons (pv 1) pa_nil)) (pk_cons (pv 2) (pk_cons (pv 3) (pk_cons (pv 4) pk_nil)))) pa_nil)))
  (pss_cons (ps_if (PW.pt (pw_and (pt_val (pv 2)) (pw_and1 (pt_cmpR op_eq (pv 3) pe_int (nomark _))))) (pss_one (ps_expr (pe_bm PySem.F.plainAttrs_list PySem.F.slot_list_append PySem.F.type_list_append mt_append (pv 5) (pa_cons (pe_dk K_effective_late (hr.mono (by decide)) (by rfl) pass0 (pa_cons (pv 0) (pa_cons (pv 1) pa_nil)) (pk_cons pe_bl pk_nil)) pa_nil))))
  pss_nil)
  (pss_cons (ps_if (PW.pt (pw_and (pt_not (pt_val (pv 2))) (pw_and1 (pt_cmpR op_eq (pv 4) pe_int (nomark _))))) (pss_one (ps_expr (pe_bm PySem.F.plainAttrs_list PySem.F.slot_list_append PySem.F.type_list_append mt_append (pv 5) (pa_cons (pe_dn D_effective (hr.mono (by decide)) (by rfl) pass0 (pa_cons (pv 0) (pa_cons (pv 1) pa_nil))) pa_nil))))
  pss_nil)
  (pss_one (ps_ret (pv 5)))))), ?_⟩
    walk_at "rd"
    refine ⟨places, limit, late, tears, readers, rfl, t, fun p hp => ?_⟩
    refine ⟨by show 1 ≤ sizeLine; decide, fun L hL => ?_⟩
    have e1 : Same H (upd H p (.tup [V.int (places - lost late tears), V.int (limit * (readers + 1))])) := Same.upd hp
    have hp1 := upd_same (H := H) (a := p) (o := .tup [V.int (places - lost late tears), V.int (limit * (readers + 1))])
    generalize upd H p (.tup [V.int (places - lost late tears), V.int (limit * (readers + 1))]) = H1 at e1 hp1 hL ⊢
    have e2 : Same H1 (upd H1 L (.lst [V.ref p])) := Same.upd hL
    have hL2 := upd_same (H := H1) (a := L) (o := .lst [V.ref p])
    have hLH : H L = none := e1.free hL
    have hp2 := e2 _ _ hp1
    have e12 := e1.trans e2
    have al : AllPair (upd H1 L (.lst [V.ref p])) (places - lost late tears) (limit * (readers + 1)) [V.ref p] := fun x hx => by
      simp at hx; subst hx; exact ⟨p, rfl, hp2⟩
    generalize upd H1 L (.lst [V.ref p]) = H2 at e2 hL2 hp2 e12 al ⊢
    -- one more pair
    have fin : ∀ (p2 : Addr), H2 p2 = none → Q (.ref L) (upd (upd H2 p2 (.tup [V.int (places - lost late tears), V.int (limit * (readers + 1))])) L (.lst ([V.ref p] ++ [V.ref p2]))) := fun p2 n2 => by
      have npL : p2 ≠ L := fun e => by rw [e, hL2] at n2; cases n2
      have npp : p ≠ L := fun e => by rw [e, hL2] at hp2; cases hp2
      refine k L [V.ref p, V.ref p2] _ upd_same (fun x hx => ?_) (by show 2 ≤ 3; omega) fun b o e => ?_
      · simp at hx
        rcases hx with rfl | rfl
        · exact ⟨p, rfl, by rw [upd_ne npp]; exact Same.upd n2 _ _ hp2⟩
        · exact ⟨p2, rfl, by rw [upd_ne npL, upd_same]⟩
      · have nb : b ≠ L := fun q => by rw [q, hLH] at e; cases e
        rw [upd_ne nb]
        exact Same.upd n2 _ _ (e12 _ _ e)
    have hLp : ∀ (p2 : Addr) (o : HO), H2 p2 = none → upd H2 p2 o L = some (.lst [V.ref p]) := fun p2 o n2 => Same.upd n2 _ _ hL2
    have szl : ([V.ref p] : List V).length < sizeLine := by show 1 < sizeLine; decide
    cases late
    · refine ⟨_, rfl, _, rfl, ?_⟩
      refine iteF ?_
      refine ⟨_, rfl, _, rfl, ?_⟩
      refine iteT ?_
      have := t.o.e rfl
      subst this
      walk_at "rd"
      refine iti (fun h => ?_) (fun _ => ?_)
      · subst h
        refine ⟨_, rfl, .inl ⟨rfl, _, SqL.of hL2⟩, ?_⟩
        walk_at "rd"
        refine ⟨places, limit, false, 0, 0, rfl, t, fun p2 n2 => ?_⟩
        refine ⟨L, _, _, rfl, rfl, hLp _ _ n2, szl, ?_⟩
        exact ⟨_, rfl, fin p2 n2⟩
      · exact ⟨_, rfl, k L _ H2 hL2 al (by show 1 ≤ 3; omega) e12⟩
    · refine ⟨_, rfl, _, rfl, ?_⟩
      refine iteT ?_
      have := t.o.l rfl
      subst this
      walk_at "rd"
      refine iti (fun h => ?_) (fun _ => ?_)
      · subst h
        refine ⟨_, rfl, .inl ⟨rfl, _, SqL.of hL2⟩, ?_⟩
        walk_at "rd"
        refine ⟨places, limit, true, 0, 0, rfl, t, fun p2 n2 => ?_⟩
        refine ⟨L, _, _, rfl, rfl, hLp _ _ n2, szl, ?_⟩
        refine ⟨_, rfl, _, rfl, ?_⟩
        refine iteF ?_
        exact ⟨_, rfl, fin p2 n2⟩
      · refine ⟨_, rfl, _, rfl, ?_⟩
        refine iteF ?_
        exact ⟨_, rfl, k L _ H2 hL2 al (by show 1 ≤ 3; omega) e12⟩
/-- a list of answers, all alike -/
def spAnswers (C : Addr) : Sp := fun vs H Q _ => ∃ (r : Addr) (bs : List Int) (places limit : Int) (late : Bool) (tears readers : Int), vs = [.ref r, .int places, .int limit, .bl late, .int tears, .int readers] ∧ Tm places limit late tears readers ∧ RoundAt C H r bs ∧ Okb bs ∧
  ∀ (q : Addr) (n : Nat) (H' : Hp), H q = none → H' q = some (.lst (List.replicate (n + 1) (V.bl (goes bs (places - lost late tears) (limit * (readers + 1)))))) → n ≤ 3 → Same H H' → Q (.ref q) H'
theorem scLawAnswers : FnScope ["made", "places", "limit", "written_first", "tear_count", "reader_count", "told"] ["made", "places", "limit", "written_first", "tear_count", "reader_count"] (defScope sLawAnswers) := ⟨rfl, rfl, rfl, by decide +kernel, rfl, by decide +kernel, by decide +kernel⟩
theorem ok_answers {f : Addr} {fd : FuncData} (F : Fun K "_law_answers" "_law_answers" sLawAnswers f fd) (K_ring_goes_on_late_tears_readers : Dk P w K mg base "ring_goes_on" 6 ["places", "limit", "budgets", "late", "tears", "readers"] (spGoes C) 3 ["late", "tears", "readers"] (fun vs zs => vs ++ zs))
    (K_ring_goes_on_late : Dk P w K mg base "ring_goes_on" 6 ["places", "limit", "budgets", "late", "tears", "readers"] (spGoes C) 3 ["late"] (kwp [.inl 0, .inr 0, .inr 1] [.int 0, .int 0]))
    (K_ring_goes_on_tears_late : Dk P w K mg base "ring_goes_on" 6 ["places", "limit", "budgets", "late", "tears", "readers"] (spGoes C) 3 ["tears", "late"] (kwp [.inl 1, .inl 0, .inr 0] [.int 0]))
    (K_ring_goes_on_readers : Dk P w K mg base "ring_goes_on" 6 ["places", "limit", "budgets", "late", "tears", "readers"] (spGoes C) 3 ["readers"] (kwp [.inr 0, .inr 1, .inl 0] [.bl false, .int 0]))
    (D_ring_goes_on : Dn P w K mg base "ring_goes_on" 6 ["places", "limit", "budgets", "late", "tears", "readers"] (spGoes C) [.bl false, .int 0, .int 0]) :
    FnOk P w K mg base CX0 7 f fd ["made", "places", "limit", "written_first", "tear_count", "reader_count"] (spAnswers C) := by
  refine F.ok scLawAnswers (fun vs H Q E h => ?_) (fun cdv A outer s H vs Q E hr h => ?_)
  · obtain ⟨_, _, _, _, _, _, _, rfl, _⟩ := h
    rfl
  · obtain ⟨r, bs, places, limit, late, tears, readers, rfl, t, hR, ok, k⟩ := h
    refine ⟨_, (pss_cons (ps_set (i := 6) scLawAnswers.nd rfl (Or.inl rfl) (pe_lst (pa_cons (pe_dk K_ring_goes_on_late_tears_readers (hr.mono (by decide)) (by rfl) pass0 (pa_cons (pv 1) (pa_cons (pv 2) (pa_cons (pv 0) pa_nil))) (pk_cons (pv 3) (pk_cons (pv 4) (pk_cons (pv 5) pk_nil)))) pa_nil)))
  (pss_cons (ps_if (PW.pt (pw_and (pt_val (pv 3)) (pw_and1 (pt_cmpR op_eq (pv 4) pe_int (nomark _))))) (pss_one (ps_expr (pe_bm PySem.F.plainAttrs_list PySem.F.slot_list_append PySem.F.type_list_append mt_append (pv 6) (pa_cons (pe_dk K_ring_goes_on_late (hr.mono (by decide)) (by rfl) pass0 (pa_cons (pv 1) (pa_cons (pv 2) (pa_cons (pv 0) pa_nil))) (pk_cons pe_bl pk_nil)) pa_nil))))
  pss_nil)
  (pss_cons (ps_if (pt_val (pv 3)) (pss_one (ps_expr (pe_bm PySem.F.plainAttrs_list PySem.F.slot_list_append PySem.F.type_list_append mt_append (pv 6) (pa_cons (pe_dk K_ring_goes_on_tears_late (hr.mono (by decide)) (by rfl) pass0 (pa_cons (pv 1) (pa_cons (pv 2) (pa_cons (pv 0) pa_nil))) (pk_cons (pv 4) (pk_cons pe_bl pk_nil))) pa_nil))))
  pss_nil)
  (pss_cons (ps_if (PW.pt (pw_and (pt_not (pt_val (pv 3))) (pw_and1 (pt_cmpR op_eq (pv 5) pe_int (nomark _))))) (pss_one (ps_expr (pe_bm PySem.F.plainAttrs_list PySem.F.slot_list_append PySem.F.type_list_append mt_append (pv 6) (pa_cons (pe_dn D_ring_goes_on (hr.mono (by decide)) (by rfl) pass0 (pa_cons (pv 1) (pa_cons (pv 2) (pa_cons (pv 0) pa_nil)))) pa_nil))))
  pss_nil)
  (pss_cons (ps_if (pt_not (pt_val (pv 3))) (pss_one (ps_expr (pe_bm PySem.F.plainAttrs_list PySem.F.slot_list_append PySem.F.type_list_append mt_append (pv 6) (pa_cons (pe_dk K_ring_goes_on_readers (hr.mono (by decide)) (by rfl) pass0 (pa_cons (pv 1) (pa_cons (pv 2) (pa_cons (pv 0) pa_nil))) (pk_cons (pv 5) pk_nil)) pa_nil))))
  pss_nil)
  (pss_one (ps_ret (pv 6)))))))), ?_⟩
    walk_at "rd"
    refine ⟨places, limit, r, bs, late, tears, readers, rfl, t, hR, ok, fun H1 e1 => ?_⟩
    refine ⟨by show 1 ≤ sizeLine; decide, fun L hL => ?_⟩
    have hLH : H L = none := e1.free hL
    generalize hg : goes bs (places - lost late tears) (limit * (readers + 1)) = g at k ⊢
    have e2 : Same H1 (upd H1 L (.lst [V.bl g])) := Same.upd hL
    have hL2 : upd H1 L (.lst [V.bl g]) L = some (.lst (List.replicate (0 + 1) (V.bl g))) := upd_same
    replace e2 := e1.trans e2
    generalize upd H1 L (.lst [V.bl g]) = H2 at e2 hL2 ⊢
    have up : ∀ (n : Nat) (H' H'' : Hp), Same H H' → Same H' H'' → H' L = some (.lst (List.replicate (n + 1) (V.bl g))) → Same H (upd H'' L (.lst (List.replicate (n + 1) (V.bl g) ++ [V.bl g]))) ∧ upd H'' L (.lst (List.replicate (n + 1) (V.bl g) ++ [V.bl g])) L = some (.lst (List.replicate (n + 1 + 1) (V.bl g))) := fun n H' H'' a b c =>
      ⟨fun b' o e => by rw [upd_ne (fun q => by rw [q, hLH] at e; cases e)]; exact b _ _ (a _ _ e), by rw [upd_same, ← List.replicate_succ']⟩
    have sz : ∀ n : Nat, n ≤ 3 → (List.replicate (n + 1) (V.bl g)).length < sizeLine := fun n hn => by
      rw [List.length_replicate]
      have := sline
      omega
    cases late
    · have := t.o.e rfl
      subst this
      refine ⟨_, rfl, _, rfl, ?_⟩
      refine iteF ?_
      refine ⟨_, rfl, _, rfl, ?_⟩
      refine iteF ?_
      refine ⟨_, rfl, _, rfl, ?_⟩
      refine iteT ?_
      walk_at "rd"
      refine iti (fun h => ?_) (fun _ => ?_)
      · subst h
        refine ⟨_, rfl, .inl ⟨rfl, _, SqL.of hL2⟩, ?_⟩
        walk_at "rd"
        refine ⟨places, limit, r, bs, false, 0, 0, rfl, t, hR.same e2, ok, fun H3 e3 => ?_⟩
        rw [hg]
        refine ⟨L, _, _, rfl, rfl, e3 _ _ hL2, sz 0 (by omega), ?_⟩
        obtain ⟨e4, hL4⟩ := up 0 H2 H3 e2 e3 hL2
        generalize upd H3 L (.lst (List.replicate (0 + 1) (V.bl g) ++ [V.bl g])) = H4 at e4 hL4 ⊢
        refine ⟨_, rfl, _, rfl, ?_⟩
        refine iteT ?_
        refine ⟨_, rfl, .inl ⟨rfl, _, SqL.of hL4⟩, ?_⟩
        walk_at "rd"
        refine ⟨places, limit, r, bs, false, 0, 0, rfl, t, hR.same e4, ok, fun H5 e5 => ?_⟩
        rw [hg]
        refine ⟨L, _, _, rfl, rfl, e5 _ _ hL4, sz 1 (by omega), ?_⟩
        obtain ⟨e6, hL6⟩ := up 1 H4 H5 e4 e5 hL4
        exact ⟨_, rfl, k L 2 _ hLH hL6 (by omega) e6⟩
      · refine ⟨_, rfl, _, rfl, ?_⟩
        refine iteT ?_
        refine ⟨_, rfl, .inl ⟨rfl, _, SqL.of hL2⟩, ?_⟩
        walk_at "rd"
        refine ⟨places, limit, r, bs, false, 0, readers, rfl, t, hR.same e2, ok, fun H5 e5 => ?_⟩
        rw [hg]
        refine ⟨L, _, _, rfl, rfl, e5 _ _ hL2, sz 0 (by omega), ?_⟩
        obtain ⟨e6, hL6⟩ := up 0 H2 H5 e2 e5 hL2
        exact ⟨_, rfl, k L 1 _ hLH hL6 (by omega) e6⟩
    · have := t.o.l rfl
      subst this
      refine ⟨_, rfl, _, rfl, ?_⟩
      refine iteT ?_
      walk_at "rd"
      refine iti (fun h => ?_) (fun _ => ?_)
      · subst h
        refine ⟨_, rfl, .inl ⟨rfl, _, SqL.of hL2⟩, ?_⟩
        walk_at "rd"
        refine ⟨places, limit, r, bs, true, 0, 0, rfl, t, hR.same e2, ok, fun H3 e3 => ?_⟩
        rw [hg]
        refine ⟨L, _, _, rfl, rfl, e3 _ _ hL2, sz 0 (by omega), ?_⟩
        obtain ⟨e4, hL4⟩ := up 0 H2 H3 e2 e3 hL2
        generalize upd H3 L (.lst (List.replicate (0 + 1) (V.bl g) ++ [V.bl g])) = H4 at e4 hL4 ⊢
        refine ⟨_, rfl, _, rfl, ?_⟩
        refine iteT ?_
        refine ⟨_, rfl, .inl ⟨rfl, _, SqL.of hL4⟩, ?_⟩
        walk_at "rd"
        refine ⟨places, limit, r, bs, true, 0, 0, rfl, t, hR.same e4, ok, fun H5 e5 => ?_⟩
        rw [hg]
        refine ⟨L, _, _, rfl, rfl, e5 _ _ hL4, sz 1 (by omega), ?_⟩
        obtain ⟨e6, hL6⟩ := up 1 H4 H5 e4 e5 hL4
        refine ⟨_, rfl, _, rfl, ?_⟩
        refine iteF ?_
        refine ⟨_, rfl, _, rfl, ?_⟩
        refine iteF ?_
        exact ⟨_, rfl, k L 2 _ hLH hL6 (by omega) e6⟩
      · refine ⟨_, rfl, _, rfl, ?_⟩
        refine iteT ?_
        refine ⟨_, rfl, .inl ⟨rfl, _, SqL.of hL2⟩, ?_⟩
        walk_at "rd"
        refine ⟨places, limit, r, bs, true, tears, 0, rfl, t, hR.same e2, ok, fun H5 e5 => ?_⟩
        rw [hg]
        refine ⟨L, _, _, rfl, rfl, e5 _ _ hL2, sz 0 (by omega), ?_⟩
        obtain ⟨e6, hL6⟩ := up 0 H2 H5 e2 e5 hL2
        refine ⟨_, rfl, _, rfl, ?_⟩
        refine iteF ?_
        refine ⟨_, rfl, _, rfl, ?_⟩
        refine iteF ?_
        exact ⟨_, rfl, k L 1 _ hLH hL6 (by omega) e6⟩
def spAgree : Sp := fun vs H Q _ => ∃ (l q : Addr) (xs : List V) (m n : Int), vs = [.ref l, .ref q] ∧ H l = some (.lst xs) ∧ AllPair H m n xs ∧ H q = some (.tup [.int m, .int n]) ∧ Q (.bl true) H
theorem scLawPairsAgree : FnScope ["told", "pair", "one"] ["told", "pair"] (defScope sLawPairsAgree) := ⟨rfl, rfl, rfl, by decide +kernel, rfl, by decide +kernel, by decide +kernel⟩
theorem ok_pairs_agree {f : Addr} {fd : FuncData} (F : Fun K "_law_pairs_agree" "_law_pairs_agree" sLawPairsAgree f fd) (B : Bi mg) (D__law_is_number : Dn P w K mg base "_law_is_number" 1 ["told"] spIsWhole) : FnOk P w K mg base CX0 2 f fd ["told", "pair"] spAgree := by
  refine F.ok scLawPairsAgree (fun vs H Q E h => ?_) (fun cdv A outer s H vs Q E hr h => ?_)
  · obtain ⟨_, _, _, _, _, rfl, _⟩ := h
    rfl
  · obtain ⟨l, q, xs, m, n, rfl, hl, al, hq, k⟩ := h
    refine ⟨_, (pss_cons (ps_for PassesOwn.never rfl (pi_list (pv 0)) (pg_name (i := 2) scLawPairsAgree.nd rfl (Or.inl rfl))
  (pss_cons (ps_if (PW.pt (pw_or (pt_not (pt_val (pe_callB call_isi (by rfl) B.isinstance (by decide +kernel) (pa_cons (pv 2) (pa_cons (pe_bltn (v := .ty "tuple") (by rfl) B.tupleT (by decide +kernel) rfl) pa_nil))))) (pw_or1 (pt_cmpR op_ne (pe_callB call_len_seq (by rfl) B.len PySem.boot_len (pa_cons (pv 2) pa_nil)) pe_int (nomark _))))) (pss_one (ps_ret pe_bl))
  pss_nil)
  (pss_one (ps_if (PW.pt (pw_or (pt_not (pt_val (pe_dn D__law_is_number (hr.mono (by decide)) (by rfl) pass0 (pa_cons (pe_ix ix_tup (pv 2) pe_int (fun _ _ => rfl)) pa_nil)))) (pw_or (pt_not (pt_val (pe_dn D__law_is_number (hr.mono (by decide)) (by rfl) pass0 (pa_cons (pe_ix ix_tup (pv 2) pe_int (fun _ _ => rfl)) pa_nil)))) (pw_or1 (pt_cmpR (op_neD hr.units) (pv 2) (pv 1) (nomark _)))))) (pss_one (ps_ret pe_bl))
  pss_nil))))
  (pss_one (ps_ret pe_bl))), ?_⟩
    refine ⟨_, rfl, ?_⟩
    refine ⟨_, rfl, ⟨_, SqL.of hl⟩, for_list (K := K) (a := l) (xs := xs) (fun i σ H' => ∃ v : Option V, σ = [some (V.ref l), some (V.ref q), v] ∧ H = H')
      ⟨_, rfl, rfl⟩ (fun i σ H' _ ⟨_, _, h⟩ => by rw [← h]; exact SqL.of hl) ?_ ?_⟩
    · rintro i y σ H' hi ⟨v, rfl, rfl⟩
      obtain ⟨a, rfl, ha⟩ := al y (List.mem_of_getElem? hi)
      refine ⟨_, rfl, _, _, _, _, _, rfl, .ty _, .base (.tup ha), kit_tt, _, rfl, iteF ?_⟩
      refine ⟨_, rfl, a, _, rfl, .inr (SqT.of ha), ?_⟩
      walk_at "rd"
      refine ⟨a, _, _, _, rfl, rfl, SqT.of ha, at_of (j := 0) rfl rfl, ?_⟩
      refine ⟨m, rfl, _, rfl, ?_⟩
      refine iteF ?_
      refine ⟨_, rfl, a, _, _, _, rfl, rfl, SqT.of ha, at_of (j := 1) rfl rfl, ?_⟩
      refine ⟨n, rfl, _, rfl, ?_⟩
      refine iteF ?_
      refine ⟨_, rfl, _, rfl, .tuple ([m, n].map .int), .tuple ([m, n].map .int), .tup (SqT.of ha) (dpAll_ints [m, n]), .tup (SqT.of hq) (dpAll_ints [m, n]), shaped_tup [m, n], shaped_tup [m, n], ?_⟩
      have ee : (!(PyData.tuple (List.map PyData.int [m, n])).eqv (PyData.tuple (List.map PyData.int [m, n]))) = false := by
        show (!PyData.eqvAll ([m, n].map .int) ([m, n].map .int)) = false
        rw [eqvAll_ints, decide_eq_true rfl]; rfl
      rw [ee]
      refine ⟨_, rfl, ?_⟩
      refine iteF ?_
      exact ⟨_, rfl, rfl⟩
    · rintro σ H' ⟨v, rfl, rfl⟩
      exact k
end
end Cl

/-! ### law k02: a case, the law -/
namespace Cl
open StX ClX
theorem kit_bb (K : PySem.W.Frag) : PySem.W.kitOne K (.type "bool") (.type "bool") = some true := by unfold PySem.W.kitOne; simp
theorem allT1 {K : PySem.W.Frag} {H : Hp} {D : Addr} {xs : List V} (h : H D = some (.lst (xs.map fun _ => V.bl true))) : SqL K H D ((xs.map fun _ => true).map V.bl) := by
  rw [List.map_map]; exact SqL.of h
theorem allT2 {α : Type} {xs : List α} : (xs.map fun _ => true).all id = true := by simp
section
variable {P : Program} {w : World} {K : PySem.W.Frag} {mg : Str → Option Value} {base : Heap} {C : Addr}
def spCase : Sp := fun vs H Q _ => ∃ (a : Addr), vs = [.ref a] ∧ BagAt H a ∧ ∀ (H' : Hp), But a H H' → Q (.bl true) H'
theorem ok30 {bs : List Int} {n : Int} (h : (bs.length : Int) = n) (h1 : 1 ≤ n) (h2 : n ≤ 12) (hb : ∀ b, b ∈ bs → 0 ≤ b ∧ b ≤ 1000000000000000000000000000000) : Okb bs := ⟨by omega, by omega, fun b hx => by have := hb b hx; omega⟩
theorem scLawCase : FnScope ["bag", "row", "made", "places", "limit", "written_first", "tear_count", "reader_count", "phase", "more", "told", "pair", "due", "answers", "one"] ["bag"] (defScope sLawCase) := ⟨rfl, rfl, rfl, by decide +kernel, rfl, by decide +kernel, by decide +kernel⟩
theorem ok_case {f : Addr} {fd : FuncData} (F : Fun K "_law_case" "_law_case" sLawCase f fd) (B : Bi mg) (R_Round : ClsC K mg "Round" C) (D__law_row : Dn P w K mg base "_law_row" 3 ["bag", "size"] spRow) (D__law_round : Dn P w K mg base "_law_round" 7 ["row"] (spRoundN C 12))
    (D__law_take : Dn P w K mg base "_law_take" 1 ["bag", "size"] spTake) (D__law_terms : Dn P w K mg base "_law_terms" 5 ["bag", "row"] spTerms) (D__law_pairs : Dn P w K mg base "_law_pairs" 5 ["places", "limit", "written_first", "tear_count", "reader_count"] spPairs)
    (D__law_pair : Dn P w K mg base "_law_pair" 1 ["places", "limit", "written_first", "tear_count", "reader_count"] spPair) (D__law_pairs_agree : Dn P w K mg base "_law_pairs_agree" 2 ["told", "pair"] spAgree) (D__law_rule : Dn P w K mg base "_law_rule" 3 ["row", "room", "keys"] spRule)
    (D__law_answers : Dn P w K mg base "_law_answers" 7 ["made", "places", "limit", "written_first", "tear_count", "reader_count"] (spAnswers C)) (D_ring_goes_on : Dn P w K mg base "ring_goes_on" 6 ["places", "limit", "budgets", "late", "tears", "readers"] (spGoes C) [.bl false, .int 0, .int 0])
    (D__law_never_stalls : Dn P w K mg base "_law_never_stalls" 4 ["row", "room", "keys", "phase", "written_first"] spStalls)
    (P_Round_budgets : Pn P w K mg base C "budgets" 1 (spBudgets C)) : FnOk P w K mg base CX0 8 f fd ["bag"] spCase := by
  refine F.ok scLawCase (fun vs H Q E h => ?_) (fun cdv A outer s H vs Q E hr h => ?_)
  · obtain ⟨l, rfl, _⟩ := h
    rfl
  · obtain ⟨a, rfl, hB, k⟩ := h
    refine ⟨_, (pss_cons (ps_set (i := 1) scLawCase.nd rfl (Or.inl rfl) (pe_dn D__law_row (hr.mono (by decide)) (by rfl) pass0 (pa_cons (pv 0) (pa_cons (pe_op op_add pe_int (pe_dn D__law_take (hr.mono (by decide)) (by rfl) pass0 (pa_cons (pv 0) (pa_cons pe_int pa_nil)))) pa_nil))))
  (pss_cons (ps_set (i := 2) scLawCase.nd rfl (Or.inl rfl) (pe_dn D__law_round (hr.mono (by decide)) (by rfl) pass0 (pa_cons (pv 1) pa_nil)))
  (pss_cons (ps_asg (pe_dn D__law_terms (hr.mono (by decide)) (by rfl) pass0 (pa_cons (pv 0) (pa_cons (pv 1) pa_nil))) (pg_tup (by rfl) (pgs_cons (pg_name (i := 3) scLawCase.nd rfl (Or.inl rfl)) (pgs_cons (pg_name (i := 4) scLawCase.nd rfl (Or.inl rfl)) (pgs_cons (pg_name (i := 5) scLawCase.nd rfl (Or.inl rfl)) (pgs_cons (pg_name (i := 6) scLawCase.nd rfl (Or.inl rfl)) (pgs_cons (pg_name (i := 7) scLawCase.nd rfl (Or.inl rfl)) pgs_nil)))))))
  (pss_cons (ps_set (i := 8) scLawCase.nd rfl (Or.inl rfl) (pe_dn D__law_take (hr.mono (by decide)) (by rfl) pass0 (pa_cons (pv 0) (pa_cons pe_int pa_nil))))
  (pss_cons (ps_for PassesOwn.never rfl (pi_range1 rfl B.range (pa_cons pe_int pa_nil)) (pg_name (i := 9) scLawCase.nd rfl (Or.inl rfl))
  (pss_cons (ps_set (i := 10) scLawCase.nd rfl (Or.inl rfl) (pe_dn D__law_pairs (hr.mono (by decide)) (by rfl) pass0 (pa_cons (pe_op op_add (pv 3) (pv 9)) (pa_cons (pv 4) (pa_cons (pv 5) (pa_cons (pv 6) (pa_cons (pv 7) pa_nil)))))))
  (pss_cons (ps_set (i := 11) scLawCase.nd rfl (Or.inl rfl) (pe_dn D__law_pair (hr.mono (by decide)) (by rfl) pass0 (pa_cons (pe_op op_add (pv 3) (pv 9)) (pa_cons (pv 4) (pa_cons (pv 5) (pa_cons (pv 6) (pa_cons (pv 7) pa_nil)))))))
  (pss_cons (ps_if (pt_not (pt_val (pe_dn D__law_pairs_agree (hr.mono (by decide)) (by rfl) pass0 (pa_cons (pv 10) (pa_cons (pv 11) pa_nil))))) (pss_one (ps_ret pe_bl))
  pss_nil)
  (pss_cons (ps_set (i := 12) scLawCase.nd rfl (Or.inr rfl) (pe_dn D__law_rule (hr.mono (by decide)) (by rfl) pass0 (pa_cons (pv 1) (pa_cons (pe_ix ix_tup (pv 11) pe_int (fun _ _ => rfl)) (pa_cons (pe_ix ix_tup (pv 11) pe_int (fun _ _ => rfl)) pa_nil)))))
  (pss_cons (ps_set (i := 13) scLawCase.nd rfl (Or.inl rfl) (pe_dn D__law_answers (hr.mono (by decide)) (by rfl) pass0 (pa_cons (pv 2) (pa_cons (pe_op op_add (pv 3) (pv 9)) (pa_cons (pv 4) (pa_cons (pv 5) (pa_cons (pv 6) (pa_cons (pv 7) pa_nil))))))))
  (C8.pss_cut (ps_if (pt_cmpR op_ge (pe_ix ix_tup (pv 11) pe_int (fun _ _ => rfl)) pe_int (nomark _)) (pss_one (ps_expr (pe_bm PySem.F.plainAttrs_list PySem.F.slot_list_append PySem.F.type_list_append mt_append (pv 13) (pa_cons (pe_dn D_ring_goes_on (hr.mono (by decide)) (by rfl) pass0 (pa_cons (pe_ix ix_tup (pv 11) pe_int (fun _ _ => rfl)) (pa_cons (pe_ix ix_tup (pv 11) pe_int (fun _ _ => rfl)) (pa_cons (pv 2) pa_nil)))) pa_nil))))
  pss_nil)
  (pss_cons (ps_if (pt_not (pt_val (pe_callB (cr_all rfl) (by rfl) B.all (by decide +kernel) (pa_cons (pe_lc (own := [("one", 14)]) (g := gName 14) rfl scLawCase.nd (pi_list (pv 13)) (blkOk_by (own := [("one", 14)]) (N := ["bag", "row", "made", "places", "limit", "written_first", "tear_count", "reader_count", "phase", "more", "told", "pair", "due", "answers", "one"]) (sc := defScope sLawCase) (by decide +kernel)) (fun _ _ _ _ _ => pg_name (i := 14) scLawCase.nd rfl (Or.inl rfl)) (fun _ _ _ _ _ => pts_nil) (fun _ _ _ _ _ => (pe_and (pe_callB (call_isiK K) (by rfl) B.isinstance (by decide +kernel) (pa_cons (pv 14) (pa_cons (pe_bltn (v := .ty "bool") (by rfl) B.boolT (by decide +kernel) rfl) pa_nil))) (pe_one (pe_cmpR op_eq (pv 14) (pv 12) (nomark _)))))) pa_nil)))) (pss_one (ps_ret pe_bl))
  pss_nil)
  (pss_one (ps_if (PW.pt (pw_and (pt_cmpR op_le (pe_ix ix_tup (pv 11) pe_int (fun _ _ => rfl)) pe_int (nomark _)) (pw_and1 (pt_cmpR op_le (pe_ix ix_tup (pv 11) pe_int (fun _ _ => rfl)) pe_int (nomark _))))) (pss_one (ps_if (pt_cmpR op_ne (pe_ix ix_list (pv 13) pe_int (fun _ _ => rfl)) (pe_dn D__law_never_stalls (hr.mono (by decide)) (by rfl) pass0 (pa_cons (pv 1) (pa_cons (pe_ix ix_tup (pv 11) pe_int (fun _ _ => rfl)) (pa_cons (pe_ix ix_tup (pv 11) pe_int (fun _ _ => rfl)) (pa_cons (pv 8) (pa_cons (pv 5) pa_nil)))))) (nomark _)) (pss_one (ps_ret pe_bl))
  pss_nil))
  pss_nil))))))))))
  (pss_one (ps_ret (pe_cmpR (op_eqD hr.units) (pe_pn P_Round_budgets R_Round.cl (hr.mono (by decide)) (pv 2)) (pv 1) (nomark _))))))))), ?_⟩
    walk_at "rd"
    refine ⟨hB, by decide, by decide, fun n H1 n0 n1 hB1 b1 => ?_⟩
    walk_at "rd"
    refine ⟨hB1, by omega, by omega, fun p bs H2 hp2 hp hl hb hB2 b2 => ?_⟩
    have ok := ok30 hl (by omega) (by omega) hb
    have pa := bag_ne hB1 hp2
    refine ⟨_, rfl, p, bs, rfl, hp, ok, ok.l2, fun r H3 _ hR e3 => ?_⟩
    have hB3 := hB2.same e3
    walk_at "rd"
    refine ⟨a, p, bs, rfl, hB3, pa, e3 _ _ hp, ok, fun q places limit late tears readers H4 hq p1 p2 l1 l2 k1 o hB4 b4 => ?_⟩
    have hR4 := hR.but b4 hB3
    have hp4 := b4 p _ pa (e3 _ _ hp)
    have B4 : But a H H4 := ((b1.trans b2).trans (But.of e3)).trans b4
    have k0 := keys_pos l1 o.r0
    have lb := o.lost_b
    refine ⟨q, _, rfl, SqT.of hq, rfl, _, _, rfl, _, _, rfl, _, _, rfl, _, _, rfl, _, _, rfl, rfl, ?_⟩
    walk_at "rd"
    refine ⟨hB4, by decide, by decide, fun ph H5 ph0 ph1 hB5 b5 => ?_⟩
    have hR5 := hR4.but b5 hB4
    have hp5 := b5 p _ pa hp4
    have B5 := B4.trans b5
    walk_at "rd"
    refine ⟨by decide, by decide, ?_⟩
    refine for_range (fun i σ H' => ∃ (x9 x10 x11 x12 x13 : Option V), σ = [some (V.ref a), some (V.ref p), some (V.ref r), some (V.int places), some (V.int limit), some (V.bl late), some (V.int tears), some (V.int readers), some (V.int ph), x9, x10, x11, x12, x13, none] ∧ Same H5 H')
      ⟨_, _, _, _, _, rfl, Same.refl _⟩ ?_ ?_
    · rintro i σ H6 hi ⟨x9, x10, x11, x12, x13, rfl, e6⟩
      have hi2 : i < 3 := by simpa using hi
      have T : Tm (places + (0 + i)) limit late tears readers := ⟨by omega, by omega, l1, by omega, o, by omega⟩
      walk_at "rd"
      refine ⟨_, limit, late, tears, readers, rfl, T, fun L xs H7 hL al _ e7 => ?_⟩
      walk_at "rd"
      refine ⟨_, limit, late, tears, readers, rfl, by omega, by omega, o, fun z hz => ?_⟩
      have e8 : Same H7 (upd H7 z (.tup [V.int (places + (0 + i) - lost late tears), V.int (limit * (readers + 1))])) := Same.upd hz
      have hz2 := upd_same (H := H7) (a := z) (o := .tup [V.int (places + (0 + i) - lost late tears), V.int (limit * (readers + 1))])
      generalize upd H7 z (.tup [V.int (places + (0 + i) - lost late tears), V.int (limit * (readers + 1))]) = H8 at e8 hz2 ⊢
      have e68 : Same H5 H8 := (e6.trans e7).trans e8
      have mb : places + (0 + i) - lost late tears ≤ 1000000000000000000000000000000000 := by omega
      generalize hm : places + (0 + i) - lost late tears = m at al hz2 mb
      refine ⟨_, rfl, _, rfl, L, z, xs, m, _, rfl, e8 _ _ hL, al.same e8, hz2, _, rfl, ?_⟩
      refine iteF ?_
      refine ⟨_, rfl, _, rfl, z, _, _, _, rfl, rfl, SqT.of hz2, at_of (j := 0) rfl rfl, _, rfl, z, _, _, _, rfl, rfl, SqT.of hz2, at_of (j := 1) rfl rfl, ?_⟩
      refine ⟨p, bs, m, _, rfl, e68 _ _ hp5, ok, by omega, by omega, fun H9 e9 => ?_⟩
      have e69 := e68.trans e9
      walk_at "rd"
      refine ⟨r, bs, _, limit, late, tears, readers, rfl, T, hR5.same e69, ok, fun A na H10 hA0 hA na3 e10 => ?_⟩
      rw [hm] at hA
      generalize hg : goes bs m (limit * (readers + 1)) = g at hA
      have e610 := e69.trans e10
      have hz10 := (e9.trans e10) _ _ hz2
      -- one answer more
      refine ⟨fun σ' H' => ∃ na', σ' = [some (V.ref a), some (V.ref p), some (V.ref r), some (V.int places), some (V.int limit), some (V.bl late), some (V.int tears), some (V.int readers), some (V.int ph), some (.int (0 + i)), some (.ref L), some (.ref z), some (.bl g), some (.ref A), none] ∧ Same H5 H' ∧ H' z = some (.tup [V.int m, V.int (limit * (readers + 1))]) ∧ H' A = some (.lst (List.replicate (na' + 1) (V.bl g))) ∧ na' ≤ 4, ?_, ?_⟩
      · have hAz : z ≠ A := fun e => by
          have := e9 _ _ hz2
          rw [e, hA0] at this; cases this
        refine ⟨_, rfl, z, _, _, _, rfl, rfl, SqT.of hz10, at_of (j := 0) rfl rfl, _, _, rfl, rfl, _, rfl, ?_⟩
        refine itd (fun h => ?_) (fun _ => ?_)
        · refine ⟨_, rfl, .inl ⟨rfl, _, SqL.of hA⟩, ?_⟩
          refine ⟨_, rfl, z, _, _, _, rfl, rfl, SqT.of hz10, at_of (j := 0) rfl rfl, _, rfl, z, _, _, _, rfl, rfl, SqT.of hz10, at_of (j := 1) rfl rfl, _, rfl, m, _, r, bs, false, 0, 0, rfl, ⟨by omega, mb, k0, by omega, ⟨by omega, by omega, by omega, by omega, fun _ => rfl, fun _ => rfl⟩, by omega⟩, hR5.same e610, ok, fun H11 e11 => ?_⟩
          rw [show m - lost false 0 = m by show m - 0 = m; omega, show limit * (readers + 1) * (0 + 1) = limit * (readers + 1) by omega, hg]
          refine ⟨A, _, _, rfl, rfl, e11 _ _ hA, (by rw [List.length_replicate]; have := sline; omega), ?_⟩
          refine ⟨na + 1, rfl, fun b o e => ?_, ?_, ?_, by omega⟩
          · rw [upd_ne (fun q => by rw [q, e69.free hA0] at e; cases e)]
            exact e11 _ _ (e610 _ _ e)
          · rw [upd_ne hAz]; exact e11 _ _ hz10
          · rw [upd_same, ← List.replicate_succ']
        · exact ⟨na, rfl, e610, hz10, hA, by omega⟩
      rintro σ' H11 ⟨na', rfl, e11, hz11, hA11, na4⟩
      refine ⟨_, rfl, A, rfl, ⟨_, SqL.of hA11⟩, fun D hD => ?_⟩
      refine lc_growL (K := K) (xs := List.replicate (na' + 1) (V.bl g)) (fun _ => .bl true) (SqL.of hA11) hD (by rw [List.length_replicate]; omega) (fun y H' R hy e hR1 => ?_) (fun H12 e12 hD12 => ?_)
      · obtain rfl := List.eq_of_mem_replicate hy
        refine ⟨rfl, _, rfl, _, _, _, _, _, rfl, .ty _, .base (.bl _), kit_bb K, _, rfl, iteT ?_⟩
        refine ⟨_, rfl, _, rfl, ?_⟩
        walk_at "rd"
        show R (.bl (decide (V.bl g = V.bl g))) H'
        rw [decide_eq_true rfl]
        exact hR1 H' (Same.refl _)
      refine ⟨D, (List.replicate (na' + 1) (V.bl g)).map fun _ => true, rfl, allT1 hD12, ?_⟩
      rw [allT2]
      refine ⟨_, rfl, iteF ?_⟩
      have hz12 := e12 _ _ hz11
      have hA12 := e12 _ _ hA11
      have e512 := e11.trans e12
      refine ⟨_, rfl, z, _, _, _, rfl, rfl, SqT.of hz12, at_of (j := 0) rfl rfl, _, _, rfl, rfl, _, rfl, ?_⟩
      refine itd (fun h1 => ?_) (fun _ => ?_)
      · refine ⟨_, rfl, z, _, _, _, rfl, rfl, SqT.of hz12, at_of (j := 1) rfl rfl, _, _, rfl, rfl, _, rfl, ?_⟩
        refine itd (fun h2 => ?_) (fun _ => ?_)
        · refine ⟨_, rfl, A, _, _, _, rfl, rfl, SqL.of hA12, at_of (j := 0) rfl rfl, ?_⟩
          refine ⟨_, rfl, _, rfl, z, _, _, _, rfl, rfl, SqT.of hz12, at_of (j := 0) rfl rfl, _, rfl, z, _, _, _, rfl, rfl, SqT.of hz12, at_of (j := 1) rfl rfl, _, rfl, _, rfl, ?_⟩
          refine ⟨p, bs, m, _, ph, late, rfl, e512 _ _ hp5, ok, ph0, k0, h1, fun H13 e13 => ?_⟩
          rw [hg]
          walk_at "rd"
          rw [decide_eq_true rfl]
          refine iteF ?_
          exact ⟨_, _, _, _, _, rfl, e512.trans e13⟩
        · exact ⟨_, _, _, _, _, rfl, e512⟩
      · exact ⟨_, _, _, _, _, rfl, e512⟩
    · rintro σ H6 ⟨x9, x10, x11, x12, x13, rfl, e6⟩
      obtain ⟨dx, t, i1, i2⟩ := id (hR5.same e6)
      refine ⟨_, rfl, r, dx, _, rfl, i1, r, bs, rfl, hR5.same e6, fun Z hZ => ?_⟩
      have hpZ := Same.upd (o := .lst (bs.map V.int)) hZ _ _ (e6 _ _ hp5)
      refine ⟨_, rfl, .list (bs.map .int), .list (bs.map .int), .lst (SqL.of upd_same) (dpAll_ints bs), .lst (SqL.of hpZ) (dpAll_ints bs), shaped_lst bs, shaped_lst bs, ?_⟩
      show Q (.bl (PyData.eqvAll (bs.map .int) (bs.map .int))) _
      rw [eqvAll_ints, decide_eq_true rfl]
      exact k _ ((B5.trans (But.of e6)).trans (But.of (Same.upd hZ)))
def spLaw (K : PySem.W.Frag) : Sp := fun vs H Q _ => ∃ (a : Addr) (ns : List Int), vs = [.ref a] ∧ SqL K H a (ns.map V.int) ∧ ns.length ≤ 63 ∧ ∀ H', Q (.bl true) H'
theorem scLaw : FnScope ["script", "k"] ["script"] (defScope sLaw) := ⟨rfl, rfl, rfl, by decide +kernel, rfl, by decide +kernel, by decide +kernel⟩
theorem ok_law {f : Addr} {fd : FuncData} (F : Fun K "law" "law" sLaw f fd) (B : Bi mg) (D__law_case : Dn P w K mg base "_law_case" 8 ["bag"] spCase) (D__law_bag : Dn P w K mg base "_law_bag" 1 ["script", "k"] (spBag K)) : FnOk P w K mg base CX0 9 f fd ["script"] (spLaw K) := by
  refine F.ok scLaw (fun vs H Q E h => ?_) (fun cdv A outer s H vs Q E hr h => ?_)
  · obtain ⟨a, ns, rfl, _⟩ := h
    rfl
  · obtain ⟨a, ns, rfl, hS, hl, k⟩ := h
    refine ⟨_, (pss_cons (ps_for PassesOwn.never rfl (pi_range1 rfl B.range (pa_cons (pe_callB (call_max2 rfl) (by rfl) B.max (by decide +kernel) (pa_cons pe_int (pa_cons (pe_callB (call_min2 rfl) (by rfl) B.min (by decide +kernel) (pa_cons pe_int (pa_cons (pe_callB call_len_seq (by rfl) B.len PySem.boot_len (pa_cons (pv 0) pa_nil)) pa_nil))) pa_nil))) pa_nil)) (pg_name (i := 1) scLaw.nd rfl (Or.inl rfl))
  (pss_one (ps_if (pt_not (pt_val (pe_dn D__law_case (hr.mono (by decide)) (by rfl) pass0 (pa_cons (pe_dn D__law_bag (hr.mono (by decide)) (by rfl) pass0 (pa_cons (pv 0) (pa_cons (pv 1) pa_nil))) pa_nil)))) (pss_one (ps_ret pe_bl))
  pss_nil)))
  (pss_one (ps_ret pe_bl))), ?_⟩
    refine ⟨_, rfl, a, _, rfl, .inl hS, ?_⟩
    walk_at "rd"
    have hn : (ns.map V.int).length ≤ 63 := by rw [List.length_map]; exact hl
    refine ⟨by split <;> split <;> omega, by split <;> split <;> omega, ?_⟩
    refine for_range (fun i σ H' => ∃ v : Option V, σ = [some (.ref a), v] ∧ Same H H') ⟨_, rfl, Same.refl _⟩ ?_ ?_
    · rintro i σ H1 hi ⟨v, rfl, e1⟩
      refine ⟨_, rfl, _, rfl, a, ns, i, by rw [Int.zero_add]; rfl, e1.seq hS, fun p H2 hp hB e2 => ?_⟩
      walk_at "rd"
      refine ⟨hB, fun H3 c3 => ?_⟩
      walk_at "rd"
      intro b o e
      refine c3 b o ?_ (e2 b o (e1 b o e))
      intro q
      rw [q] at e
      have := e1 _ _ e
      rw [hp] at this
      cases this
    · rintro σ H1 ⟨v, rfl, e1⟩
      exact k _
end
end Cl

namespace Cl
open StX ClX
set_option maxHeartbeats 0 in
theorem all_mk {l : PySem.W.OpenLaw} {w : World} {K : PySem.W.Frag} {h : Heap} {mg : Str → Option Value} {fa C : Addr} (X : K.In h) (G : h.Ns mainGlobals mg) (hfa : mg "law" = some (.ref fa))
    (c_Round : AtC K "Round" C)
    (n_Round : PySem.W.findIn K (.ref C) "_budgets" = some none)
    (v_Round : ∃ mc u, CRead K C mc ∧ CVal K C mc "MOST" (.int 12) u)
    (t_is_whole : AtTop K "is_whole" "is_whole" sIsWhole [])
    (t_check_least : AtTop K "check_least" "check_least" sCheckLeast [])
    (t__law_is_number : AtTop K "_law_is_number" "_law_is_number" sLawIsNumber [])
    (t__law_take : AtTop K "_law_take" "_law_take" sLawTake [])
    (t__law_bag : AtTop K "_law_bag" "_law_bag" sLawBag [])
    (t__law_number : AtTop K "_law_number" "_law_number" sLawNumber [])
    (t_Round___init__ : AtCls K C "__init__" "Round.__init__" sRoundInit)
    (t_Round_budgets : AtProp K C "budgets" "Round.budgets" sRoundBudgets)
    (t_Round___len__ : AtCls K C "__len__" "Round.__len__" sRoundLen)
    (t_Round___eq__ : AtCls K C "__eq__" "Round.__eq__" sRoundEq)
    (t_Round___add__ : AtCls K C "__add__" "Round.__add__" sRoundAdd)
    (t_Round_at : AtCls K C "at" "Round.at" sRoundAt)
    (t_Round_total : AtCls K C "total" "Round.total" sRoundTotal)
    (t__law_row : AtTop K "_law_row" "_law_row" sLawRow [])
    (t__law_sum : AtTop K "_law_sum" "_law_sum" sLawSum [])
    (t__law_round : AtTop K "_law_round" "_law_round" sLawRound [])
    (t_Round__totals : AtCls K C "_totals" "Round._totals" sRoundTotals)
    (t_Round_least : AtCls K C "least" "Round.least" sRoundLeast)
    (t_check_round : AtTop K "check_round" "check_round" sCheckRound [])
    (t__check_order : AtTop K "_check_order" "_check_order" sCheckOrder [])
    (t__places_lost : AtTop K "_places_lost" "_places_lost" sPlacesLost [])
    (t_effective : AtTop K "effective" "effective" sEffective [("late", V.bl false), ("tears", V.int 0), ("readers", V.int 0)])
    (t_ring_goes_on : AtTop K "ring_goes_on" "ring_goes_on" sRingGoesOn [("late", V.bl false), ("tears", V.int 0), ("readers", V.int 0)])
    (t__law_least : AtTop K "_law_least" "_law_least" sLawLeast [])
    (t__law_edge : AtTop K "_law_edge" "_law_edge" sLawEdge [])
    (t__law_pair : AtTop K "_law_pair" "_law_pair" sLawPair [])
    (t__law_rule : AtTop K "_law_rule" "_law_rule" sLawRule [])
    (t__law_trim : AtTop K "_law_trim" "_law_trim" sLawTrim [])
    (t__law_unneeded : AtTop K "_law_unneeded" "_law_unneeded" sLawUnneeded [])
    (t__law_played : AtTop K "_law_played" "_law_played" sLawPlayed [])
    (t__law_never_stalls : AtTop K "_law_never_stalls" "_law_never_stalls" sLawNeverStalls [])
    (t__law_width : AtTop K "_law_width" "_law_width" sLawWidth [])
    (t__law_terms : AtTop K "_law_terms" "_law_terms" sLawTerms [])
    (t__law_pairs : AtTop K "_law_pairs" "_law_pairs" sLawPairs [])
    (t__law_answers : AtTop K "_law_answers" "_law_answers" sLawAnswers [])
    (t__law_pairs_agree : AtTop K "_law_pairs_agree" "_law_pairs_agree" sLawPairsAgree [])
    (t__law_case : AtTop K "_law_case" "_law_case" sLawCase [])
    (t_law : AtTop K "law" "law" sLaw [])
    (z_len : PySem.W.nsIn K mainGlobals "len" = some none)
    (z_abs : PySem.W.nsIn K mainGlobals "abs" = some none)
    (z_max : PySem.W.nsIn K mainGlobals "max" = some none)
    (z_min : PySem.W.nsIn K mainGlobals "min" = some none)
    (z_sum : PySem.W.nsIn K mainGlobals "sum" = some none)
    (z_all : PySem.W.nsIn K mainGlobals "all" = some none)
    (z_any : PySem.W.nsIn K mainGlobals "any" = some none)
    (z_range : PySem.W.nsIn K mainGlobals "range" = some none)
    (z_isinstance : PySem.W.nsIn K mainGlobals "isinstance" = some none)
    (z_intT : PySem.W.nsIn K mainGlobals "int" = some none)
    (z_strT : PySem.W.nsIn K mainGlobals "str" = some none)
    (z_boolT : PySem.W.nsIn K mainGlobals "bool" = some none)
    (z_listT : PySem.W.nsIn K mainGlobals "list" = some none)
    (z_divmod : PySem.W.nsIn K mainGlobals "divmod" = some none)
    (z_tupleT : PySem.W.nsIn K mainGlobals "tuple" = some none)
    (z_reversed : PySem.W.nsIn K mainGlobals "reversed" = some none)
    (z_repr : PySem.W.nsIn K mainGlobals "repr" = some none)
    : ∃ fd : FuncData, (∀ (s : Shared) (v : Value), BindsTo s fd ⟨[v], []⟩ [("script", v)]) ∧ ∀ base : Heap, K.In base → base.Ns mainGlobals mg → FnOk l.prog w K mg base CX0 9 fa fd ["script"] (spLaw K) := by
  obtain ⟨f, fd, a, F, FD⟩ := t_law.ex
  have e := hfa.symm.trans (PySem.W.mg_of X G a)
  cases e
  have B : Bi mg := ⟨PySem.W.mg_none_of X G z_len, PySem.W.mg_none_of X G z_abs, PySem.W.mg_none_of X G z_max, PySem.W.mg_none_of X G z_min, PySem.W.mg_none_of X G z_sum, PySem.W.mg_none_of X G z_all, PySem.W.mg_none_of X G z_any, PySem.W.mg_none_of X G z_range, PySem.W.mg_none_of X G z_isinstance, PySem.W.mg_none_of X G z_intT, PySem.W.mg_none_of X G z_strT, PySem.W.mg_none_of X G z_boolT, PySem.W.mg_none_of X G z_listT, PySem.W.mg_none_of X G z_divmod, PySem.W.mg_none_of X G z_tupleT, PySem.W.mg_none_of X G z_reversed, PySem.W.mg_none_of X G z_repr⟩
  refine ⟨fd, fun s v => FD.bindsA (ps := ["script"]) (fun _ _ _ _ _ _ us hl => match us, hl with | [_], _ => rfl) s [v] rfl, fun base _ _ => ?_⟩
  have R_Round : ClsC K mg "Round" C := c_Round.cc X G
  have N_Round : NoAttr K C "_budgets" := n_Round
  have V_Round : CV K C "MOST" (.int 12) := ⟨v_Round⟩
  have D_is_whole : Dn l.prog w K mg base "is_whole" 1 ["value"] spIsWhole := t_is_whole.dn X G (fun _ _ _ _ _ _ us hl => match us, hl with | [_], _ => rfl) (fun f fd F => ok_is_whole F B)
  have D_check_least : Dn l.prog w K mg base "check_least" 2 ["value", "least", "field"] spCheckLeast := t_check_least.dn X G (fun _ _ _ _ _ _ us hl => match us, hl with | [_, _, _], _ => rfl) (fun f fd F => ok_check_least F D_is_whole)
  have D__law_is_number : Dn l.prog w K mg base "_law_is_number" 1 ["told"] spIsWhole := t__law_is_number.dn X G (fun _ _ _ _ _ _ us hl => match us, hl with | [_], _ => rfl) (fun f fd F => ok_is_number F B)
  have D__law_take : Dn l.prog w K mg base "_law_take" 1 ["bag", "size"] spTake := t__law_take.dn X G (fun _ _ _ _ _ _ us hl => match us, hl with | [_, _], _ => rfl) (fun f fd F => ok_take F B)
  have D__law_bag : Dn l.prog w K mg base "_law_bag" 1 ["script", "k"] (spBag K) := t__law_bag.dn X G (fun _ _ _ _ _ _ us hl => match us, hl with | [_, _], _ => rfl) (fun f fd F => ok_bag F B)
  have D__law_number : Dn l.prog w K mg base "_law_number" 2 ["bag", "most"] spNumber := t__law_number.dn X G (fun _ _ _ _ _ _ us hl => match us, hl with | [_, _], _ => rfl) (fun f fd F => ok_number F B D__law_take)
  have MK_Round : Cn l.prog w K mg base C 3 (spInit C) := t_Round___init__.cn c_Round (fun f fd F => ok_Round_init F B R_Round N_Round V_Round D_check_least)
  have P_Round_budgets : Pn l.prog w K mg base C "budgets" 1 (spBudgets C) := t_Round_budgets.pn (fun _ _ _ _ _ _ us hl => match us, hl with | [_], _ => rfl) (fun f fd F => ok_Round_budgets F B R_Round N_Round)
  have O_Round___len__ : On l.prog w K mg base C "__len__" 1 ["self"] (spLen C) := t_Round___len__.on (fun _ _ _ _ _ _ us hl => match us, hl with | [_], _ => rfl) (fun f fd F => ok_Round_len F B R_Round N_Round)
  have O_Round___eq__ : On l.prog w K mg base C "__eq__" 1 ["self", "other"] (spEqR C) := t_Round___eq__.on (fun _ _ _ _ _ _ us hl => match us, hl with | [_, _], _ => rfl) (fun f fd F => ok_Round_eq F B R_Round N_Round)
  have O_Round___add__ : On l.prog w K mg base C "__add__" 5 ["self", "other"] (spAddR C) := t_Round___add__.on (fun _ _ _ _ _ _ us hl => match us, hl with | [_, _], _ => rfl) (fun f fd F => ok_Round_add F B R_Round N_Round MK_Round)
  have M_Round_at : Mn l.prog w K mg base C "at" 3 ["self", "t"] (spAt C) := t_Round_at.mn (fun _ _ _ _ _ _ us hl => match us, hl with | [_, _], _ => rfl) (fun f fd F => ok_Round_at F B R_Round N_Round D_check_least)
  have M_Round_total : Mn l.prog w K mg base C "total" 3 ["self", "start", "count"] (spTotal C) := t_Round_total.mn (fun _ _ _ _ _ _ us hl => match us, hl with | [_, _, _], _ => rfl) (fun f fd F => ok_Round_total F B R_Round N_Round D_check_least)
  have D__law_row : Dn l.prog w K mg base "_law_row" 3 ["bag", "size"] spRow := t__law_row.dn X G (fun _ _ _ _ _ _ us hl => match us, hl with | [_, _], _ => rfl) (fun f fd F => ok_row F B D__law_take D__law_number)
  have D__law_sum : Dn l.prog w K mg base "_law_sum" 1 ["row", "start", "count"] spSum := t__law_sum.dn X G (fun _ _ _ _ _ _ us hl => match us, hl with | [_, _, _], _ => rfl) (fun f fd F => ok_sum F B)
  have D__law_round : Dn l.prog w K mg base "_law_round" 7 ["row"] (spRoundN C 12) := t__law_round.dnR X G (fun _ _ _ _ _ _ us hl => match us, hl with | [_], _ => rfl) (fun f fd F I_self => ok_round F B R_Round MK_Round O_Round___add__ I_self)
  have M_Round__totals : Mn l.prog w K mg base C "_totals" 4 ["self", "count"] (spTotals C) := t_Round__totals.mn (fun _ _ _ _ _ _ us hl => match us, hl with | [_, _], _ => rfl) (fun f fd F => ok_Round_totals F B R_Round N_Round M_Round_total)
  have M_Round_least : Mn l.prog w K mg base C "least" 5 ["self", "count"] (spLeast C) := t_Round_least.mn (fun _ _ _ _ _ _ us hl => match us, hl with | [_, _], _ => rfl) (fun f fd F => ok_Round_least F B R_Round D_check_least M_Round__totals)
  have D_check_round : Dn l.prog w K mg base "check_round" 1 ["budgets"] (spCkRound C) := t_check_round.dn X G (fun _ _ _ _ _ _ us hl => match us, hl with | [_], _ => rfl) (fun f fd F => ok_check_round F B R_Round)
  have D__check_order : Dn l.prog w K mg base "_check_order" 3 ["late", "tears", "readers"] spOrd := t__check_order.dn X G (fun _ _ _ _ _ _ us hl => match us, hl with | [_, _, _], _ => rfl) (fun f fd F => ok_check_order F D_check_least)
  have D__places_lost : Dn l.prog w K mg base "_places_lost" 1 ["late", "tears"] spLost := t__places_lost.dn X G (fun _ _ _ _ _ _ us hl => match us, hl with | [_, _], _ => rfl) (fun f fd F => ok_places_lost F)
  have K_effective_late_tears_readers : Dk l.prog w K mg base "effective" 4 ["places", "limit", "late", "tears", "readers"] spEff 2 ["late", "tears", "readers"] (fun vs zs => vs ++ zs) := t_effective.dk X G 2 ["late", "tears", "readers"] (fun _ _ _ _ _ _ us ws hl hk => match us, ws, hl, hk with | [_, _], [_, _, _], _, _ => rfl) (fun f fd F => ok_effective F D_check_least D__check_order D__places_lost)
  have K_effective_late : Dk l.prog w K mg base "effective" 4 ["places", "limit", "late", "tears", "readers"] spEff 2 ["late"] (kwp [.inl 0, .inr 0, .inr 1] [.int 0, .int 0]) := t_effective.dkp X G 2 ["late"] [("tears", V.int 0), ("readers", V.int 0)] [.inl 0, .inr 0, .inr 1] (by simp) (by decide +kernel) (fun _ _ _ _ _ _ us mv ws h1 h2 h3 => match us, mv, ws, h1, h2, h3 with | [_, _], [_, _], [_], _, _, _ => ⟨_, _, _, _, _, _, rfl, rfl, ⟨_, _, _, _, _, _, rfl, rfl, rfl⟩⟩) (fun f fd F => ok_effective F D_check_least D__check_order D__places_lost)
  have D_effective : Dn l.prog w K mg base "effective" 4 ["places", "limit", "late", "tears", "readers"] spEff [.bl false, .int 0, .int 0] := t_effective.dd X G 2 (by simp) rfl (fun _ _ _ _ _ _ us ks hl hk => match us, ks, hl, hk with | [_, _], [_, _, _], _, _ => ⟨_, _, _, _, _, _, rfl, rfl, ⟨_, _, _, _, _, _, rfl, rfl, ⟨_, _, _, _, _, _, rfl, rfl, rfl⟩⟩⟩) (fun f fd F => ok_effective F D_check_least D__check_order D__places_lost)
  have K_ring_goes_on_late_tears_readers : Dk l.prog w K mg base "ring_goes_on" 6 ["places", "limit", "budgets", "late", "tears", "readers"] (spGoes C) 3 ["late", "tears", "readers"] (fun vs zs => vs ++ zs) := t_ring_goes_on.dk X G 3 ["late", "tears", "readers"] (fun _ _ _ _ _ _ us ws hl hk => match us, ws, hl, hk with | [_, _, _], [_, _, _], _, _ => rfl) (fun f fd F => ok_ring_goes_on F R_Round D_check_least D_check_round K_effective_late_tears_readers M_Round_least)
  have K_ring_goes_on_late : Dk l.prog w K mg base "ring_goes_on" 6 ["places", "limit", "budgets", "late", "tears", "readers"] (spGoes C) 3 ["late"] (kwp [.inl 0, .inr 0, .inr 1] [.int 0, .int 0]) := t_ring_goes_on.dkp X G 3 ["late"] [("tears", V.int 0), ("readers", V.int 0)] [.inl 0, .inr 0, .inr 1] (by simp) (by decide +kernel) (fun _ _ _ _ _ _ us mv ws h1 h2 h3 => match us, mv, ws, h1, h2, h3 with | [_, _, _], [_, _], [_], _, _, _ => ⟨_, _, _, _, _, _, rfl, rfl, ⟨_, _, _, _, _, _, rfl, rfl, rfl⟩⟩) (fun f fd F => ok_ring_goes_on F R_Round D_check_least D_check_round K_effective_late_tears_readers M_Round_least)
  have K_ring_goes_on_tears_late : Dk l.prog w K mg base "ring_goes_on" 6 ["places", "limit", "budgets", "late", "tears", "readers"] (spGoes C) 3 ["tears", "late"] (kwp [.inl 1, .inl 0, .inr 0] [.int 0]) := t_ring_goes_on.dkp X G 3 ["tears", "late"] [("readers", V.int 0)] [.inl 1, .inl 0, .inr 0] (by simp) (by decide +kernel) (fun _ _ _ _ _ _ us mv ws h1 h2 h3 => match us, mv, ws, h1, h2, h3 with | [_, _, _], [_], [_, _], _, _, _ => ⟨_, _, _, _, _, _, rfl, rfl, rfl⟩) (fun f fd F => ok_ring_goes_on F R_Round D_check_least D_check_round K_effective_late_tears_readers M_Round_least)
  have K_ring_goes_on_readers : Dk l.prog w K mg base "ring_goes_on" 6 ["places", "limit", "budgets", "late", "tears", "readers"] (spGoes C) 3 ["readers"] (kwp [.inr 0, .inr 1, .inl 0] [.bl false, .int 0]) := t_ring_goes_on.dkp X G 3 ["readers"] [("late", V.bl false), ("tears", V.int 0)] [.inr 0, .inr 1, .inl 0] (by simp) (by decide +kernel) (fun _ _ _ _ _ _ us mv ws h1 h2 h3 => match us, mv, ws, h1, h2, h3 with | [_, _, _], [_, _], [_], _, _, _ => ⟨_, _, _, _, _, _, rfl, rfl, ⟨_, _, _, _, _, _, rfl, rfl, rfl⟩⟩) (fun f fd F => ok_ring_goes_on F R_Round D_check_least D_check_round K_effective_late_tears_readers M_Round_least)
  have D_ring_goes_on : Dn l.prog w K mg base "ring_goes_on" 6 ["places", "limit", "budgets", "late", "tears", "readers"] (spGoes C) [.bl false, .int 0, .int 0] := t_ring_goes_on.dd X G 3 (by simp) rfl (fun _ _ _ _ _ _ us ks hl hk => match us, ks, hl, hk with | [_, _, _], [_, _, _], _, _ => ⟨_, _, _, _, _, _, rfl, rfl, ⟨_, _, _, _, _, _, rfl, rfl, ⟨_, _, _, _, _, _, rfl, rfl, rfl⟩⟩⟩) (fun f fd F => ok_ring_goes_on F R_Round D_check_least D_check_round K_effective_late_tears_readers M_Round_least)
  have D__law_least : Dn l.prog w K mg base "_law_least" 2 ["row", "count"] spLLeast := t__law_least.dn X G (fun _ _ _ _ _ _ us hl => match us, hl with | [_, _], _ => rfl) (fun f fd F => ok_law_least F B D__law_sum)
  have D__law_edge : Dn l.prog w K mg base "_law_edge" 3 ["row", "need"] spEdge := t__law_edge.dn X G (fun _ _ _ _ _ _ us hl => match us, hl with | [_, _], _ => rfl) (fun f fd F => ok_edge F B D__law_least)
  have D__law_pair : Dn l.prog w K mg base "_law_pair" 1 ["places", "limit", "written_first", "tear_count", "reader_count"] spPair := t__law_pair.dn X G (fun _ _ _ _ _ _ us hl => match us, hl with | [_, _, _, _, _], _ => rfl) (fun f fd F => ok_pair F)
  have D__law_rule : Dn l.prog w K mg base "_law_rule" 3 ["row", "room", "keys"] spRule := t__law_rule.dn X G (fun _ _ _ _ _ _ us hl => match us, hl with | [_, _, _], _ => rfl) (fun f fd F => ok_rule F D__law_least)
  have D__law_trim : Dn l.prog w K mg base "_law_trim" 1 ["queue"] spTrim := t__law_trim.dn X G (fun _ _ _ _ _ _ us hl => match us, hl with | [_], _ => rfl) (fun f fd F => ok_trim F B)
  have D__law_unneeded : Dn l.prog w K mg base "_law_unneeded" 2 ["queue", "fresh"] spUnneeded := t__law_unneeded.dn X G (fun _ _ _ _ _ _ us hl => match us, hl with | [_, _], _ => rfl) (fun f fd F => ok_unneeded F B D__law_trim)
  have D__law_played : Dn l.prog w K mg base "_law_played" 3 ["places", "keys", "row", "phase", "written_first", "moments"] spPlayed := t__law_played.dn X G (fun _ _ _ _ _ _ us hl => match us, hl with | [_, _, _, _, _, _], _ => rfl) (fun f fd F => ok_played F B D__law_trim D__law_unneeded)
  have D__law_never_stalls : Dn l.prog w K mg base "_law_never_stalls" 4 ["row", "room", "keys", "phase", "written_first"] spStalls := t__law_never_stalls.dn X G (fun _ _ _ _ _ _ us hl => match us, hl with | [_, _, _, _, _], _ => rfl) (fun f fd F => ok_stalls F B D__law_played)
  have D__law_width : Dn l.prog w K mg base "_law_width" 4 ["bag", "row", "keys"] spWidth := t__law_width.dn X G (fun _ _ _ _ _ _ us hl => match us, hl with | [_, _, _], _ => rfl) (fun f fd F => ok_width F B D__law_take D__law_edge)
  have D__law_terms : Dn l.prog w K mg base "_law_terms" 5 ["bag", "row"] spTerms := t__law_terms.dn X G (fun _ _ _ _ _ _ us hl => match us, hl with | [_, _], _ => rfl) (fun f fd F => ok_terms F B D__law_take D__law_number D__law_width)
  have D__law_pairs : Dn l.prog w K mg base "_law_pairs" 5 ["places", "limit", "written_first", "tear_count", "reader_count"] spPairs := t__law_pairs.dn X G (fun _ _ _ _ _ _ us hl => match us, hl with | [_, _, _, _, _], _ => rfl) (fun f fd F => ok_pairs F K_effective_late_tears_readers K_effective_late D_effective)
  have D__law_answers : Dn l.prog w K mg base "_law_answers" 7 ["made", "places", "limit", "written_first", "tear_count", "reader_count"] (spAnswers C) := t__law_answers.dn X G (fun _ _ _ _ _ _ us hl => match us, hl with | [_, _, _, _, _, _], _ => rfl) (fun f fd F => ok_answers F K_ring_goes_on_late_tears_readers K_ring_goes_on_late K_ring_goes_on_tears_late K_ring_goes_on_readers D_ring_goes_on)
  have D__law_pairs_agree : Dn l.prog w K mg base "_law_pairs_agree" 2 ["told", "pair"] spAgree := t__law_pairs_agree.dn X G (fun _ _ _ _ _ _ us hl => match us, hl with | [_, _], _ => rfl) (fun f fd F => ok_pairs_agree F B D__law_is_number)
  have D__law_case : Dn l.prog w K mg base "_law_case" 8 ["bag"] spCase := t__law_case.dn X G (fun _ _ _ _ _ _ us hl => match us, hl with | [_], _ => rfl) (fun f fd F => ok_case F B R_Round D__law_row D__law_round D__law_take D__law_terms D__law_pairs D__law_pair D__law_pairs_agree D__law_rule D__law_answers D_ring_goes_on D__law_never_stalls P_Round_budgets)
  exact ok_law F B D__law_case D__law_bag
theorem walk {l : PySem.W.OpenLaw} {q : Program} {loose : List Str} {XP : (Str → Option Value) → Heap → Prop} {YP : World → Heap → Prop} {d : DefRec} {K : Params → PySem.W.Frag} (hn : l.most = some 63) (hdf : d.params.defaults = [])
    (hY : ∀ (w : World) (h : Heap), YP w h → (K w.params).In h)
    (F : ∀ (w : World) (mg : Str → Option Value) (fa : Addr) (h : Heap), (K w.params).In h → h.Ns mainGlobals mg → mg d.name = some (.ref fa) →
      ∃ fd : FuncData, (∀ (s : Shared) (u : Value), BindsTo s fd ⟨[u], []⟩ [("script", u)]) ∧ ∀ base : Heap, (K w.params).In base → base.Ns mainGlobals mg → FnOk l.prog w (K w.params) mg base CX0 9 fa fd ["script"] (spLaw (K w.params))) :
    PySem.W.WalkO q loose XP YP l.row.toRowW d [] (fun f vs => PySem.call f vs) :=
  L2.walk_of (n := 63) (k := 9) (x := "script") (CX := fun _ => CX0) (sp := fun w => spLaw (K w.params)) hn (by decide) hdf ⟨rfl, by decide, by decide⟩ hY F (fun _ _ a ns hl _ hS => ⟨a, ns, rfl, hS, hl, fun _ => rfl⟩) fun _ _ _ _ _ z => z
end Cl
open PySem PySem.W PyProof.Rows
set_option maxRecDepth 100000 in
set_option maxHeartbeats 0 in
theorem PySem.Challenge.cw_carrylog_k02_whole_rule_of_the_ring_holds : PySem.Challenge.rw_carrylog_k02_whole_rule_of_the_ring.Holds := by
  w_on; o_law; k_head; (case hw => w_witness2)
  k_fill
  refine Cl.walk (l := PySem.Challenge.rw_carrylog_k02_whole_rule_of_the_ring) rfl rfl (fun w h Y => PySem.W.kIn_of Y) ?F
  case F =>
    intro w mg fa h KX G hmg
    refine' Cl.all_mk KX G hmg ?c_Round ?n_Round ?v_Round ?t_is_whole ?t_check_least ?t__law_is_number ?t__law_take ?t__law_bag ?t__law_number ?t_Round___init__ ?t_Round_budgets ?t_Round___len__ ?t_Round___eq__ ?t_Round___add__ ?t_Round_at ?t_Round_total ?t__law_row ?t__law_sum ?t__law_round ?t_Round__totals ?t_Round_least ?t_check_round ?t__check_order ?t__places_lost ?t_effective ?t_ring_goes_on ?t__law_least ?t__law_edge ?t__law_pair ?t__law_rule ?t__law_trim ?t__law_unneeded ?t__law_played ?t__law_never_stalls ?t__law_width ?t__law_terms ?t__law_pairs ?t__law_answers ?t__law_pairs_agree ?t__law_case ?t_law ?z_len ?z_abs ?z_max ?z_min ?z_sum ?z_all ?z_any ?z_range ?z_isinstance ?z_intT ?z_strT ?z_boolT ?z_listT ?z_divmod ?z_tupleT ?z_reversed ?z_repr
    (case c_Round => (refine' Cl.atC ?u1_a ?u1_pg ?u1_hd ?u1_po ?u1_sa ?u1_ha ?u1_hn ?u1_htk ?u1_hm ?u1_sf ?u1_mk ?u1_kp; (case u1_a => k_is); (case u1_pg => k_is); (case u1_hd => k_is); (case u1_po => k_is); (case u1_sa => k_is); (case u1_ha => k_is); (case u1_hn => k_is); (case u1_htk => k_is); (case u1_hm => k_is); (case u1_sf => k_is); (case u1_mk => k_is); (case u1_kp => k_is)))
    (case n_Round => k_is)
    (case v_Round => (refine' Cl.cvAt ?u2_ty ?u2_rd ?u2_ga ?u2_fc ?u2_r; (case u2_ty => k_is); (case u2_rd => k_is); (case u2_ga => k_is); (case u2_fc => k_is); (case u2_r => first | rfl | exact ⟨_, rfl⟩)))
    (case t_is_whole => (refine' Cl.atTop0 ?u3_xa ?u3_xl ?u3_xc ?u3_xp; (case u3_xa => k_is); (case u3_xl => k_is); (case u3_xc => k_is); (case u3_xp => k_is)))
    (case t_check_least => (refine' Cl.atTop0 ?u4_xa ?u4_xl ?u4_xc ?u4_xp; (case u4_xa => k_is); (case u4_xl => k_is); (case u4_xc => k_is); (case u4_xp => k_is)))
    (case t__law_is_number => (refine' Cl.atTop0 ?u5_xa ?u5_xl ?u5_xc ?u5_xp; (case u5_xa => k_is); (case u5_xl => k_is); (case u5_xc => k_is); (case u5_xp => k_is)))
    (case t__law_take => (refine' Cl.atTop0 ?u6_xa ?u6_xl ?u6_xc ?u6_xp; (case u6_xa => k_is); (case u6_xl => k_is); (case u6_xc => k_is); (case u6_xp => k_is)))
    (case t__law_bag => (refine' Cl.atTop0 ?u7_xa ?u7_xl ?u7_xc ?u7_xp; (case u7_xa => k_is); (case u7_xl => k_is); (case u7_xc => k_is); (case u7_xp => k_is)))
    (case t__law_number => (refine' Cl.atTop0 ?u8_xa ?u8_xl ?u8_xc ?u8_xp; (case u8_xa => k_is); (case u8_xl => k_is); (case u8_xc => k_is); (case u8_xp => k_is)))
    (case t_Round___init__ => (refine' Cl.atCls ?u9_a ?u9_i ?u9_l ?u9_c ?u9_p; (case u9_a => k_is); (case u9_i => k_is); (case u9_l => k_is); (case u9_c => k_is); (case u9_p => k_is)))
    (case t_Round_budgets => (refine' Cl.atProp ?u10_a ?u10_gt ?u10_tk ?u10_rc ?u10_l ?u10_c ?u10_p; (case u10_a => k_is); (case u10_gt => k_is); (case u10_tk => k_is); (case u10_rc => k_is); (case u10_l => k_is); (case u10_c => k_is); (case u10_p => k_is)))
    (case t_Round___len__ => (refine' Cl.atCls ?u11_a ?u11_i ?u11_l ?u11_c ?u11_p; (case u11_a => k_is); (case u11_i => k_is); (case u11_l => k_is); (case u11_c => k_is); (case u11_p => k_is)))
    (case t_Round___eq__ => (refine' Cl.atCls ?u12_a ?u12_i ?u12_l ?u12_c ?u12_p; (case u12_a => k_is); (case u12_i => k_is); (case u12_l => k_is); (case u12_c => k_is); (case u12_p => k_is)))
    (case t_Round___add__ => (refine' Cl.atCls ?u13_a ?u13_i ?u13_l ?u13_c ?u13_p; (case u13_a => k_is); (case u13_i => k_is); (case u13_l => k_is); (case u13_c => k_is); (case u13_p => k_is)))
    (case t_Round_at => (refine' Cl.atCls ?u14_a ?u14_i ?u14_l ?u14_c ?u14_p; (case u14_a => k_is); (case u14_i => k_is); (case u14_l => k_is); (case u14_c => k_is); (case u14_p => k_is)))
    (case t_Round_total => (refine' Cl.atCls ?u15_a ?u15_i ?u15_l ?u15_c ?u15_p; (case u15_a => k_is); (case u15_i => k_is); (case u15_l => k_is); (case u15_c => k_is); (case u15_p => k_is)))
    (case t__law_row => (refine' Cl.atTop0 ?u16_xa ?u16_xl ?u16_xc ?u16_xp; (case u16_xa => k_is); (case u16_xl => k_is); (case u16_xc => k_is); (case u16_xp => k_is)))
    (case t__law_sum => (refine' Cl.atTop0 ?u17_xa ?u17_xl ?u17_xc ?u17_xp; (case u17_xa => k_is); (case u17_xl => k_is); (case u17_xc => k_is); (case u17_xp => k_is)))
    (case t__law_round => (refine' Cl.atTop0 ?u18_xa ?u18_xl ?u18_xc ?u18_xp; (case u18_xa => k_is); (case u18_xl => k_is); (case u18_xc => k_is); (case u18_xp => k_is)))
    (case t_Round__totals => (refine' Cl.atCls ?u19_a ?u19_i ?u19_l ?u19_c ?u19_p; (case u19_a => k_is); (case u19_i => k_is); (case u19_l => k_is); (case u19_c => k_is); (case u19_p => k_is)))
    (case t_Round_least => (refine' Cl.atCls ?u20_a ?u20_i ?u20_l ?u20_c ?u20_p; (case u20_a => k_is); (case u20_i => k_is); (case u20_l => k_is); (case u20_c => k_is); (case u20_p => k_is)))
    (case t_check_round => (refine' Cl.atTop0 ?u21_xa ?u21_xl ?u21_xc ?u21_xp; (case u21_xa => k_is); (case u21_xl => k_is); (case u21_xc => k_is); (case u21_xp => k_is)))
    (case t__check_order => (refine' Cl.atTop0 ?u22_xa ?u22_xl ?u22_xc ?u22_xp; (case u22_xa => k_is); (case u22_xl => k_is); (case u22_xc => k_is); (case u22_xp => k_is)))
    (case t__places_lost => (refine' Cl.atTop0 ?u23_xa ?u23_xl ?u23_xc ?u23_xp; (case u23_xa => k_is); (case u23_xl => k_is); (case u23_xc => k_is); (case u23_xp => k_is)))
    (case t_effective => (refine' Cl.atTop3 ?u24_xa ?u24_xl ?u24_xc ?u24_xp ?u24_xk0 ?u24_xr0 ?u24_xk1 ?u24_xr1 ?u24_xk2 ?u24_xr2; (case u24_xa => k_is); (case u24_xl => k_is); (case u24_xc => k_is); (case u24_xp => k_is); (case u24_xk0 => k_is); (case u24_xr0 => first | rfl | exact ⟨_, rfl⟩); (case u24_xk1 => k_is); (case u24_xr1 => first | rfl | exact ⟨_, rfl⟩); (case u24_xk2 => k_is); (case u24_xr2 => first | rfl | exact ⟨_, rfl⟩)))
    (case t_ring_goes_on => (refine' Cl.atTop3 ?u25_xa ?u25_xl ?u25_xc ?u25_xp ?u25_xk0 ?u25_xr0 ?u25_xk1 ?u25_xr1 ?u25_xk2 ?u25_xr2; (case u25_xa => k_is); (case u25_xl => k_is); (case u25_xc => k_is); (case u25_xp => k_is); (case u25_xk0 => k_is); (case u25_xr0 => first | rfl | exact ⟨_, rfl⟩); (case u25_xk1 => k_is); (case u25_xr1 => first | rfl | exact ⟨_, rfl⟩); (case u25_xk2 => k_is); (case u25_xr2 => first | rfl | exact ⟨_, rfl⟩)))
    (case t__law_least => (refine' Cl.atTop0 ?u26_xa ?u26_xl ?u26_xc ?u26_xp; (case u26_xa => k_is); (case u26_xl => k_is); (case u26_xc => k_is); (case u26_xp => k_is)))
    (case t__law_edge => (refine' Cl.atTop0 ?u27_xa ?u27_xl ?u27_xc ?u27_xp; (case u27_xa => k_is); (case u27_xl => k_is); (case u27_xc => k_is); (case u27_xp => k_is)))
    (case t__law_pair => (refine' Cl.atTop0 ?u28_xa ?u28_xl ?u28_xc ?u28_xp; (case u28_xa => k_is); (case u28_xl => k_is); (case u28_xc => k_is); (case u28_xp => k_is)))
    (case t__law_rule => (refine' Cl.atTop0 ?u29_xa ?u29_xl ?u29_xc ?u29_xp; (case u29_xa => k_is); (case u29_xl => k_is); (case u29_xc => k_is); (case u29_xp => k_is)))
    (case t__law_trim => (refine' Cl.atTop0 ?u30_xa ?u30_xl ?u30_xc ?u30_xp; (case u30_xa => k_is); (case u30_xl => k_is); (case u30_xc => k_is); (case u30_xp => k_is)))
    (case t__law_unneeded => (refine' Cl.atTop0 ?u31_xa ?u31_xl ?u31_xc ?u31_xp; (case u31_xa => k_is); (case u31_xl => k_is); (case u31_xc => k_is); (case u31_xp => k_is)))
    (case t__law_played => (refine' Cl.atTop0 ?u32_xa ?u32_xl ?u32_xc ?u32_xp; (case u32_xa => k_is); (case u32_xl => k_is); (case u32_xc => k_is); (case u32_xp => k_is)))
    (case t__law_never_stalls => (refine' Cl.atTop0 ?u33_xa ?u33_xl ?u33_xc ?u33_xp; (case u33_xa => k_is); (case u33_xl => k_is); (case u33_xc => k_is); (case u33_xp => k_is)))
    (case t__law_width => (refine' Cl.atTop0 ?u34_xa ?u34_xl ?u34_xc ?u34_xp; (case u34_xa => k_is); (case u34_xl => k_is); (case u34_xc => k_is); (case u34_xp => k_is)))
    (case t__law_terms => (refine' Cl.atTop0 ?u35_xa ?u35_xl ?u35_xc ?u35_xp; (case u35_xa => k_is); (case u35_xl => k_is); (case u35_xc => k_is); (case u35_xp => k_is)))
    (case t__law_pairs => (refine' Cl.atTop0 ?u36_xa ?u36_xl ?u36_xc ?u36_xp; (case u36_xa => k_is); (case u36_xl => k_is); (case u36_xc => k_is); (case u36_xp => k_is)))
    (case t__law_answers => (refine' Cl.atTop0 ?u37_xa ?u37_xl ?u37_xc ?u37_xp; (case u37_xa => k_is); (case u37_xl => k_is); (case u37_xc => k_is); (case u37_xp => k_is)))
    (case t__law_pairs_agree => (refine' Cl.atTop0 ?u38_xa ?u38_xl ?u38_xc ?u38_xp; (case u38_xa => k_is); (case u38_xl => k_is); (case u38_xc => k_is); (case u38_xp => k_is)))
    (case t__law_case => (refine' Cl.atTop0 ?u39_xa ?u39_xl ?u39_xc ?u39_xp; (case u39_xa => k_is); (case u39_xl => k_is); (case u39_xc => k_is); (case u39_xp => k_is)))
    (case t_law => (refine' Cl.atTop0 ?u40_xa ?u40_xl ?u40_xc ?u40_xp; (case u40_xa => k_is); (case u40_xl => k_is); (case u40_xc => k_is); (case u40_xp => k_is)))
    (case z_len => k_is)
    (case z_abs => k_is)
    (case z_max => k_is)
    (case z_min => k_is)
    (case z_sum => k_is)
    (case z_all => k_is)
    (case z_any => k_is)
    (case z_range => k_is)
    (case z_isinstance => k_is)
    (case z_intT => k_is)
    (case z_strT => k_is)
    (case z_boolT => k_is)
    (case z_listT => k_is)
    (case z_divmod => k_is)
    (case z_tupleT => k_is)
    (case z_reversed => k_is)
    (case z_repr => k_is)
