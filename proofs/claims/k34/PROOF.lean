import PyProof.Rows.All
import Wide.All
import OpenK.AllK
import Wide.FinOn
import HandS.ForMost
import HandS.Wide
import HandS.IsInst
import HandS.Defaults
import HandS.Codes
import HandS.MakeKwOnly
import PySem.Challenge.RW_carrylog_k34_can_empty
import HandS.Star
import HandS.ClsMeth
import HandS.Property
import HandS.TupLe
import HandS.Sort
import HandS.Evl
import HandS.TupAny
import HandS.DeepEq
import KE.KTupSum
import KE.KMathG
import Flt.RightSqrt
import HandS.Struct
import HandS.Iter
import HandS.Walk
import PyProof.EnumMake
import PyProof.Draws
import PyProof.Rows.StrJoinRep
import PyProof.Rows.RegReprOcc
import PyProof.Rows.StrCut
import HandS.DictComp
import HandS.Text
import HandS.StrMore
import HandS.Zip
import KE.KExcSuper
import KE.KSuper
import PyProof.FString
import PyProof.FString4
import HandS.Exc
import HandS.ExcOwn
import HandS.TryOnly
import HandS.WordsExc
import HandS.CallSlots
import KE.KExcIs
import HandS.ExcIs
import KE.RegKSuper
set_option Elab.async false
set_option maxRecDepth 100000
/-! ### my words over the hand layer -/
namespace Cl
open PySem L2
/-- the built-in names that the law's text uses are still the built-ins -/
structure Bi (mg : Str → Option Value) : Prop where
  len : mg "len" = none
  abs : mg "abs" = none
  max : mg "max" = none
  min : mg "min" = none
  sum : mg "sum" = none
  all : mg "all" = none
  any : mg "any" = none
  range : mg "range" = none
  isinstance : mg "isinstance" = none
  intT : mg "int" = none
  strT : mg "str" = none
  boolT : mg "bool" = none
  listT : mg "list" = none
  divmod : mg "divmod" = none
  tupleT : mg "tuple" = none
  reversed : mg "reversed" = none
  repr : mg "repr" = none
  enumerate : mg "enumerate" = none
  zip : mg "zip" = none
  ValueErrorT : mg "ValueError" = none
/-- a def of the text, by its name: what it promises -/
structure Dn (P : Program) (w : World) (K : PySem.W.Frag) (mg : Str → Option Value) (base : Heap) (x : Str) (k : Nat) (ps : List Str) (sp : Sp) (dvs : List V := []) : Prop where
  ex : ∃ (f : Addr) (fd : FuncData) (ds : List Value), FnOk P w K mg base CX0 k f fd ps sp ∧ mg x = some (.ref f) ∧ PySem.W.keepIn K (.ref f) = true ∧ Binds K fd ps ds ∧ Vals dvs ds
/-- the same called with keywords -/
structure Dk (P : Program) (w : World) (K : PySem.W.Frag) (mg : Str → Option Value) (base : Heap) (x : Str) (k : Nat) (ps : List Str) (sp : Sp) (n : Nat) (ks : List Str) (gV : List V → List V → List V) : Prop where
  ex : ∃ (f : Addr) (fd : FuncData) (g : List Value → List Value → List Value), FnOk P w K mg base CX0 k f fd ps sp ∧ mg x = some (.ref f) ∧ PySem.W.keepIn K (.ref f) = true ∧ KBn K fd ps n ks g gV
section
variable {X : Cx} {k n : Nat} {ps ks : List Str} {sp : Sp} {dvs : List V} {E : XK} {x : Str} {p pos : Pos} {e : Expr} {es : List Expr} {kws : List Keyword} {t tk : TA} {gV : List V → List V → List V}
theorem pe_dn (D : Dn X.prog X.w X.K X.mg X.base x k ps sp dvs) (hr : Room k X.A) (hg : Gl X x) (hx : Passes CX0 X E) (ha : PA X (e :: es) t)
    (hdb : (x == ("__debug__" : Str)) = false := by decide) (he : starEach (e :: es) X.env = (false, eval e X.env) :: starEach es X.env := by rfl)
    (hpl : (backTo pos (starEach es X.env)).any (·.1) = false := by rfl) : PE X (.Call (.Name x p) (e :: es) [] pos) (tCall sp dvs E t) := by
  obtain ⟨f, fd, ds, G, m, kp, b, v⟩ := D.ex
  exact pe_call G hr hg m kp b v hx ha hdb he hpl
theorem pe_dn0 (D : Dn X.prog X.w X.K X.mg X.base x k ps sp dvs) (hr : Room k X.A) (hg : Gl X x) (hx : Passes CX0 X E)
    (hdb : (x == ("__debug__" : Str)) = false := by decide) : PE X (.Call (.Name x p) [] [] pos) (tCall sp dvs E tNil) := by
  obtain ⟨f, fd, ds, G, m, kp, b, v⟩ := D.ex
  exact pe_call0 G hr hg m kp b v hx hdb
theorem pe_dk (D : Dk X.prog X.w X.K X.mg X.base x k ps sp n ks gV) (hr : Room k X.A) (hg : Gl X x) (hx : Passes CX0 X E) (ha : PA X (e :: es) t) (hkw : PK X kws tk)
    (hall : (backToKw pos (keywordEach kws X.env)).all (·.1.isSome) = true := by rfl) (hks : (backToKw pos (keywordEach kws X.env)).filterMap (·.1) = ks := by rfl)
    (hdb : (x == ("__debug__" : Str)) = false := by decide) (he : starEach (e :: es) X.env = (false, eval e X.env) :: starEach es X.env := by rfl)
    (hpl : ((backTo pos (starEach (e :: es) X.env)).any (·.1) || (backToKw pos (keywordEach kws X.env)).any (·.1.isNone)) = false := by rfl) :
    PE X (.Call (.Name x p) (e :: es) kws pos) (tCallN n ks.length sp gV E t tk) := by
  obtain ⟨f, fd, g, G, m, kp, b⟩ := D.ex
  exact pe_callN G hr hg m kp b hx ha hkw hall hks hdb he hpl
end
theorem mulB {i j : Int} (h1 : -100000000000000000000000000000000000000000000000000000000000000 ≤ i) (h2 : i ≤ 100000000000000000000000000000000000000000000000000000000000000) (h3 : -100000000000000000000000000000000000000000000000000000000000000 ≤ j) (h4 : j ≤ 100000000000000000000000000000000000000000000000000000000000000) : CMulW i j :=
  wide_mul (a := 220) (b := 220) (Nat.lt_of_le_of_lt (show i.natAbs ≤ 100000000000000000000000000000000000000000000000000000000000000 by omega) (by decide)) (Nat.lt_of_le_of_lt (show j.natAbs ≤ 100000000000000000000000000000000000000000000000000000000000000 by omega) (by decide)) (by decide) (by decide) (by decide)
theorem divB {i j : Int} (h : 0 < j) (h2 : j ≤ 100000000000000000000000000000000000000000000000000000000000000) : CDivW i j :=
  wide_div h (b := 220) (Nat.lt_of_le_of_lt (show j.natAbs ≤ 100000000000000000000000000000000000000000000000000000000000000 by omega) (by decide)) (by decide) (by decide)
theorem strB {i : Int} (h1 : -100000000000000000000000000000000000000000000000000000000000000 ≤ i) (h2 : i ≤ 100000000000000000000000000000000000000000000000000000000000000) : i.natAbs.log2 < 1920 :=
  Nat.lt_of_lt_of_le (PySem.Flt.log2_lt_of (k := 220) (by decide) (Nat.lt_of_le_of_lt (show i.natAbs ≤ 100000000000000000000000000000000000000000000000000000000000000 by omega) (by decide))) (by decide)
/-- all that was tracked but what stands at a is as it was -/
def But (a : Addr) (H H' : Hp) : Prop := ∀ b o, b ≠ a → H b = some o → H' b = some o
theorem But.refl (a : Addr) (H : Hp) : But a H H := fun _ _ _ h => h
theorem But.trans {a : Addr} {H H1 H2 : Hp} (x : But a H H1) (y : But a H1 H2) : But a H H2 := fun b o n h => y b o n (x b o n h)
theorem But.of {a : Addr} {H H' : Hp} (x : Same H H') : But a H H' := fun b o _ h => x b o h
theorem But.upd {a : Addr} {H : Hp} {o : HO} : But a H (upd H a o) := fun b u n h => by rw [upd_ne n]; exact h
theorem Same.upd {p : Addr} {H : Hp} {o : HO} (h : H p = none) : Same H (upd H p o) := fun b u e => by rw [upd_ne (ne_of_none e h)]; exact e
theorem itd {c A B : Prop} [Decidable c] (h1 : c → A) (h2 : ¬ c → B) : if decide c = true then A else B := by
  by_cases h : c
  · rw [decide_eq_true h]; exact iteT (h1 h)
  · rw [decide_eq_false h]; exact iteF (h2 h)
theorem itn {c A B : Prop} [Decidable c] (h1 : ¬ c → A) (h2 : c → B) : if (!decide c) = true then A else B := by
  by_cases h : c
  · rw [decide_eq_true h]; exact iteF (h2 h)
  · rw [decide_eq_false h]; exact iteT (h1 h)
theorem iti {a b : Int} {A B : Prop} (h1 : a = b → A) (h2 : a ≠ b → B) : if decide (V.int a = V.int b) = true then A else B :=
  itd (fun h => h1 (V.int.inj h)) (fun h => h2 fun e => h (by rw [e]))
theorem itni {a b : Int} {A B : Prop} (h1 : a ≠ b → A) (h2 : a = b → B) : if (!decide (V.int a = V.int b)) = true then A else B :=
  itn (fun h => h1 fun e => h (by rw [e])) (fun h => h2 (V.int.inj h))
theorem But.sub {a b : Addr} {H H1 H2 : Hp} {o : HO} (n : b ≠ a) (x : But a H H1) (h : H b = some o) : H1 b = some o := x b o n h
/-- a comprehension without tests whose element is reckoned without a trace: the new list is the old one, mapped -/
theorem lc_pure {K : PySem.W.Frag} {a D : Addr} {xs : List V} {g : TG} {te : TE} {vs : List Nat} {σ : L2.St} {H1 : Hp} {Qd : Hp → Prop} (f : V → V) (hx : SqL K H1 a xs) (hD : H1 D = none) (hlen : xs.length < 10000)
    (hs : ∀ (x : V) (H : Hp) (R : V → Hp → Prop), x ∈ xs → (∀ b o, H1 b = some o → H b = some o) → R (f x) H → g x (wipe σ vs) H fun σ2 H2 => wipe σ2 vs = wipe σ vs ∧ te σ2 H2 R) (hd : Qd (upd H1 D (.lst (xs.map f)))) :
    ∃ W : Nat → Nat → Hp → Prop, (∃ m, W 0 m (upd H1 D (.lst []))) ∧ ∀ i m H, W i m H →
      ((Itl K a).stop i H ∧ Qd H) ∨ ((Itl K a).go i H ∧ ∃ Nx : Hp → Prop, (∀ H', Nx H' → ∃ m', m' < m ∧ W (i + 1) m' H') ∧ ∀ x H', (Itl K a).yld i H x H' → g x (wipe σ vs) H' fun σ2 H2 => wipe σ2 vs = wipe σ vs ∧ tYes σ2 H2 fun b H3 =>
        if b = true then te σ2 H3 fun y H4 => ∃ acc, H4 D = some (.lst acc) ∧ acc.length < sizeLine ∧ Nx (upd H4 D (.lst (acc ++ [y]))) else Nx H3) := by
  refine lc_list (K := K) (a := a) (xs := xs) (fun i H => H = upd H1 D (.lst ((xs.take i).map f))) (by rw [List.take_zero]; rfl) (fun i H _ e => by rw [e]; exact Same.seq (Same.upd hD) hx) ?_ ?_
  · rintro i x H hi rfl
    have hm : x ∈ xs := List.mem_of_getElem? hi
    have hi2 := (List.getElem?_eq_some_iff.mp hi).1
    have key : ∀ R : V → Hp → Prop, R (f x) (upd H1 D (.lst ((xs.take i).map f))) → g x (wipe σ vs) (upd H1 D (.lst ((xs.take i).map f))) fun σ2 H2 => wipe σ2 vs = wipe σ vs ∧ te σ2 H2 R := fun R hR =>
      hs x _ R hm (fun b o e => Same.upd hD b o e) hR
    have k2 := key (fun y H4 => ∃ acc, H4 D = some (.lst acc) ∧ acc.length < sizeLine ∧ upd H4 D (.lst (acc ++ [y])) = upd H1 D (.lst ((xs.take (i + 1)).map f))) ⟨_, upd_same, ?_, ?_⟩
    · exact k2
    · rw [List.length_map, List.length_take]
      have : (10000 : Nat) ≤ sizeLine := by decide
      omega
    · rw [upd_upd]
      have e : xs.take (i + 1) = xs.take i ++ [x] := by
        rw [List.take_add_one, hi]; rfl
      rw [e, List.map_append]; rfl
  · rintro H rfl
    rw [List.take_length]
    exact hd
/-- what stays while a new list at D grows: all that H1 tracks -/
theorem grow_same {D : Addr} {H1 H : Hp} {o : HO} (hD : H1 D = none) (x : Same H1 H) : Same H1 (upd H D o) := fun b u e => by
  rw [upd_ne (ne_of_none e hD)]; exact x b u e
/-- a comprehension over a range; its element may make objects -/
theorem lc_growR {lo : Int} {n : Nat} {g : TG} {te : TE} {vs : List Nat} {σ : L2.St} {H1 : Hp} {D : Addr} {Qd : Hp → Prop} (f : Nat → V) (hD : H1 D = none) (hlen : n < 10000)
    (hs : ∀ (i : Nat) (H : Hp) (R : V → Hp → Prop), i < n → Same H1 H → (∀ H', Same H H' → R (f i) H') → g (.int (lo + i)) (wipe σ vs) H fun σ2 H2 => wipe σ2 vs = wipe σ vs ∧ te σ2 H2 R)
    (hd : ∀ H, Same H1 H → H D = some (.lst ((List.range n).map f)) → Qd H) :
    ∃ W : Nat → Nat → Hp → Prop, (∃ m, W 0 m (upd H1 D (.lst []))) ∧ ∀ i m H, W i m H →
      ((Itr lo n).stop i H ∧ Qd H) ∨ ((Itr lo n).go i H ∧ ∃ Nx : Hp → Prop, (∀ H', Nx H' → ∃ m', m' < m ∧ W (i + 1) m' H') ∧ ∀ x H', (Itr lo n).yld i H x H' → g x (wipe σ vs) H' fun σ2 H2 => wipe σ2 vs = wipe σ vs ∧ tYes σ2 H2 fun b H3 =>
        if b = true then te σ2 H3 fun y H4 => ∃ acc, H4 D = some (.lst acc) ∧ acc.length < sizeLine ∧ Nx (upd H4 D (.lst (acc ++ [y]))) else Nx H3) := by
  refine lc_range (lo := lo) (n := n) (fun i H => Same H1 H ∧ H D = some (.lst ((List.range i).map f))) ⟨grow_same hD (Same.refl H1), upd_same⟩ ?_ (fun H h => hd H h.1 h.2)
  rintro i H hi ⟨hS, hL⟩
  have key := hs i H (fun y H4 => ∃ acc, H4 D = some (.lst acc) ∧ acc.length < sizeLine ∧ (Same H1 (upd H4 D (.lst (acc ++ [y]))) ∧ upd H4 D (.lst (acc ++ [y])) D = some (.lst ((List.range (i + 1)).map f)))) hi hS fun H' hS' => ⟨_, hS' _ _ hL, ?_, grow_same hD (hS.trans hS'), ?_⟩
  · exact key
  · rw [List.length_map, List.length_range]
    have : (10000 : Nat) ≤ sizeLine := by decide
    omega
  · rw [upd_same, List.range_succ, List.map_append]; rfl
/-- .. with a test -/
theorem lc_filtR {lo : Int} {n : Nat} {g : TG} {tt : TT} {te : TE} {vs : List Nat} {σ : L2.St} {H1 : Hp} {D : Addr} {Qd : Hp → Prop} (f : Nat → V) (p : Nat → Bool) (hD : H1 D = none) (hlen : n < 10000)
    (hs : ∀ (i : Nat) (H : Hp) (R : V → Hp → Prop) (R0 : Hp → Prop), i < n → Same H1 H → (p i = true → ∀ H', Same H H' → R (f i) H') → (p i = false → ∀ H', Same H H' → R0 H') →
      g (.int (lo + i)) (wipe σ vs) H fun σ2 H2 => wipe σ2 vs = wipe σ vs ∧ tt σ2 H2 fun b H3 => if b = true then te σ2 H3 R else R0 H3)
    (hd : ∀ H, Same H1 H → H D = some (.lst (((List.range n).filter p).map f)) → Qd H) :
    ∃ W : Nat → Nat → Hp → Prop, (∃ m, W 0 m (upd H1 D (.lst []))) ∧ ∀ i m H, W i m H →
      ((Itr lo n).stop i H ∧ Qd H) ∨ ((Itr lo n).go i H ∧ ∃ Nx : Hp → Prop, (∀ H', Nx H' → ∃ m', m' < m ∧ W (i + 1) m' H') ∧ ∀ x H', (Itr lo n).yld i H x H' → g x (wipe σ vs) H' fun σ2 H2 => wipe σ2 vs = wipe σ vs ∧ tt σ2 H2 fun b H3 =>
        if b = true then te σ2 H3 fun y H4 => ∃ acc, H4 D = some (.lst acc) ∧ acc.length < sizeLine ∧ Nx (upd H4 D (.lst (acc ++ [y]))) else Nx H3) := by
  refine lc_range (lo := lo) (n := n) (fun i H => Same H1 H ∧ H D = some (.lst (((List.range i).filter p).map f))) ⟨grow_same hD (Same.refl H1), upd_same⟩ ?_ (fun H h => hd H h.1 h.2)
  rintro i H hi ⟨hS, hL⟩
  have e1 : (List.range (i + 1)).filter p = (List.range i).filter p ++ (if p i = true then [i] else []) := by
    rw [List.range_succ, List.filter_append, List.filter_cons, List.filter_nil]
  have key := hs i H (fun y H4 => ∃ acc, H4 D = some (.lst acc) ∧ acc.length < sizeLine ∧ (Same H1 (upd H4 D (.lst (acc ++ [y]))) ∧ upd H4 D (.lst (acc ++ [y])) D = some (.lst (((List.range (i + 1)).filter p).map f))))
    (fun H4 => Same H1 H4 ∧ H4 D = some (.lst (((List.range (i + 1)).filter p).map f))) hi hS (fun hp H' hS' => ⟨_, hS' _ _ hL, ?_, grow_same hD (hS.trans hS'), ?_⟩) (fun hp H' hS' => ⟨hS.trans hS', ?_⟩)
  · exact key
  · rw [List.length_map]
    have : (10000 : Nat) ≤ sizeLine := by decide
    have h2 := List.length_filter_le p (List.range i)
    rw [List.length_range] at h2
    omega
  · rw [upd_same, e1, if_pos hp, List.map_append]; rfl
  · rw [hS' _ _ hL, e1, if_neg (by rw [hp]; exact Bool.false_ne_true), List.append_nil]
/-- .. over a list that stands still -/
theorem lc_growL {K : PySem.W.Frag} {a D : Addr} {xs : List V} {g : TG} {te : TE} {vs : List Nat} {σ : L2.St} {H1 : Hp} {Qd : Hp → Prop} (f : V → V) (hx : SqL K H1 a xs) (hD : H1 D = none) (hlen : xs.length < 10000)
    (hs : ∀ (x : V) (H : Hp) (R : V → Hp → Prop), x ∈ xs → Same H1 H → (∀ H', Same H H' → R (f x) H') → g x (wipe σ vs) H fun σ2 H2 => wipe σ2 vs = wipe σ vs ∧ te σ2 H2 R)
    (hd : ∀ H, Same H1 H → H D = some (.lst (xs.map f)) → Qd H) :
    ∃ W : Nat → Nat → Hp → Prop, (∃ m, W 0 m (upd H1 D (.lst []))) ∧ ∀ i m H, W i m H →
      ((Itl K a).stop i H ∧ Qd H) ∨ ((Itl K a).go i H ∧ ∃ Nx : Hp → Prop, (∀ H', Nx H' → ∃ m', m' < m ∧ W (i + 1) m' H') ∧ ∀ x H', (Itl K a).yld i H x H' → g x (wipe σ vs) H' fun σ2 H2 => wipe σ2 vs = wipe σ vs ∧ tYes σ2 H2 fun b H3 =>
        if b = true then te σ2 H3 fun y H4 => ∃ acc, H4 D = some (.lst acc) ∧ acc.length < sizeLine ∧ Nx (upd H4 D (.lst (acc ++ [y]))) else Nx H3) := by
  refine lc_list (K := K) (a := a) (xs := xs) (fun i H => Same H1 H ∧ H D = some (.lst ((xs.take i).map f))) ⟨grow_same hD (Same.refl H1), upd_same⟩ (fun i H _ h => Same.seq h.1 hx) ?_ (fun H h => hd H h.1 (by rw [h.2, List.take_length]))
  rintro i x H hi ⟨hS, hL⟩
  have hi2 := (List.getElem?_eq_some_iff.mp hi).1
  have key := hs x H (fun y H4 => ∃ acc, H4 D = some (.lst acc) ∧ acc.length < sizeLine ∧ (Same H1 (upd H4 D (.lst (acc ++ [y]))) ∧ upd H4 D (.lst (acc ++ [y])) D = some (.lst ((xs.take (i + 1)).map f)))) (List.mem_of_getElem? hi) hS fun H' hS' => ⟨_, hS' _ _ hL, ?_, grow_same hD (hS.trans hS'), ?_⟩
  · exact key
  · rw [List.length_map, List.length_take]
    have : (10000 : Nat) ≤ sizeLine := by decide
    omega
  · rw [upd_same]
    have e : xs.take (i + 1) = xs.take i ++ [x] := by
      rw [List.take_add_one, hi]; rfl
    rw [e, List.map_append]; rfl
/-- a bag stands at a -/
def BagAt (H : Hp) (a : Addr) : Prop := ∃ c t s : Int, H a = some (.lst [.int c, .int t, .int s])
theorem BagAt.same {H H' : Hp} {a : Addr} (h : BagAt H a) (x : Same H H') : BagAt H' a := by
  obtain ⟨c, t, s, e⟩ := h
  exact ⟨c, t, s, x _ _ e⟩
/-- a comprehension over a range whose element draws from a bag: the ints that it makes, each of which P holds -/
theorem lc_bagR {lo : Int} {n : Nat} {g : TG} {te : TE} {vs : List Nat} {σ : L2.St} {H1 : Hp} {D a : Addr} {Qd : Hp → Prop} (P : Int → Prop) (hB : BagAt H1 a) (hD : H1 D = none) (hlen : n < 10000)
    (hs : ∀ (i : Nat) (H : Hp) (R : V → Hp → Prop), i < n → BagAt H a → But a H1 H → (∀ d H', P d → BagAt H' a → But a H H' → R (.int d) H') → g (.int (lo + i)) (wipe σ vs) H fun σ2 H2 => wipe σ2 vs = wipe σ vs ∧ te σ2 H2 R)
    (hd : ∀ (ls : List Int) (H : Hp), H D = some (.lst (ls.map V.int)) → ls.length = n → (∀ x, x ∈ ls → P x) → BagAt H a → But a H1 H → Qd H) :
    ∃ W : Nat → Nat → Hp → Prop, (∃ m, W 0 m (upd H1 D (.lst []))) ∧ ∀ i m H, W i m H →
      ((Itr lo n).stop i H ∧ Qd H) ∨ ((Itr lo n).go i H ∧ ∃ Nx : Hp → Prop, (∀ H', Nx H' → ∃ m', m' < m ∧ W (i + 1) m' H') ∧ ∀ x H', (Itr lo n).yld i H x H' → g x (wipe σ vs) H' fun σ2 H2 => wipe σ2 vs = wipe σ vs ∧ tYes σ2 H2 fun b H3 =>
        if b = true then te σ2 H3 fun y H4 => ∃ acc, H4 D = some (.lst acc) ∧ acc.length < sizeLine ∧ Nx (upd H4 D (.lst (acc ++ [y]))) else Nx H3) := by
  have nDa : D ≠ a := fun e => by
    subst e
    obtain ⟨_, _, _, e2⟩ := hB
    rw [e2] at hD; cases hD
  have bagU : ∀ {H : Hp} {o : HO}, BagAt H a → BagAt (upd H D o) a := fun {H o} hb => by
    obtain ⟨x, y, z, e⟩ := hb
    exact ⟨x, y, z, by rw [upd_ne nDa.symm]; exact e⟩
  have butU : ∀ {H : Hp} {o : HO}, But a H1 H → But a H1 (upd H D o) := fun {H o} hb b u nb e => by
    rw [upd_ne (ne_of_none e hD)]; exact hb b u nb e
  refine lc_range (lo := lo) (n := n) (fun i H => ∃ ls : List Int, H D = some (.lst (ls.map V.int)) ∧ ls.length = i ∧ (∀ x, x ∈ ls → P x) ∧ BagAt H a ∧ But a H1 H) ⟨[], upd_same, rfl, fun x hx => (by cases hx), bagU hB, butU (But.refl _ _)⟩ ?_ (fun H ⟨ls, h1, h2, h3, h4, h5⟩ => hd ls H h1 h2 h3 h4 h5)
  rintro i H hi ⟨ls, h1, h2, h3, h4, h5⟩
  have key := hs i H (fun y H4 => ∃ acc, H4 D = some (.lst acc) ∧ acc.length < sizeLine ∧ ∃ ls : List Int, upd H4 D (.lst (acc ++ [y])) D = some (.lst (ls.map V.int)) ∧ ls.length = i + 1 ∧ (∀ x, x ∈ ls → P x) ∧ BagAt (upd H4 D (.lst (acc ++ [y]))) a ∧ But a H1 (upd H4 D (.lst (acc ++ [y])))) hi h4 h5
    fun d H' hP hB' hb' => ⟨ls.map V.int, hb' D _ nDa h1, ?_, ls ++ [d], by rw [upd_same, List.map_append]; rfl, by rw [List.length_append, h2]; rfl, fun x hx => ?_, bagU hB', butU (h5.trans hb')⟩
  · exact key
  · rw [List.length_map]
    have : (10000 : Nat) ≤ sizeLine := by decide
    omega
  · rcases List.mem_append.mp hx with h | h
    · exact h3 x h
    · simp at h; subst h; exact hP
/-! ### what the top has written -/
structure AtTop (K : PySem.W.Frag) (x qual : Str) (st : Stmt) (kws : List (Str × V)) : Prop where
  ex : ∃ (f : Addr) (fd : FuncData), PySem.W.nsIn K mainGlobals x = some (some (.ref f)) ∧ Fun K x qual st f fd ∧ FunD K x qual (defArgs st) (defBody st) (defScope st) [] kws f fd
section
variable {P : Program} {w : World} {K : PySem.W.Frag} {mg : Str → Option Value} {base : Heap} {x qual : Str} {st : Stmt} {ps : List Str} {k : Nat} {sp : Sp} {kws : List (Str × V)} {h : Heap}
theorem atTop0 {f : Addr} {oc : Value} {od an : Option Addr} {osl : Array (Option Value)} {kV doc pm cdv ct : Value} (a : PySem.W.nsIn K mainGlobals x = some (some (.ref f)))
    (l : K.lookup f = some ⟨oc, od, .func (PySem.W.fnOf x qual (defArgs st) (defBody st) (defScope st) .none kV doc pm an cdv ct), osl⟩) (c : PySem.W.codeIn K cdv qual = true) (p : PySem.W.keepIn K (.ref f) = true) : AtTop K x qual st [] :=
  ⟨f, _, a, fun_mk l c p, ⟨⟨oc, od, .none, kV, doc, pm, an, cdv, ct, osl, rfl, l, c, .inl ⟨rfl, rfl⟩, .inl rfl⟩, p⟩⟩
theorem atTop1 {f D : Addr} {oc : Value} {od an : Option Addr} {osl : Array (Option Value)} {doc pm cdv ct u : Value} {n : Str} {v : V} (a : PySem.W.nsIn K mainGlobals x = some (some (.ref f)))
    (l : K.lookup f = some ⟨oc, od, .func (PySem.W.fnOf x qual (defArgs st) (defBody st) (defScope st) .none (.ref D) doc pm an cdv ct), osl⟩) (c : PySem.W.codeIn K cdv qual = true) (p : PySem.W.keepIn K (.ref f) = true)
    (hk : PySem.W.nsIn K D n = some (some u)) (r : RelV v u) : AtTop K x qual st [(n, v)] :=
  ⟨f, _, a, fun_mk l c p, ⟨⟨oc, od, .none, .ref D, doc, pm, an, cdv, ct, osl, rfl, l, c, .inl ⟨rfl, rfl⟩, .inr ⟨D, rfl, fun q hq => by
    rcases List.mem_cons.mp hq with rfl | hq
    · exact ⟨u, hk, r⟩
    · cases hq⟩⟩, p⟩⟩
theorem atTop2 {f D : Addr} {oc : Value} {od an : Option Addr} {osl : Array (Option Value)} {doc pm cdv ct u u1 : Value} {n n1 : Str} {v v1 : V} (a : PySem.W.nsIn K mainGlobals x = some (some (.ref f)))
    (l : K.lookup f = some ⟨oc, od, .func (PySem.W.fnOf x qual (defArgs st) (defBody st) (defScope st) .none (.ref D) doc pm an cdv ct), osl⟩) (c : PySem.W.codeIn K cdv qual = true) (p : PySem.W.keepIn K (.ref f) = true)
    (hk : PySem.W.nsIn K D n = some (some u)) (r : RelV v u) (hk1 : PySem.W.nsIn K D n1 = some (some u1)) (r1 : RelV v1 u1) : AtTop K x qual st [(n, v), (n1, v1)] :=
  ⟨f, _, a, fun_mk l c p, ⟨⟨oc, od, .none, .ref D, doc, pm, an, cdv, ct, osl, rfl, l, c, .inl ⟨rfl, rfl⟩, .inr ⟨D, rfl, fun q hq => by
    rcases List.mem_cons.mp hq with rfl | hq
    · exact ⟨u, hk, r⟩
    rcases List.mem_cons.mp hq with rfl | hq
    · exact ⟨u1, hk1, r1⟩
    · cases hq⟩⟩, p⟩⟩
theorem atTop3 {f D : Addr} {oc : Value} {od an : Option Addr} {osl : Array (Option Value)} {doc pm cdv ct u u1 u2 : Value} {n n1 n2 : Str} {v v1 v2 : V} (a : PySem.W.nsIn K mainGlobals x = some (some (.ref f)))
    (l : K.lookup f = some ⟨oc, od, .func (PySem.W.fnOf x qual (defArgs st) (defBody st) (defScope st) .none (.ref D) doc pm an cdv ct), osl⟩) (c : PySem.W.codeIn K cdv qual = true) (p : PySem.W.keepIn K (.ref f) = true)
    (hk : PySem.W.nsIn K D n = some (some u)) (r : RelV v u) (hk1 : PySem.W.nsIn K D n1 = some (some u1)) (r1 : RelV v1 u1) (hk2 : PySem.W.nsIn K D n2 = some (some u2)) (r2 : RelV v2 u2) : AtTop K x qual st [(n, v), (n1, v1), (n2, v2)] :=
  ⟨f, _, a, fun_mk l c p, ⟨⟨oc, od, .none, .ref D, doc, pm, an, cdv, ct, osl, rfl, l, c, .inl ⟨rfl, rfl⟩, .inr ⟨D, rfl, fun q hq => by
    rcases List.mem_cons.mp hq with rfl | hq
    · exact ⟨u, hk, r⟩
    rcases List.mem_cons.mp hq with rfl | hq
    · exact ⟨u1, hk1, r1⟩
    rcases List.mem_cons.mp hq with rfl | hq
    · exact ⟨u2, hk2, r2⟩
    · cases hq⟩⟩, p⟩⟩
/-- the arguments in the parameters' order: of each keyword-only one, whether it was written (which one of the call's) or lacks (which one of those) -/
def pick {α : Type} (sel : List (Sum Nat Nat)) (us mv ws : List α) : List α := us ++ sel.flatMap fun q => match q with | .inl i => (ws.drop i).take 1 | .inr j => (mv.drop j).take 1
abbrev kwp (sel : List (Sum Nat Nat)) (mz : List V) : List V → List V → List V := fun vs zs => pick sel vs mz zs
theorem pick_rel {vs mz zs : List V} {us mv ws : List Value} (r1 : Vals vs us) (r2 : Vals mz mv) (r3 : Vals zs ws) : ∀ sel : List (Sum Nat Nat), Vals (pick sel vs mz zs) (pick sel us mv ws) := fun sel => by
  refine r1.append ?_
  induction sel with
  | nil => exact .nil
  | cons q l ih =>
    rw [List.flatMap_cons, List.flatMap_cons]
    refine Vals.append ?_ ih
    cases q with
    | inl i => exact (r3.drop i).take 1
    | inr j => exact (r2.drop j).take 1
theorem AtTop.dn (t : AtTop K x qual st kws) (X : K.In h) (G : h.Ns mainGlobals mg)
    (hb : ∀ (kV doc pm : Value) (an : Option Addr) (cdv ct : Value) (us : List Value), us.length = ps.length → bindArgs (PySem.W.fnOf x qual (defArgs st) (defBody st) (defScope st) .none kV doc pm an cdv ct) ⟨us, []⟩ = pure (ps.zip us))
    (ok : ∀ (f : Addr) (fd : FuncData), Fun K x qual st f fd → FnOk P w K mg base CX0 k f fd ps sp) : Dn P w K mg base x k ps sp := by
  obtain ⟨f, fd, a, F, _⟩ := t.ex
  exact ⟨f, fd, [], ok f fd F, PySem.W.mg_of X G a, F.kp, F.binds hb, .nil⟩
/-- a def that calls itself: the knot is tied level by level -/
theorem AtTop.dnR (t : AtTop K x qual st kws) (X : K.In h) (G : h.Ns mainGlobals mg)
    (hb : ∀ (kV doc pm : Value) (an : Option Addr) (cdv ct : Value) (us : List Value), us.length = ps.length → bindArgs (PySem.W.fnOf x qual (defArgs st) (defBody st) (defScope st) .none kV doc pm an cdv ct) ⟨us, []⟩ = pure (ps.zip us))
    (ok : ∀ (f : Addr) (fd : FuncData), Fun K x qual st f fd → (∀ (j : Nat) (sq : Sp), FnOk P w K mg base CX0 j f fd ps sq → Dn P w K mg base x j ps sq) → FnOk P w K mg base CX0 k f fd ps sp) : Dn P w K mg base x k ps sp := by
  obtain ⟨f, fd, a, F, _⟩ := t.ex
  have I : ∀ (j : Nat) (sq : Sp), FnOk P w K mg base CX0 j f fd ps sq → Dn P w K mg base x j ps sq := fun j sq g => ⟨f, fd, [], g, PySem.W.mg_of X G a, F.kp, F.binds hb, .nil⟩
  exact I k sp (ok f fd F I)
/-- called without its keywords: all the defaults -/
theorem AtTop.dd (t : AtTop K x qual st kws) (X : K.In h) (G : h.Ns mainGlobals mg) (n : Nat) (hk : kws ≠ []) (hn : n + kws.length = ps.length)
    (hb : ∀ (D : Addr) (doc pm : Value) (an : Option Addr) (cdv ct : Value) (us ks : List Value), us.length = n → ks.length = kws.length →
      KwChain D ((kws.map (·.1)).zip ks) (bindArgs (PySem.W.fnOf x qual (defArgs st) (defBody st) (defScope st) .none (.ref D) doc pm an cdv ct) ⟨us, []⟩) (ps.zip (us ++ ks)))
    (ok : ∀ (f : Addr) (fd : FuncData), Fun K x qual st f fd → FnOk P w K mg base CX0 k f fd ps sp) : Dn P w K mg base x k ps sp (kws.map (·.2)) := by
  obtain ⟨f, fd, a, F, FD⟩ := t.ex
  obtain ⟨ds, v, b⟩ := FD.binds0 n hk hn hb
  exact ⟨f, fd, ds, ok f fd F, PySem.W.mg_of X G a, F.kp, b, v⟩
/-- called with all its keywords, in their order -/
theorem AtTop.dk (t : AtTop K x qual st kws) (X : K.In h) (G : h.Ns mainGlobals mg) (n : Nat) (ks : List Str)
    (hb : ∀ (kV doc pm : Value) (an : Option Addr) (cdv ct : Value) (us ws : List Value), us.length = n → ws.length = ks.length → bindArgs (PySem.W.fnOf x qual (defArgs st) (defBody st) (defScope st) .none kV doc pm an cdv ct) ⟨us, ks.zip ws⟩ = pure (ps.zip (us ++ ws)))
    (ok : ∀ (f : Addr) (fd : FuncData), Fun K x qual st f fd → FnOk P w K mg base CX0 k f fd ps sp) : Dk P w K mg base x k ps sp n ks (fun vs zs => vs ++ zs) := by
  obtain ⟨f, fd, a, F, _⟩ := t.ex
  obtain ⟨oc, od, kV, doc, pm, an, cdv, ct, osl, rfl, lk, hcd⟩ := F.ex
  exact ⟨f, _, fun us ws => us ++ ws, ok f _ F, PySem.W.mg_of X G a, F.kp, ⟨fun s us ws _ l1 l2 => .of_eq (hb kV doc pm an cdv ct us ws l1 l2), fun r1 r2 => r1.append r2⟩⟩
/-- called with some of its keywords: of the rest the defaults -/
theorem AtTop.dkp (t : AtTop K x qual st kws) (X : K.In h) (G : h.Ns mainGlobals mg) (n : Nat) (ks : List Str) (ms : List (Str × V)) (sel : List (Sum Nat Nat)) (hk : kws ≠ []) (hms : ∀ q ∈ ms, q ∈ kws)
    (hb : ∀ (D : Addr) (doc pm : Value) (an : Option Addr) (cdv ct : Value) (us mv ws : List Value), us.length = n → mv.length = ms.length → ws.length = ks.length →
      KwChain D ((ms.map (·.1)).zip mv) (bindArgs (PySem.W.fnOf x qual (defArgs st) (defBody st) (defScope st) .none (.ref D) doc pm an cdv ct) ⟨us, ks.zip ws⟩) (ps.zip (pick sel us mv ws)))
    (ok : ∀ (f : Addr) (fd : FuncData), Fun K x qual st f fd → FnOk P w K mg base CX0 k f fd ps sp) : Dk P w K mg base x k ps sp n ks (kwp sel (ms.map (·.2))) := by
  obtain ⟨f, fd, a, F, FD⟩ := t.ex
  obtain ⟨mv, b⟩ := FD.kbinds0 (ps := ps) n ks ms (fun us mv ws => pick sel us mv ws) hk hms (fun r1 r2 r3 => pick_rel r1 r2 r3 sel) hb
  exact ⟨f, fd, _, ok f fd F, PySem.W.mg_of X G a, F.kp, b⟩
end
end Cl

open PySem L2 Cl
local macro_rules | `(tactic| walk_at "rd") => `(tactic| (repeat (first | refine ⟨_, rfl, ?_⟩ | refine ⟨_, _, rfl, rfl, ?_⟩ | refine ⟨_, _, rfl, ?_⟩ | refine ⟨_, _, _, rfl, ?_⟩ | refine ⟨_, _, _, _, rfl, ?_⟩ | refine ⟨.inr ⟨by decide, by decide⟩, ?_⟩ | refine ⟨.inl ⟨by decide, by decide⟩, ?_⟩ | refine ⟨⟨by decide, by decide⟩, ?_⟩ | refine ⟨⟨by decide, by decide, by decide⟩, ?_⟩ | refine ⟨(by show (0 : Int) < _; decide), ?_⟩ | refine ⟨rfl, ?_⟩ | refine .inl ⟨_, rfl, ?_⟩ | refine .inr ⟨_, rfl, ?_⟩)))
/-! ### my rules: own __len__, __add__, __eq__, static methods, C(*xs) -/
namespace Cl
open StX ClX PyProof.Rows
section
variable {X : Cx} {CX : CXT} {k : Nat} {C f p g : Addr} {mc : Value} {fd : FuncData} {ps : List Str} {sp : Sp} {dvs : List V} {ds : List Value} {E : XK} {x m : Str} {pn pos apos : Pos} {e o : Expr} {es : List Expr} {te ta : TE} {t : TA} {pl : Sem Bool}
theorem call_lenO (F : FnOk X.prog X.w X.K X.mg X.base CX k f fd ps sp) (hr : Room (k + 1) X.A) (hs : PySem.W.findIn X.K (.ref C) "__len__" = some (some (.ref f))) (hf : PySem.W.isFn X.K (.ref f) = true) (hb : Binds X.K fd ps []) (hx : Passes CX X E) :
    CallR X (.builtin "len") (fun xs H Q => ∃ a dx fs, xs = [.ref a] ∧ H a = some (.ins C dx fs) ∧ sp [.ref a] H (fun v H' => ∃ n : Nat, v = .int n ∧ n < 4611686018427387904 ∧ Q (.int n) H') E) := by
  intro pins s σ H xs us Q I r h
  obtain ⟨a, dx, fs, rfl, ha, hq⟩ := h
  obtain ⟨u, rfl, r1⟩ := vals1 r
  cases r1
  obtain ⟨mA, O, _⟩ := ins_get I.hok ha
  obtain ⟨od, J, _⟩ := O.look
  obtain ⟨mm, hF⟩ := I.fr
  have hl := F.len _ _ _ _ hq
  refine PySem.W.len_K hF I.ok.mod.kin J hs hf ?_
  refine wpAny_call (codeAny_mono (F.run X.A.in1 X.stack s H ⟨[.ref a], []⟩ [.ref a] [.ref a] _ E hr.in1 I.env0.in1 (by
    have := hb s [.ref a] I.kIn (by simpa using hl)
    simpa using this) (.cons rfl .nil) hq) fun r s' hq => ?_)
  cases r with
  | error e => exact hx pins σ H s e s' I hq
  | ok fl =>
    cases fl with
    | ret w =>
      obtain ⟨z, H', I', rz, n, ez, hn, q⟩ := I.after hq
      subst ez
      obtain ⟨tk, rfl⟩ := rz
      exact ⟨⟨by omega, by omega⟩, .int n, H', I'.tok _, ⟨_, rfl⟩, q⟩
    | next => exact False.elim hq
    | brk => exact False.elim hq
    | cont => exact False.elim hq
theorem notNI {v : V} {u : Value} {Q : Value → Shared → Prop} {s : Shared} (r : RelV v u) (q : Q u s) : PySem.W.CmpBack Q u s := by
  cases v with
  | non => cases r; exact q
  | bl b => cases r; exact q
  | int i => obtain ⟨t, rfl⟩ := r; exact q
  | str i => obtain ⟨t, rfl⟩ := r; exact q
  | byt i => obtain ⟨t, rfl⟩ := r; exact q
  | flt i => obtain ⟨t, rfl⟩ := r; exact q
  | ref a => cases r; exact q
  | ty n => cases r; exact q
def rOwn2 (C : Addr) (sp : Sp) (E : XK) : R2 := fun x y H Q => ∃ a b dx dy fs gs, x = .ref a ∧ y = .ref b ∧ H a = some (.ins C dx fs) ∧ H b = some (.ins C dy gs) ∧ sp [.ref a, .ref b] H Q E
theorem op_addO (F : FnOk X.prog X.w X.K X.mg X.base CX k f fd ps sp) (hr : Room k X.A) (hc : PySem.W.selfFirst X.K C = true) (hs : PySem.W.findIn X.K (.ref C) "__add__" = some (some (.ref f))) (hf : PySem.W.isFn X.K (.ref f) = true) (hb : Binds X.K fd ps []) (hx : Passes CX X E) :
    OpR X (binaryOp .Add) (rOwn2 C sp E) := by
  intro pins s σ H x y v u Q I rx ry h
  obtain ⟨a, b, dx, dy, fs, gs, rfl, rfl, ha, hb2, hq⟩ := h
  cases rx
  cases ry
  obtain ⟨mA, J, _⟩ := ins_get I.hok ha
  obtain ⟨mB, J', _⟩ := ins_get I.hok hb2
  obtain ⟨od, J, _⟩ := J.look
  obtain ⟨od', J', _⟩ := J'.look
  obtain ⟨mm, hF⟩ := I.fr
  refine PySem.W.binop_K (op := .Add) hF I.ok.mod.kin J J'.type hc hs hf ?_
  exact thn (run_fn (us := [.ref a, .ref b]) (vs := [.ref a, .ref b]) (dvs := []) (ds := []) F hr hb .nil hx I (.cons rfl (.cons rfl .nil)) hq) fun w s' hw => by
    obtain ⟨z, H', I', rz, q⟩ := hw
    exact notNI rz ⟨z, H', I', rz, q⟩
theorem op_eqO (F : FnOk X.prog X.w X.K X.mg X.base CX k f fd ps sp) (hr : Room k X.A) (hs : PySem.W.findIn X.K (.ref C) "__eq__" = some (some (.ref f))) (hf : PySem.W.isFn X.K (.ref f) = true) (hb : Binds X.K fd ps []) (hx : Passes CX X E) :
    OpR X (compareOp .Eq) (rOwn2 C sp E) := by
  intro pins s σ H x y v u Q I rx ry h
  obtain ⟨a, b, dx, dy, fs, gs, rfl, rfl, ha, hb2, hq⟩ := h
  cases rx
  cases ry
  obtain ⟨mA, J, _⟩ := ins_get I.hok ha
  obtain ⟨mB, J', _⟩ := ins_get I.hok hb2
  obtain ⟨od, J, _⟩ := J.look
  obtain ⟨od', J', _⟩ := J'.look
  obtain ⟨mm, hF⟩ := I.fr
  show wpAny (model X.prog X.w) X.A (richCompare .Eq (.ref a) (.ref b)) (EP X pins σ Q) X.xe s
  refine PySem.W.cmp_K (op := .Eq) (tb := .ref C) hr.units0 hF I.ok.mod.kin J J'.type (by simp [PySem.W.notFirst]) hs hf ?_
  exact thn (run_fn (us := [.ref a, .ref b]) (vs := [.ref a, .ref b]) (dvs := []) (ds := []) F hr hb .nil hx I (.cons rfl (.cons rfl .nil)) hq) fun w s' hw => by
    obtain ⟨z, H', I', rz, q⟩ := hw
    exact notNI rz ⟨z, H', I', rz, q⟩
/-- C.m is a static method: its record at p, its def at g -/
structure SMet (K : PySem.W.Frag) (C : Addr) (mc : Value) (m : Str) (p g : Addr) : Prop where
  at_ : PySem.W.findCls K (.ref C) mc m = some (.get (.builtin "staticmethod.__get__") (.ref p) .none (.ref C))
  rc : ∃ rest, PySem.W.recIn K p "staticmethod" = some (.ref g :: rest)
def tSMeth (C : Addr) (sp : Sp) (dvs : List V) (E : XK) (ta : TE) (t : TA) : TE := fun σ H Q => ta σ H fun x H1 => x = .ref C ∧ t σ H1 fun vs H2 => sp (vs ++ dvs) H2 Q E
theorem pe_smeth (he : PE X o ta) (r : CRead X.K C mc) (c : SMet X.K C mc m p f) (F : FnOk X.prog X.w X.K X.mg X.base CX k f fd ps sp) (hr : Room k X.A) (hk : PySem.W.keepIn X.K (.ref f) = true) (hb : Binds X.K fd ps ds) (hd : Vals dvs ds) (hx : Passes CX X E) (ha : PA X (e :: es) t)
    (hst : starEach (e :: es) X.env = (false, eval e X.env) :: starEach es X.env := by rfl) (hpl : (backTo pos (starEach es X.env)).any (·.1) = false := by rfl)
    (ht : eval (.Call (.Attribute o m apos) (e :: es) [] pos) X.env = (do
      let ov ← eval o X.env
      standAt apos.atName
      let (f, first) ← holding [ov] (getMethod ov m pl)
      callWith pos f first (backTo pos (starEach (e :: es) X.env)) (backToKw pos (keywordEach [] X.env))) := by rfl) :
    PE X (.Call (.Attribute o m apos) (e :: es) [] pos) (tSMeth C sp dvs E ta t) := by
  refine ⟨fun pins s σ H Q I h => ?_⟩
  refine PySem.W.methodCall_KW (pl := pl) (thn (he.run pins s σ H _ I h) fun u s1 ⟨x, H1, I1, rx, ex, q⟩ => ?_) ht
  subst ex
  obtain rfl : u = Value.ref C := rx
  obtain ⟨rest, hp⟩ := c.rc
  refine PySem.W.method_cls I1.kIn r.ga ?_
  refine PySem.W.cls_bind I1.kIn r.rd c.at_ ?_
  refine wpAny_call (PySem.W.sm_get (s := { s1 with toks := s1.toks + 1 }) I1.kIn hp ?_)
  refine PySem.W.handed_on rfl ?_
  refine PySem.W.callWith_K (h₀ := X.base) I.ok.mod.kin hk (thn (ha.run pos pins _ σ H1 _ (I1.tok _) q) fun us s2 ⟨vs, H2, I2, r2, q2⟩ => ⟨I2.kIn, ?_⟩) hst hpl
  exact run_fn F hr hb hd hx I2 r2 q2
def tMakeS (K : PySem.W.Frag) (C : Addr) (sp : Sp) (E : XK) (te : TE) : TE := fun σ H Q => te σ H fun y H1 => ∃ a xs, y = V.ref a ∧ (SqT K H1 a xs ∨ SqL K H1 a xs) ∧
  ∀ x dx, H1 x = Option.none → H1 dx = Option.none → dx ≠ x → sp (V.ref x :: xs) (upd (upd H1 dx (.own x)) x (.ins C dx [])) (fun v H2 => v = .non ∧ Q (.ref x) H2) E
theorem pe_makeS {sp_ : Pos} (M : Mk X.K C f) (F : FnR X.prog X.w X.K X.mg X.base CX k f sp) (hr : Room (k + 1) X.A) (hg : Gl X x) (hm : X.mg x = some (.ref C)) (hx : Passes CX X E) (he : PE X e te) (hdb : (x == ("__debug__" : Str)) = false := by decide)
    (hst : starEach [.Starred e sp_] X.env = [(true, eval e X.env)] := by rfl) : PE X (.Call (.Name x pn) [.Starred e sp_] [] pos) (tMakeS X.K C sp E te) := by
  refine ⟨fun pins s σ H Q I h => ?_⟩
  refine wpAny_Call_Name_kw (ld_glob I hg hm ?_ hdb)
  refine PySem.W.callWith_S (h₀ := X.base) I.ok.mod.kin M.kp (thn (he.run pins s σ H _ I h) fun v s1 ⟨y, H1, I1, ry, a, xs, ey, hxs, q⟩ => ?_) hst
  subst ey
  obtain rfl : v = Value.ref a := ry
  exact star_any I1 hxs fun us s2 I2 rv => ⟨I2.kIn, run_makeR M F hr hx I2 rv q⟩
/-- sum(t) of a tuple of ints -/
def rSumT (K : PySem.W.Frag) : List V → Hp → VK → Prop := fun vs H Q => ∃ (a : Addr) (ns : List Int), vs = [V.ref a] ∧ SqT K H a (ns.map V.int) ∧ Q (.int ns.sum) H
theorem cr_sumT (hc : X.calm = true) : CallR X (.builtin "sum") (rSumT X.K) := by
  intro pins s σ H vs us Q I r h
  obtain ⟨a, ns, rfl, hs, q⟩ := h
  obtain ⟨its, rv, hl, _⟩ := I.tuple hs
  rw [Vals.ref1 r]
  have hi := rv.ints
  obtain ⟨xs, e⟩ := hi.allInts.items
  have hn : numsOf (intItems xs).toList = ns := by rw [← e]; exact hi.numsOf
  rw [nums_intItems] at hn
  rw [e] at hl
  refine PySem.W.ktm_sumG (I.ok.hd hc) hl fun h' tk t' hk => ?_
  rw [preSum_eq, List.take_of_length_le (by simp), hn]
  exact ⟨.int _, H, I.kept hk, ⟨_, rfl⟩, q⟩
/-! rules that say a new tuple by what can be read of it -/
def rSlE (K : PySem.W.Frag) : V → Option Int → Option Int → Hp → VK → Prop := fun x lo hi H Q => ∃ a xs, x = .ref a ∧ SqT K H a xs ∧ ∀ p H', SqT K H' p (cutV xs lo hi) → Same H H' → Q (.ref p) H'
theorem sl_tupE : SlR X (rSlE X.K) := by
  intro pins s σ H x v vl vu lo hi sl Q I rx hs pl pu h
  refine sl_tupA pins s σ H x v vl vu lo hi sl Q I rx hs pl pu ?_
  obtain ⟨a, xs, e, ha, q⟩ := h
  refine ⟨a, xs, e, ha, fun hw => ?_, fun _ p hp => ?_⟩
  · refine q a H ?_ (Same.refl H)
    obtain ⟨h1, h2⟩ := hw
    unfold cutV
    rw [h1, h2, Nat.sub_zero, List.drop_zero, List.take_length]
    exact ha
  · exact q p _ (SqT.of upd_same) (Same.upd hp)
def rCatE (K : PySem.W.Frag) : R2 := fun x y H Q => ∃ a b xs ys, x = .ref a ∧ y = .ref b ∧ SqT K H a xs ∧ SqT K H b ys ∧ xs.length + ys.length ≤ 10000 ∧ ∀ p H', SqT K H' p (xs ++ ys) → Same H H' → Q (.ref p) H'
theorem op_catE : OpR X (binaryOp .Add) (rCatE X.K) := by
  intro pins s σ H x y v u Q I rx ry h
  refine op_catA pins s σ H x y v u Q I rx ry ?_
  obtain ⟨a, b, xs, ys, e1, e2, ha, hb, hl, q⟩ := h
  refine ⟨a, b, xs, ys, e1, e2, ha, hb, Nat.le_trans hl (by decide), fun h1 => ?_, fun _ h2 => ?_, fun _ _ p hp => ?_⟩
  · exact q b H (by rw [h1]; exact hb) (Same.refl H)
  · exact q a H (by rw [h2, List.append_nil]; exact ha) (Same.refl H)
  · exact q p _ (SqT.of upd_same) (Same.upd hp)
end
/-! ### a class's defs by their names -/
structure ClsC (K : PySem.W.Frag) (mg : Str → Option Value) (x : Str) (C : Addr) : Prop where
  cl : Cls K C
  mg : mg x = some (.ref C)
  ic : C8.InsC K C
  sf : PySem.W.selfFirst K C = true
structure Mn (P : Program) (w : World) (K : PySem.W.Frag) (mg : Str → Option Value) (base : Heap) (C : Addr) (m : Str) (k : Nat) (ps : List Str) (sp : Sp) : Prop where
  ex : ∃ (f : Addr) (fd : FuncData), Meth K C m f ∧ FnOk P w K mg base CX0 k f fd ps sp ∧ Binds K fd ps []
structure Pn (P : Program) (w : World) (K : PySem.W.Frag) (mg : Str → Option Value) (base : Heap) (C : Addr) (m : Str) (k : Nat) (sp : Sp) : Prop where
  ex : ∃ (p g : Addr) (fd : FuncData), PropOf K C m p g ∧ FnOk P w K mg base CX0 k g fd ["self"] sp ∧ Binds K fd ["self"] []
structure Sn (P : Program) (w : World) (K : PySem.W.Frag) (mg : Str → Option Value) (base : Heap) (C : Addr) (m : Str) (k : Nat) (ps : List Str) (sp : Sp) : Prop where
  ex : ∃ (p f : Addr) (fd : FuncData) (mc : Value), CRead K C mc ∧ SMet K C mc m p f ∧ FnOk P w K mg base CX0 k f fd ps sp ∧ PySem.W.keepIn K (.ref f) = true ∧ Binds K fd ps []
structure Cn (P : Program) (w : World) (K : PySem.W.Frag) (mg : Str → Option Value) (base : Heap) (C : Addr) (k : Nat) (sp : Sp) : Prop where
  ex : ∃ (f : Addr), Mk K C f ∧ FnR P w K mg base CX0 k f sp
structure On (P : Program) (w : World) (K : PySem.W.Frag) (mg : Str → Option Value) (base : Heap) (C : Addr) (m : Str) (k : Nat) (ps : List Str) (sp : Sp) : Prop where
  ex : ∃ (f : Addr) (fd : FuncData), PySem.W.findIn K (.ref C) m = some (some (.ref f)) ∧ PySem.W.isFn K (.ref f) = true ∧ FnOk P w K mg base CX0 k f fd ps sp ∧ Binds K fd ps []
section
variable {X : Cx} {k : Nat} {C : Addr} {ps : List Str} {sp : Sp} {E : XK} {x m : Str} {pn pos apos : Pos} {e o : Expr} {es : List Expr} {te ta : TE} {t : TA} {pl : Sem Bool}
theorem pe_cls (c : ClsC X.K X.mg x C) (hg : Gl X x) (hd : (x == ("__debug__" : Str)) = false := by decide) : PE X (.Name x pos) (tC (.ref C)) := pe_glob (v := .ref C) hg c.mg rfl hd
theorem pe_mn (D : Mn X.prog X.w X.K X.mg X.base C m k ps sp) (cl : Cls X.K C) (hr : Room k X.A) (hx : Passes CX0 X E) (he : PE X o ta) (ha : PA X (e :: es) t)
    (hst : starEach (e :: es) X.env = (false, eval e X.env) :: starEach es X.env := by rfl) (hpl : (backTo pos (starEach es X.env)).any (·.1) = false := by rfl)
    (ht : eval (.Call (.Attribute o m apos) (e :: es) [] pos) X.env = (do
      let ov ← eval o X.env
      standAt apos.atName
      let (f, first) ← holding [ov] (getMethod ov m pl)
      callWith pos f first (backTo pos (starEach (e :: es) X.env)) (backToKw pos (keywordEach [] X.env))) := by rfl) :
    PE X (.Call (.Attribute o m apos) (e :: es) [] pos) (tMeth C m sp [] E ta t) := by
  obtain ⟨f, fd, M, F, b⟩ := D.ex
  exact pe_meth (pl := pl) he cl M F hr b .nil hx ha hst hpl ht
theorem pe_mn0 (D : Mn X.prog X.w X.K X.mg X.base C m k ps sp) (cl : Cls X.K C) (hr : Room k X.A) (hx : Passes CX0 X E) (he : PE X o ta)
    (ht : eval (.Call (.Attribute o m apos) [] [] pos) X.env = (do
      let ov ← eval o X.env
      standAt apos.atName
      let (f, first) ← holding [ov] (getMethod ov m pl)
      callWith pos f first (backTo pos (starEach [] X.env)) (backToKw pos (keywordEach [] X.env))) := by rfl) :
    PE X (.Call (.Attribute o m apos) [] [] pos) (tMeth C m sp [] E ta tNil) := by
  obtain ⟨f, fd, M, F, b⟩ := D.ex
  exact pe_meth0 (pl := pl) he cl M F hr b .nil hx ht
theorem pe_pn (D : Pn X.prog X.w X.K X.mg X.base C m k sp) (cl : Cls X.K C) (hr : Room (k + 1) X.A) (he : PE X o ta) (hab : attributeBase o m X.env (eval o X.env) = eval o X.env := by rfl) : PE X (.Attribute o m pos) (tProp C sp [] E0 ta) := by
  obtain ⟨p, g, fd, hp, F, b⟩ := D.ex
  exact pe_prop he cl hp F hr b .nil pass0 hab
theorem pe_sn (D : Sn X.prog X.w X.K X.mg X.base C m k ps sp) (hr : Room k X.A) (hx : Passes CX0 X E) (he : PE X o ta) (ha : PA X (e :: es) t)
    (hst : starEach (e :: es) X.env = (false, eval e X.env) :: starEach es X.env := by rfl) (hpl : (backTo pos (starEach es X.env)).any (·.1) = false := by rfl)
    (ht : eval (.Call (.Attribute o m apos) (e :: es) [] pos) X.env = (do
      let ov ← eval o X.env
      standAt apos.atName
      let (f, first) ← holding [ov] (getMethod ov m pl)
      callWith pos f first (backTo pos (starEach (e :: es) X.env)) (backToKw pos (keywordEach [] X.env))) := by rfl) :
    PE X (.Call (.Attribute o m apos) (e :: es) [] pos) (tSMeth C sp [] E ta t) := by
  obtain ⟨p, f, fd, mc, r, c, F, kp, b⟩ := D.ex
  exact pe_smeth (pl := pl) he r c F hr kp b .nil hx ha hst hpl ht
theorem pe_mkR (D : Cn X.prog X.w X.K X.mg X.base C k sp) (hr : Room (k + 1) X.A) (hg : Gl X x) (hm : X.mg x = some (.ref C)) (hx : Passes CX0 X E) (ha : PA X (e :: es) t) (hdb : (x == ("__debug__" : Str)) = false := by decide)
    (he : starEach (e :: es) X.env = (false, eval e X.env) :: starEach es X.env := by rfl) (hpl : (backTo pos (starEach es X.env)).any (·.1) = false := by rfl) : PE X (.Call (.Name x pn) (e :: es) [] pos) (tMakeR C sp E t) := by
  obtain ⟨f, M, F⟩ := D.ex
  exact pe_makeR M F hr hg hm hx ha hdb he hpl
theorem pe_mkS {sp_ : Pos} (D : Cn X.prog X.w X.K X.mg X.base C k sp) (hr : Room (k + 1) X.A) (hg : Gl X x) (hm : X.mg x = some (.ref C)) (hx : Passes CX0 X E) (he : PE X e te) (hdb : (x == ("__debug__" : Str)) = false := by decide)
    (hst : starEach [.Starred e sp_] X.env = [(true, eval e X.env)] := by rfl) : PE X (.Call (.Name x pn) [.Starred e sp_] [] pos) (tMakeS X.K C sp E te) := by
  obtain ⟨f, M, F⟩ := D.ex
  exact pe_makeS M F hr hg hm hx he hdb hst
theorem op_addN (D : On X.prog X.w X.K X.mg X.base C "__add__" k ps sp) (c : ClsC X.K X.mg x C) (hr : Room k X.A) : OpR X (binaryOp .Add) (rOwn2 C sp E0) := by
  obtain ⟨f, fd, a, i, F, b⟩ := D.ex
  exact op_addO F hr c.sf a i b pass0
theorem op_eqN (D : On X.prog X.w X.K X.mg X.base C "__eq__" k ps sp) (hr : Room k X.A) : OpR X (compareOp .Eq) (rOwn2 C sp E0) := by
  obtain ⟨f, fd, a, i, F, b⟩ := D.ex
  exact op_eqO F hr a i b pass0
def rLenO (C : Addr) (sp : Sp) : List V → Hp → VK → Prop := fun xs H Q => ∃ a dx fs, xs = [.ref a] ∧ H a = some (.ins C dx fs) ∧ sp [.ref a] H (fun v H' => ∃ n : Nat, v = .int n ∧ n < 4611686018427387904 ∧ Q (.int n) H') E0
theorem call_lenN (D : On X.prog X.w X.K X.mg X.base C "__len__" k ps sp) (hr : Room (k + 1) X.A) : CallR X (.builtin "len") (rLenO C sp) := by
  obtain ⟨f, fd, a, i, F, b⟩ := D.ex
  exact call_lenO F hr a i b pass0
/-! a range kept as a value, walked -/
def iRngV (tl : TE) : TI := fun σ H R => tl σ H fun x H1 => ∃ a lo hi, x = .ref a ∧ H1 a = some (.rng lo hi) ∧ (-(2 ^ 62) ≤ lo ∧ lo < 2 ^ 62 ∧ -(2 ^ 62) ≤ hi ∧ hi < 2 ^ 62) ∧ R (Itr lo (hi - lo).toNat) H1
theorem pi_rng {tg l : Expr} {tl : TE} (hl : PE X l tl) : PI X tg l (iRngV tl) := by
  refine ⟨fun pins s σ H R I h => ?_⟩
  refine thn (hl.run pins s σ H _ I h) fun v s1 ⟨x, H1, I1, r1, q1⟩ => ?_
  obtain ⟨a, lo, hi, e, ha, ⟨h1, h2, h3, h4⟩, q⟩ := q1
  subst e
  cases r1
  obtain ⟨t, u, w', hg⟩ := I1.hok a _ ha
  refine wpAny_pyIter_range (show IsRange _ _ _ _ _ _ _ _ from hg) (small_one h1 h2 h3 h4) ?_
  refine ⟨s1.heap.objs.size, [s1.heap.objs.size], _, _, H1, rfl, I1.kept (t' := s1.toks) fun b o e => Heap.get?_push_of_some _ e, turn_range _ lo (hi - lo).toNat, ?_, fun b hb => ?_, q⟩
  · have e1 : lo + ((0 : Nat) : Int) * 1 = lo := by simp
    have e2 : (((hi - lo).toNat : Nat) : Int) - ((0 : Nat) : Int) = Builtin.Range.rangeSize lo hi 1 := by rw [rangeSize_one]; split <;> omega
    show IsRangeIter _ _ (lo + ((0 : Nat) : Int) * 1) ((((hi - lo).toNat : Nat) : Int) - ((0 : Nat) : Int)) 1
    rw [e1, e2]
    exact Heap.get?_push_size _ rfl
  · have e : b = s1.heap.objs.size := by simpa using hb
    subst e
    exact I1.fpOk (Nat.le_refl _) (I1.hok.fresh (Nat.le_refl _))
/-! the rules that name the written part, with its name given (for the element of a comprehension) -/
theorem ix_listK (K : PySem.W.Frag) (h : X.K = K := by rfl) : IxR X (rIxL K) := h ▸ ix_list
theorem ix_tupK (K : PySem.W.Frag) (h : X.K = K := by rfl) : IxR X (rIxT K) := h ▸ ix_tup
def rLenK (K : PySem.W.Frag) : List V → Hp → VK → Prop := fun xs H Q => ∃ p ys, xs = [.ref p] ∧ (SqL K H p ys ∨ SqT K H p ys) ∧ Q (.int ys.length) H
theorem call_lenK (K : PySem.W.Frag) (h : X.K = K := by rfl) : CallR X (.builtin "len") (rLenK K) := h ▸ call_len_seq
theorem cr_sumK (K : PySem.W.Frag) (hc : X.calm = true) (h : X.K = K := by rfl) : CallR X (.builtin "sum") (rSum K) := h ▸ cr_sum hc
theorem cr_minK (K : PySem.W.Frag) (hc : X.calm = true) (h : X.K = K := by rfl) : CallR X (.builtin "min") (rMin K) := h ▸ cr_min hc
theorem call_isiK (K : PySem.W.Frag) (h : X.K = K := by rfl) : CallR X (.builtin "isinstance") (rIsi K) := h ▸ call_isi
theorem op_eqDK (K : PySem.W.Frag) (hu : X.A.units + 64 < cLine) (h : X.K = K := by rfl) : OpR X (compareOp .Eq) (rEqD K) := h ▸ op_eqD hu
def rIsqrt : List V → Hp → VK → Prop := fun vs H Q => ∃ a : Int, vs = [.int a] ∧ 0 ≤ a ∧ a < 2 ^ 64 ∧ ∀ r : Nat, r * r ≤ a.toNat → a.toNat < (r + 1) * (r + 1) → Q (.int (r : Int)) H
theorem cr_isqrt : CallR X (.builtin "math.isqrt") rIsqrt := by
  intro pins s σ H vs us Q I r h
  obtain ⟨a, rfl, h0, h1, q⟩ := h
  obtain ⟨u, rfl, t, rfl⟩ := Vals.one r
  have sp := PySem.Float64.isqrt_spec a.toNat
  exact PySem.W.mg_isqrt h0 h1 ⟨.int _, H, I.tok _, ⟨_, rfl⟩, q _ sp.1 sp.2⟩
theorem sl_listK (K : PySem.W.Frag) (h : X.K = K := by rfl) : SlR X (rSlL K) := h ▸ sl_list
theorem pe_fldK (K : PySem.W.Frag) {f : Str} (he : PE X e ta) (hb : attributeBase e f X.env (eval e X.env) = eval e X.env) (h : X.K = K := by rfl) : PE X (.Attribute e f pos) (tFld K ta f) := h ▸ pe_fld he hb
end
/-! ### what the top has written of a class -/
structure AtC (K : PySem.W.Frag) (x : Str) (C : Addr) : Prop where
  at_ : PySem.W.nsIn K mainGlobals x = some (some (.ref C))
  cl : Cls K C
  ic : C8.InsC K C
  sf : PySem.W.selfFirst K C = true
  made : PySem.W.makesIn K C = true
  kp : PySem.W.keepIn K (.ref C) = true
theorem atC {K : PySem.W.Frag} {x : Str} {C : Addr} (a : PySem.W.nsIn K mainGlobals x = some (some (.ref C))) (pg : PySem.W.plainGet K C Str.empty = true) (hd : PySem.W.hasDictIn K C = true) (po : PySem.W.plainOver K C = true) (sa : PySem.W.findIn K (.ref C) "__setattr__" = some (some (.builtin "object.__setattr__")))
    (ha : PySem.W.findIn K (.ref C) "__class__" = some (some (.builtin "object.__class__"))) (hn : PySem.W.specialIn K (.builtin "object.__class__") "__get__" = some (some (.builtin "getset_descriptor.__get__"))) (htk : PySem.W.takesIn K (.builtin "object.__class__") = some true)
    (hm : PySem.W.mroIn K C (.type "object") = some true) (sf : PySem.W.selfFirst K C = true) (mk : PySem.W.makesIn K C = true) (kp : PySem.W.keepIn K (.ref C) = true) : AtC K x C :=
  ⟨a, ⟨pg, hd, po, sa⟩, ⟨⟨pg, hd, po, sa⟩, ha, hn, htk, hm, by unfold PySem.W.kitOne; simp⟩, sf, mk, kp⟩
structure AtCls (K : PySem.W.Frag) (C : Addr) (m qual : Str) (st : Stmt) : Prop where
  ex : ∃ (f : Addr) (fd : FuncData), PySem.W.findIn K (.ref C) m = some (some (.ref f)) ∧ PySem.W.isFn K (.ref f) = true ∧ Fun K m qual st f fd
theorem atCls {K : PySem.W.Frag} {C f : Addr} {m qual : Str} {st : Stmt} {oc : Value} {od an : Option Addr} {osl : Array (Option Value)} {kV doc pm cdv ct : Value} (a : PySem.W.findIn K (.ref C) m = some (some (.ref f))) (i : PySem.W.isFn K (.ref f) = true)
    (l : K.lookup f = some ⟨oc, od, .func (PySem.W.fnOf m qual (defArgs st) (defBody st) (defScope st) .none kV doc pm an cdv ct), osl⟩) (c : PySem.W.codeIn K cdv qual = true) (p : PySem.W.keepIn K (.ref f) = true) : AtCls K C m qual st :=
  ⟨f, _, a, i, fun_mk l c p⟩
structure AtProp (K : PySem.W.Frag) (C : Addr) (m qual : Str) (st : Stmt) : Prop where
  ex : ∃ (p g : Addr) (fd : FuncData), PropOf K C m p g ∧ Fun K m qual st g fd
theorem atProp {K : PySem.W.Frag} {C p g : Addr} {m qual : Str} {st : Stmt} {oc : Value} {od an : Option Addr} {osl : Array (Option Value)} {kV doc pm cdv ct : Value} {rest : List Value} (a : PySem.W.findIn K (.ref C) m = some (some (.ref p))) (gt : PySem.W.specialIn K (.ref p) "__get__" = some (some (.builtin "property.__get__")))
    (tk : PySem.W.takesIn K (.ref p) = some true) (rc : PySem.W.recIn K p "property" = some (.ref g :: rest))
    (l : K.lookup g = some ⟨oc, od, .func (PySem.W.fnOf m qual (defArgs st) (defBody st) (defScope st) .none kV doc pm an cdv ct), osl⟩) (c : PySem.W.codeIn K cdv qual = true) (kp : PySem.W.keepIn K (.ref g) = true) : AtProp K C m qual st :=
  ⟨p, g, _, ⟨a, gt, tk, _, rc⟩, fun_mk l c kp⟩
structure AtStat (K : PySem.W.Frag) (C : Addr) (m qual : Str) (st : Stmt) : Prop where
  ex : ∃ (p g : Addr) (fd : FuncData) (mc : Value), CRead K C mc ∧ SMet K C mc m p g ∧ Fun K m qual st g fd
theorem atStat {K : PySem.W.Frag} {C p g : Addr} {m qual : Str} {st : Stmt} {oc mc : Value} {od an : Option Addr} {osl : Array (Option Value)} {kV doc pm cdv ct : Value} {rest : List Value} (_ty : PySem.W.typeIn K (.ref C) = some mc) (rd : PySem.W.readsIn K C mc = true)
    (ga : PySem.W.specialIn K (.ref C) "__getattribute__" = some (some (.builtin "type.__getattribute__"))) (fc : PySem.W.findCls K (.ref C) mc m = some (.get (.builtin "staticmethod.__get__") (.ref p) .none (.ref C))) (rc : PySem.W.recIn K p "staticmethod" = some (.ref g :: rest))
    (l : K.lookup g = some ⟨oc, od, .func (PySem.W.fnOf m qual (defArgs st) (defBody st) (defScope st) .none kV doc pm an cdv ct), osl⟩) (c : PySem.W.codeIn K cdv qual = true) (kp : PySem.W.keepIn K (.ref g) = true) : AtStat K C m qual st :=
  ⟨p, g, _, mc, ⟨rd, ga⟩, ⟨fc, _, rc⟩, fun_mk l c kp⟩
theorem cvAt {K : PySem.W.Frag} {C : Addr} {m : Str} {v : V} {mc u : Value} (_ty : PySem.W.typeIn K (.ref C) = some mc) (rd : PySem.W.readsIn K C mc = true)
    (ga : PySem.W.specialIn K (.ref C) "__getattribute__" = some (some (.builtin "type.__getattribute__"))) (fc : PySem.W.findCls K (.ref C) mc m = some (.val u)) (r : RelV v u) : ∃ mc u, CRead K C mc ∧ CVal K C mc m v u := ⟨mc, u, ⟨rd, ga⟩, ⟨fc, r⟩⟩
section
variable {P : Program} {w : World} {K : PySem.W.Frag} {mg : Str → Option Value} {base : Heap} {C : Addr} {x m qual : Str} {st : Stmt} {ps : List Str} {k : Nat} {sp : Sp} {h : Heap}
theorem AtC.cc (t : AtC K x C) (X : K.In h) (G : h.Ns mainGlobals mg) : ClsC K mg x C := ⟨t.cl, PySem.W.mg_of X G t.at_, t.ic, t.sf⟩
abbrev Bd (m qual : Str) (st : Stmt) (ps : List Str) : Prop := ∀ (kV doc pm : Value) (an : Option Addr) (cdv ct : Value) (us : List Value), us.length = ps.length → bindArgs (PySem.W.fnOf m qual (defArgs st) (defBody st) (defScope st) .none kV doc pm an cdv ct) ⟨us, []⟩ = pure (ps.zip us)
theorem AtCls.mn (t : AtCls K C m qual st) (hb : Bd m qual st ps) (ok : ∀ (f : Addr) (fd : FuncData), Fun K m qual st f fd → FnOk P w K mg base CX0 k f fd ps sp) : Mn P w K mg base C m k ps sp := by
  obtain ⟨f, fd, a, i, F⟩ := t.ex
  exact ⟨f, fd, ⟨a, i, F.kp⟩, ok f fd F, F.binds hb⟩
theorem AtCls.on (t : AtCls K C m qual st) (hb : Bd m qual st ps) (ok : ∀ (f : Addr) (fd : FuncData), Fun K m qual st f fd → FnOk P w K mg base CX0 k f fd ps sp) : On P w K mg base C m k ps sp := by
  obtain ⟨f, fd, a, i, F⟩ := t.ex
  exact ⟨f, fd, a, i, ok f fd F, F.binds hb⟩
theorem AtCls.cn (t : AtCls K C "__init__" qual st) (c : AtC K x C) (ok : ∀ (f : Addr) (fd : FuncData), Fun K "__init__" qual st f fd → FnR P w K mg base CX0 k f sp) : Cn P w K mg base C k sp := by
  obtain ⟨f, fd, a, i, F⟩ := t.ex
  exact ⟨f, ⟨c.made, a, i, c.kp⟩, ok f fd F⟩
theorem AtProp.pn (t : AtProp K C m qual st) (hb : Bd m qual st ["self"]) (ok : ∀ (f : Addr) (fd : FuncData), Fun K m qual st f fd → FnOk P w K mg base CX0 k f fd ["self"] sp) : Pn P w K mg base C m k sp := by
  obtain ⟨p, g, fd, a, F⟩ := t.ex
  exact ⟨p, g, fd, a, ok g fd F, F.binds hb⟩
theorem AtStat.sn (t : AtStat K C m qual st) (hb : Bd m qual st ps) (ok : ∀ (f : Addr) (fd : FuncData), Fun K m qual st f fd → FnOk P w K mg base CX0 k f fd ps sp) : Sn P w K mg base C m k ps sp := by
  obtain ⟨p, g, fd, mc, r, c, F⟩ := t.ex
  exact ⟨p, g, fd, mc, r, c, ok g fd F, F.kp, F.binds hb⟩
end
end Cl

/-! ### texts of 0 and 1, enumerate(text), text * int -/
namespace Cl
open PySem PySem.Spec PyProof.Rows L2 PySem.Builtin PySem.Builtin.Str
def bt (b : Bool) : Nat := if b then 49 else 48
def tx (l : List Bool) : Str := ⟨(l.map bt).toArray⟩
theorem str_ext {a b : Str} (h : a.cps.toList = b.cps.toList) : a = b := Str.ext' (Array.toList_inj.mp h)
theorem tx_lst (l : List Bool) : (tx l).cps.toList = l.map bt := by simp [tx]
theorem tx_len (l : List Bool) : (tx l).length = l.length := by simp [tx, Str.length]
theorem tx_size (l : List Bool) : (tx l).cps.size = l.length := by simp [tx]
theorem tx_app (a b : List Bool) : tx a ++ tx b = tx (a ++ b) := by
  apply str_ext
  show ((tx a).cps ++ (tx b).cps).toList = _
  rw [Array.toList_append, tx_lst, tx_lst, tx_lst, List.map_append]
theorem bt_inj {a b : Bool} (h : bt a = bt b) : a = b := by
  cases a <;> cases b <;> first | rfl | (simp [bt] at h)
theorem map_bt_inj : ∀ {a b : List Bool}, a.map bt = b.map bt → a = b
  | [], [], _ => rfl
  | [], _ :: _, h => by simp at h
  | _ :: _, [], h => by simp at h
  | x :: a, y :: b, h => by
    rw [List.map_cons, List.map_cons] at h
    injection h with h1 h2
    rw [bt_inj h1, map_bt_inj h2]
theorem tx_inj {a b : List Bool} (h : tx a = tx b) : a = b := map_bt_inj (by rw [← tx_lst, ← tx_lst, h])
theorem t1 : Str.ofString "1" = tx [true] := by decide +kernel
theorem t0 : Str.ofString "0" = tx [false] := by decide +kernel
theorem t01 : Str.ofString "01" = tx [false, true] := by decide +kernel
theorem te : Str.ofString "" = tx [] := by decide +kernel
theorem tx_one (b : Bool) : tx [b] = ⟨#[bt b]⟩ := rfl
theorem tx_get {l : List Bool} {i : Nat} : (tx l).cps[i]? = l[i]?.map bt := by
  rw [← Array.getElem?_toList, tx_lst, List.getElem?_map]
theorem tx_mul (b : Bool) (n : Int) : Txt.mul (tx [b]) n = tx (List.replicate n.toNat b) := by
  apply str_ext
  rw [tx_one, mul_one_list, tx_lst, List.map_replicate]
theorem tx_mulOk (b : Bool) {n : Int} (h1 : -1000000 ≤ n) (h2 : n ≤ 1000000) : MulOk (tx [b]) n := by
  have hl : (tx [b]).length = 1 := tx_len _
  refine ⟨?_, fun h3 _ => ?_, fun h3 _ => ?_⟩
  · rw [decide_eq_false (by omega), decide_eq_false (by omega)]; rfl
  · rw [hl]
    have : (1 : Int) ≤ (2 ^ 63 - 1) / n := by
      rw [Int.le_ediv_iff_mul_le (by omega)]
      omega
    omega
  · rw [hl]
    have hs : (1000000 : Nat) ≤ sizeLine := by decide
    unfold tooLong
    rw [decide_eq_false (by omega)]
theorem cnt_tx (b : Bool) : ∀ l : List Bool, cnt (bt b) (l.map bt) = (l.count b : Nat)
  | [] => rfl
  | x :: r => by
    rw [List.map_cons, cnt_cons, cnt_tx b r, List.count_cons]
    by_cases h : x = b
    · subst h; simp; omega
    · have h2 : ¬ bt x = bt b := fun e => h (bt_inj e)
      rw [if_neg h2]
      have h3 : (x == b) = false := by simpa using h
      rw [h3]; simp
theorem tx_count (l : List Bool) (b : Bool) : Txt.count (tx l) (tx [b]) = ((l.count b : Nat) : Int) := by
  rw [tx_one, count_cnt, tx_lst, cnt_tx]
/-- without the leading zeros -/
def nrm (l : List Bool) : List Bool := l.dropWhile (! ·)
theorem tx_sub (l : List Bool) (i j : Nat) : strSub (tx l) i j = tx ((l.drop i).take (j - i)) := by
  apply str_ext
  rw [StrLaws.strSub_toList, tx_lst, tx_lst, ← List.map_drop, ← List.map_take]
theorem takeW_len {α β : Type} (f : α → β) (p : β → Bool) (q : α → Bool) (h : ∀ a, p (f a) = q a) : ∀ l : List α, ((l.map f).takeWhile p).length = (l.takeWhile q).length
  | [] => rfl
  | a :: r => by
    rw [List.map_cons, List.takeWhile_cons, List.takeWhile_cons, h a]
    split
    · rw [List.length_cons, List.length_cons, takeW_len f p q h r]
    · rfl
theorem drop_takeW {α : Type} (p : α → Bool) : ∀ l : List α, l.drop (l.takeWhile p).length = l.dropWhile p
  | [] => rfl
  | a :: r => by
    rw [List.takeWhile_cons, List.dropWhile_cons]
    split
    · rw [List.length_cons, List.drop_succ_cons, drop_takeW p r]
    · rfl
theorem has0 (b : Bool) : (tx [false]).cps.contains (bt b) = !b := by cases b <;> decide +kernel
theorem has01 (b : Bool) : (tx [false, true]).cps.contains (bt b) = true := by cases b <;> decide +kernel
theorem tx_lstrip (l : List Bool) : Txt.lstripChars (tx l) (tx [false]) = tx (nrm l) := by
  unfold Txt.lstripChars
  rw [stripBy_eq]
  simp only [stripLo, stripHi, if_true, Bool.false_eq_true, if_false]
  rw [tx_sub, tx_lst, takeW_len bt _ (! ·) has0, drop_takeW, tx_len]
  congr 1
  apply List.take_of_length_le
  have h1 : ((nrm l).length + (l.takeWhile (! ·)).length) = l.length := by
    have := congrArg List.length (List.takeWhile_append_dropWhile (p := fun x : Bool => ! x) (l := l))
    rw [List.length_append] at this
    unfold nrm
    omega
  show (nrm l).length ≤ _
  omega
theorem takeW_all {α : Type} (p : α → Bool) (l : List α) (h : ∀ a ∈ l, p a = true) : l.takeWhile p = l := by
  induction l with
  | nil => rfl
  | cons a r ih => rw [List.takeWhile_cons, if_pos (h a (List.mem_cons_self ..)), ih fun b hb => h b (List.mem_cons_of_mem _ hb)]
theorem tx_strip (l : List Bool) : Txt.stripChars (tx l) (tx [false, true]) = tx [] := by
  unfold Txt.stripChars
  rw [stripBy_eq]
  simp only [stripLo, stripHi, if_true]
  rw [tx_sub]
  congr 1
  apply List.eq_nil_of_length_eq_zero
  rw [List.length_take, List.length_drop, tx_lst, takeW_all (l := l.map bt) _ fun a ha => by
    obtain ⟨b, _, rfl⟩ := List.mem_map.mp ha
    exact has01 b, List.length_map]
  omega
theorem tx_join : ∀ l : List Bool, Txt.join (tx []) (l.map fun b => tx [b]) = tx l := by
  intro l
  show glued (tx []) _ = _
  rw [StrLaws.glued_eq_join]
  induction l with
  | nil => rfl
  | cons b r ih =>
    cases r with
    | nil => rfl
    | cons c r =>
      show tx [b] ++ tx [] ++ Str.join (tx []) ((c :: r).map fun b => tx [b]) = _
      rw [ih, tx_app, tx_app]; rfl
theorem tx_sum (l : List Bool) : ((l.map fun b => tx [b]).map (·.length)).sum = l.length := by
  induction l with
  | nil => rfl
  | cons b r ih => rw [List.map_cons, List.map_cons, List.sum_cons, ih, List.length_cons, tx_len]; simp; omega
section
variable {X : Cx}
def rMulS : R2 := fun x y H Q => ∃ a n, x = .str a ∧ y = .int n ∧ MulOk a n ∧ Q (.str (Txt.mul a n)) H
theorem op_mul_str : OpR X (binaryOp .Mult) rMulS := by
  intro pins s σ H x y v u Q I rx ry h
  obtain ⟨a, n, rfl, rfl, hok, q⟩ := h
  obtain ⟨t, rfl⟩ := rx
  obtain ⟨t', rfl⟩ := ry
  exact SB.mul hok fun t' k => ⟨.str (Txt.mul a n), H, I.tok _, ⟨_, rfl⟩, q⟩
/-- the signs of a text in new pairs -/
def Ites (x : Str) : It :=
  ⟨fun i _ => i < x.cps.size, fun i H v H' => ∃ T c, v = .ref T ∧ H T = none ∧ H' = upd H T (.tup [.int (i : Nat), .str ⟨#[c]⟩]) ∧ x.cps[i]? = some c, fun i _ => x.cps.size ≤ i⟩
theorem turn_enumS {P : Program} {w : World} {K : PySem.W.Frag} {elts : List Expr} {kk : Nat} {tpos : Pos} (x : Str) (t : Tok) (ty : String) (hty : ty = "str_ascii_iterator" ∨ ty = "str_iterator") (e it : Addr) :
    Turn P w K (.Tuple elts kk tpos) (Ites x) [e, it] e (fun i h => (∃ old, IsEnum h e it ((i : Nat) : Int) old) ∧ h.IsStrIter it ty x t i ∧ e ≠ it ∧ i ≤ x.cps.size) where
  mem := by simp
  obj := fun i h st b hb => by
    obtain ⟨⟨old, he⟩, ⟨o, ho, hc, hd⟩, _⟩ := st
    have e' : b = e ∨ b = it := by simpa using hb
    rcases e' with z | z
    · rw [z]; exact ⟨_, he, fun v q => nomatch q⟩
    · rw [z]; exact ⟨o, ho, fun v q => by rw [hd] at q; cases q⟩
  keep := fun i h h' st k => let ⟨⟨old, he⟩, ⟨o, ho, r⟩, hne⟩ := st; ⟨⟨old, k e (by simp) _ he⟩, ⟨o, k it (by simp) o ho, r⟩, hne⟩
  item := by
    intro X hP hw hK hc i pins s σ H E I hf st hg
    subst hP hw hK
    obtain ⟨⟨old, he⟩, hit, hne, hle⟩ := st
    have D : Draws X.prog X.w X.A.in1 it [it] x.cps.size (fun i v => ∃ c u, x.cps[i]? = some c ∧ v = .str ⟨#[c]⟩ u) (fun i h => h.IsStrIter it ty x t i) := by
      rcases hty with z | z
      · rw [z]; exact Draws.strAscii (show X.A.in1.handled = none from I.ok.hd hc) it x t
      · rw [z]; exact Draws.strWide (show X.A.in1.handled = none from I.ok.hd hc) it x t
    have hel : e < s.heap.objs.size := Heap.lt_size he
    have hil : it < s.heap.objs.size := by obtain ⟨_, q, _⟩ := hit; exact Heap.lt_size q
    refine wpAny_pyNext_enum_itemD D he hit hg hne (by simpa using hne) fun y h' tk hP ho hit' hT hsz hk => ?_
    obtain ⟨c, u, hcx, rfl⟩ := hP
    refine ⟨_, rfl, wpAny_letOwnedTupleGo_enum (s := { s with heap := h', toks := tk + 1 }) ho fun h'' he' sb => ?_⟩
    have hT2 : h''.get? s.heap.objs.size = some { cls := .type "tuple", data := .seq #[.int i tk, .str ⟨#[c]⟩ u] } := (sb.2 _ (Nat.ne_of_gt hel)).trans hT
    have new : ObjOk X.prog X.w (upd H s.heap.objs.size (.tup [.int (i : Nat), .str ⟨#[c]⟩])) h'' s.heap.objs.size (.tup [.int (i : Nat), .str ⟨#[c]⟩]) :=
      ⟨by show 2 ≤ sizeLine; decide, [.int i tk, .str ⟨#[c]⟩ u], .cons ⟨_, rfl⟩ (.cons ⟨_, rfl⟩ .nil), ⟨_, hT2, rfl, _, rfl⟩⟩
    have I1 : Inv X pins σ (upd H s.heap.objs.size (.tup [.int (i : Nat), .str ⟨#[c]⟩])) { s with heap := h'', toks := tk + 1 } :=
      I.turnedNew (ch := [e, it]) (fun b ob hb q => (sb.2 b (fun z => hb (by simp [z]))).trans (hk b ob (fun z => hb (by simp [z])) (fun z => hb (by simp [z])) q)) hf (Nat.le_refl _) new
    refine ⟨.ref s.heap.objs.size, _, I1, rfl, ⟨_, c, rfl, I.hok.fresh (Nat.le_refl _), rfl, hcx⟩, ⟨⟨.str ⟨#[c]⟩ u, ?_⟩, ?_, hne, hg⟩, fun b hb => ?_⟩
    · have e1 : ((i + 1 : Nat) : Int) = (i : Int) + 1 := by omega
      rw [e1]; exact he'
    · obtain ⟨o, q, r⟩ := hit'
      exact ⟨o, (sb.2 it (Ne.symm hne)).trans q, r⟩
    · have hb' : b < s.heap.objs.size := by
        have e' : b = e ∨ b = it := by simpa using hb
        rcases e' with z | z
        · rw [z]; exact hel
        · rw [z]; exact hil
      rw [upd_ne (Nat.ne_of_lt hb')]
      exact (hf b hb).1
  done := by
    intro X hP hw hK hc i pins s σ H E I hf st hg
    subst hP hw hK
    obtain ⟨f0, f1, f2, f3, f4, f5⟩ := hf e (by simp)
    obtain ⟨g0, g1, g2, g3, g4, g5⟩ := hf it (by simp)
    obtain ⟨⟨old, he⟩, hit, hne, hle⟩ := st
    obtain rfl : i = x.cps.size := Nat.le_antisymm hle hg
    have D : Draws X.prog X.w X.A.in1 it [it] x.cps.size (fun i v => ∃ c u, x.cps[i]? = some c ∧ v = .str ⟨#[c]⟩ u) (fun i h => h.IsStrIter it ty x t i) := by
      rcases hty with z | z
      · rw [z]; exact Draws.strAscii (show X.A.in1.handled = none from I.ok.hd hc) it x t
      · rw [z]; exact Draws.strWide (show X.A.in1.handled = none from I.ok.hd hc) it x t
    exact wpAny_pyNext_enum_endD D he hit fun h' eb => ⟨rfl, I.turned (t' := s.toks) (fun b o hb q => eb b o hb q) g0 g1 g3 g4 g5⟩
  self := fun A i s Q E st h => let ⟨⟨_, he⟩, _⟩ := st; wpAny_pyIter_enum he h
def iEnumS (ta : TA) : TI := fun σ H R => ta σ H fun vs H1 => ∃ x, vs = [.str x] ∧ R (Ites x) H1
theorem pi_enumS {X : Cx} {e : Expr} {ta : TA} {p pos tpos : Pos} {elts : List Expr} {kk : Nat} (hg : Gl X "enumerate") (hm : X.mg "enumerate" = none) (ha : PA X [e] ta) (hs : starEach [e] X.env = [(false, eval e X.env)] := by rfl) :
    PI X (.Tuple elts kk tpos) (.Call (.Name "enumerate" p) [e] [] pos) (iEnumS ta) := by
  refine ⟨fun pins s σ H R I h => ?_⟩
  refine Call_ (ld_blt I hg hm boot_enumerate (PyProof.Rows.callWith_type1 (thn (ha.run pos pins s σ H _ I h) fun us s1 ⟨vs, H1, I1, r1, q1⟩ => ?_) hs rfl))
  obtain ⟨x, ex, q⟩ := q1
  subst ex
  cases r1 with
  | cons r rr =>
    cases rr
    obtain ⟨t, rfl⟩ := r
    refine call_enumerate_str fun h' he hit hsz hk => wpAny_pyIter_enum he ?_
    have I2 : Inv X pins σ H1 { s1 with heap := h' } := I1.kept (t' := s1.toks) hk
    refine ⟨s1.heap.objs.size + 1, [s1.heap.objs.size + 1, s1.heap.objs.size], _, _, H1, rfl, I2, turn_enumS x t (strIterType x) ?_ (s1.heap.objs.size + 1) s1.heap.objs.size, ⟨⟨.none, he⟩, hit, Nat.succ_ne_self _, Nat.zero_le _⟩, fun b hb => ?_, q⟩
    · unfold strIterType; split <;> simp
    have e' : b = s1.heap.objs.size + 1 ∨ b = s1.heap.objs.size := by simpa using hb
    have hle : s1.heap.objs.size ≤ b := by
      rcases e' with z | z
      · rw [z]; exact Nat.le_add_right _ _
      · rw [z]; exact Nat.le_refl _
    exact I1.fpOk hle (I1.hok.fresh hle)
theorem walk_enumS {x : Str} : Walk (Ites x) x.cps.size (fun _ => True) (YPair (fun i => some (.int (i : Nat))) (fun i => x.cps[i]?.map fun c => .str ⟨#[c]⟩)) := by
  refine ⟨fun i _ hi _ => hi, fun _ _ => Nat.le_refl _, fun i H v H' _ _ y => ?_⟩
  obtain ⟨T, c, h1, h2, h3, h4⟩ := y
  exact ⟨T, .int (i : Nat), .str ⟨#[c]⟩, h1, h2, h3, rfl, by show x.cps[i]?.map _ = _; rw [h4]; rfl⟩
theorem op_in_seqK (K : PySem.W.Frag) (e : X.K = K := by rfl) : OpR X (compareOp .In) (rIn K false) := e ▸ op_in_seq
theorem op_notIn_seqK (K : PySem.W.Frag) (e : X.K = K := by rfl) : OpR X (compareOp .NotIn) (rIn K true) := e ▸ op_notIn_seq
theorem pg_tupK {pos : Pos} {es : List Expr} {k : Nat} {t : TGs} {n : Nat} (K : PySem.W.Frag) (hc : X.calm = true) (h : PGs X es t)
    (hn : (assignEach es X.env).length = n := by rfl) (hst : (assignEach es X.env).findIdx? (·.1) = none := by rfl) (e : X.K = K := by rfl) : PG X (.Tuple es k pos) (gTup K n t) := e ▸ pg_tup hc h hn hst
end
/-- a comprehension over any walk, with a test: its turns may make objects -/
theorem lc_filtW {J : It} {n : Nat} {G : Hp → Prop} {Y : Nat → Hp → V → Hp → Prop} (w : Walk J n G Y) {g : TG} {tt : TT} {te : TE} {vs : List Nat} {σ : L2.St} {H1 : Hp} {D : Addr} {Qd : Hp → Prop} (f : Nat → V) (p : Nat → Bool) (hD : H1 D = none) (hlen : n < 10000) (hG : ∀ H, Same H1 H → G H)
    (hs : ∀ (i : Nat) (x : V) (H H' : Hp) (R : V → Hp → Prop) (R0 : Hp → Prop), i < n → Same H1 H → Y i H x H' → (p i = true → ∀ H2, Same H H2 → R (f i) H2) → (p i = false → ∀ H2, Same H H2 → R0 H2) →
      g x (wipe σ vs) H' fun σ2 H2 => wipe σ2 vs = wipe σ vs ∧ tt σ2 H2 fun b H3 => if b = true then te σ2 H3 R else R0 H3)
    (hd : ∀ H, Same H1 H → H D = some (.lst (((List.range n).filter p).map f)) → Qd H) :
    ∃ W : Nat → Nat → Hp → Prop, (∃ m, W 0 m (upd H1 D (.lst []))) ∧ ∀ i m H, W i m H →
      (J.stop i H ∧ Qd H) ∨ (J.go i H ∧ ∃ Nx : Hp → Prop, (∀ H', Nx H' → ∃ m', m' < m ∧ W (i + 1) m' H') ∧ ∀ x H', J.yld i H x H' → g x (wipe σ vs) H' fun σ2 H2 => wipe σ2 vs = wipe σ vs ∧ tt σ2 H2 fun b H3 =>
        if b = true then te σ2 H3 fun y H4 => ∃ acc, H4 D = some (.lst acc) ∧ acc.length < sizeLine ∧ Nx (upd H4 D (.lst (acc ++ [y]))) else Nx H3) := by
  refine lc_it w (fun i H => Same H1 H ∧ H D = some (.lst (((List.range i).filter p).map f))) ⟨fun b u e => by rw [upd_ne (ne_of_none e hD)]; exact e, upd_same⟩ (fun i H _ h => hG H h.1) ?_ (fun H h => hd H h.1 h.2)
  rintro i x H H' hi ⟨hS, hL⟩ y
  have e1 : (List.range (i + 1)).filter p = (List.range i).filter p ++ (if p i = true then [i] else []) := by
    rw [List.range_succ, List.filter_append, List.filter_cons, List.filter_nil]
  have key := hs i x H H' (fun y H4 => ∃ acc, H4 D = some (.lst acc) ∧ acc.length < sizeLine ∧ (Same H1 (upd H4 D (.lst (acc ++ [y]))) ∧ upd H4 D (.lst (acc ++ [y])) D = some (.lst (((List.range (i + 1)).filter p).map f))))
    (fun H4 => Same H1 H4 ∧ H4 D = some (.lst (((List.range (i + 1)).filter p).map f))) hi hS y (fun hp H2 hS' => ⟨_, hS' _ _ hL, ?_, fun b u e => by rw [upd_ne (ne_of_none e hD)]; exact hS' _ _ (hS _ _ e), ?_⟩) (fun hp H2 hS' => ⟨hS.trans hS', ?_⟩)
  · exact key
  · rw [List.length_map]
    have : (10000 : Nat) ≤ sizeLine := by decide
    have h2 := List.length_filter_le p (List.range i)
    rw [List.length_range] at h2
    omega
  · rw [upd_same, e1, if_pos hp, List.map_append]; rfl
  · rw [hS' _ _ hL, e1, if_neg (by rw [hp]; exact Bool.false_ne_true), List.append_nil]
/-- .. without a test -/
theorem lc_mapW {J : It} {n : Nat} {G : Hp → Prop} {Y : Nat → Hp → V → Hp → Prop} (w : Walk J n G Y) {g : TG} {te : TE} {vs : List Nat} {σ : L2.St} {H1 : Hp} {D : Addr} {Qd : Hp → Prop} (f : Nat → V) (hD : H1 D = none) (hlen : n < 10000) (hG : ∀ H, Same H1 H → G H)
    (hs : ∀ (i : Nat) (x : V) (H H' : Hp) (R : V → Hp → Prop), i < n → Same H1 H → Y i H x H' → (∀ H2, Same H H2 → R (f i) H2) →
      g x (wipe σ vs) H' fun σ2 H2 => wipe σ2 vs = wipe σ vs ∧ te σ2 H2 R)
    (hd : ∀ H, Same H1 H → H D = some (.lst ((List.range n).map f)) → Qd H) :
    ∃ W : Nat → Nat → Hp → Prop, (∃ m, W 0 m (upd H1 D (.lst []))) ∧ ∀ i m H, W i m H →
      (J.stop i H ∧ Qd H) ∨ (J.go i H ∧ ∃ Nx : Hp → Prop, (∀ H', Nx H' → ∃ m', m' < m ∧ W (i + 1) m' H') ∧ ∀ x H', J.yld i H x H' → g x (wipe σ vs) H' fun σ2 H2 => wipe σ2 vs = wipe σ vs ∧ tYes σ2 H2 fun b H3 =>
        if b = true then te σ2 H3 fun y H4 => ∃ acc, H4 D = some (.lst acc) ∧ acc.length < sizeLine ∧ Nx (upd H4 D (.lst (acc ++ [y]))) else Nx H3) := by
  refine lc_filtW w f (fun _ => true) hD hlen hG (fun i x H H' R R0 hi hS y h1 _ => ?_) (fun H h1 h2 => hd H h1 (by rw [h2, List.filter_eq_self.mpr (fun _ _ => rfl)]))
  exact hs i x H H' R hi hS y (h1 rfl)
/-- the dict of a comprehension without a test: which keys it has -/
theorem dc_keysW {K : PySem.W.Frag} {a D : Addr} {ns : List Int} {g : TG} {tk tv : TE} {vs : List Nat} {σ : L2.St} {H1 : Hp} {Qd : Hp → Prop} (hx : SqL K H1 a (ns.map V.int)) (hD : H1 D = none) (hlen : ns.length < 10000)
    (hs : ∀ (i : Int) (H : Hp) (R : V → V → Hp → Prop), i ∈ ns → Same H1 H → (∀ z, R (.int i) z H) → g (.int i) (wipe σ vs) H fun σ2 H2 => wipe σ2 vs = wipe σ vs ∧ tk σ2 H2 fun y H3 => tv σ2 H3 fun z H4 => R y z H4)
    (hd : ∀ H kvs, Same H1 H → H D = some (.dK kvs) → (∀ k : Int, (valV kvs (Sum.inl k : Key)).isSome = decide (k ∈ ns)) → Qd H) :
    ∃ W : Nat → Nat → Hp → Prop, (∃ m, W 0 m (upd H1 D (.dK []))) ∧ ∀ i m H, W i m H →
      ((Itl K a).stop i H ∧ Qd H) ∨ ((Itl K a).go i H ∧ ∃ Nx : Hp → Prop, (∀ H', Nx H' → ∃ m', m' < m ∧ W (i + 1) m' H') ∧ ∀ x H', (Itl K a).yld i H x H' → g x (wipe σ vs) H' fun σ2 H2 => wipe σ2 vs = wipe σ vs ∧ tYes σ2 H2 fun b H3 =>
        if b = true then tk σ2 H3 fun y H4 => tv σ2 H4 fun z H5 => ∃ kvs k, y = kV k ∧ H5 D = some (.dK kvs) ∧ kvs.length < sizeLine ∧ Nx (upd H5 D (.dK (putK kvs k z))) else Nx H3) := by
  have w := walk_list (K := K) (a := a) (xs := ns.map V.int)
  let Pv : Nat → Hp → Prop := fun i H => Same H1 H ∧ ∃ kvs : List (Key × V), H D = some (.dK kvs) ∧ kvs.length ≤ i ∧ ∀ k : Int, (valV kvs (Sum.inl k : Key)).isSome = decide (k ∈ ns.take i)
  have hn : (ns.map V.int).length = ns.length := List.length_map _
  refine ⟨fun i m H => m = ns.length - i ∧ i ≤ ns.length ∧ Pv i H, ⟨ns.length, rfl, Nat.zero_le _, fun b u e => by rw [upd_ne (ne_of_none e hD)]; exact e, [], upd_same, Nat.le_refl _, fun k => by simp [valV]⟩, ?_⟩
  rintro i m H ⟨rfl, hi, hS, kvs, hk, hkl, hv⟩
  have q : SqL K H a (ns.map V.int) := Same.seq hS hx
  by_cases hlt : i < ns.length
  · refine .inr ⟨w.goes i H (by rw [hn]; exact hlt) q, Pv (i + 1), fun H' p' => ⟨ns.length - (i + 1), by omega, rfl, hlt, p'⟩, fun x H' y => ?_⟩
    obtain ⟨rfl, hy⟩ := w.yields i H x H' (by rw [hn]; exact hlt) q y
    rw [List.getElem?_map, List.getElem?_eq_getElem hlt] at hy
    obtain rfl : V.int ns[i] = x := Option.some.inj hy
    have key := hs ns[i] H' (fun y z H5 => ∃ kvs k, y = kV k ∧ H5 D = some (.dK kvs) ∧ kvs.length < sizeLine ∧ Pv (i + 1) (upd H5 D (.dK (putK kvs k z)))) (List.getElem_mem hlt) hS fun z => by
      refine ⟨kvs, .inl ns[i], rfl, hk, ?_, fun b u e => by rw [upd_ne (ne_of_none e hD)]; exact hS _ _ e, _, upd_same, ?_, fun k => ?_⟩
      · have : (10000 : Nat) ≤ sizeLine := by decide
        omega
      · have := length_putK kvs (Sum.inl ns[i] : Key) z
        omega
      · have e0 : ns.take (i + 1) = ns.take i ++ [ns[i]] := by rw [List.take_add_one, List.getElem?_eq_getElem hlt]; rfl
        rw [valV_put, e0]
        by_cases e : (k : Int) = ns[i]
        · subst e; rw [if_pos rfl, decide_eq_true (List.mem_append_right _ (List.mem_singleton.mpr rfl))]; rfl
        · rw [if_neg (fun z => e (Sum.inl.inj z)), hv k]
          refine decide_eq_decide.mpr ⟨fun h => List.mem_append_left _ h, fun h => ?_⟩
          rcases List.mem_append.mp h with h | h
          · exact h
          · exact absurd (List.mem_singleton.mp h) e
    exact key
  · have e : i = ns.length := by omega
    subst e
    exact .inl ⟨by have := w.stops H q; rw [hn] at this; exact this, hd H kvs hS hk fun k => by rw [hv k, List.take_length]⟩
theorem tcut_from {xs : List V} {f : Nat} : cutV xs (some (f : Int)) none = xs.drop f := by
  unfold cutV
  rw [HT.sIx_nat, HT.sIx_none]
  rcases Nat.le_total f xs.length with h | h
  · rw [Nat.min_eq_left h, List.take_of_length_le (by rw [List.length_drop]; omega)]
  · rw [Nat.min_eq_right h, List.drop_eq_nil_of_le (Nat.le_refl _), List.drop_eq_nil_of_le h]; simp
theorem tcut_to {xs : List V} {f : Nat} : cutV xs none (some (f : Int)) = xs.take f := by
  unfold cutV
  rw [HT.sIx_nat, HT.sIx_none, List.drop_zero, Nat.sub_zero]
  rcases Nat.le_total f xs.length with h | h
  · rw [Nat.min_eq_left h]
  · rw [Nat.min_eq_right h, List.take_of_length_le (Nat.le_refl _), List.take_of_length_le h]
theorem teqvAll_ints : ∀ (as bs : List Int), PyData.eqvAll (as.map PyData.int) (bs.map PyData.int) = decide (as = bs)
  | [], [] => by simp [PyData.eqvAll]
  | [], b :: bs => by simp [PyData.eqvAll]
  | a :: as, [] => by simp [PyData.eqvAll]
  | a :: as, b :: bs => by
    simp only [List.map_cons, PyData.eqvAll, PyData.eqv, teqvAll_ints as bs, List.cons.injEq]
    by_cases h : a = b
    · subst h; simp
    · simp [h]
theorem tdpAll_ints {K : PySem.W.Frag} {H : Hp} : ∀ (as : List Int), DpAll K H (as.map V.int) (as.map PyData.int)
  | [] => .nil
  | a :: as => .cons (.int a) (tdpAll_ints as)
theorem tlay_ints : ∀ (as : List Int), PyData.canLayAll0 (as.map PyData.int) = true
  | [] => rfl
  | a :: as => by simp only [List.map_cons, PyData.canLayAll0, PyData.canLay0, tlay_ints as]; rfl
theorem tdep_ints : ∀ (as : List Int), PyData.depthAll (as.map PyData.int) = 0
  | [] => rfl
  | a :: as => by simp only [List.map_cons, PyData.depthAll, PyData.depth, tdep_ints as]; rfl
theorem tshaped_lst (as : List Int) : SeqAt.shaped (.list (as.map PyData.int)) = true := by
  show (PyData.canLayAll0 (as.map PyData.int) && decide (PyData.depthAll (as.map PyData.int) + 1 ≤ 64)) = true
  rw [tlay_ints, tdep_ints]; rfl
theorem eqd_ints {K : PySem.W.Frag} {H : Hp} {a b : Addr} {as bs : List Int} {Q : VK} (ha : SqL K H a (as.map V.int)) (hb : SqL K H b (bs.map V.int)) (q : Q (.bl (decide (as = bs))) H) : rEqD K (.ref a) (.ref b) H Q :=
  ⟨.list (as.map .int), .list (bs.map .int), .lst ha (tdpAll_ints as), .lst hb (tdpAll_ints bs), tshaped_lst as, tshaped_lst bs, by
    show Q (.bl (PyData.eqvAll (as.map .int) (bs.map .int))) H
    rw [teqvAll_ints]; exact q⟩
end Cl

/-! ### an own error over an own base over ValueError: super().__init__(text), then one field -/
namespace PySem
namespace OwnX
open PySem.W PySem.Calls PyProof.Rows PySem.HandSPX
def iA (fl : Str) (p1 p2 : Pos) : Arguments := { posonlyargs := [], args := [{ arg := "self", annotation := none, pos := p1 }, { arg := fl, annotation := none, pos := p2 }], vararg := none, kwonlyargs := [], kw_defaults := [], kwarg := none, defaults := [] }
def iB (fl : Str) (me : Expr) (q1 q2 q3 q4 q5 q6 q7 q8 q9 : Pos) : List Stmt :=
  [.Expr (.Call (.Attribute (.Call (.Name "super" q1) [] [] q2) "__init__" q3) [me] [] q4) q5, .Assign [.Attribute (.Name "self" q6) fl q7] (.Name fl q8) q9]
def iS (fl : Str) : Scope := { kind := .function, names := [(PySem.Str.ofString "self", .local), (fl, .local), (PySem.Str.ofString "__class__", .free), (PySem.Str.ofString "super", .globalImplicit)], isGenerator := false, isCoroutine := false, more := [] }
abbrev ve : String := "ValueError.__init__"
/-- the text that the error hands on: a constant, or f'..{field}..' -/
inductive Msg (fl : Str) : Expr → Bool → Prop where
  | con (z : Str) (k : Nat) (p : Pos) : Msg fl (.Constant (.str z) k p) false
  | fmt (a b : Str) (j k : Nat) (p1 p2 p3 p4 p5 : Pos) (ha : a.length ≤ 1000) (hb : b.length ≤ 1000) :
    Msg fl (.JoinedStr [.Constant (.str a) j p1, .FormattedValue (.Name fl p2) (-1) none p3, .Constant (.str b) k p4] p5) true
/-- what is asked of the field's value: a text, where the message has it -/
def okF (ok : Bool) (v : Value) : Prop := ok = true → ∃ z t, v = .str z t ∧ z.length ≤ 1000
/-- what is reckoned for each field's name -/
structure FlOk (fl : Str) : Prop where
  bind : ∀ (qual : Str) (me : Expr) (p1 p2 q1 q2 q3 q4 q5 q6 q7 q8 q9 : Pos) (doc pm : Value) (an : Option Addr) (cd ct : Value) (cc : Addr) (a b : Value),
    bindArgs (ksFn "__init__" qual (iA fl p1 p2) (iB fl me q1 q2 q3 q4 q5 q6 q7 q8 q9) (iS fl) .none .none doc pm an cd ct cc) ⟨[a, b], []⟩ = pure [(("self" : Str), a), (fl, b)]
  lf : (iS fl).names.lookup fl = some .local
  lc : (iS fl).names.lookup ("__class__" : Str) = some .free
  lu : (iS fl).names.lookup ("super" : Str) = some .globalImplicit
  dbg : (fl == ("__debug__" : Str)) = false
  sf : (("self" : Str) == fl) = false
  cells : ∀ y ∈ (iS fl).names, y.2 ≠ .cell
  lk : ∀ v : Value, List.lookup fl [(fl, v)] = some v
/-- what the written part says of the class x at C, of its __init__ at fI -/
structure OwnTxt (prog : Program) (K : Frag) (C fI : Addr) (fl : Str) (ok : Bool) : Prop where
  cls : ∃ nm q N bs bm sn sub ab col dd k0 k1 k2 k3 k5, K.lookup C = some (excClassObj nm q C N bs bm true sn sub ab col dd k0 k1 k2 k3 k5 "ValueError.__new__") ∧ refsVE bm = true
  sa : findIn K (.ref C) "__setattr__" = some (some (.builtin "object.__setattr__"))
  noN : findIn K (.ref C) fl = some none
  iC : findIn K (.ref C) "__init__" = some (some (.ref fI))
  tC : typeIn K (.ref fI) = some (.type "function")
  su : ks_superIn K C C "__init__" = some (some (.builtin ve))
  sv : subIn K (.ref C) (.type "ValueError") = some true
  op : nsIn K cStatics "thirdparty.any" = some none
  ds : mroIn K C (.ref C) = some true
  fo : FlOk fl
  fn : ∃ (qual : Str) (oc : Value) (od : Option Addr) (doc pm : Value) (an : Option Addr) (cda : Addr) (ct : Value) (osl : Array (Option Value)) (me : Expr) (p1 p2 q1 q2 q3 q4 q5 q6 q7 q8 q9 : Pos) (cc : Addr) (cl : Value) (cld : Option Addr) (csl : Array (Option Value))
    (ccl : Value) (cdd : Option Addr) (ccs : Array (Option Value)) (vs : Array Value) (file : Str) (tf : Tok),
    K.lookup fI = some ⟨oc, od, .func (ksFn "__init__" qual (iA fl p1 p2) (iB fl me q1 q2 q3 q4 q5 q6 q7 q8 q9) (iS fl) .none .none doc pm an (.ref cda) ct cc), osl⟩ ∧ codeIn K (.ref cda) qual = true ∧ Msg fl me ok ∧
    K.lookup cc = some ⟨cl, cld, .cell (some (.ref C)), csl⟩ ∧ K.lookup cda = some ⟨ccl, cdd, .fields vs, ccs⟩ ∧ vs[2]? = some (.str file tf) ∧ ((prog.main.file : Str) == file) = true ∧ (q3.endLine == q4.line) = true
  main : (prog.main.scope.names.lookup ("super" : Str)).isSome = false
theorem one_size (v : Value) : [v].length ≤ sizeLine := by
  rw [sizeLine_eq]
  exact (by decide : 1 ≤ 16777216)
/-- what __init__ leaves of a fresh exception at x -/
structure InitEnd (h h' : Heap) (x C dx : Addr) (fl : Str) (v : Value) : Prop where
  keep : ∀ b o, b ≠ x → h.get? b = some o → h'.get? b = some o
  obj : ∃ t1 : Addr, h'.get? x = some { cls := .ref C, dict := some dx, data := .fields #[.ref t1, .none, .none, .none, .bool false, .none] }
  dbig : h.objs.size ≤ dx
  dne : dx ≠ x
  ns : h'.Ns1 dx (fun y => if y = fl then some v else none)
section
variable {prog : Program} {w : World} {M : Model} {A : Around} {E : Value → Shared → Prop} {h : Heap} {g : Array GenState} {d : Drawn} {t : Nat} {os : OsState}
variable {nm q : Str} {C N : Addr} {bs bm : List Value} {hdct : Bool} {sn : List Str} {sub : List Value} {ab : Bool} {col : Option Bool} {dd : Option Addr} {k0 k1 k2 k3 k5 : Option Value}
theorem call_mw {u e t0 : Addr} {rest : List Value} {Q : Value → Shared → Prop}
    (hC : h.get? C = some (excClassObj nm q C N bs bm hdct sn sub ab col dd k0 k1 k2 k3 k5 "ValueError.__new__")) (he : h.get? e = some (excO C t0)) (hu : h.get? u = some (kxs_mw ve e)) (hrest : rest.length ≤ sizeLine)
    (hq : ∀ h' t1, (∀ b o, b ≠ e → h.get? b = some o → h'.get? b = some o) → h'.get? e = some (excO C t1) → Q .none ⟨h', g, d, t, os⟩) :
    wpAny (model prog w) A (call (.ref u) rest) Q E ⟨h, g, d, t, os⟩ := by
  refine wpAny_call (codeAny_of_tree ?_)
  show wpAny _ A.in1 (callAny (.ref u) ⟨rest, []⟩) _ _ _
  simp only [callAny]
  refine wpAny_bind (wpAny_load hu ?_)
  simp only [kxs_mw, show (Value.type "method-wrapper" == Value.type "method" || Value.type "method-wrapper" == Value.type "builtin_function_or_method" || Value.type "method-wrapper" == Value.type "method-wrapper") = true by decide, if_true]
  refine W.KFB.if_so (by decide) ?_
  refine wpAny_bind (check_bound_init F.excBase_ValueError.toExcCallFacts hC he rfl ?_)
  refine wpAny_bind (wpAny_pure (wpAny_pure ?_))
  refine ⟨plainId_quiet F.excBase_ValueError.init.plain _, codeAny_builtin F.excBase_ValueError.initEntry ?_⟩
  exact exc_init_tree (cls := .ref C) (t0 := t0) (dv := none) (c2 := .none) (c3 := .none) (b4 := .bool false) he hrest fun h' k e' _ => hq h' _ k e'
end
section
variable {prog : Program} {w : World} {A : Around} {E : Value → Shared → Prop} {R : Result → Shared → Prop} {s : Shared} {K : Frag} {mg : Str → Option Value} {C fI : Addr} {fl : Str} {ok : Bool}
theorem msg_eval {me : Expr} {env : Env} {m : Str → Option Value} {v : Value} {Q : Value → Shared → Prop} (M : Msg fl me ok) (hv : okF ok v) (hns : s.heap.Ns env.locals m) (hm : m fl = some v) (hk : env.scope.kind = .function) (hl : env.kindOf fl = some .local) (hd : (fl == ("__debug__" : Str)) = false)
    (h : ∀ (z : Str) (t k : Nat), Q (.str z t) { s with toks := k }) : wpAny (model prog w) A (eval me env) Q E s := by
  cases M with
  | con z k p => exact Calls.Constant_str (h _ _ _)
  | fmt a b j k p1 p2 p3 p4 p5 ha hb =>
    obtain ⟨z, t, rfl, hz⟩ := hv rfl
    refine wpAny_JoinedStr ?_
    have big : (1000000 : Nat) ≤ sizeLine := by decide
    have e0 : (Str.empty ++ a).length = a.length := by rw [Str.length_append]; simp [Str.empty, Str.length]
    have e1 : (Str.empty ++ a ++ z).length = a.length + z.length := by rw [Str.length_append, e0]
    have e2 : (Str.empty ++ a ++ z ++ b).length = a.length + z.length + b.length := by rw [Str.length_append, e1]
    refine Calls.Constant_str ⟨a, _, rfl, by rw [e0]; omega, ?_⟩
    have nxt : ∀ (t2 k2 : Nat), wpAny (model prog w) A (eval (.Constant (.str b) k p4) env) (fun v s1 => ∃ (y : Str) (tk : Tok), v = .str y tk ∧ (Str.empty ++ a ++ z ++ y).length ≤ sizeLine ∧ Joins (model prog w) A E [] (Str.empty ++ a ++ z ++ y) (fun out s₁ => out.length ≤ sizeLine ∧ Q (.str out s₁.toks) { s₁ with toks := s₁.toks + 1 }) s1) E { s with toks := k2 } := fun t2 k2 => by
      refine Calls.Constant_str ⟨b, _, rfl, by rw [e2]; omega, ?_⟩
      exact ⟨by rw [e2]; omega, h _ _ _⟩
    refine wpAny_FormattedValue_plain (wpAny_Name (wpAny_loadName_local hk hl hns hm ?_) hd)
    exact wpAny_formatField_str ⟨z, t, rfl, by rw [e1]; omega, nxt t _⟩ ⟨z, _, rfl, by rw [e1]; omega, nxt t _⟩ (by omega)
theorem msg_call {me : Expr} {q1 q2 apos pos : Pos} {env : Env} (M : Msg fl me ok) (hline : (apos.endLine == pos.line) = true) : ∃ pl : Sem Bool, eval (.Call (.Attribute (.Call (.Name "super" q1) [] [] q2) "__init__" apos) [me] [] pos) env = (do
      let ov ← attributeBase (.Call (.Name "super" q1) [] [] q2) "__init__" env (eval (.Call (.Name "super" q1) [] [] q2) env)
      standAt apos.atName
      let (f, first) ← holding [ov] (getMethod ov "__init__" pl)
      callWith pos f first (backTo pos (starEach [me] env)) []) := by
  refine ⟨do return (← importBound (.Call (.Name "super" q1) [] [] q2) env).getD true, ?_⟩
  have few : methodCallForm ([me].length + ([] : List Keyword).length) (backTo pos (starEach [me] env)) (backToKw pos (keywordEach [] env)) = true := by cases M <;> rfl
  show (do
      let ov ← attributeBase (.Call (.Name "super" q1) [] [] q2) "__init__" env (eval (.Call (.Name "super" q1) [] [] q2) env)
      standAt apos.atName
      methodCall (.Call (.Name "super" q1) [] [] q2) "__init__" apos pos env ov ([me].length + ([] : List Keyword).length) (backTo pos (starEach [me] env)) (backToKw pos (keywordEach [] env))) = _
  unfold methodCall calleeOf methodCallPos
  rw [few, hline]
  rfl
theorem msg_star {me : Expr} {env : Env} (M : Msg fl me ok) : starEach [me] env = (false, eval me env) :: starEach [] env := by cases M <;> rfl
theorem msg_swap {me o : Expr} {apos pos : Pos} {env : Env} {line : Nat} (M : Msg fl me ok) : swapsWith (.Call (.Attribute o "__init__" apos) [me] [] pos) none line env = pure false := by cases M <;> rfl
theorem mw_callWith1 {u x : Addr} {pos : Pos} {env : Env} {e : Expr} {Q : Value → Shared → Prop} (he : starEach [e] env = (false, eval e env) :: starEach [] env)
    (h : wpAny (model prog w) A (eval e env) (fun v s₁ => KxsAt ve u x s₁.heap ∧ wpAny (model prog w) A (call (.ref u) [v]) Q E s₁) E s) :
    wpAny (model prog w) A (callWith pos (.ref u) [] (backTo pos (starEach [e] env)) []) Q E s := by
  have h2 : wpAny (model prog w) A (spliced (backTo pos (starEach [e] env))) (fun vs s₁ => KxsAt ve u x s₁.heap ∧ wpAny (model prog w) A (call (.ref u) vs) Q E s₁) E s := by
    exact spliced_more (wpAny_mono h (fun v s₁ h₁ => spliced_none h₁) fun _ _ z => z) he
  rw [he] at h2 ⊢
  refine kxs_callWith (i := ve) (x := x) rfl ?_
  exact evalArgs_plain h2
/-- the whole __init__ at a fresh exception -/
theorem own_init (T : OwnTxt prog K C fI fl ok) {x t0 : Addr} {v : Value} (X : K.In s.heap) (hlim : s.heap.NoLimit) (hgl : s.heap.Ns mainGlobals mg) (hms : mg "super" = none) (hbl : ∃ mb, s.heap.Ns builtinsNs mb ∧ ∀ y : Str, y ≠ "__name__" → mb y = bootBuiltins y)
    (hok : okF ok v) (hx : s.heap.get? x = some (excO C t0)) (hnx : K.lookup x = none) (hroom : A.depth < recursionLimit)
    (hq : ∀ h' tk dx, InitEnd s.heap h' x C dx fl v → R (.ok (.ret .none)) { s with heap := h', toks := tk }) :
    codeAny (model prog w) A (.call (.ref fI) ⟨[.ref x, v], []⟩) R s := by
  obtain ⟨qual, oc, od, doc, pm, an, cda, ct, osl, me, p1, p2, q1, q2, q3, q4, q5, q6, q7, q8, q9, cc, cl, cld, csl, ccl, cdd, ccs, vs, file, tf, ho, hcd, hM, hcell, hcode, hvs, hfile, hline⟩ := T.fn
  obtain ⟨nm, q, N, bs, bm, sn, sub, ab, col, dd, k0, k1, k2, k3, k5, hC, hbm⟩ := T.cls
  have hcl : clsIn K C = some { name := nm, bases := bs, mro := .ref C :: bm, ns := N, qualname := q, hasDict := true, slotNames := sn, subclasses := sub, abstract := ab, collection := col, hasDel := false } := by unfold clsIn; rw [hC] <;> rfl
  have FO := T.fo
  have env0 : ∀ L, (callEnv (ksFn "__init__" qual (iA fl p1 p2) (iB fl me q1 q2 q3 q4 q5 q6 q7 q8 q9) (iS fl) .none .none doc pm an (.ref cda) ct cc) L fI) = ksEnv qual (iS fl) L fI (.ref cda) cc := fun L => rfl
  refine ks_codeAny_call_defAt (fd := ksFn "__init__" qual (iA fl p1 p2) (iB fl me q1 q2 q3 q4 q5 q6 q7 q8 q9) (iS fl) .none .none doc pm an (.ref cda) ct cc) (body := iB fl me q1 q2 q3 q4 q5 q6 q7 q8 q9) (binds := [(("self" : Str), .ref x), (fl, v)])
    hroom (X _ _ ho) rfl hlim (codeRec_of X hcd) rfl (BindsTo.of_eq (FO.bind _ _ _ _ _ _ _ _ _ _ _ _ _ _ _ _ _ _ _ _ _)) FO.cells ?_ (fun h₁ hn k => ?_)
  · intro y hy
    rcases List.mem_cons.mp hy with rfl | hy
    · rfl
    · rw [List.mem_singleton.mp hy]; exact FO.lf
  have X₁ : K.In h₁ := X.keeps k
  have hx₁ := k _ _ hx
  have hxL : s.heap.objs.size ≠ x := Nat.ne_of_gt (Heap.lt_size hx)
  have mv : (fun y => List.lookup y ([(("self" : Str), Value.ref x), (fl, v)] : List (Str × Value)).reverse) fl = some v := by
    show List.lookup fl [(fl, v), (("self" : Str), Value.ref x)] = some v
    have := FO.lk v
    unfold List.lookup at this ⊢
    cases hb : (fl == fl)
    · rw [hb] at this; cases this
    · rfl
  have ms : (fun y => List.lookup y ([(("self" : Str), Value.ref x), (fl, v)] : List (Str × Value)).reverse) "self" = some (.ref x) := by
    show List.lookup ("self" : Str) [(fl, v), (("self" : Str), Value.ref x)] = some (.ref x)
    unfold List.lookup
    rw [FO.sf]
    rfl
  obtain ⟨mb, hb1, hb2⟩ := hbl
  obtain ⟨pl, hpl⟩ := msg_call (q1 := q1) (q2 := q2) (apos := q3) (pos := q4) (env := ksEnv qual (iS fl) s.heap.objs.size fI (.ref cda) cc) hM hline
  refine ks_wpAt_execs_cons (ks_wpAt_Expr_any (ks_wpAt_MethodCall (pl := pl) ?_ hpl) rfl (msg_swap hM))
  obtain ⟨hp, g, dr, tk, os⟩ := s
  obtain ⟨oD, cdD, hD1, hD2⟩ : ∃ (oD : Obj) (cdD : ClassData), h₁.get? C = some oD ∧ oD.data = .cls cdD := ⟨_, _, X₁ _ _ hC, rfl⟩
  refine ks_wpAt_super_base (env := ksEnv qual (iS fl) hp.objs.size fI (.ref cda) cc) (ar := { arg := "self", annotation := none, pos := p1 }) FO.lu FO.lc rfl rfl (X₁ _ _ ho) rfl rfl rfl (X₁ _ _ hcode) rfl hvs hfile T.main ?_
  refine ks_loadName_global rfl FO.lu (loadGlobal_builtin (env := ksEnv qual (iS fl) hp.objs.size fI (.ref cda) cc) (hgl.keeps k) hms (hb1.keeps k) ((hb2 _ (by decide +kernel)).trans (by decide +kernel : bootBuiltins "super" = some (.type "super"))) ⟨rfl, ?_⟩)
  refine wpAny_loadName_free rfl FO.lc rfl ⟨_, X₁ _ _ hcell, rfl⟩ ?_
  refine wpAny_loadName_local rfl rfl hn ms ?_
  refine ks_wpAny_isType_cls hD1 hD2 ⟨rfl, ?_⟩
  refine ks_wpAny_call_super hD1 hD2 hx₁ rfl (fun c e => nomatch e) (looks_mroIn X₁ T.ds) (fun h₂ hso k₂ => ?_)
  have X₂ : K.In h₂ := X₁.keeps k₂
  have hx₂ := k₂ _ _ hx₁
  have I₂ : InstAt h₂ x (excO C t0) C none := ⟨hx₂, rfl, rfl, trivial⟩
  have hsu := T.su
  unfold ks_superIn at hsu
  rw [hcl] at hsu
  refine kxs_getMethod kxs_ValueError hso (looks_opaque X₂ T.op) (l₀ := .ref C :: bm) ?_ rfl X₂ hsu (I₂.type.andThen (looks_subIn X₂ T.sv)) (ks_ne X₂ I₂ hcl) rfl ?_
  · exact fun A Q E s k q => wpAny_bind ((looks_clsIn X₂ hcl) A _ E s k (wpAny_pure q))
  have k₃ : ∀ b o, h₂.get? b = some o → (h₂.push (kxs_mw ve x)).get? b = some o := fun b o e => Heap.get?_push_of_some _ e
  have hu : (h₂.push (kxs_mw ve x)).get? h₂.objs.size = some (kxs_mw ve x) := Heap.get?_push_at rfl rfl
  have X₃ := X₂.keeps k₃
  have hx₃ := k₃ _ _ hx₂
  have n₃ := (hn.keeps k₂).keeps k₃
  generalize h₂.push (kxs_mw ve x) = h₃ at *
  refine mw_callWith1 (x := x) (msg_star hM) (msg_eval hM hok n₃ mv rfl FO.lf FO.dbg fun z tz kz => ⟨hu, ?_⟩)
  refine call_mw (X₃ _ _ hC) hx₃ hu (one_size _) fun h₄ t1 k₄ hx₄ => ?_
  have nxL : hp.objs.size ≠ x := hxL
  have n₄ : h₄.Ns hp.objs.size (fun y => List.lookup y ([(("self" : Str), Value.ref x), (fl, v)] : List (Str × Value)).reverse) := n₃.at fun o e => k₄ _ _ nxL e
  have X₄ : K.In h₄ := fun a o e => k₄ a o (fun z => by rw [z, hnx] at e; cases e) (X₃ a o e)
  show _root_.PySem.wpAt _ _ _ (execs _ _) _ _ _
  refine wpAt_of_wpAny (wpAny_execs_cons (plainObj_wpAny_Assign_Attribute ?_))
  refine wpAny_Name (wpAny_loadName_local rfl FO.lf n₄ mv ?_) FO.dbg
  refine wpAny_Name (wpAny_loadName_local rfl rfl n₄ ms ?_) (by decide)
  refine set_plain X₄ (ox := excO C t1) (od := none) ⟨hx₄, rfl, rfl, trivial⟩ T.sa ?_
  refine exc_osa X₄ hx₄ hcl (show refsVE (.ref C :: bm) = true from hbm) rfl T.noN (fun h₅ tk₅ dx k₅ dn dne hx₅ hn₅ => ?_)
  show wpAny _ _ (execs _ _) _ _ _
  have kk : ∀ b o, b ≠ x → hp.get? b = some o → h₅.get? b = some o := fun b o hb e => k₅ b o hb (k₄ b o hb (k₃ _ _ (k₂ _ _ (k _ _ e))))
  have z : hp.objs.size < h₄.objs.size := n₄.lt
  exact wpAny_execs_nil (hq h₅ tk₅ dx ⟨kk, ⟨t1, hx₅⟩, Nat.le_of_lt (Nat.lt_of_lt_of_le z dn), dne, hn₅⟩)
/-- a made error -/
structure ErrMade (h h' : Heap) (e C d : Addr) (fl : Str) (v : Value) : Prop where
  keep : ∀ b o, h.get? b = some o → h'.get? b = some o
  new : h.objs.size ≤ e
  obj : ∃ oe vs, h'.get? e = some oe ∧ oe.cls = .ref C ∧ oe.dict = some d ∧ oe.data = .fields vs ∧ vs[1]? = some .none
  dbig : h.objs.size ≤ d
  dne : d ≠ e
  ns : h'.Ns1 d (fun y => if y = fl then some v else none)
theorem err_made (T : OwnTxt prog K C fI fl ok) {v : Value} (X : K.In s.heap) (hlim : s.heap.NoLimit) (hgl : s.heap.Ns mainGlobals mg) (hms : mg "super" = none) (hbl : ∃ mb, s.heap.Ns builtinsNs mb ∧ ∀ y : Str, y ≠ "__name__" → mb y = bootBuiltins y) (hok : okF ok v)
    (hroom : A.depth + 1 < recursionLimit) (hq : ∀ h' tk e d, ErrMade s.heap h' e C d fl v → R (.ok (.ret (.ref e))) { s with heap := h', toks := tk }) :
    codeAny (model prog w) A (.call (.ref C) ⟨[v], []⟩) R s := by
  obtain ⟨nm, q, N, bs, bm, sn, sub, ab, col, dd, k0, k1, k2, k3, k5, hC, hbm⟩ := T.cls
  obtain ⟨hp, g, dr, tk, os⟩ := s
  have k : ∀ b o, hp.get? b = some o → ((hp.push (kdv_tup [v])).push (excO C hp.objs.size)).get? b = some o := fun b o e => Heap.get?_push_of_some _ (Heap.get?_push_of_some _ e)
  have hget : ((hp.push (kdv_tup [v])).push (excO C hp.objs.size)).get? (hp.objs.size + 1) = some (excO C hp.objs.size) := by heap_get
  have hnx : K.lookup (hp.objs.size + 1) = none := by
    cases e : K.lookup (hp.objs.size + 1) with
    | none => rfl
    | some o =>
      have z : hp.get? (hp.objs.size + 1) = some o := X _ _ e
      exact absurd (Nat.lt_of_succ_lt (Heap.lt_size z)) (Nat.lt_irrefl _)
  obtain ⟨mb, hb1, hb2⟩ := hbl
  refine call_own F.excBase_ValueError (fun X => refsVE_contains X bm hbm) (X _ _ hC) (looks_findIn X T.iC) (fun self => bind_fn X self T.tC) (one_size v) ?_
  refine own_init (s := ⟨(hp.push (kdv_tup [v])).push (excO C hp.objs.size), g, dr, tk, os⟩) T (X.keeps k) (hlim.keeps k) (hgl.keeps k) hms ⟨mb, hb1.keeps k, hb2⟩ hok hget hnx ?_ fun h' tk' dx ⟨k', ⟨t1, hx⟩, dn, dne, hns⟩ => ?_
  · show A.depth + 1 < recursionLimit
    exact hroom
  · have old : ∀ b o, hp.get? b = some o → h'.get? b = some o := fun b o e => k' b o (Nat.ne_of_lt (Nat.lt_succ_of_lt (Heap.lt_size e))) (k b o e)
    have z : hp.objs.size + 1 + 1 ≤ dx := by
      have q := dn
      rw [Heap.size_push, Heap.size_push] at q
      exact q
    exact ⟨rfl, hq h' tk' (hp.objs.size + 1) dx ⟨old, Nat.le_succ _, ⟨_, _, hx, rfl, rfl, rfl, rfl⟩, Nat.le_trans (Nat.le_trans (Nat.le_succ _) (Nat.le_succ _)) z, dne, hns⟩⟩
end
end OwnX
end PySem
namespace L2
open PySem PySem.Spec PyProof.Rows
theorem relO_fld {fl : Str} {v : V} {v' : Value} (r : RelV v v') (f : Str) : RelO (List.lookup f [(fl, v)]) (if f = fl then some v' else none) := by
  by_cases hw : f = fl
  · subst hw
    rw [if_pos rfl]
    have q : List.lookup f [(f, v)] = some v := by simp [List.lookup]
    rw [q]
    exact r
  · rw [if_neg hw]
    have qw : (f == fl) = false := by simpa using hw
    have q2 : List.lookup f [(fl, v)] = none := by simp [List.lookup, qw]
    rw [q2]
    trivial
def okV (ok : Bool) (v : V) : Prop := ok = true → ∃ z, v = .str z ∧ z.length ≤ 1000
section
variable {X : Cx} {C fI : Addr} {fl : Str} {ok : Bool}
/-- Err(e) -/
def tMkErr (C : Addr) (fl : Str) (ok : Bool) (ta : TA) : St → Hp → XK → Prop := fun σ H Q => ta σ H fun vs H1 => ∃ v, vs = [v] ∧ okV ok v ∧ ∀ d, H1 d = none → Q (.ref C) (some d) (upd H1 d (.xd [(fl, v)]))
theorem pmk_err {nm : Str} {a : Expr} {ta : TA} {p pos : Pos} {k : Nat} (T : PySem.OwnX.OwnTxt X.prog X.K C fI fl ok) (exC : PySem.W.subIn X.K (.ref C) (.type "BaseException") = some true) (tyC : PySem.W.typeIn X.K (.ref C) = some (.type "type")) (kC : PySem.W.keepIn X.K (.ref C) = true)
    (gC : X.mg nm = some (.ref C)) (hms : X.mg "super" = none) (hr : Room (k + 1) X.A) (ha : PA X [a] ta) (hg : Gl X nm) (hdb : (nm == ("__debug__" : Str)) = false)
    (he : starEach (a :: []) X.env = (false, eval a X.env) :: starEach [] X.env := by rfl) (hpl : (backTo pos (starEach [] X.env)).any (·.1) = false := by rfl) :
    PMk X (.Call (.Name nm p) [a] [] pos) (tMkErr C fl ok ta) := by
  intro pins s σ H Q I h
  refine wpAny_Call_Name_kw (ld_glob I hg gC ?_ hdb)
  refine PySem.W.callWith_K (h₀ := X.base) I.ok.mod.kin kC (thn (ha.run pos pins s σ H _ I h) fun us s1 hh => ?_) he hpl
  obtain ⟨vs, H1, I1, r1, v, ev, hok, q1⟩ := hh
  subst ev
  refine ⟨I1.kIn, ?_⟩
  cases r1 with
  | cons rv rn =>
    rename_i v' us'
    cases rn
    show wpAny _ _ (call (.ref C) [v']) _ _ _
    have hlim := I1.nolimit
    have hok' : PySem.OwnX.okF ok v' := fun e => by
      obtain ⟨z, rfl, hz⟩ := hok e
      obtain ⟨t, rfl⟩ := rv
      exact ⟨z, t, rfl, hz⟩
    obtain ⟨mb, hb1, hb2⟩ := I1.mod.blt
    have hgl := I1.mod.glob.keeps I1.bk
    have hbl := hb1.keeps I1.bk
    obtain ⟨hp, g, dr, tk, os⟩ := s1
    refine wpAny_call (PySem.OwnX.err_made T I1.kIn hlim hgl hms ⟨mb, hbl, hb2⟩ hok' (by have := hr.dp; omega) fun h' tk' e d M => ?_)
    show MkP X pins σ Q (.ref e) ⟨h', g, dr, tk', os⟩
    obtain ⟨oe, fv, hoe, hc, hd, hdat, h1⟩ := M.obj
    have hns := M.ns
    obtain ⟨G', g1, g2⟩ := restrict h' fun b => decide (b ≠ e)
    have gk : ∀ b, b ≠ e → G'.get? b = h'.get? b := fun b hb => g1 b (decide_eq_true hb)
    have ge : G'.get? e = none := g2 e (by simp)
    have old : ∀ b o, hp.get? b = some o → G'.get? b = some o := fun b o q => (gk b (Nat.ne_of_lt (Nat.lt_of_lt_of_le (Heap.lt_size q) M.new))).trans (M.keep b o q)
    have ob : ObjOk X.prog X.w (upd H1 d (.xd [(fl, v)])) G' d (.xd [(fl, v)]) :=
      ⟨_, hns.at (fun o q => (gk d M.dne).trans q), fun f => relO_fld rv f⟩
    have J : Inv X pins σ (upd H1 d (.xd [(fl, v)])) ⟨G', g, dr, tk', os⟩ := I1.laid (t' := tk') old M.dbig ob
    refine ⟨e, oe, fv, ⟨G', g, dr, tk', os⟩, _, .ref C, some d, rfl, J, fun b o q => ?_, ge, hoe, ⟨hc, hd⟩, hdat, h1, ?_, rfl, I1.bare, raises_own exC tyC, q1 d (I1.hok.fresh M.dbig)⟩
    · by_cases hb : b = e
      · have q' : G'.get? b = some o := q
        rw [hb, ge] at q'; cases q'
      · exact (gk b hb).symm.trans q
    · rw [upd_ne (Ne.symm M.dne)]
      exact I1.hok.fresh M.new
end
end L2

/-! ### own errors by their names -/
namespace Cl
open PySem L2 PyProof.Rows
theorem kit_err {K : PySem.W.Frag} {C S : Addr} {b : Bool} (ne : (Value.ref C == Value.ref S) = false) (c : (PySem.W.clsIn K S).isSome = true) (t : PySem.W.typeIn K (.ref S) = some (.type "type")) (s : PySem.W.subIn K (.ref C) (.ref S) = some b) : PySem.W.kitOne K (.ref C) (.ref S) = some b := by
  have e2 : ((PySem.W.clsIn K S).isSome && PySem.W.typeIn K (.ref S) == some (.type "type")) = true := by rw [c, t] <;> rfl
  unfold PySem.W.kitOne PySem.W.kitCls
  rw [ne, if_neg Bool.false_ne_true]
  show (if ((PySem.W.clsIn K S).isSome && PySem.W.typeIn K (.ref S) == some (.type "type")) = true then PySem.W.subIn K (.ref C) (.ref S) else none) = some b
  rw [if_pos e2]; exact s
theorem kit_self {K : PySem.W.Frag} {C : Addr} : PySem.W.kitOne K (.ref C) (.ref C) = some true := by
  unfold PySem.W.kitOne; simp
/-- the class x at C of the program's errors, its field fl -/
structure ErrC (P : Program) (K : PySem.W.Frag) (mg : Str → Option Value) (x : Str) (C : Addr) (fl : Str) (ok : Bool) : Prop where
  T : ∃ fI, PySem.OwnX.OwnTxt P K C fI fl ok
  g : mg x = some (.ref C)
  su : mg "super" = none
  kp : PySem.W.keepIn K (.ref C) = true
  exC : PySem.W.subIn K (.ref C) (.type "BaseException") = some true
  tyC : PySem.W.typeIn K (.ref C) = some (.type "type")
  ga : PySem.W.findIn K (.ref C) "__getattribute__" = some (some (.builtin "BaseException.__getattribute__"))
  gg : PySem.W.findIn K (.ref C) "__getattr__" = some none
  hd : PySem.W.hasDictIn K C = true
  ha : PySem.W.findIn K (.ref C) "__class__" = some (some (.builtin "object.__class__"))
  hn : PySem.W.specialIn K (.builtin "object.__class__") "__get__" = some (some (.builtin "getset_descriptor.__get__"))
  ht : PySem.W.takesIn K (.builtin "object.__class__") = some true
  hm : PySem.W.mroIn K C (.type "object") = some true
  nm : (x == ("__debug__" : Str)) = false
  is_ : (PySem.W.clsIn K C).isSome = true
/-- an error of the class at C with the field fl = v flies: its own dict at d -/
def Err (H : Hp) (C : Addr) (fl : Str) (v : V) (cls : Value) (d : Option Addr) : Prop := cls = .ref C ∧ ∃ dd, d = some dd ∧ H dd = some (.xd [(fl, v)])
/-- the promise that such an error leaves -/
def Out (C : Addr) (fl : Str) (v : V) (H : Hp) (E : XK) : Prop := ∀ d : Addr, H d = none → E (.ref C) (some d) (upd H d (.xd [(fl, v)]))
section
variable {X : Cx} {C : Addr} {fl x : Str} {ok : Bool} {ta : TA} {a : Expr} {p pos pos2 : Pos} {k : Nat} {W : WX}
def tRaiseE (C : Addr) (fl : Str) (ok : Bool) (W : WX) (ta : TA) : TS := fun _ σ H => ta σ H fun vs H1 => ∃ v, vs = [v] ∧ okV ok v ∧ Out C fl v H1 fun cls d H' => W cls d σ H'
theorem ps_raiseE (T : ErrC X.prog X.K X.mg x C fl ok) (hc : X.calm = true) (hr : Room (k + 1) X.A) (tk : Takes X W) (ha : PA X [a] ta) (hg : Gl X x := by rfl)
    (he : starEach (a :: []) X.env = (false, eval a X.env) :: starEach [] X.env := by rfl) (hpl : (backTo pos (starEach [] X.env)).any (·.1) = false := by rfl) :
    PS X (.Raise (some (.Call (.Name x p) [a] [] pos)) none pos2) (tRaiseE C fl ok W ta) := by
  obtain ⟨fI, t⟩ := T.T
  exact ps_raise hc tk (pmk_err t T.exC T.tyC T.kp T.g T.su hr ha hg T.nm he hpl)
end
section
variable {X : Cx} {a : Addr} {oe : Obj} {cls : Value} {d : Option Addr} {pn : List (Addr × Obj)}
/-- err.fl in a suite: the class is told by the reading -/
def tFldE (P : Program) (K : PySem.W.Frag) (mg : Str → Option Value) (fl : Str) (a : Addr) (cls : Value) (d : Option Addr) (te : TE) : TE := fun σ H Q => te σ H fun y H1 => y = .ref a ∧ ∃ (x : Str) (C : Addr) (ok : Bool) (v : V), ErrC P K mg x C fl ok ∧ Err H1 C fl v cls d ∧ Q v H1
theorem pe_fldE {e : Expr} {te : TE} {fl : Str} {pos : Pos} (hz : Zc cls d oe) (hf : ∃ vs, oe.data = .fields vs) (he : PE (X.suite a ((a, oe) :: pn)) e te) (hb : attributeBase e fl X.env (eval e X.env) = eval e X.env := by rfl) :
    PE (X.suite a ((a, oe) :: pn)) (.Attribute e fl pos) (tFldE X.prog X.K X.mg fl a cls d te) := by
  refine ⟨fun pins s σ H Q I h => ?_⟩
  refine attr_of hb (thn (he.run pins s σ H _ I h) fun u s1 hh => ?_)
  obtain ⟨y, H1, I1, rx, ey, x, C, ok, v, T, ⟨ec, dd, ed, ea⟩, q⟩ := hh
  obtain ⟨fI, t⟩ := T.T
  subst ey ec ed
  obtain rfl : u = Value.ref a := rx
  obtain ⟨hat, _⟩ := I1.pin (a, oe) (List.mem_append_left _ List.mem_cons_self)
  obtain ⟨vs, hdat⟩ := hf
  obtain ⟨mA, hns, hr⟩ := (show ObjOk X.prog X.w H1 s1.heap dd (.xd [(fl, v)]) from I1.hok dd _ ea)
  obtain ⟨od, ho, hl⟩ := lookIn_ns hns
  have l : List.lookup fl [(fl, v)] = some v := by simp [List.lookup]
  obtain ⟨u, hu, ru⟩ := RelO.some_of (v := v) (o := mA fl) (by rw [← l]; exact hr fl)
  have J : PySem.W.InstAt s1.heap a oe C (some od) := ⟨hat, hz.1, by unfold PySem.W.notCls; rw [hdat] <;> rfl, by rw [hz.2]; exact ho⟩
  exact HandSPX.exc_get I1.kIn J T.ga T.gg T.exC (PySem.W.findObj_own T.hd t.noN rfl (by rw [hl, hu])) (handed_of ru) ⟨v, H1, I1.tok _, ru, q⟩
/-- isinstance(err, c) in a suite -/
def rIsErr (P : Program) (K : PySem.W.Frag) (mg : Str → Option Value) (a : Addr) (cls : Value) (d : Option Addr) : List V → Hp → VK → Prop := fun xs H Q => ∃ (c : V) (cv : Value) (b : Bool) (x : Str) (C : Addr) (fl : Str) (ok : Bool) (v : V), xs = [.ref a, c] ∧ (∀ u, RelV c u → u = cv) ∧
  ErrC P K mg x C fl ok ∧ Err H C fl v cls d ∧ PySem.W.kitOne K (.ref C) cv = some b ∧ Q (.bl b) H
theorem call_isErr (hz : Zc cls d oe) (hf : ∃ vs, oe.data = .fields vs) : CallR (X.suite a ((a, oe) :: pn)) (.builtin "isinstance") (rIsErr X.prog X.K X.mg a cls d) := by
  intro pins s σ H xs us Q I r h
  obtain ⟨c, cv, b, x, C, fl, ok, v, rfl, hcv, T, ⟨ec, dd, ed, ea⟩, e, q⟩ := h
  subst ec ed
  cases r with
  | cons rx rr =>
    cases rr with
    | cons rt rr =>
      cases rr
      cases rx
      obtain rfl := hcv _ rt
      obtain ⟨hat, _⟩ := I.pin (a, oe) (List.mem_append_left _ List.mem_cons_self)
      obtain ⟨vs, hdat⟩ := hf
      obtain ⟨mA, hns, _⟩ := (show ObjOk X.prog X.w H s.heap dd (.xd [(fl, v)]) from I.hok dd _ ea)
      obtain ⟨od, ho, _⟩ := lookIn_ns hns
      have J : PySem.W.InstAt s.heap a oe C (some od) := ⟨hat, hz.1, by unfold PySem.W.notCls; rw [hdat] <;> rfl, by rw [hz.2]; exact ho⟩
      exact PySem.W.kia_one (PySem.W.kitx_exc T.is_ T.ga T.gg T.exC T.ha T.hn T.ht T.hm) I.kIn J e (fun z => nomatch z) fun tk => ⟨.bl b, H, I.kept (t' := tk) fun _ _ z => z, rfl, q⟩
end
/-- a def that may raise, by its name -/
structure Dx (P : Program) (w : World) (K : PySem.W.Frag) (mg : Str → Option Value) (base : Heap) (x : Str) (k : Nat) (ps : List Str) (sp : Sp) (dvs : List V := []) : Prop where
  ex : ∃ (f : Addr) (fd : FuncData) (ds : List Value), FnOk P w K mg base (L2.CX P w) k f fd ps sp ∧ mg x = some (.ref f) ∧ PySem.W.keepIn K (.ref f) = true ∧ Binds K fd ps ds ∧ Vals dvs ds
section
variable {X : Cx} {k : Nat} {ps : List Str} {sp : Sp} {dvs : List V} {x : Str} {p pos : Pos} {e : Expr} {es : List Expr} {t : TA} {W : WX} {E : XK}
theorem passX0 : Passes (L2.CX X.prog X.w) X E0 := fun _ _ _ _ _ _ _ c => by
  obtain ⟨_, _, _, _, _, _, _, _, _, _, _, _, z⟩ := c
  exact z.elim
/-- its call where nothing is raised, or where what is raised is this def's own -/
theorem pe_dx (D : Dx X.prog X.w X.K X.mg X.base x k ps sp dvs) (hr : Room k X.A) (hg : Gl X x) (hx : Passes (L2.CX X.prog X.w) X E) (ha : PA X (e :: es) t)
    (hdb : (x == ("__debug__" : Str)) = false := by decide) (he : starEach (e :: es) X.env = (false, eval e X.env) :: starEach es X.env := by rfl)
    (hpl : (backTo pos (starEach es X.env)).any (·.1) = false := by rfl) : PE X (.Call (.Name x p) (e :: es) [] pos) (tCall sp dvs E t) := by
  obtain ⟨f, fd, ds, G, m, kp, b, v⟩ := D.ex
  exact pe_call G hr hg m kp b v hx ha hdb he hpl
/-- its call in the body of a try -/
theorem pe_dxT (D : Dx X.prog X.w X.K X.mg X.base x k ps sp dvs) (hr : Room k X.A) (hg : Gl X x) (tk : Takes X W) (ha : PA X (e :: es) t)
    (hdb : (x == ("__debug__" : Str)) = false := by decide) (he : starEach (e :: es) X.env = (false, eval e X.env) :: starEach es X.env := by rfl)
    (hpl : (backTo pos (starEach es X.env)).any (·.1) = false := by rfl) : PE X (.Call (.Name x p) (e :: es) [] pos) (tCallSD sp dvs (WE W) t) := by
  obtain ⟨f, fd, ds, G, m, kp, b, v⟩ := D.ex
  exact pe_callSD G hr hg m kp b v (fun σ => passAt tk σ) ha hdb he hpl
end
section
variable {P : Program} {w : World} {K : PySem.W.Frag} {mg : Str → Option Value} {base : Heap} {x qual : Str} {st : Stmt} {ps : List Str} {k : Nat} {sp : Sp} {kws : List (Str × V)} {h : Heap}
theorem AtTop.dx (t : AtTop K x qual st kws) (X : K.In h) (G : h.Ns mainGlobals mg)
    (hb : ∀ (kV doc pm : Value) (an : Option Addr) (cdv ct : Value) (us : List Value), us.length = ps.length → bindArgs (PySem.W.fnOf x qual (defArgs st) (defBody st) (defScope st) .none kV doc pm an cdv ct) ⟨us, []⟩ = pure (ps.zip us))
    (ok : ∀ (f : Addr) (fd : FuncData), Fun K x qual st f fd → FnOk P w K mg base (L2.CX P w) k f fd ps sp) : Dx P w K mg base x k ps sp := by
  obtain ⟨f, fd, a, F, _⟩ := t.ex
  exact ⟨f, fd, [], ok f fd F, PySem.W.mg_of X G a, F.kp, F.binds hb, .nil⟩
end
end Cl

/-! ### own errors found in the written part -/
namespace Cl
open PySem PySem.W PySem.Calls PySem.HandSPX L2 PyProof.Rows
/-- the class x at C, told by its __init__'s statement -/
structure ErrAt (P : Program) (K : PySem.W.Frag) (x : Str) (C : Addr) (fl : Str) (ok : Bool) : Prop where
  T : ∃ fI, PySem.OwnX.OwnTxt P K C fI fl ok
  a : PySem.W.nsIn K mainGlobals x = some (some (.ref C))
  kp : PySem.W.keepIn K (.ref C) = true
  exC : PySem.W.subIn K (.ref C) (.type "BaseException") = some true
  tyC : PySem.W.typeIn K (.ref C) = some (.type "type")
  ga : PySem.W.findIn K (.ref C) "__getattribute__" = some (some (.builtin "BaseException.__getattribute__"))
  gg : PySem.W.findIn K (.ref C) "__getattr__" = some none
  hd : PySem.W.hasDictIn K C = true
  ha : PySem.W.findIn K (.ref C) "__class__" = some (some (.builtin "object.__class__"))
  hn : PySem.W.specialIn K (.builtin "object.__class__") "__get__" = some (some (.builtin "getset_descriptor.__get__"))
  ht : PySem.W.takesIn K (.builtin "object.__class__") = some true
  hm : PySem.W.mroIn K C (.type "object") = some true
  nm : (x == ("__debug__" : Str)) = false
  is_ : (PySem.W.clsIn K C).isSome = true
theorem ErrAt.ec {P : Program} {K : PySem.W.Frag} {x : Str} {C : Addr} {fl : Str} {ok : Bool} {h : Heap} {mg : Str → Option Value} (t : ErrAt P K x C fl ok) (X : K.In h) (G : h.Ns mainGlobals mg) (su : PySem.W.nsIn K mainGlobals "super" = some none) : ErrC P K mg x C fl ok :=
  ⟨t.T, PySem.W.mg_of X G t.a, PySem.W.mg_none_of X G su, t.kp, t.exC, t.tyC, t.ga, t.gg, t.hd, t.ha, t.hn, t.ht, t.hm, t.nm, t.is_⟩
/-- the text of its __init__, as a statement of the program -/
structure OwnSt (st : Stmt) (fl : Str) (ok : Bool) : Prop where
  ex : ∃ (me : Expr) (p1 p2 q1 q2 q3 q4 q5 q6 q7 q8 q9 : Pos), (q3.endLine == q4.line) = true ∧ defArgs st = PySem.OwnX.iA fl p1 p2 ∧ defBody st = PySem.OwnX.iB fl me q1 q2 q3 q4 q5 q6 q7 q8 q9 ∧ defScope st = PySem.OwnX.iS fl ∧ PySem.OwnX.Msg fl me ok
theorem errAt {P : Program} {K : PySem.W.Frag} {x qual : Str} {C fI N cda cc : Addr} {fl file : Str} {ok : Bool} {st : Stmt} {nm q : Str} {bs bm : List Value} {sn : List Str} {sub : List Value} {ab : Bool} {col : Option Bool} {dd : Option Addr} {k0 k1 k2 k3 k5 : Option Value}
    {oc cl ccl doc pm ct : Value} {od an cld cdd : Option Addr} {osl csl ccs : Array (Option Value)} {vs : Array Value} {tf : Tok}
    (so : OwnSt st fl ok) (fo : PySem.OwnX.FlOk fl) (a : PySem.W.nsIn K mainGlobals x = some (some (.ref C)))
    (cls : K.lookup C = some (excClassObj nm q C N bs bm true sn sub ab col dd k0 k1 k2 k3 k5 "ValueError.__new__")) (bm_ : refsVE bm = true)
    (sa : PySem.W.findIn K (.ref C) "__setattr__" = some (some (.builtin "object.__setattr__"))) (noN : PySem.W.findIn K (.ref C) fl = some none)
    (iC : PySem.W.findIn K (.ref C) "__init__" = some (some (.ref fI))) (tC : PySem.W.typeIn K (.ref fI) = some (.type "function"))
    (su : PySem.W.ks_superIn K C C "__init__" = some (some (.builtin PySem.OwnX.ve))) (sv : PySem.W.subIn K (.ref C) (.type "ValueError") = some true)
    (op : PySem.W.nsIn K cStatics "thirdparty.any" = some none) (ds : PySem.W.mroIn K C (.ref C) = some true)
    (l : K.lookup fI = some ⟨oc, od, .func (PySem.W.ksFn "__init__" qual (defArgs st) (defBody st) (defScope st) .none .none doc pm an (.ref cda) ct cc), osl⟩) (c : PySem.W.codeIn K (.ref cda) qual = true)
    (lc : K.lookup cc = some ⟨cl, cld, .cell (some (.ref C)), csl⟩) (lv : K.lookup cda = some ⟨ccl, cdd, .fields vs, ccs⟩) (hv : vs[2]? = some (.str file tf)) (hf : ((P.main.file : Str) == file) = true)
    (hm : (P.main.scope.names.lookup ("super" : Str)).isSome = false) (kp : PySem.W.keepIn K (.ref C) = true) (exC : PySem.W.subIn K (.ref C) (.type "BaseException") = some true) (tyC : PySem.W.typeIn K (.ref C) = some (.type "type"))
    (ga : PySem.W.findIn K (.ref C) "__getattribute__" = some (some (.builtin "BaseException.__getattribute__"))) (gg : PySem.W.findIn K (.ref C) "__getattr__" = some none) (hd : PySem.W.hasDictIn K C = true)
    (ha : PySem.W.findIn K (.ref C) "__class__" = some (some (.builtin "object.__class__"))) (hn : PySem.W.specialIn K (.builtin "object.__class__") "__get__" = some (some (.builtin "getset_descriptor.__get__")))
    (ht : PySem.W.takesIn K (.builtin "object.__class__") = some true) (hmo : PySem.W.mroIn K C (.type "object") = some true) (nd : (x == ("__debug__" : Str)) = false) (is_ : PySem.W.isClsIn K C = true) : ErrAt P K x C fl ok := by
  obtain ⟨me, p1, p2, q1, q2, q3, q4, q5, q6, q7, q8, q9, hl, e1, e2, e3, M⟩ := so.ex
  rw [e1, e2, e3] at l
  exact ⟨⟨fI, ⟨_, _, _, _, _, _, _, _, _, _, _, _, _, _, _, cls, bm_⟩, sa, noN, iC, tC, su, sv, op, ds, fo, ⟨_, _, _, _, _, _, _, _, _, me, _, _, _, _, _, _, _, _, _, _, _, _, _, _, _, _, _, _, _, _, _, l, c, M, lc, lv, hv, hf, hl⟩, hm⟩, a, kp, exC, tyC, ga, gg, hd, ha, hn, ht, hmo, nd, is_⟩
/-- a class that is only named -/
structure ClsN (K : PySem.W.Frag) (mg : Str → Option Value) (x : Str) (C : Addr) : Prop where
  g : mg x = some (.ref C)
structure NamAt (K : PySem.W.Frag) (x : Str) (C : Addr) : Prop where
  a : PySem.W.nsIn K mainGlobals x = some (some (.ref C))
theorem namAt {K : PySem.W.Frag} {x : Str} {C : Addr} (a : PySem.W.nsIn K mainGlobals x = some (some (.ref C))) : NamAt K x C := ⟨a⟩
theorem NamAt.cn {K : PySem.W.Frag} {x : Str} {C : Addr} {h : Heap} {mg : Str → Option Value} (t : NamAt K x C) (X : K.In h) (G : h.Ns mainGlobals mg) : ClsN K mg x C := ⟨PySem.W.mg_of X G t.a⟩
/-- except S: an error of C, told -/
theorem exm_mk {K : PySem.W.Frag} {C S : Addr} {b : Bool} (ex : PySem.W.subIn K (.ref S) (.type "BaseException") = some true) (hd : PySem.W.hasDictIn K S = true) (ty : PySem.W.typeIn K (.ref S) = some (.type "type")) (s : PySem.W.subIn K (.ref C) (.ref S) = some b) : PySem.W.exmOne K (.ref C) (.ref S) = some b :=
  PySem.W.exm_ref ex hd ty s
theorem kit_bin {K : PySem.W.Frag} {C : Addr} {t : String} {b : Bool} (m : PySem.W.kitMeta t = true) (e : PySem.W.subIn K (.ref C) (.type t) = some b) : PySem.W.kitOne K (.ref C) (.type t) = some b := by
  show (if PySem.W.kitMeta t = true then PySem.W.subIn K (.ref C) (.type t) else none) = some b
  rw [if_pos m]; exact e
theorem kit_own {K : PySem.W.Frag} {C S : Addr} {b : Bool} (ne : (Value.ref C == Value.ref S) = false) (c : PySem.W.isClsIn K S = true) (t : PySem.W.typeIn K (.ref S) = some (.type "type")) (s : PySem.W.subIn K (.ref C) (.ref S) = some b) : PySem.W.kitOne K (.ref C) (.ref S) = some b :=
  kit_err ne c t s
end Cl

/-! ### can_empty, with its refusals -/
namespace Cl
open PySem L2
def top (i : Nat) : Stmt := PySem.Challenge.pw_carrylog_k34_can_empty.main.body.getD i (.Pass ⟨0, 0, 0, 0⟩)
abbrev sInvalidinputInit : Stmt := inClass (top 2) 0
abbrev sKeylimitInit : Stmt := inClass (top 3) 0
abbrev sBadchoiceInit : Stmt := inClass (top 4) 0
abbrev sStalledInit : Stmt := inClass (top 5) 0
abbrev sIsWhole : Stmt := top 7
abbrev sCheckLeast : Stmt := top 8
abbrev sDividedUp : Stmt := top 10
abbrev sCanEmpty : Stmt := top 12
abbrev sLawBox : Stmt := top 14
abbrev sLawDraw : Stmt := top 15
abbrev sLawSays : Stmt := top 16
abbrev sLawWalk : Stmt := top 17
abbrev sLawSmall : Stmt := top 18
abbrev sLawEdge : Stmt := top 19
abbrev sLawField : Stmt := top 20
abbrev sLawLimits : Stmt := top 21
abbrev sLaw : Stmt := top 22
section
variable {P : Program} {w : World} {K : PySem.W.Frag} {mg : Str → Option Value} {base : Heap} {C_StoreError C_InvalidInput C_KeyLimit C_BadChoice C_Stalled : Addr}
theorem kit_ii (K : PySem.W.Frag) : PySem.W.kitOne K (.type "int") (.type "int") = some true := kit_ty (by decide +kernel)
theorem kit_ib (K : PySem.W.Frag) : PySem.W.kitOne K (.type "int") (.type "bool") = some false := kit_ty (by decide +kernel)
theorem kit_bb (K : PySem.W.Frag) : PySem.W.kitOne K (.type "bool") (.type "bool") = some true := kit_ty (by decide +kernel)
def spIsWhole : Sp := fun vs H Q _ => ∃ (v : Int), vs = [.int v] ∧ Q (.bl true) H
theorem scIsWhole : FnScope ["value"] ["value"] (defScope sIsWhole) := ⟨rfl, rfl, rfl, by decide +kernel, rfl, by decide +kernel, by decide +kernel⟩
theorem ok_is_whole {f : Addr} {fd : FuncData} (F : Fun K "is_whole" "is_whole" sIsWhole f fd) (B : Bi mg) : FnOk P w K mg base CX0 1 f fd ["value"] spIsWhole := by
  refine F.ok scIsWhole (fun vs H Q E h => ?_) (fun cdv A outer s H vs Q E hr h => ?_)
  · obtain ⟨v, rfl, _⟩ := h
    rfl
  · obtain ⟨v, rfl, k⟩ := h
    refine ⟨_, (pss_one (ps_ret (pe_and (pe_callB call_isi (by rfl) B.isinstance (by decide +kernel) (pa_cons (pv 0) (pa_cons (pe_bltn (v := .ty "int") (by rfl) B.intT (by decide +kernel) rfl) pa_nil))) (pe_one (pe_not (pe_callB call_isi (by rfl) B.isinstance (by decide +kernel) (pa_cons (pv 0) (pa_cons (pe_bltn (v := .ty "bool") (by rfl) B.boolT (by decide +kernel) rfl) pa_nil)))))))), ?_⟩
    refine ⟨_, rfl, _, _, _, _, _, rfl, .ty _, .base (.int _), kit_ii _, _, rfl, iteT ?_⟩
    exact ⟨_, rfl, _, _, _, _, _, rfl, .ty _, .base (.int _), kit_ib _, _, rfl, k⟩
def spChk (C : Addr) : Sp := fun vs H Q E => ∃ (v l : Int) (x : Str), vs = [.int v, .int l, .str x] ∧ x.length ≤ 1000 ∧ (l ≤ v → Q .non H) ∧ (v < l → Out C "field" (.str x) H E)
theorem scCheckLeast : FnScope ["value", "least", "field"] ["value", "least", "field"] (defScope sCheckLeast) := ⟨rfl, rfl, rfl, by decide +kernel, rfl, by decide +kernel, by decide +kernel⟩
theorem ok_check_least {f : Addr} {fd : FuncData} (F : Fun K "check_least" "check_least" sCheckLeast f fd) (D_is_whole : Dn P w K mg base "is_whole" 1 ["value"] spIsWhole) (E_InvalidInput : ErrC P K mg "InvalidInput" C_InvalidInput "field" true) :
    FnOk P w K mg base (L2.CX P w) 3 f fd ["value", "least", "field"] (spChk C_InvalidInput) := by
  refine F.okX scCheckLeast (fun vs H Q E h => ?_) (fun cdv A outer s H vs Q E hr h => ?_)
  · obtain ⟨v, l, x, rfl, _⟩ := h
    rfl
  · obtain ⟨v, l, x, rfl, hx, k1, k2⟩ := h
    refine ⟨_, (pss_one (ps_if (PW.pt (pw_or (pt_not (pt_val (pe_dn D_is_whole (hr.mono (by decide)) (by rfl) pass0 (pa_cons (pv 0) pa_nil)))) (pw_or1 (pt_cmpR op_lt (pv 0) (pv 1) (nomark _))))) (pss_one (ps_raiseE (k := 0) E_InvalidInput rfl (hr.mono (by decide)) (takes_of rfl rfl rfl rfl) (pa_cons (pv 2) pa_nil)))
  pss_nil)), ?_⟩
    refine ⟨_, rfl, v, rfl, _, rfl, iteF ?_⟩
    walk_at "rd"
    by_cases hl : v < l
    · rw [decide_eq_true hl]
      refine iteT ?_
      walk_at "rd"
      refine ⟨fun _ => ⟨x, rfl, hx⟩, fun d hd => k2 hl d hd⟩
    · rw [decide_eq_false hl]
      exact iteF (k1 (by omega))
end
end Cl

/-! ### law k34: the box -/
namespace Cl
open PySem L2
/-- a box stands at a: drawn from, it stays one -/
def BoxAt (H : Hp) (a b : Addr) : Prop := ∃ (cs : List Int) (c1 : Nat) (c2 c3 c4 : Int), b ≠ a ∧ H a = some (.lst [.ref b, .int c1, .int c2, .int c3, .int c4]) ∧ H b = some (.lst (cs.map V.int))
theorem BoxAt.same {H H' : Hp} {a b : Addr} (h : BoxAt H a b) (x : Same H H') : BoxAt H' a b := by
  obtain ⟨cs, c1, c2, c3, c4, n, e, e2⟩ := h
  exact ⟨cs, c1, c2, c3, c4, n, x _ _ e, x _ _ e2⟩
theorem BoxAt.ne {H : Hp} {a b p : Addr} (h : BoxAt H a b) (hp : H p = none) : p ≠ a ∧ p ≠ b := by
  obtain ⟨cs, c1, c2, c3, c4, n, e, e2⟩ := h
  exact ⟨fun z => (by rw [z, e] at hp; cases hp), fun z => (by rw [z, e2] at hp; cases hp)⟩
theorem BoxAt.put {H : Hp} {a b p : Addr} {o : HO} (h : BoxAt H a b) (h1 : p ≠ a) (h2 : p ≠ b) : BoxAt (upd H p o) a b := by
  obtain ⟨cs, c1, c2, c3, c4, n, e, e2⟩ := h
  exact ⟨cs, c1, c2, c3, c4, n, by rw [upd_ne h1.symm]; exact e, by rw [upd_ne h2.symm]; exact e2⟩
section
variable {P : Program} {w : World} {K : PySem.W.Frag} {mg : Str → Option Value} {base : Heap}
def spBox (K : PySem.W.Frag) : Sp := fun vs H Q _ => ∃ (a : Addr) (ns : List Int), vs = [.ref a] ∧ SqL K H a (ns.map V.int) ∧ ∀ (p b : Addr) (H' : Hp), BoxAt H' p b → Q (.ref p) H'
theorem scLawBox : FnScope ["script", "cells", "state", "cell"] ["script"] (defScope sLawBox) := ⟨rfl, rfl, rfl, by decide +kernel, rfl, by decide +kernel, by decide +kernel⟩
theorem ok__law_box {f : Addr} {fd : FuncData} (F : Fun K "_law_box" "_law_box" sLawBox f fd) (B : Bi mg) : FnOk P w K mg base CX0 1 f fd ["script"] (spBox K) := by
  refine F.ok scLawBox (fun vs H Q E h => ?_) (fun cdv A outer s H vs Q E hr h => ?_)
  · obtain ⟨a, ns, rfl, _⟩ := h
    rfl
  · obtain ⟨a, ns, rfl, hS, k⟩ := h
    refine ⟨_, (pss_cons (ps_set (i := 1) scLawBox.nd rfl (Or.inl rfl) (pe_callTy call_list_of (by rfl) B.listT (by decide +kernel) (pa_cons (pe_slice sl_list (pv 0) po_none (po_some pe_int)) pa_nil)))
  (pss_cons (ps_set (i := 2) scLawBox.nd rfl (Or.inl rfl) pe_int)
  (pss_cons (ps_for PassesOwn.never rfl (pi_list (pv 1)) (pg_name (i := 3) scLawBox.nd rfl (Or.inl rfl))
  (pss_one (ps_set (i := 2) scLawBox.nd rfl (Or.inl rfl) (pe_op op_mod (pe_callTy call_int1 (by rfl) B.intT (by decide +kernel) (pa_cons (pe_op op_add (pe_op op_mul (pv 2) pe_int) (pv 3)) pa_nil)) pe_int))))
  (pss_one (ps_ret (pe_lst (pa_cons (pv 1) (pa_cons pe_int (pa_cons pe_int (pa_cons (pv 2) (pa_cons pe_int pa_nil))))))))))), ?_⟩
    refine ⟨_, rfl, 63, rfl, _, _, rfl, hS, fun p hp => ?_⟩
    rw [show cutV (ns.map V.int) none (some 63) = (ns.take 63).map V.int from (tcut_to (f := 63)).trans (List.map_take ..).symm]
    refine ⟨p, _, rfl, .inl (SqL.of upd_same), fun D hD => ⟨_, rfl, D, rfl, ⟨_, SqL.of upd_same⟩, ?_⟩⟩
    have hpD : p ≠ D := ne_of_none upd_same hD
    refine for_list (xs := (ns.take 63).map V.int) (fun i σ H' => ∃ (s : Int) (x : Option V), σ = [some (.ref a), some (.ref D), some (.int s), x] ∧ H' D = some (.lst ((ns.take 63).map V.int))) ⟨56, _, rfl, upd_same⟩ ?_ ?_ ?_
    · rintro i σ H' hi ⟨s, x, rfl, hD2⟩
      exact SqL.of hD2
    · rintro i x σ H2 hx ⟨s, y, rfl, hD2⟩
      obtain ⟨v, _, rfl⟩ := List.mem_map.mp (List.mem_of_getElem? hx)
      refine ⟨_, rfl, _, _, rfl, rfl, .inr ⟨by decide, by decide⟩, ?_⟩
      refine ⟨_, rfl, _, _, rfl, rfl, .inl ⟨_, rfl, _, _, rfl, rfl, (by show (0 : Int) < 2147483647; decide), ?_⟩⟩
      exact ⟨_, _, rfl, hD2⟩
    · rintro σ H2 ⟨s, y, rfl, hD2⟩
      refine ⟨_, rfl, _, rfl, by show 5 ≤ sizeLine; decide, fun q hq => ?_⟩
      have nq : D ≠ q := ne_of_none hD2 hq
      exact k q D _ ⟨ns.take 63, 0, 0, _, 0, nq, upd_same, by rw [upd_ne nq]; exact hD2⟩
def spTakeB : Sp := fun vs H Q _ => ∃ (a b : Addr) (z : Int), vs = [.ref a, .int z] ∧ BoxAt H a b ∧ 1 ≤ z ∧ z ≤ 100000000000000000000000000000000000000000000000000000000000000 ∧ ∀ (d : Int) (H' : Hp), 0 ≤ d → d < z → BoxAt H' a b → But a H H' → Q (.int d) H'
theorem scLawDraw : FnScope ["box", "many", "cell", "digit"] ["box", "many"] (defScope sLawDraw) := ⟨rfl, rfl, rfl, by decide +kernel, rfl, by decide +kernel, by decide +kernel⟩
theorem ok__law_draw {f : Addr} {fd : FuncData} (F : Fun K "_law_draw" "_law_draw" sLawDraw f fd) (B : Bi mg) : FnOk P w K mg base CX0 1 f fd ["box", "many"] spTakeB := by
  refine F.ok scLawDraw (fun vs H Q E h => ?_) (fun cdv A outer s H vs Q E hr h => ?_)
  · obtain ⟨a, b, z, rfl, _⟩ := h
    rfl
  · obtain ⟨a, b, z, rfl, ⟨cs, c1, c2, c3, c4, nb, ha, hb⟩, z1, z2, k⟩ := h
    refine ⟨_, (C8.pss_cut (ps_if (PW.pt (pw_and (pt_cmpR op_eq (pe_ix ix_list (pv 0) pe_int (fun _ _ => rfl)) pe_int (nomark _)) (pw_and1 (pt_cmpR op_lt (pe_ix ix_list (pv 0) pe_int (fun _ _ => rfl)) (pe_callB call_len_seq (by rfl) B.len PySem.boot_len (pa_cons (pe_ix ix_list (pv 0) pe_int (fun _ _ => rfl)) pa_nil)) (nomark _))))) (pss_cons (ps_set (i := 2) scLawDraw.nd rfl (Or.inl rfl) (pe_ix ix_list (pe_ix ix_list (pv 0) pe_int (fun _ _ => rfl)) (pe_ix ix_list (pv 0) pe_int (fun _ _ => rfl)) (fun _ _ => rfl)))
  (pss_cons (ps_asg (pe_op op_add (pe_ix ix_list (pv 0) pe_int (fun _ _ => rfl)) pe_int) (pg_sub (pv 0) pe_int set_list))
  (pss_one (ps_if (pt_cmpR op_ge (pv 2) (pe_op op_pow pe_int pe_int) (nomark _)) (pss_one (ps_asg (pv 2) (pg_sub (pv 0) pe_int set_list)))
  (pss_one (ps_asg (pe_op op_mod (pe_callTy call_int1 (by rfl) B.intT (by decide +kernel) (pa_cons (pe_op op_add (pe_op op_add (pe_op op_mul (pe_ix ix_list (pv 0) pe_int (fun _ _ => rfl)) pe_int) (pe_op op_mul (pv 2) pe_int)) (pe_ix ix_list (pv 0) pe_int (fun _ _ => rfl))) pa_nil)) pe_int) (pg_sub (pv 0) pe_int set_list)))))))
  pss_nil)
  (pss_cons (ps_if (pt_cmpR op_gt (pe_ix ix_list (pv 0) pe_int (fun _ _ => rfl)) pe_int (nomark _)) (pss_cons (ps_set (i := 3) scLawDraw.nd rfl (Or.inl rfl) (pe_op op_mod (pe_callTy call_int1 (by rfl) B.intT (by decide +kernel) (pa_cons (pe_ix ix_list (pv 0) pe_int (fun _ _ => rfl)) pa_nil)) (pv 1)))
  (pss_cons (ps_asg (pe_op op_fdivW (pe_ix ix_list (pv 0) pe_int (fun _ _ => rfl)) (pv 1)) (pg_sub (pv 0) pe_int set_list))
  (pss_one (ps_ret (pv 3)))))
  pss_nil)
  (pss_cons (ps_asg (pe_op op_add (pe_ix ix_list (pv 0) pe_int (fun _ _ => rfl)) pe_int) (pg_sub (pv 0) pe_int set_list))
  (pss_cons (ps_asg (pe_op op_mod (pe_callTy call_int1 (by rfl) B.intT (by decide +kernel) (pa_cons (pe_op op_add (pe_op op_add (pe_op op_mul (pe_ix ix_list (pv 0) pe_int (fun _ _ => rfl)) pe_int) (pe_op op_mul (pe_ix ix_list (pv 0) pe_int (fun _ _ => rfl)) pe_int)) pe_int) pa_nil)) pe_int) (pg_sub (pv 0) pe_int set_list))
  (pss_one (ps_ret (pe_op op_mod (pe_op op_fdiv (pe_op op_mod (pe_callTy call_int1 (by rfl) B.intT (by decide +kernel) (pa_cons (pe_op op_add (pe_op op_mul (pe_ix ix_list (pv 0) pe_int (fun _ _ => rfl)) pe_int) pe_int) pa_nil)) pe_int) pe_int) (pv 1)))))))), ?_⟩
    refine ⟨fun σ H1 => ∃ (x : Option V) (c1 : Nat) (c2 c3 c4 : Int), σ = [some (.ref a), some (.int z), x, none] ∧ H1 a = some (.lst [.ref b, .int c1, .int c2, .int c3, .int c4]) ∧ H1 b = some (.lst (cs.map V.int)) ∧ But a H H1, ?_, ?_⟩
    · refine ⟨_, rfl, a, _, _, _, rfl, rfl, SqL.of ha, rfl, rfl, _, rfl, iti (fun e2 => ?_) (fun _ => ?_)⟩
      · refine ⟨_, rfl, a, _, _, _, rfl, rfl, SqL.of ha, rfl, _, rfl, a, _, _, _, rfl, rfl, SqL.of ha, rfl, b, _, rfl, .inl (SqL.of hb), _, _, rfl, rfl, _, rfl, itd (fun e1 => ?_) (fun _ => ?_)⟩
        · have hc : c1 < (cs.map V.int).length := by omega
          obtain ⟨v, hv⟩ : ∃ v : Int, (cs.map V.int)[c1]? = some (V.int v) := by
            rw [List.length_map] at hc
            exact ⟨cs[c1], by rw [List.getElem?_map, List.getElem?_eq_getElem hc]; rfl⟩
          refine ⟨_, rfl, a, _, _, _, rfl, rfl, SqL.of ha, rfl, _, rfl, a, _, _, _, rfl, rfl, SqL.of ha, rfl, b, _, _, _, rfl, rfl, SqL.of hb, atI_nat hv, ?_⟩
          refine ⟨_, rfl, a, _, _, _, rfl, rfl, SqL.of ha, rfl, _, _, rfl, rfl, _, rfl, a, _, _, 1, rfl, rfl, ha, rfl, ?_⟩
          have ha1 : upd H a (.lst [.ref b, .int ((c1 : Int) + 1), .int c2, .int c3, .int c4]) a = some (.lst [.ref b, .int ((c1 + 1 : Nat) : Int), .int c2, .int c3, .int c4]) := by
            rw [upd_same]; rfl
          refine ⟨_, rfl, _, _, rfl, rfl, ⟨by decide, by decide, by decide⟩, _, _, rfl, rfl, _, rfl, itd (fun _ => ?_) (fun _ => ?_)⟩
          · refine ⟨_, rfl, _, rfl, a, _, _, 2, rfl, rfl, ha1, rfl, ?_⟩
            exact ⟨_, c1 + 1, _, _, _, rfl, upd_same, by rw [upd_ne nb, upd_ne nb]; exact hb, But.upd.trans But.upd⟩
          · refine ⟨_, rfl, a, _, _, _, rfl, rfl, SqL.of ha1, rfl, _, _, rfl, rfl, .inr ⟨by decide, by decide⟩, ?_⟩
            refine ⟨_, rfl, _, _, rfl, rfl, .inr ⟨by decide, by decide⟩, ?_⟩
            refine ⟨_, _, rfl, rfl, _, rfl, a, _, _, _, rfl, rfl, SqL.of ha1, rfl, _, _, rfl, rfl, .inl ⟨_, rfl, _, _, rfl, rfl, (by show (0 : Int) < 2147483647; decide), ?_⟩⟩
            refine ⟨_, rfl, a, _, _, 3, rfl, rfl, ha1, rfl, ?_⟩
            exact ⟨_, c1 + 1, _, _, _, rfl, upd_same, by rw [upd_ne nb, upd_ne nb]; exact hb, But.upd.trans But.upd⟩
        · exact ⟨_, _, _, _, _, rfl, ha, hb, But.refl _ _⟩
      · exact iteF ⟨_, _, _, _, _, rfl, ha, hb, But.refl _ _⟩
    · rintro σ H1 ⟨x, c1, c2, c3, c4, rfl, ha, hb, hB⟩
      refine ⟨_, rfl, a, _, _, _, rfl, rfl, SqL.of ha, rfl, _, _, rfl, rfl, _, rfl, itd (fun e2 => ?_) (fun _ => ?_)⟩
      · refine ⟨_, rfl, a, _, _, _, rfl, rfl, SqL.of ha, rfl, .inl ⟨_, rfl, _, rfl, _, _, rfl, rfl, (by show (0 : Int) < z; omega), ?_⟩⟩
        refine ⟨_, rfl, a, _, _, _, rfl, rfl, SqL.of ha, rfl, _, rfl, _, _, rfl, rfl, divB (by omega) z2, ?_⟩
        refine ⟨_, rfl, a, _, _, 2, rfl, rfl, ha, rfl, ?_⟩
        refine ⟨_, rfl, k _ _ (Int.emod_nonneg _ (by omega)) (Int.emod_lt_of_pos _ (by omega)) ⟨cs, c1, _, c3, c4, nb, upd_same, by rw [upd_ne nb]; exact hb⟩ (hB.trans But.upd)⟩
      · refine ⟨_, rfl, a, _, _, _, rfl, rfl, SqL.of ha, rfl, _, _, rfl, rfl, _, rfl, a, _, _, 4, rfl, rfl, ha, rfl, ?_⟩
        have ha1 : upd H1 a (.lst [.ref b, .int c1, .int c2, .int c3, .int (c4 + 1)]) a = some (.lst [.ref b, .int c1, .int c2, .int c3, .int (c4 + 1)]) := upd_same
        refine ⟨_, rfl, a, _, _, _, rfl, rfl, SqL.of ha1, rfl, _, _, rfl, rfl, .inr ⟨by decide, by decide⟩, ?_⟩
        refine ⟨_, rfl, a, _, _, _, rfl, rfl, SqL.of ha1, rfl, _, _, rfl, rfl, .inr ⟨by decide, by decide⟩, ?_⟩
        refine ⟨_, _, rfl, rfl, _, _, rfl, rfl, .inl ⟨_, rfl, _, _, rfl, rfl, (by show (0 : Int) < 2147483647; decide), ?_⟩⟩
        refine ⟨_, rfl, a, _, _, 3, rfl, rfl, ha1, rfl, ?_⟩
        have ha2 : ∀ y : Int, upd (upd H1 a (.lst [.ref b, .int c1, .int c2, .int c3, .int (c4 + 1)])) a (.lst [.ref b, .int c1, .int c2, .int y, .int (c4 + 1)]) a = some (.lst [.ref b, .int c1, .int c2, .int y, .int (c4 + 1)]) := fun y => upd_same
        refine ⟨_, rfl, a, _, _, _, rfl, rfl, SqL.of (ha2 _), rfl, _, _, rfl, rfl, .inr ⟨by decide, by decide⟩, ?_⟩
        refine ⟨_, _, rfl, rfl, .inl ⟨_, rfl, _, _, rfl, rfl, (by show (0 : Int) < 1000000007; decide), ?_⟩⟩
        refine ⟨_, _, rfl, rfl, ⟨by decide, by decide⟩, _, rfl, _, _, rfl, rfl, (by show (0 : Int) < z; omega), ?_⟩
        exact k _ _ (Int.emod_nonneg _ (by omega)) (Int.emod_lt_of_pos _ (by omega)) ⟨cs, c1, _, _, _, nb, ha2 _, by rw [upd_ne nb, upd_ne nb]; exact hb⟩ (hB.trans (But.upd.trans But.upd))
end
end Cl

/-! ### law k34: can_empty, the plain walk -/
namespace Cl
open PySem L2
def up (t p : Int) : Int := (t + p - 1) / p
theorem up_eq {t p : Int} (h : 0 < p) : up t p = (t - 1) / p + 1 := by
  unfold up
  rw [show t + p - 1 = (t - 1) + 1 * p by omega, Int.add_mul_ediv_right _ _ (by omega)]
theorem up_pos {t p : Int} (h : 0 < p) (ht : 0 < t) : 1 ≤ up t p := by
  rw [up_eq h]
  have := Int.ediv_nonneg (show 0 ≤ t - 1 by omega) (show 0 ≤ p by omega)
  omega
theorem up_one {t p : Int} (ht : 0 < t) (h : t ≤ p) : up t p = 1 := by
  rw [up_eq (by omega), Int.ediv_eq_zero_of_lt (by omega) (by omega)]; rfl
theorem up_step {t p : Int} (h : 0 < p) : up t p = up (t - p) p + 1 := by
  rw [up_eq h, up_eq h, show t - 1 = (t - p - 1) + 1 * p by omega, Int.add_mul_ediv_right _ _ (by omega)]
def canE (a f b s : Int) : Bool := if f = 0 then true else if b = 0 then false else decide (a + f + up f b - 1 ≤ s)
def bad4 (a f b s : Int) : Option Str := if a < 0 then some "written" else if f < 0 then some "fewest" else if b < 0 then some "budget" else if s < 1 then some "size" else none
section
variable {P : Program} {w : World} {K : PySem.W.Frag} {mg : Str → Option Value} {base : Heap} {C_StoreError C_InvalidInput C_KeyLimit C_BadChoice C_Stalled : Addr}
def spUp : Sp := fun vs H Q _ => ∃ (t p : Int), vs = [.int t, .int p] ∧ 0 < p ∧ p ≤ 100000000000000000000000000000000000000000000000000000000000000 ∧ Q (.int (up t p)) H
theorem scDividedUp : FnScope ["total", "parts"] ["total", "parts"] (defScope sDividedUp) := ⟨rfl, rfl, rfl, by decide +kernel, rfl, by decide +kernel, by decide +kernel⟩
theorem ok_divided_up {f : Addr} {fd : FuncData} (F : Fun K "divided_up" "divided_up" sDividedUp f fd) : FnOk P w K mg base CX0 1 f fd ["total", "parts"] spUp := by
  refine F.ok scDividedUp (fun vs H Q E h => ?_) (fun cdv A outer s H vs Q E hr h => ?_)
  · obtain ⟨t, p, rfl, _⟩ := h
    rfl
  · obtain ⟨t, p, rfl, p1, p2, k⟩ := h
    refine ⟨_, (pss_one (ps_ret (pe_op op_fdivW (pe_op op_sub (pe_op op_add (pv 0) (pv 1)) pe_int) (pv 1)))), ?_⟩
    walk_at "rd"
    exact ⟨divB (by omega) (by omega), k⟩
def spCan (C : Addr) : Sp := fun vs H Q E => ∃ (a f b s : Int), vs = [.int a, .int f, .int b, .int s] ∧ b ≤ 100000000000000000000000000000000000000000000000000000000000000 ∧ (bad4 a f b s = none → Q (.bl (canE a f b s)) H) ∧ (∀ x, bad4 a f b s = some x → Out C "field" (.str x) H E)
theorem scCanEmpty : FnScope ["written", "fewest", "budget", "size"] ["written", "fewest", "budget", "size"] (defScope sCanEmpty) := ⟨rfl, rfl, rfl, by decide +kernel, rfl, by decide +kernel, by decide +kernel⟩
theorem ok_can_empty {f : Addr} {fd : FuncData} (F : Fun K "can_empty" "can_empty" sCanEmpty f fd) (D_check_least : Dx P w K mg base "check_least" 3 ["value", "least", "field"] (spChk C_InvalidInput)) (D_divided_up : Dn P w K mg base "divided_up" 1 ["total", "parts"] spUp) :
    FnOk P w K mg base (L2.CX P w) 4 f fd ["written", "fewest", "budget", "size"] (spCan C_InvalidInput) := by
  refine F.okX scCanEmpty (fun vs H Q E h => ?_) (fun cdv A outer s H vs Q E hr h => ?_)
  · obtain ⟨a, f, b, s, rfl, _⟩ := h
    rfl
  · obtain ⟨a, f, b, s, rfl, hb, k1, k2⟩ := h
    refine ⟨_, (pss_cons (ps_expr (pe_dx D_check_least (hr.mono (by decide)) (by rfl) (passes_call (takes_of rfl rfl rfl rfl) (fun _ _ _ _ h => h)) (pa_cons (pv 0) (pa_cons pe_int (pa_cons pe_str pa_nil)))))
  (pss_cons (ps_expr (pe_dx D_check_least (hr.mono (by decide)) (by rfl) (passes_call (takes_of rfl rfl rfl rfl) (fun _ _ _ _ h => h)) (pa_cons (pv 1) (pa_cons pe_int (pa_cons pe_str pa_nil)))))
  (pss_cons (ps_expr (pe_dx D_check_least (hr.mono (by decide)) (by rfl) (passes_call (takes_of rfl rfl rfl rfl) (fun _ _ _ _ h => h)) (pa_cons (pv 2) (pa_cons pe_int (pa_cons pe_str pa_nil)))))
  (pss_cons (ps_expr (pe_dx D_check_least (hr.mono (by decide)) (by rfl) (passes_call (takes_of rfl rfl rfl rfl) (fun _ _ _ _ h => h)) (pa_cons (pv 3) (pa_cons pe_int (pa_cons pe_str pa_nil)))))
  (pss_cons (ps_if (pt_cmpR op_eq (pv 1) pe_int (nomark _)) (pss_one (ps_ret pe_bl))
  pss_nil)
  (pss_cons (ps_if (pt_cmpR op_eq (pv 2) pe_int (nomark _)) (pss_one (ps_ret pe_bl))
  pss_nil)
  (pss_one (ps_ret (pe_cmpR op_le (pe_op op_sub (pe_op op_add (pe_op op_add (pv 0) (pv 1)) (pe_dn D_divided_up (hr.mono (by decide)) (by rfl) pass0 (pa_cons (pv 1) (pa_cons (pv 2) pa_nil)))) pe_int) (pv 3) (nomark _)))))))))), ?_⟩
    unfold bad4 at k1 k2
    refine ⟨_, rfl, a, 0, _, rfl, by decide, fun h1 => ?_, fun h1 => ?_⟩
    rotate_left
    · rw [if_pos h1] at k2
      exact k2 _ rfl
    rw [if_neg (by omega)] at k1 k2
    refine ⟨_, rfl, f, 0, _, rfl, by decide, fun h2 => ?_, fun h2 => ?_⟩
    rotate_left
    · rw [if_pos h2] at k2
      exact k2 _ rfl
    rw [if_neg (by omega)] at k1 k2
    refine ⟨_, rfl, b, 0, _, rfl, by decide, fun h3 => ?_, fun h3 => ?_⟩
    rotate_left
    · rw [if_pos h3] at k2
      exact k2 _ rfl
    rw [if_neg (by omega)] at k1 k2
    refine ⟨_, rfl, s, 1, _, rfl, by decide, fun h4 => ?_, fun h4 => ?_⟩
    rotate_left
    · rw [if_pos h4] at k2
      exact k2 _ rfl
    rw [if_neg (by omega)] at k1
    have k := k1 rfl
    unfold canE at k
    walk_at "rd"
    refine iti (fun e => ?_) (fun e => ?_)
    · rw [if_pos e] at k
      exact k
    rw [if_neg e] at k
    walk_at "rd"
    refine iti (fun e2 => ?_) (fun e2 => ?_)
    · rw [if_pos e2] at k
      exact k
    rw [if_neg e2] at k
    walk_at "rd"
    refine ⟨by omega, hb, ?_⟩
    walk_at "rd"
    exact k
def spSays : Sp := fun vs H Q _ => ∃ (p : Addr) (a f b s : Int) (due : Bool), vs = [.ref p, .bl due] ∧ H p = some (.lst [.int a, .int f, .int b, .int s]) ∧ 0 ≤ a ∧ 0 ≤ f ∧ 0 ≤ b ∧ 1 ≤ s ∧ b ≤ 100000000000000000000000000000000000000000000000000000000000000 ∧ due = canE a f b s ∧ Q (.bl true) H
theorem scLawSays : FnScope ["numbers", "due", "told"] ["numbers", "due"] (defScope sLawSays) := ⟨rfl, rfl, rfl, by decide +kernel, rfl, by decide +kernel, by decide +kernel⟩
theorem ok__law_says {f : Addr} {fd : FuncData} (F : Fun K "_law_says" "_law_says" sLawSays f fd) (B : Bi mg) (D_can_empty : Dx P w K mg base "can_empty" 4 ["written", "fewest", "budget", "size"] (spCan C_InvalidInput)) :
    FnOk P w K mg base CX0 5 f fd ["numbers", "due"] spSays := by
  refine F.ok scLawSays (fun vs H Q E h => ?_) (fun cdv A outer s H vs Q E hr h => ?_)
  · obtain ⟨p, a, f, b, s, due, rfl, _⟩ := h
    rfl
  · obtain ⟨p, a, f, b, s, due, rfl, hp, a0, f0, b0, s1, bz, e, k⟩ := h
    refine ⟨_, (pss_cons (ps_set (i := 2) scLawSays.nd rfl (Or.inl rfl) (pe_dx D_can_empty (hr.mono (by decide)) (by rfl) passX0 (pa_cons (pe_ix ix_list (pv 0) pe_int (fun _ _ => rfl)) (pa_cons (pe_ix ix_list (pv 0) pe_int (fun _ _ => rfl)) (pa_cons (pe_ix ix_list (pv 0) pe_int (fun _ _ => rfl)) (pa_cons (pe_ix ix_list (pv 0) pe_int (fun _ _ => rfl)) pa_nil))))))
  (pss_one (ps_ret (pe_and (pe_callB call_isi (by rfl) B.isinstance (by decide +kernel) (pa_cons (pv 2) (pa_cons (pe_bltn (v := .ty "bool") (by rfl) B.boolT (by decide +kernel) rfl) pa_nil))) (pe_one (pe_cmpR op_eq (pv 2) (pv 1) (nomark _))))))), ?_⟩
    refine ⟨_, rfl, p, _, _, _, rfl, rfl, SqL.of hp, rfl, ?_⟩
    refine ⟨_, rfl, p, _, _, _, rfl, rfl, SqL.of hp, rfl, ?_⟩
    refine ⟨_, rfl, p, _, _, _, rfl, rfl, SqL.of hp, rfl, ?_⟩
    refine ⟨_, rfl, p, _, _, _, rfl, rfl, SqL.of hp, rfl, ?_⟩
    have nb : bad4 a f b s = none := by
      unfold bad4
      rw [if_neg (by omega), if_neg (by omega), if_neg (by omega), if_neg (by omega)]
    refine ⟨a, f, b, s, rfl, bz, fun _ => ?_, fun x hx => by rw [nb] at hx; cases hx⟩
    refine ⟨_, rfl, _, _, _, _, _, rfl, .ty _, .base (.bl _), kit_bb _, _, rfl, iteT ?_⟩
    subst e
    walk_at "rd"
    show Q (V.bl (decide (V.bl (canE a f b s) = V.bl (canE a f b s)))) H
    rw [decide_eq_true rfl]
    exact k
def spWalk : Sp := fun vs H Q _ => ∃ (a f b s : Int), vs = [.int a, .int f, .int b, .int s] ∧ 0 ≤ f ∧ f ≤ 1000 ∧ 0 ≤ b ∧ b ≤ 1000 ∧ Q (.bl (canE a f b s)) H
theorem scLawWalk : FnScope ["place", "left", "allowance", "width", "turn", "copy"] ["place", "left", "allowance", "width"] (defScope sLawWalk) := ⟨rfl, rfl, rfl, by decide +kernel, rfl, by decide +kernel, by decide +kernel⟩
theorem ok__law_walk {f : Addr} {fd : FuncData} (F : Fun K "_law_walk" "_law_walk" sLawWalk f fd) (B : Bi mg) : FnOk P w K mg base CX0 1 f fd ["place", "left", "allowance", "width"] spWalk := by
  refine F.ok scLawWalk (fun vs H Q E h => ?_) (fun cdv A outer s H vs Q E hr h => ?_)
  · obtain ⟨a, f, b, s, rfl, _⟩ := h
    rfl
  · obtain ⟨a, f, b, s, rfl, f0, f1, b0, b1, k⟩ := h
    refine ⟨_, (pss_cons (ps_if (pt_cmpR op_eq (pv 1) pe_int (nomark _)) (pss_one (ps_ret pe_bl))
  pss_nil)
  (pss_cons (ps_if (pt_cmpR op_eq (pv 2) pe_int (nomark _)) (pss_one (ps_ret pe_bl))
  pss_nil)
  (pss_cons (ps_for PassesOwn.never rfl (pi_range1 rfl B.range (pa_cons (pv 1) pa_nil)) (pg_name (i := 4) scLawWalk.nd rfl (Or.inl rfl))
  (pss_cons (ps_for PassesOwn.never rfl (pi_range1 rfl B.range (pa_cons (pe_callB (call_min2 rfl) (by rfl) B.min (by decide +kernel) (pa_cons (pv 2) (pa_cons (pv 1) pa_nil))) pa_nil)) (pg_name (i := 5) scLawWalk.nd rfl (Or.inl rfl))
  (pss_cons (ps_if (pt_cmpR op_ge (pv 0) (pv 3) (nomark _)) (pss_one (ps_ret pe_bl))
  pss_nil)
  (pss_cons (ps_set (i := 0) scLawWalk.nd rfl (Or.inl rfl) (pe_op op_add (pv 0) pe_int))
  (pss_one (ps_set (i := 1) scLawWalk.nd rfl (Or.inl rfl) (pe_op op_sub (pv 1) pe_int))))))
  (pss_cons (ps_if (pt_cmpR op_eq (pv 1) pe_int (nomark _)) (pss_one (ps_ret pe_bl))
  pss_nil)
  (pss_cons (ps_if (pt_cmpR op_ge (pv 0) (pv 3) (nomark _)) (pss_one (ps_ret pe_bl))
  pss_nil)
  (pss_one (ps_set (i := 0) scLawWalk.nd rfl (Or.inl rfl) (pe_op op_add (pv 0) pe_int)))))))
  (pss_one (ps_ret pe_bl))))), ?_⟩
    unfold canE at k
    walk_at "rd"
    refine iti (fun e => ?_) (fun e => ?_)
    · rw [if_pos e] at k
      exact k
    rw [if_neg e] at k
    walk_at "rd"
    refine iti (fun e2 => ?_) (fun e2 => ?_)
    · rw [if_pos e2] at k
      exact k
    rw [if_neg e2] at k
    walk_at "rd"
    refine ⟨by omega, by omega, ?_⟩
    refine for_range (fun i σ H' => ∃ (p l : Int) (x y : Option V), σ = [some (.int p), some (.int l), some (.int b), some (.int s), x, y] ∧ H' = H ∧ 0 < l ∧ l ≤ f - i ∧ p + l + up l b = a + f + up f b)
      ⟨a, f, _, _, rfl, rfl, by omega, by omega, rfl⟩ ?_ ?_
    · rintro i σ H1 hi ⟨p, l, x, y, rfl, rfl, l0, l1, q⟩
      have hup := up_pos (show 0 < b by omega) l0
      have hno : ∀ m : Int, m ≤ l → s < p + m → Q (V.bl false) H1 := fun m m1 m2 => by
        rw [decide_eq_false (by omega)] at k
        exact k
      refine ⟨_, rfl, _, rfl, b, l, rfl, ?_⟩
      have hm : ∃ m : Int, (if l < b then l else b) = m ∧ 0 < m ∧ m ≤ l ∧ m ≤ b ∧ (m = l ∨ m = b) := by
        by_cases c : l < b
        · exact ⟨l, if_pos c, l0, by omega, by omega, .inl rfl⟩
        · exact ⟨b, if_neg c, by omega, by omega, by omega, .inr rfl⟩
      obtain ⟨m, em, m0, m1, m2, m3⟩ := hm
      rw [em]
      refine ⟨m, rfl, by omega, by omega, ?_⟩
      refine for_range (fun c σ H' => ∃ (y : Option V), σ = [some (.int (p + c)), some (.int (l - c)), some (.int b), some (.int s), some (.int (0 + i)), y] ∧ H' = H1 ∧ (0 < c → p + c ≤ s))
        ⟨_, by rw [show p + ((0 : Nat) : Int) = p by omega, show l - ((0 : Nat) : Int) = l by omega]; rfl, rfl, fun z => by omega⟩ ?_ ?_
      · rintro c σ H2 hc ⟨y, rfl, rfl, hp⟩
        walk_at "rd"
        refine itd (fun e5 => ?_) (fun e5 => ?_)
        · exact hno (c + 1) (by omega) (by omega)
        · walk_at "rd"
          exact ⟨_, by rw [show p + ((c + 1 : Nat) : Int) = p + c + 1 by omega, show l - ((c + 1 : Nat) : Int) = l - c - 1 by omega]; rfl, rfl, fun _ => by omega⟩
      · rintro σ H2 ⟨y, rfl, rfl, hp⟩
        have hp2 := hp (by omega)
        have em2 : ((m.toNat : Nat) : Int) = m := by omega
        rw [em2] at hp2
        walk_at "rd"
        refine iti (fun e5 => ?_) (fun e5 => ?_)
        · have h1 := up_one l0 (show l ≤ b by omega)
          rw [decide_eq_true (by omega)] at k
          exact k
        · have hmb : m = b := by omega
          subst hmb
          have hs := up_step (t := l) (p := m) (by omega)
          walk_at "rd"
          refine itd (fun e6 => ?_) (fun e6 => ?_)
          · exact hno (m + 1) (by omega) (by omega)
          · walk_at "rd"
            rw [em2]
            exact ⟨by omega, by omega, by omega⟩
    · rintro σ H1 ⟨p, l, x, y, rfl, rfl, l0, l1, q⟩
      omega
end
end Cl

/-! ### law k34: small and edge -/
namespace Cl
open PySem L2
section
variable {P : Program} {w : World} {K : PySem.W.Frag} {mg : Str → Option Value} {base : Heap}
def spOne : Sp := fun vs H Q _ => ∃ (a b : Addr), vs = [.ref a] ∧ BoxAt H a b ∧ ∀ H' : Hp, BoxAt H' a b → Q (.bl true) H'
theorem scLawSmall : FnScope ["box", "width", "place", "left", "allowance"] ["box"] (defScope sLawSmall) := ⟨rfl, rfl, rfl, by decide +kernel, rfl, by decide +kernel, by decide +kernel⟩
theorem ok__law_small {f : Addr} {fd : FuncData} (F : Fun K "_law_small" "_law_small" sLawSmall f fd) (B : Bi mg) (D__law_draw : Dn P w K mg base "_law_draw" 1 ["box", "many"] spTakeB) (D__law_says : Dn P w K mg base "_law_says" 5 ["numbers", "due"] spSays) (D__law_walk : Dn P w K mg base "_law_walk" 1 ["place", "left", "allowance", "width"] spWalk) :
    FnOk P w K mg base CX0 6 f fd ["box"] spOne := by
  refine F.ok scLawSmall (fun vs H Q E h => ?_) (fun cdv A outer s H vs Q E hr h => ?_)
  · obtain ⟨a, b, rfl, _⟩ := h
    rfl
  · obtain ⟨a, b, rfl, hB, k⟩ := h
    refine ⟨_, (pss_cons (ps_set (i := 1) scLawSmall.nd rfl (Or.inl rfl) (pe_op op_add pe_int (pe_dn D__law_draw (hr.mono (by decide)) (by rfl) pass0 (pa_cons (pv 0) (pa_cons pe_int pa_nil)))))
  (C8.pss_cut (ps_if (pt_cmpR op_eq (pe_dn D__law_draw (hr.mono (by decide)) (by rfl) pass0 (pa_cons (pv 0) (pa_cons pe_int pa_nil))) pe_int (nomark _)) (pss_one (ps_set (i := 1) scLawSmall.nd rfl (Or.inl rfl) (pe_op op_add pe_int (pe_dn D__law_draw (hr.mono (by decide)) (by rfl) pass0 (pa_cons (pv 0) (pa_cons pe_int pa_nil))))))
  pss_nil)
  (pss_cons (ps_set (i := 2) scLawSmall.nd rfl (Or.inl rfl) (pe_dn D__law_draw (hr.mono (by decide)) (by rfl) pass0 (pa_cons (pv 0) (pa_cons (pe_op op_add (pv 1) pe_int) pa_nil))))
  (pss_cons (ps_set (i := 3) scLawSmall.nd rfl (Or.inl rfl) (pe_dn D__law_draw (hr.mono (by decide)) (by rfl) pass0 (pa_cons (pv 0) (pa_cons (pe_op op_add (pe_callB (call_max2 rfl) (by rfl) B.max (by decide +kernel) (pa_cons pe_int (pa_cons (pe_op op_sub (pe_op op_add (pv 1) pe_int) (pv 2)) pa_nil))) pe_int) pa_nil))))
  (pss_cons (ps_set (i := 4) scLawSmall.nd rfl (Or.inl rfl) (pe_dn D__law_draw (hr.mono (by decide)) (by rfl) pass0 (pa_cons (pv 0) (pa_cons pe_int pa_nil))))
  (pss_cons (ps_if (pt_not (pt_val (pe_dn D__law_says (hr.mono (by decide)) (by rfl) pass0 (pa_cons (pe_lst (pa_cons (pv 2) (pa_cons (pv 3) (pa_cons (pv 4) (pa_cons (pv 1) pa_nil))))) (pa_cons (pe_dn D__law_walk (hr.mono (by decide)) (by rfl) pass0 (pa_cons (pv 2) (pa_cons (pv 3) (pa_cons (pv 4) (pa_cons (pv 1) pa_nil))))) pa_nil))))) (pss_one (ps_ret pe_bl))
  pss_nil)
  (pss_cons (ps_if (pt_not (pt_val (pe_dn D__law_says (hr.mono (by decide)) (by rfl) pass0 (pa_cons (pe_lst (pa_cons (pv 2) (pa_cons pe_int (pa_cons (pv 4) (pa_cons (pv 1) pa_nil))))) (pa_cons pe_bl pa_nil))))) (pss_one (ps_ret pe_bl))
  pss_nil)
  (pss_one (ps_ret (pe_dn D__law_says (hr.mono (by decide)) (by rfl) pass0 (pa_cons (pe_lst (pa_cons (pv 2) (pa_cons (pe_op op_add (pv 3) pe_int) (pa_cons pe_int (pa_cons (pv 1) pa_nil))))) (pa_cons pe_bl pa_nil)))))))))))), ?_⟩
    walk_at "rd"
    refine ⟨a, b, _, rfl, hB, by decide, by decide, fun d1 H1 a1 a2 hB1 _ => ?_⟩
    walk_at "rd"
    refine ⟨fun σ H1 => ∃ wd : Int, σ = [some (.ref a), some (.int wd), none, none, none] ∧ 1 ≤ wd ∧ wd ≤ 70 ∧ BoxAt H1 a b, ?_, ?_⟩
    · walk_at "rd"
      refine ⟨a, b, _, rfl, hB1, by decide, by decide, fun d2 H2 b1 b2 hB2 _ => ?_⟩
      walk_at "rd"
      refine iti (fun e => ?_) (fun e => ?_)
      · walk_at "rd"
        refine ⟨a, b, _, rfl, hB2, by decide, by decide, fun d3 H3 c1 c2 hB3 _ => ?_⟩
        walk_at "rd"
        exact ⟨by omega, by omega, hB3⟩
      · exact ⟨_, rfl, by omega, by omega, hB2⟩
    · rintro σ H1 ⟨wd, rfl, w1, w2, hB1⟩
      walk_at "rd"
      refine ⟨a, b, _, rfl, hB1, by omega, by omega, fun pl H2 p1 p2 hB2 _ => ?_⟩
      walk_at "rd"
      refine ⟨a, b, _, rfl, hB2, ?_, ?_, fun lf H3 l1 l2 hB3 _ => ?_⟩
      · split <;> omega
      · split <;> omega
      have l3 : lf ≤ 100 := by
        revert l2; split <;> (intro _; omega)
      walk_at "rd"
      refine ⟨a, b, _, rfl, hB3, by decide, by decide, fun al H4 q1 q2 hB4 _ => ?_⟩
      walk_at "rd"
      refine ⟨by show 4 ≤ sizeLine; decide, fun q hq => ?_⟩
      obtain ⟨n1, n2⟩ := hB4.ne hq
      walk_at "rd"
      refine ⟨l1, by omega, q1, by omega, ?_⟩
      refine ⟨q, pl, lf, al, wd, _, rfl, upd_same, p1, l1, q1, w1, by omega, rfl, _, rfl, iteF ?_⟩
      have hB5 := hB4.put (o := .lst [.int pl, .int lf, .int al, .int wd]) n1 n2
      walk_at "rd"
      refine ⟨by show 4 ≤ sizeLine; decide, fun q2 hq2 => ?_⟩
      obtain ⟨n3, n4⟩ := hB5.ne hq2
      refine ⟨q2, pl, 0, al, wd, _, rfl, upd_same, p1, by decide, q1, w1, by omega, rfl, _, rfl, iteF ?_⟩
      have hB6 := hB5.put (o := .lst [.int pl, .int 0, .int al, .int wd]) n3 n4
      walk_at "rd"
      refine ⟨by show 4 ≤ sizeLine; decide, fun q3 hq3 => ?_⟩
      obtain ⟨n5, n6⟩ := hB6.ne hq3
      refine ⟨q3, pl, lf + 1, 0, wd, _, rfl, upd_same, p1, by omega, by decide, w1, by decide, ?_, k _ (hB6.put n5 n6)⟩
      unfold canE
      rw [if_neg (by omega), if_pos rfl]
theorem up_floor {t p : Int} (h : 0 < p) : up t p = if t / p * p < t then t / p + 1 else t / p := by
  rw [up_eq h]
  have h1 := Int.ediv_mul_le t (show p ≠ 0 by omega)
  have h2 := Int.lt_ediv_add_one_mul_self t h
  rw [Int.add_mul] at h2
  by_cases c : t / p * p < t
  · rw [if_pos c]
    have a1 : t / p ≤ (t - 1) / p := (Int.le_ediv_iff_mul_le h).mpr (by omega)
    have a2 : (t - 1) / p < t / p + 1 := (Int.ediv_lt_iff_lt_mul h).mpr (by rw [Int.add_mul]; omega)
    omega
  · rw [if_neg c]
    have a1 : t / p - 1 ≤ (t - 1) / p := (Int.le_ediv_iff_mul_le h).mpr (by rw [Int.sub_mul]; omega)
    have a2 : (t - 1) / p < t / p := (Int.ediv_lt_iff_lt_mul h).mpr (by omega)
    omega
theorem scLawEdge : FnScope ["box", "place", "left", "allowance", "batches", "need"] ["box"] (defScope sLawEdge) := ⟨rfl, rfl, rfl, by decide +kernel, rfl, by decide +kernel, by decide +kernel⟩
theorem ok__law_edge {f : Addr} {fd : FuncData} (F : Fun K "_law_edge" "_law_edge" sLawEdge f fd) (B : Bi mg) (D__law_draw : Dn P w K mg base "_law_draw" 1 ["box", "many"] spTakeB) (D__law_says : Dn P w K mg base "_law_says" 5 ["numbers", "due"] spSays) :
    FnOk P w K mg base CX0 6 f fd ["box"] spOne := by
  refine F.ok scLawEdge (fun vs H Q E h => ?_) (fun cdv A outer s H vs Q E hr h => ?_)
  · obtain ⟨a, b, rfl, _⟩ := h
    rfl
  · obtain ⟨a, b, rfl, hB, k⟩ := h
    refine ⟨_, (pss_cons (ps_set (i := 1) scLawEdge.nd rfl (Or.inl rfl) (pe_dn D__law_draw (hr.mono (by decide)) (by rfl) pass0 (pa_cons (pv 0) (pa_cons pe_int pa_nil))))
  (pss_cons (ps_set (i := 2) scLawEdge.nd rfl (Or.inl rfl) (pe_op op_add pe_int (pe_dn D__law_draw (hr.mono (by decide)) (by rfl) pass0 (pa_cons (pv 0) (pa_cons pe_int pa_nil)))))
  (C8.pss_cut (ps_if (pt_cmpR op_eq (pe_dn D__law_draw (hr.mono (by decide)) (by rfl) pass0 (pa_cons (pv 0) (pa_cons pe_int pa_nil))) pe_int (nomark _)) (pss_one (ps_set (i := 2) scLawEdge.nd rfl (Or.inl rfl) (pe_op op_add (pe_op op_mulW (pv 2) (pe_op op_add (pe_op op_pow pe_int pe_int) pe_int)) (pv 1))))
  pss_nil)
  (pss_cons (ps_set (i := 3) scLawEdge.nd rfl (Or.inl rfl) (pe_op op_add pe_int (pe_dn D__law_draw (hr.mono (by decide)) (by rfl) pass0 (pa_cons (pv 0) (pa_cons pe_int pa_nil)))))
  (C8.pss_cut (ps_if (pt_cmpR op_eq (pe_dn D__law_draw (hr.mono (by decide)) (by rfl) pass0 (pa_cons (pv 0) (pa_cons pe_int pa_nil))) pe_int (nomark _)) (pss_one (ps_set (i := 3) scLawEdge.nd rfl (Or.inl rfl) (pe_op op_add pe_int (pe_dn D__law_draw (hr.mono (by decide)) (by rfl) pass0 (pa_cons (pv 0) (pa_cons pe_int pa_nil))))))
  pss_nil)
  (pss_cons (ps_set (i := 4) scLawEdge.nd rfl (Or.inl rfl) (pe_op op_fdivW (pv 2) (pv 3)))
  (C8.pss_cut (ps_if (pt_cmpR op_lt (pe_op op_mulW (pv 4) (pv 3)) (pv 2) (nomark _)) (pss_one (ps_set (i := 4) scLawEdge.nd rfl (Or.inl rfl) (pe_op op_add (pv 4) pe_int)))
  pss_nil)
  (pss_cons (ps_set (i := 5) scLawEdge.nd rfl (Or.inl rfl) (pe_op op_sub (pe_op op_add (pe_op op_add (pv 1) (pv 2)) (pv 4)) pe_int))
  (pss_cons (ps_if (pt_not (pt_val (pe_dn D__law_says (hr.mono (by decide)) (by rfl) pass0 (pa_cons (pe_lst (pa_cons (pv 1) (pa_cons (pv 2) (pa_cons (pv 3) (pa_cons (pv 5) pa_nil))))) (pa_cons pe_bl pa_nil))))) (pss_one (ps_ret pe_bl))
  pss_nil)
  (pss_cons (ps_if (pt_not (pt_val (pe_dn D__law_says (hr.mono (by decide)) (by rfl) pass0 (pa_cons (pe_lst (pa_cons (pv 1) (pa_cons (pv 2) (pa_cons (pv 3) (pa_cons (pe_op op_add (pv 5) pe_int) pa_nil))))) (pa_cons pe_bl pa_nil))))) (pss_one (ps_ret pe_bl))
  pss_nil)
  (pss_cons (ps_if (PW.pt (pw_and (pt_cmpR op_gt (pv 5) pe_int (nomark _)) (pw_and1 (pt_not (pt_val (pe_dn D__law_says (hr.mono (by decide)) (by rfl) pass0 (pa_cons (pe_lst (pa_cons (pv 1) (pa_cons (pv 2) (pa_cons (pv 3) (pa_cons (pe_op op_sub (pv 5) pe_int) pa_nil))))) (pa_cons pe_bl pa_nil)))))))) (pss_one (ps_ret pe_bl))
  pss_nil)
  (pss_one (ps_ret (pe_dn D__law_says (hr.mono (by decide)) (by rfl) pass0 (pa_cons (pe_lst (pa_cons (pe_op op_add (pv 1) (pv 5)) (pa_cons pe_int (pa_cons pe_int (pa_cons (pv 5) pa_nil))))) (pa_cons pe_bl pa_nil)))))))))))))))), ?_⟩
    walk_at "rd"
    refine ⟨a, b, _, rfl, hB, by decide, by decide, fun pl H1 p1 p2 hB1 _ => ?_⟩
    walk_at "rd"
    refine ⟨a, b, _, rfl, hB1, by decide, by decide, fun l0 H2 l1 l2 hB2 _ => ?_⟩
    walk_at "rd"
    refine ⟨fun σ H1 => ∃ lf : Int, σ = [some (.ref a), some (.int pl), some (.int lf), none, none, none] ∧ 1 ≤ lf ∧ lf ≤ 1000000000000000000000000000000 ∧ BoxAt H1 a b, ?_, ?_⟩
    · walk_at "rd"
      refine ⟨a, b, _, rfl, hB2, by decide, by decide, fun d H3 _ _ hB3 _ => ?_⟩
      walk_at "rd"
      refine iti (fun e => ?_) (fun e => ?_)
      · walk_at "rd"
        have hc : (10 : Int) ^ Int.toNat 20 + 39 = 100000000000000000039 := by decide +kernel
        rw [hc]
        refine ⟨mulB (by omega) (by omega) (by omega) (by omega), ?_⟩
        walk_at "rd"
        exact ⟨by omega, by omega, hB3⟩
      · exact ⟨_, rfl, by omega, by omega, hB3⟩
    rintro σ H3 ⟨lf, rfl, f1, f2, hB3⟩
    walk_at "rd"
    refine ⟨a, b, _, rfl, hB3, by decide, by decide, fun a0 H4 a1 a2 hB4 _ => ?_⟩
    walk_at "rd"
    refine ⟨fun σ H1 => ∃ al : Int, σ = [some (.ref a), some (.int pl), some (.int lf), some (.int al), none, none] ∧ 1 ≤ al ∧ al ≤ 100000 ∧ BoxAt H1 a b, ?_, ?_⟩
    · walk_at "rd"
      refine ⟨a, b, _, rfl, hB4, by decide, by decide, fun d H5 _ _ hB5 _ => ?_⟩
      walk_at "rd"
      refine iti (fun e => ?_) (fun e => ?_)
      · walk_at "rd"
        refine ⟨a, b, _, rfl, hB5, by decide, by decide, fun d3 H6 c1 c2 hB6 _ => ?_⟩
        walk_at "rd"
        exact ⟨by omega, by omega, hB6⟩
      · exact ⟨_, rfl, by omega, by omega, hB5⟩
    rintro σ H5 ⟨al, rfl, c1, c2, hB5⟩
    have g1 : lf / al ≤ lf := Int.ediv_le_self _ (by omega)
    have g0 : 0 ≤ lf / al := Int.ediv_nonneg (by omega) (by omega)
    have gu := up_floor (t := lf) (p := al) (by omega)
    have gp := up_pos (t := lf) (p := al) (by omega) (by omega)
    walk_at "rd"
    refine ⟨divB (by omega) (by omega), ?_⟩
    walk_at "rd"
    refine ⟨fun σ H1 => σ = [some (.ref a), some (.int pl), some (.int lf), some (.int al), some (.int (up lf al)), none] ∧ BoxAt H1 a b, ?_, ?_⟩
    · walk_at "rd"
      refine ⟨mulB (by omega) (by omega) (by omega) (by omega), ?_⟩
      walk_at "rd"
      refine itd (fun e => ?_) (fun e => ?_)
      · walk_at "rd"
        refine ⟨?_, hB5⟩
        rw [gu, if_pos e]
        rfl
      · refine ⟨?_, hB5⟩
        rw [gu, if_neg e]
        rfl
    rintro σ H6 ⟨rfl, hB6⟩
    have hcan : ∀ z : Int, canE pl lf al z = decide (pl + lf + up lf al - 1 ≤ z) := fun z => by
      unfold canE
      rw [if_neg (by omega), if_neg (by omega)]
    walk_at "rd"
    refine ⟨by show 4 ≤ sizeLine; decide, fun q hq => ?_⟩
    obtain ⟨n1, n2⟩ := hB6.ne hq
    refine ⟨q, pl, lf, al, _, _, rfl, upd_same, p1, by omega, by omega, by omega, by omega, by rw [hcan, decide_eq_true (by omega)], _, rfl, iteF ?_⟩
    have hB7 := hB6.put (o := .lst [.int pl, .int lf, .int al, .int (pl + lf + up lf al - 1)]) n1 n2
    walk_at "rd"
    refine ⟨by show 4 ≤ sizeLine; decide, fun q2 hq2 => ?_⟩
    obtain ⟨n3, n4⟩ := hB7.ne hq2
    refine ⟨q2, pl, lf, al, _, _, rfl, upd_same, p1, by omega, by omega, by omega, by omega, by rw [hcan, decide_eq_true (by omega)], _, rfl, iteF ?_⟩
    have hB8 := hB7.put (o := .lst [.int pl, .int lf, .int al, .int (pl + lf + up lf al - 1 + 1)]) n3 n4
    walk_at "rd"
    refine itd (fun e => ?_) (fun e => ?_)
    · walk_at "rd"
      refine ⟨by show 4 ≤ sizeLine; decide, fun q3 hq3 => ?_⟩
      obtain ⟨n5, n6⟩ := hB8.ne hq3
      have e' : 1 < pl + lf + up lf al - 1 := e
      refine ⟨q3, pl, lf, al, _, _, rfl, upd_same, p1, by omega, by omega, by omega, by omega, by rw [hcan, decide_eq_false (by omega)], _, rfl, iteF ?_⟩
      have hB9 := hB8.put (o := .lst [.int pl, .int lf, .int al, .int (pl + lf + up lf al - 1 - 1)]) n5 n6
      walk_at "rd"
      refine ⟨by show 4 ≤ sizeLine; decide, fun q4 hq4 => ?_⟩
      obtain ⟨n7, n8⟩ := hB9.ne hq4
      refine ⟨q4, pl + (pl + lf + up lf al - 1), 0, 0, _, _, rfl, upd_same, by omega, by decide, by decide, by omega, by decide, rfl, k _ (hB9.put n7 n8)⟩
    · refine iteF ?_
      walk_at "rd"
      refine ⟨by show 4 ≤ sizeLine; decide, fun q4 hq4 => ?_⟩
      obtain ⟨n7, n8⟩ := hB8.ne hq4
      refine ⟨q4, pl + (pl + lf + up lf al - 1), 0, 0, _, _, rfl, upd_same, by omega, by decide, by decide, by omega, by decide, rfl, k _ (hB8.put n7 n8)⟩
end
end Cl

/-! ### law k34: the refusals -/
namespace Cl
open PySem L2
def fld (a f b s : Int) : Str × Str := match bad4 a f b s with
  | none => ("none", "")
  | some x => ("field", x)
section
variable {P : Program} {w : World} {K : PySem.W.Frag} {mg : Str → Option Value} {base : Heap} {C_StoreError C_InvalidInput C_KeyLimit C_BadChoice C_Stalled : Addr}
def spField : Sp := fun vs H Q _ => ∃ (p : Addr) (a f b s : Int), vs = [.ref p] ∧ H p = some (.lst [.int a, .int f, .int b, .int s]) ∧ b ≤ 100000000000000000000000000000000000000000000000000000000000000 ∧ ∀ (t : Addr) (H' : Hp), Same H H' → H t = none → H' t = some (.tup [.str (fld a f b s).1, .str (fld a f b s).2]) → Q (.ref t) H'
theorem scLawField : FnScope ["numbers", "raised"] ["numbers"] (defScope sLawField) := ⟨rfl, rfl, rfl, by decide +kernel, rfl, by decide +kernel, by decide +kernel⟩
theorem ok__law_field {f : Addr} {fd : FuncData} (F : Fun K "_law_field" "_law_field" sLawField f fd) (B : Bi mg) (D_can_empty : Dx P w K mg base "can_empty" 4 ["written", "fewest", "budget", "size"] (spCan C_InvalidInput)) (E_InvalidInput : ErrC P K mg "InvalidInput" C_InvalidInput "field" true)
    (S_StoreError : ClsN K mg "StoreError" C_StoreError) (E_KeyLimit : ClsN K mg "KeyLimit" C_KeyLimit) (E_BadChoice : ClsN K mg "BadChoice" C_BadChoice) (E_Stalled : ClsN K mg "Stalled" C_Stalled) (M_InvalidInput_StoreError : PySem.W.exmOne K (.ref C_InvalidInput) (.ref C_StoreError) = some true)
    (I_InvalidInput_KeyLimit : PySem.W.kitOne K (.ref C_InvalidInput) (.ref C_KeyLimit) = some false) (I_InvalidInput_BadChoice : PySem.W.kitOne K (.ref C_InvalidInput) (.ref C_BadChoice) = some false) (I_InvalidInput_Stalled : PySem.W.kitOne K (.ref C_InvalidInput) (.ref C_Stalled) = some false)
    (I_InvalidInput_ValueError : PySem.W.kitOne K (.ref C_InvalidInput) (.type "ValueError") = some true) : FnOk P w K mg base CX0 5 f fd ["numbers"] spField := by
  refine F.ok scLawField (fun vs H Q E h => ?_) (fun cdv A outer s H vs Q E hr h => ?_)
  · obtain ⟨p, a, f, b, s, rfl, _⟩ := h
    rfl
  · obtain ⟨p, a, f, b, s, rfl, hp, bz, k⟩ := h
    refine ⟨_, (pss_cons (ps_try_as (i := 1) rfl rfl scLawField.nd rfl rfl ⟨rfl, by decide, Or.inl S_StoreError.g⟩ takes0 (fun W pn xe tk _ => (pss_one (ps_expr (pe_dxT D_can_empty (hr.mono (by decide)) (by rfl) tk (pa_cons (pe_ix (ix_listK K) (pv 0) pe_int (fun _ _ => rfl)) (pa_cons (pe_ix (ix_listK K) (pv 0) pe_int (fun _ _ => rfl)) (pa_cons (pe_ix (ix_listK K) (pv 0) pe_int (fun _ _ => rfl)) (pa_cons (pe_ix (ix_listK K) (pv 0) pe_int (fun _ _ => rfl)) pa_nil))))))))
  (fun a_ oe_ cls_ d_ pn_ hz_ hf_ => (pss_cons (ps_if (PW.pt (pw_or (pt_val (pe_callB (call_isErr hz_ hf_) (by rfl) B.isinstance (by decide +kernel) (pa_cons (pv 1) (pa_cons (pe_glob (v := .ref C_KeyLimit) rfl E_KeyLimit.g rfl) pa_nil)))) (pw_or (pt_val (pe_callB (call_isErr hz_ hf_) (by rfl) B.isinstance (by decide +kernel) (pa_cons (pv 1) (pa_cons (pe_glob (v := .ref C_BadChoice) rfl E_BadChoice.g rfl) pa_nil)))) (pw_or1 (pt_val (pe_callB (call_isErr hz_ hf_) (by rfl) B.isinstance (by decide +kernel) (pa_cons (pv 1) (pa_cons (pe_glob (v := .ref C_Stalled) rfl E_Stalled.g rfl) pa_nil)))))))) (pss_one (ps_ret (pe_tup (pa_cons pe_str (pa_cons pe_str pa_nil)))))
  pss_nil)
  (pss_cons (ps_if (PW.pt (pw_or (pt_not (pt_val (pe_callB (call_isErr hz_ hf_) (by rfl) B.isinstance (by decide +kernel) (pa_cons (pv 1) (pa_cons (pe_glob (v := .ref C_InvalidInput) rfl E_InvalidInput.g rfl) pa_nil))))) (pw_or1 (pt_not (pt_val (pe_callB (call_isErr hz_ hf_) (by rfl) B.isinstance (by decide +kernel) (pa_cons (pv 1) (pa_cons (pe_bltn (v := .ty "ValueError") (by rfl) B.ValueErrorT (by decide +kernel) rfl) pa_nil)))))))) (pss_one (ps_ret (pe_tup (pa_cons pe_str (pa_cons pe_str pa_nil)))))
  pss_nil)
  (pss_one (ps_ret (pe_tup (pa_cons pe_str (pa_cons (pe_fldE hz_ hf_ (pv 1)) pa_nil)))))))))
  (pss_one (ps_ret (pe_tup (pa_cons pe_str (pa_cons pe_str pa_nil)))))), ?_⟩
    refine ⟨_, rfl, p, _, _, _, rfl, rfl, SqL.of hp, rfl, ?_⟩
    refine ⟨_, rfl, p, _, _, _, rfl, rfl, SqL.of hp, rfl, ?_⟩
    refine ⟨_, rfl, p, _, _, _, rfl, rfl, SqL.of hp, rfl, ?_⟩
    refine ⟨_, rfl, p, _, _, _, rfl, rfl, SqL.of hp, rfl, ?_⟩
    refine ⟨a, f, b, s, rfl, bz, fun hb => ?_, fun x hx d hd => ?_⟩
    · walk_at "rd"
      refine ⟨by show 2 ≤ sizeLine; decide, fun t ht => ?_⟩
      refine k t _ (Same.upd ht) ht ?_
      rw [upd_same]
      unfold fld
      rw [hb]
    · refine ⟨_, M_InvalidInput_StoreError, fun _ e he => ?_, fun z => nomatch z⟩
      have hdd : upd H d (.xd [("field", V.str x)]) d = some (.xd [("field", V.str x)]) := upd_same
      have er : Err (upd H d (.xd [("field", V.str x)])) C_InvalidInput "field" (.str x) (.ref C_InvalidInput) (some d) := ⟨rfl, d, rfl, hdd⟩
      walk_at "rd"
      refine ⟨.ref C_KeyLimit, .ref C_KeyLimit, false, _, C_InvalidInput, _, _, _, rfl, fun _ h => h, E_InvalidInput, er, I_InvalidInput_KeyLimit, _, rfl, iteF ?_⟩
      walk_at "rd"
      refine ⟨.ref C_BadChoice, .ref C_BadChoice, false, _, C_InvalidInput, _, _, _, rfl, fun _ h => h, E_InvalidInput, er, I_InvalidInput_BadChoice, _, rfl, iteF ?_⟩
      walk_at "rd"
      refine ⟨.ref C_Stalled, .ref C_Stalled, false, _, C_InvalidInput, _, _, _, rfl, fun _ h => h, E_InvalidInput, er, I_InvalidInput_Stalled, _, rfl, iteF ?_⟩
      walk_at "rd"
      refine ⟨.ref C_InvalidInput, .ref C_InvalidInput, true, _, C_InvalidInput, _, _, _, rfl, fun _ h => h, E_InvalidInput, er, kit_self, _, rfl, iteF ?_⟩
      walk_at "rd"
      refine ⟨.ty "ValueError", .type "ValueError", true, _, C_InvalidInput, _, _, _, rfl, fun _ h => h, E_InvalidInput, er, I_InvalidInput_ValueError, _, rfl, iteF ?_⟩
      walk_at "rd"
      refine ⟨_, C_InvalidInput, _, _, E_InvalidInput, er, by show 2 ≤ sizeLine; decide, fun t ht => ?_⟩
      have htn : H t = none := Classical.byContradiction fun h => by
        obtain ⟨o, ho⟩ := Option.ne_none_iff_exists'.mp h
        rw [Same.upd hd _ _ ho] at ht; cases ht
      refine k t _ (fun q o hq => by rw [upd_ne (ne_of_none hq htn)]; exact Same.upd hd _ _ hq) htn ?_
      rw [upd_same]
      unfold fld
      rw [hx]
theorem eqv_ss {x y z v : Str} : PyData.eqvAll [.str x, .str y] [.str z, .str v] = decide (x = z ∧ y = v) := by
  simp only [PyData.eqvAll, PyData.eqv]
  by_cases h1 : x = z <;> by_cases h2 : y = v <;> simp [h1, h2]
theorem shaped_ss {x y : Str} (hx : PyData.strOk x = true) (hy : PyData.strOk y = true) : SeqAt.shaped (.tuple [.str x, .str y]) = true := by
  show (PyData.canLayAll0 [.str x, .str y] && decide (PyData.depthAll [.str x, .str y] + 1 ≤ 64)) = true
  simp [PyData.canLayAll0, PyData.canLay0, PyData.depthAll, PyData.depth, hx, hy]
theorem eqd_ss {H : Hp} {a b : Addr} {x y z v : Str} {Q : VK} (ox : PyData.strOk x = true) (oy : PyData.strOk y = true) (oz : PyData.strOk z = true) (ov : PyData.strOk v = true) (ha : SqT K H a [.str x, .str y]) (hb : SqT K H b [.str z, .str v]) (q : Q (.bl (decide (x = z ∧ y = v))) H) : rEqD K (.ref a) (.ref b) H Q :=
  ⟨.tuple [.str x, .str y], .tuple [.str z, .str v], .tup ha (.cons (.str x) (.cons (.str y) .nil)), .tup hb (.cons (.str z) (.cons (.str v) .nil)), shaped_ss ox oy, shaped_ss oz ov, by
    show Q (.bl (PyData.eqvAll [.str x, .str y] [.str z, .str v])) H
    rw [eqv_ss]; exact q⟩
theorem ned_ss {H : Hp} {a b : Addr} {x y z v : Str} {Q : VK} (ox : PyData.strOk x = true) (oy : PyData.strOk y = true) (oz : PyData.strOk z = true) (ov : PyData.strOk v = true) (ha : SqT K H a [.str x, .str y]) (hb : SqT K H b [.str z, .str v]) (q : Q (.bl (!decide (x = z ∧ y = v))) H) : rNeD K (.ref a) (.ref b) H Q :=
  ⟨.tuple [.str x, .str y], .tuple [.str z, .str v], .tup ha (.cons (.str x) (.cons (.str y) .nil)), .tup hb (.cons (.str z) (.cons (.str v) .nil)), shaped_ss ox oy, shaped_ss oz ov, by
    show Q (.bl (!PyData.eqvAll [.str x, .str y] [.str z, .str v])) H
    rw [eqv_ss]; exact q⟩
def lowN (j : Nat) : Int := if j = 3 then 1 else 0
def nameN (j : Nat) : Str := match j with
  | 0 => "written"
  | 1 => "fewest"
  | 2 => "budget"
  | _ => "size"
/-- so many of the row are looked at: who is the first below its limit -/
def Due (n : Nat → Int) (i : Nat) (x y : Str) : Prop :=
  (∃ j, j < i ∧ x = "field" ∧ y = nameN j ∧ n j < lowN j ∧ ∀ j', j' < j → lowN j' ≤ n j') ∨ (x = "none" ∧ y = "" ∧ ∀ j', j' < i → lowN j' ≤ n j')
theorem name_ok (j : Nat) : PyData.strOk (nameN j) = true := by
  match j with
  | 0 => decide +kernel
  | 1 => decide +kernel
  | 2 => decide +kernel
  | _ + 3 => exact (by decide +kernel : PyData.strOk "size" = true)
theorem Due.ok {n : Nat → Int} {i : Nat} {x y : Str} (h : Due n i x y) : PyData.strOk x = true ∧ PyData.strOk y = true := by
  rcases h with ⟨j, hj, rfl, rfl, hb, hg⟩ | ⟨rfl, rfl, hg⟩
  · exact ⟨by decide +kernel, name_ok j⟩
  · exact ⟨by decide +kernel, by decide +kernel⟩
theorem low_at {i : Nat} (h : i < 4) : atI [V.int 0, V.int 0, V.int 0, V.int 1] (0 + (i : Int)) = some (.int (lowN i)) := by
  rcases (show i = 0 ∨ i = 1 ∨ i = 2 ∨ i = 3 by omega) with rfl | rfl | rfl | rfl <;> rfl
theorem name_at {i : Nat} (h : i < 4) : atI [V.str "written", V.str "fewest", V.str "budget", V.str "size"] (0 + (i : Int)) = some (.str (nameN i)) := by
  rcases (show i = 0 ∨ i = 1 ∨ i = 2 ∨ i = 3 by omega) with rfl | rfl | rfl | rfl <;> rfl
theorem ix_at {i : Nat} {n : Nat → Int} (h : i < 4) : ixN [V.int (n 0), V.int (n 1), V.int (n 2), V.int (n 3)].length (0 + (i : Int)) = some i := by
  rcases (show i = 0 ∨ i = 1 ∨ i = 2 ∨ i = 3 by omega) with rfl | rfl | rfl | rfl <;> rfl
/-- the row with z at i -/
def put (n : Nat → Int) (i : Nat) (z : Int) : Nat → Int := fun j => if j = i then z else n j
theorem put_is {n : Nat → Int} {i : Nat} {z : Int} : put n i z i = z := if_pos rfl
theorem put_ne {n : Nat → Int} {i j : Nat} {z : Int} (h : j ≠ i) : put n i z j = n j := if_neg h
theorem set_at {i : Nat} {n : Nat → Int} {z : Int} (h : i < 4) : ([V.int (n 0), V.int (n 1), V.int (n 2), V.int (n 3)].set i (.int z)) = [V.int (put n i z 0), V.int (put n i z 1), V.int (put n i z 2), V.int (put n i z 3)] := by
  rcases (show i = 0 ∨ i = 1 ∨ i = 2 ∨ i = 3 by omega) with rfl | rfl | rfl | rfl <;> rfl
theorem Due.next {n : Nat → Int} {i : Nat} {x y : Str} (h : Due n i x y) (g : lowN i ≤ n i) : Due n (i + 1) x y := by
  rcases h with ⟨j, hj, rfl, rfl, hb, hg⟩ | ⟨rfl, rfl, hg⟩
  · exact .inl ⟨j, by omega, rfl, rfl, hb, hg⟩
  · refine .inr ⟨rfl, rfl, fun j' hj' => ?_⟩
    by_cases e : j' = i
    · rw [e]; exact g
    · exact hg j' (by omega)
theorem Due.put {n : Nat → Int} {i : Nat} {x y : Str} {z : Int} (h : Due n i x y) (hz : z < lowN i) :
    (decide (x = "none" ∧ y = "") = false ∧ Due (Cl.put n i z) (i + 1) x y) ∨ (decide (x = "none" ∧ y = "") = true ∧ Due (Cl.put n i z) (i + 1) "field" (nameN i)) := by
  rcases h with ⟨j, hj, rfl, rfl, hb, hg⟩ | ⟨rfl, rfl, hg⟩
  · refine .inl ⟨decide_eq_false (fun q => absurd q.1 (by decide)), .inl ⟨j, by omega, rfl, rfl, by rw [put_ne (by omega)]; exact hb, fun j' hj' => by rw [put_ne (by omega)]; exact hg j' hj'⟩⟩
  · exact .inr ⟨decide_eq_true ⟨rfl, rfl⟩, .inl ⟨i, by omega, rfl, rfl, by rw [put_is]; exact hz, fun j' hj' => by rw [put_ne (by omega)]; exact hg j' hj'⟩⟩
theorem low_b (j : Nat) : 0 ≤ lowN j ∧ lowN j ≤ 1 := by
  unfold lowN; split <;> omega
theorem lst4 {l : List Int} (h : l.length = 4) : ∃ n : Nat → Int, l = [n 0, n 1, n 2, n 3] ∧ ∀ j, j < 4 → l[j]? = some (n j) := by
  match l, h with
  | [a0, a1, a2, a3], _ =>
    refine ⟨fun j => match j with | 0 => a0 | 1 => a1 | 2 => a2 | _ => a3, rfl, fun j hj => ?_⟩
    rcases (show j = 0 ∨ j = 1 ∨ j = 2 ∨ j = 3 by omega) with rfl | rfl | rfl | rfl <;> rfl
theorem Due.fld {n : Nat → Int} {x y : Str} (h : Due n 4 x y) : fld (n 0) (n 1) (n 2) (n 3) = (x, y) := by
  unfold Cl.fld bad4
  rcases h with ⟨j, hj, rfl, rfl, hb, hg⟩ | ⟨rfl, rfl, hg⟩
  · rcases (show j = 0 ∨ j = 1 ∨ j = 2 ∨ j = 3 by omega) with rfl | rfl | rfl | rfl
    · have b0 : n 0 < 0 := hb
      rw [if_pos b0]; rfl
    · have g0 : 0 ≤ n 0 := hg 0 (by omega)
      have b0 : n 1 < 0 := hb
      rw [if_neg (by omega), if_pos b0]; rfl
    · have g0 : 0 ≤ n 0 := hg 0 (by omega)
      have g1 : 0 ≤ n 1 := hg 1 (by omega)
      have b0 : n 2 < 0 := hb
      rw [if_neg (by omega), if_neg (by omega), if_pos b0]; rfl
    · have g0 : 0 ≤ n 0 := hg 0 (by omega)
      have g1 : 0 ≤ n 1 := hg 1 (by omega)
      have g2 : 0 ≤ n 2 := hg 2 (by omega)
      have b0 : n 3 < 1 := hb
      rw [if_neg (by omega), if_neg (by omega), if_neg (by omega), if_pos b0]; rfl
  · have g0 : 0 ≤ n 0 := hg 0 (by omega)
    have g1 : 0 ≤ n 1 := hg 1 (by omega)
    have g2 : 0 ≤ n 2 := hg 2 (by omega)
    have g3 : 1 ≤ n 3 := hg 3 (by omega)
    rw [if_neg (by omega), if_neg (by omega), if_neg (by omega), if_neg (by omega)]
theorem scLawLimits : FnScope ["box", "names", "lows", "k", "numbers", "due"] ["box"] (defScope sLawLimits) := ⟨rfl, rfl, rfl, by decide +kernel, rfl, by decide +kernel, by decide +kernel⟩
theorem ok__law_limits {f : Addr} {fd : FuncData} (F : Fun K "_law_limits" "_law_limits" sLawLimits f fd) (B : Bi mg) (D__law_draw : Dn P w K mg base "_law_draw" 1 ["box", "many"] spTakeB) (D__law_field : Dn P w K mg base "_law_field" 5 ["numbers"] spField) :
    FnOk P w K mg base CX0 6 f fd ["box"] spOne := by
  refine F.ok scLawLimits (fun vs H Q E h => ?_) (fun cdv A outer s H vs Q E hr h => ?_)
  · obtain ⟨a, b, rfl, _⟩ := h
    rfl
  · obtain ⟨a, b, rfl, hB, k⟩ := h
    refine ⟨_, (pss_cons (ps_set (i := 1) scLawLimits.nd rfl (Or.inl rfl) (pe_lst (pa_cons pe_str (pa_cons pe_str (pa_cons pe_str (pa_cons pe_str pa_nil))))))
  (pss_cons (ps_set (i := 2) scLawLimits.nd rfl (Or.inr rfl) (pe_lst (pa_cons pe_int (pa_cons pe_int (pa_cons pe_int (pa_cons pe_int pa_nil))))))
  (pss_cons (ps_setLc (i := 4) (own := [("k", 3)]) (g := gName 3) rfl scLawLimits.nd rfl rfl (sw_true rfl rfl rfl (by decide +kernel)) (pi_range1 rfl B.range (pa_cons pe_int pa_nil)) (blkOk_by (own := [("k", 3)]) (N := ["box", "names", "lows", "k", "numbers", "due"]) (sc := defScope sLawLimits) (by decide +kernel)) (fun _ _ _ _ _ => (pg_name (i := 3) scLawLimits.nd rfl (Or.inl rfl))) (fun _ _ _ _ _ => pts_nil) (fun _ _ _ _ _ => (pe_op op_add (pe_ix (ix_listK K) (pv 2) (pv 3) (fun _ _ => rfl)) (pe_op op_mulW (pe_dn D__law_draw (hr.mono (by decide)) (by rfl) pass0 (pa_cons (pv 0) (pa_cons pe_int pa_nil))) (pe_dn D__law_draw (hr.mono (by decide)) (by rfl) pass0 (pa_cons (pv 0) (pa_cons pe_int pa_nil)))))))
  (pss_cons (ps_if (pt_cmpR (op_neD hr.units) (pe_dn D__law_field (hr.mono (by decide)) (by rfl) pass0 (pa_cons (pv 4) pa_nil)) (pe_tup (pa_cons pe_str (pa_cons pe_str pa_nil))) (nomark _)) (pss_one (ps_ret pe_bl))
  pss_nil)
  (pss_cons (ps_set (i := 5) scLawLimits.nd rfl (Or.inl rfl) (pe_tup (pa_cons pe_str (pa_cons pe_str pa_nil))))
  (pss_cons (ps_for PassesOwn.never rfl (pi_range1 rfl B.range (pa_cons pe_int pa_nil)) (pg_name (i := 3) scLawLimits.nd rfl (Or.inl rfl))
  (pss_one (ps_if (pt_cmpR op_eq (pe_dn D__law_draw (hr.mono (by decide)) (by rfl) pass0 (pa_cons (pv 0) (pa_cons pe_int pa_nil))) pe_int (nomark _)) (pss_cons (ps_asg (pe_op op_sub (pe_op op_sub (pe_ix ix_list (pv 2) (pv 3) (fun _ _ => rfl)) pe_int) (pe_dn D__law_draw (hr.mono (by decide)) (by rfl) pass0 (pa_cons (pv 0) (pa_cons pe_int pa_nil)))) (pg_sub (pv 4) (pv 3) set_list))
  (pss_one (ps_if (pt_cmpR (op_eqD hr.units) (pv 5) (pe_tup (pa_cons pe_str (pa_cons pe_str pa_nil))) (nomark _)) (pss_one (ps_set (i := 5) scLawLimits.nd rfl (Or.inl rfl) (pe_tup (pa_cons pe_str (pa_cons (pe_ix ix_list (pv 1) (pv 3) (fun _ _ => rfl)) pa_nil)))))
  pss_nil)))
  pss_nil)))
  (pss_one (ps_ret (pe_cmpR (op_eqD hr.units) (pe_dn D__law_field (hr.mono (by decide)) (by rfl) pass0 (pa_cons (pv 4) pa_nil)) (pv 5) (nomark _)))))))))), ?_⟩
    refine ⟨by show 4 ≤ sizeLine; decide, fun p1 h1 => ?_⟩
    obtain ⟨n1, n2⟩ := hB.ne h1
    have hB1 := hB.put (o := .lst [.str "written", .str "fewest", .str "budget", .str "size"]) n1 n2
    refine ⟨by show 4 ≤ sizeLine; decide, fun p2 h2 => ?_⟩
    obtain ⟨n3, n4⟩ := hB1.ne h2
    have np : p1 ≠ p2 := ne_of_none upd_same h2
    have hB2 := hB1.put (o := .lst [.int 0, .int 0, .int 0, .int 1]) n3 n4
    walk_at "rd"
    refine ⟨by decide, by decide, fun D hD => ?_⟩
    obtain ⟨n5, n6⟩ := hB2.ne hD
    have nD2 : p2 ≠ D := ne_of_none upd_same hD
    have nD1 : p1 ≠ D := ne_of_none (by rw [upd_ne np]; exact upd_same) hD
    refine lc_range (lo := 0) (n := 4) (fun i H' => ∃ l : List Int, l.length = i ∧ (∀ j v, l[j]? = some v → lowN j ≤ v ∧ v ≤ 10) ∧ H' D = some (.lst (l.map V.int)) ∧ BoxAt H' a b ∧ H' p1 = some (.lst [.str "written", .str "fewest", .str "budget", .str "size"]) ∧ H' p2 = some (.lst [.int 0, .int 0, .int 0, .int 1]))
      ⟨[], rfl, fun j v z => by simp at z, upd_same, hB2.put n5 n6, by rw [upd_ne nD1, upd_ne np]; exact upd_same, by rw [upd_ne nD2]; exact upd_same⟩ ?_ ?_
    · rintro i H3 hi ⟨l, hl, hg, hL, hB3, e1, e2⟩
      refine ⟨rfl, ?_⟩
      refine ⟨_, rfl, _, rfl, p2, _, _, _, rfl, rfl, SqL.of e2, low_at hi, ?_⟩
      walk_at "rd"
      refine ⟨a, b, _, rfl, hB3, by decide, by decide, fun d1 H4 c1 c2 hB4 b4 => ?_⟩
      walk_at "rd"
      refine ⟨a, b, _, rfl, hB4, by decide, by decide, fun d2 H5 c3 c4 hB5 b5 => ?_⟩
      walk_at "rd"
      refine ⟨mulB (by omega) (by omega) (by omega) (by omega), ?_⟩
      have hm : 0 ≤ d1 * d2 ∧ d1 * d2 ≤ 8 := by
        rcases (show d2 = 0 ∨ d2 = 1 by omega) with rfl | rfl
        · rw [Int.mul_zero]; omega
        · rw [Int.mul_one]; omega
      have lb := low_b i
      walk_at "rd"
      refine ⟨_, b5 D _ n5 (b4 D _ n5 hL), ?_, l ++ [lowN i + d1 * d2], ?_, ?_, ?_, hB5.put n5 n6, ?_, ?_⟩
      · rw [List.length_map, hl]
        have : (10000 : Nat) ≤ sizeLine := by decide
        omega
      · rw [List.length_append, hl]; rfl
      · intro j v hv
        rw [List.getElem?_append] at hv
        split at hv
        · exact hg j v hv
        · rename_i hj
          have h0 : j - l.length = 0 := by
            have := (List.getElem?_eq_some_iff.mp hv).1
            simp at this
            omega
          rw [h0] at hv
          cases hv
          have : j = i := by omega
          subst this
          omega
      · rw [upd_same, List.map_append]; rfl
      · rw [upd_ne nD1]; exact b5 p1 _ n1 (b4 p1 _ n1 e1)
      · rw [upd_ne nD2]; exact b5 p2 _ n3 (b4 p2 _ n3 e2)
    · rintro H3 ⟨l, hl, hg, hL, hB3, e1, e2⟩
      obtain ⟨n, rfl, hn⟩ := lst4 hl
      have hdue0 : Due n 4 "none" "" := .inr ⟨rfl, rfl, fun j hj => (hg j _ (hn j hj)).1⟩
      have z2 := (hg 2 _ (hn 2 (by omega))).2
      refine ⟨_, rfl, D, n 0, n 1, n 2, n 3, rfl, hL, by omega, fun t H4 hS ht htt => ?_⟩
      rw [hdue0.fld] at htt
      refine ⟨by show 2 ≤ sizeLine; decide, fun u hu => ?_⟩
      refine ned_ss (x := "none") (y := "") (z := "none") (v := "") (by decide +kernel) (by decide +kernel) (by decide +kernel) (by decide +kernel) (SqT.of (Same.upd hu _ _ htt)) (SqT.of upd_same) ?_
      rw [decide_eq_true ⟨rfl, rfl⟩]
      refine ⟨_, rfl, iteF ?_⟩
      have hB4 := hB3.same hS
      obtain ⟨u1, u2⟩ := hB4.ne hu
      have hB5 := hB4.put (o := .tup [.str "none", .str ""]) u1 u2
      refine ⟨by show 2 ≤ sizeLine; decide, fun t0 ht0 => ?_⟩
      obtain ⟨v1, v2⟩ := hB5.ne ht0
      have S := (hS.trans (Same.upd (o := .tup [.str "none", .str ""]) hu)).trans (Same.upd (o := .tup [.str "none", .str ""]) ht0)
      have tD : t0 ≠ D := fun z => by
        have q := (hS.trans (Same.upd (o := .tup [.str "none", .str ""]) hu)) _ _ hL
        rw [← z, ht0] at q; cases q
      refine ⟨4, rfl, by decide, by decide, ?_⟩
      refine for_range (fun i σ H' => ∃ (n : Nat → Int) (x y : Str) (t : Addr) (kk : Option V), σ = [some (.ref a), some (.ref p1), some (.ref p2), kk, some (.ref D), some (.ref t)] ∧ t ≠ a ∧ t ≠ D ∧ BoxAt H' a b ∧ H' p1 = some (.lst [.str "written", .str "fewest", .str "budget", .str "size"]) ∧ H' p2 = some (.lst [.int 0, .int 0, .int 0, .int 1]) ∧
          H' D = some (.lst [.int (n 0), .int (n 1), .int (n 2), .int (n 3)]) ∧ H' t = some (.tup [.str x, .str y]) ∧ Due n i x y ∧ (∀ j, i ≤ j → j < 4 → lowN j ≤ n j) ∧ n 2 ≤ 10)
        ⟨n, "none", "", t0, _, rfl, v1, tD, hB5.put v1 v2, S _ _ e1, S _ _ e2, S _ _ hL, upd_same, .inr ⟨rfl, rfl, fun j hj => by omega⟩, fun j _ hj => (hg j _ (hn j hj)).1, by omega⟩ ?_ ?_
      · rintro i σ H7 hi ⟨m, x, y, t1, kk, rfl, ta, td, hB7, f1, f2, fD, ft, hd, hr2, hm2⟩
        have hi4 : i < 4 := hi
        refine ⟨_, rfl, a, b, _, rfl, hB7, by decide, by decide, fun d H8 c1 c2 hB8 b8 => ?_⟩
        walk_at "rd"
        have f1' := b8 _ _ n1 f1
        have f2' := b8 _ _ n3 f2
        have fD' := b8 _ _ n5 fD
        have ft' := b8 _ _ ta ft
        refine iti (fun e => ?_) (fun e => ?_)
        · refine ⟨_, rfl, _, rfl, p2, _, _, _, rfl, rfl, SqL.of f2', low_at hi4, ?_⟩
          walk_at "rd"
          refine ⟨a, b, _, rfl, hB8, by decide, by decide, fun d2 H9 c3 c4 hB9 b9 => ?_⟩
          walk_at "rd"
          refine ⟨D, _, _, i, rfl, rfl, b9 _ _ n5 fD', ix_at hi4, ?_⟩
          rw [set_at hi4]
          have lb := low_b i
          have f1'' := b9 _ _ n1 f1'
          have ft'' := b9 _ _ ta ft'
          have f2'' := b9 _ _ n3 f2'
          have hB10 := hB9.put (o := .lst [.int (put m i (lowN i - 1 - d2) 0), .int (put m i (lowN i - 1 - d2) 1), .int (put m i (lowN i - 1 - d2) 2), .int (put m i (lowN i - 1 - d2) 3)]) n5 n6
          have hp2 : put m i (lowN i - 1 - d2) 2 ≤ 10 := by
            by_cases e : 2 = i
            · rw [← e, put_is]; unfold lowN; split <;> omega
            · rw [put_ne e]; exact hm2
          have hr3 : ∀ j, i + 1 ≤ j → j < 4 → lowN j ≤ put m i (lowN i - 1 - d2) j := fun j j1 j2 => by
            rw [put_ne (by omega)]; exact hr2 j (by omega) j2
          have hd2 := hd.put (z := lowN i - 1 - d2) (by omega)
          have ok := hd.ok
          walk_at "rd"
          refine ⟨by show 2 ≤ sizeLine; decide, fun u hu => ?_⟩
          obtain ⟨w1, w2⟩ := hB10.ne hu
          have hB11 := hB10.put (o := .tup [.str "none", .str ""]) w1 w2
          refine eqd_ss (x := x) (y := y) (z := "none") (v := "") ok.1 ok.2 (by decide +kernel) (by decide +kernel) (SqT.of (Same.upd hu _ _ (by rw [upd_ne td]; exact ft''))) (SqT.of upd_same) ?_
          have g1 := Same.upd (o := .tup [.str "none", .str ""]) hu _ _ (by rw [upd_ne nD1]; exact f1'')
          have g2 := Same.upd (o := .tup [.str "none", .str ""]) hu _ _ (by rw [upd_ne nD2]; exact f2'')
          have gD := Same.upd (o := .tup [.str "none", .str ""]) hu _ _ upd_same
          have gt := Same.upd (o := .tup [.str "none", .str ""]) hu _ _ (by rw [upd_ne td]; exact ft'')
          rcases hd2 with ⟨q1, q2⟩ | ⟨q1, q2⟩
          · rw [q1]
            refine ⟨_, rfl, iteF ?_⟩
            exact ⟨_, x, y, t1, _, rfl, ta, td, hB11, g1, g2, gD, gt, q2, hr3, hp2⟩
          · rw [q1]
            refine ⟨_, rfl, iteT ?_⟩
            refine ⟨_, rfl, _, rfl, p1, _, _, _, rfl, rfl, SqL.of g1, name_at hi4, by show 2 ≤ sizeLine; decide, fun t2 ht2 => ?_⟩
            obtain ⟨x1, x2⟩ := hB11.ne ht2
            have sm := Same.upd (o := .tup [.str "field", .str (nameN i)]) ht2
            exact ⟨_, "field", nameN i, t2, _, rfl, x1, fun z => (by rw [z, gD] at ht2; cases ht2), hB11.put x1 x2, sm _ _ g1, sm _ _ g2, sm _ _ gD, upd_same, q2, hr3, hp2⟩
        · exact ⟨m, x, y, t1, _, rfl, ta, td, hB8, f1', f2', fD', ft', hd.next (hr2 i (Nat.le_refl _) hi4), fun j j1 j2 => hr2 j (by omega) j2, hm2⟩
      · rintro σ H7 ⟨m, x, y, t1, kk, rfl, ta, td, hB7, f1, f2, fD, ft, hd, hr2, hm2⟩
        refine ⟨_, rfl, D, m 0, m 1, m 2, m 3, rfl, fD, by omega, fun t2 H8 hS8 ht2 htt2 => ?_⟩
        rw [hd.fld] at htt2
        have ok := hd.ok
        walk_at "rd"
        refine eqd_ss (x := x) (y := y) (z := x) (v := y) ok.1 ok.2 ok.1 ok.2 (SqT.of htt2) (SqT.of (hS8 _ _ ft)) ?_
        rw [decide_eq_true ⟨rfl, rfl⟩]
        exact k _ (hB7.same hS8)
def spLaw (K : PySem.W.Frag) : Sp := fun vs H Q _ => ∃ (a : Addr) (ns : List Int), vs = [.ref a] ∧ SqL K H a (ns.map V.int) ∧ ns.length ≤ 63 ∧ ∀ H', Q (.bl true) H'
theorem scLaw : FnScope ["script", "box", "turn"] ["script"] (defScope sLaw) := ⟨rfl, rfl, rfl, by decide +kernel, rfl, by decide +kernel, by decide +kernel⟩
theorem ok_law {f : Addr} {fd : FuncData} (F : Fun K "law" "law" sLaw f fd) (B : Bi mg) (D__law_box : Dn P w K mg base "_law_box" 1 ["script"] (spBox K)) (D__law_small : Dn P w K mg base "_law_small" 6 ["box"] spOne) (D__law_edge : Dn P w K mg base "_law_edge" 6 ["box"] spOne) (D__law_limits : Dn P w K mg base "_law_limits" 6 ["box"] spOne) :
    FnOk P w K mg base CX0 7 f fd ["script"] (spLaw K) := by
  refine F.ok scLaw (fun vs H Q E h => ?_) (fun cdv A outer s H vs Q E hr h => ?_)
  · obtain ⟨a, ns, rfl, _⟩ := h
    rfl
  · obtain ⟨a, ns, rfl, hS, hn, k⟩ := h
    refine ⟨_, (pss_cons (ps_set (i := 1) scLaw.nd rfl (Or.inl rfl) (pe_dn D__law_box (hr.mono (by decide)) (by rfl) pass0 (pa_cons (pv 0) pa_nil)))
  (pss_cons (ps_for PassesOwn.never rfl (pi_range1 rfl B.range (pa_cons pe_int pa_nil)) (pg_name (i := 2) scLaw.nd rfl (Or.inl rfl))
  (pss_one (ps_if (pt_not (pt_val (pe_dn D__law_small (hr.mono (by decide)) (by rfl) pass0 (pa_cons (pv 1) pa_nil)))) (pss_one (ps_ret pe_bl))
  pss_nil)))
  (pss_one (ps_ret (pe_and (pe_dn D__law_edge (hr.mono (by decide)) (by rfl) pass0 (pa_cons (pv 1) pa_nil)) (pe_one (pe_dn D__law_limits (hr.mono (by decide)) (by rfl) pass0 (pa_cons (pv 1) pa_nil)))))))), ?_⟩
    refine ⟨_, rfl, a, ns, rfl, hS, fun p b H1 hB => ?_⟩
    refine ⟨6, rfl, by decide, by decide, ?_⟩
    refine for_range (fun i σ H' => ∃ x : Option V, σ = [some (.ref a), some (.ref p), x] ∧ BoxAt H' p b) ⟨_, rfl, hB⟩ ?_ ?_
    · rintro i σ H2 hi ⟨x, rfl, hB2⟩
      refine ⟨_, rfl, p, b, rfl, hB2, fun H3 hB3 => ⟨_, rfl, iteF ⟨_, rfl, hB3⟩⟩⟩
    · rintro σ H2 ⟨x, rfl, hB2⟩
      refine ⟨_, rfl, p, b, rfl, hB2, fun H3 hB3 => ⟨_, rfl, iteT ?_⟩⟩
      refine ⟨_, rfl, p, b, rfl, hB3, fun H4 hB4 => k _⟩
end
end Cl

namespace Cl
theorem fo_field : PySem.OwnX.FlOk "field" := ⟨by intros; rfl, rfl, rfl, rfl, by decide, by decide, by decide, by intro v; rfl⟩
theorem so_InvalidInput : OwnSt sInvalidinputInit "field" true := ⟨_, _, _, _, _, _, _, _, _, _, _, _, rfl, rfl, rfl, rfl, .fmt _ _ _ _ _ _ _ _ _ (by decide) (by decide)⟩
set_option maxHeartbeats 0 in
theorem all_mk {l : PySem.W.OpenLaw} {w : World} {K : PySem.W.Frag} {h : Heap} {mg : Str → Option Value} {fa C_InvalidInput C_StoreError C_KeyLimit C_BadChoice C_Stalled : Addr} (X : K.In h) (G : h.Ns mainGlobals mg) (hfa : mg "law" = some (.ref fa))
    (e_InvalidInput : ErrAt l.prog K "InvalidInput" C_InvalidInput "field" true)
    (zsuper : PySem.W.nsIn K mainGlobals "super" = some none)
    (n_StoreError : NamAt K "StoreError" C_StoreError)
    (n_KeyLimit : NamAt K "KeyLimit" C_KeyLimit)
    (n_BadChoice : NamAt K "BadChoice" C_BadChoice)
    (n_Stalled : NamAt K "Stalled" C_Stalled)
    (mM_InvalidInput_StoreError : PySem.W.exmOne K (.ref C_InvalidInput) (.ref C_StoreError) = some true)
    (iI_InvalidInput_KeyLimit : PySem.W.kitOne K (.ref C_InvalidInput) (.ref C_KeyLimit) = some false)
    (iI_InvalidInput_BadChoice : PySem.W.kitOne K (.ref C_InvalidInput) (.ref C_BadChoice) = some false)
    (iI_InvalidInput_Stalled : PySem.W.kitOne K (.ref C_InvalidInput) (.ref C_Stalled) = some false)
    (iI_InvalidInput_ValueError : PySem.W.kitOne K (.ref C_InvalidInput) (.type "ValueError") = some true)
    (t_is_whole : AtTop K "is_whole" "is_whole" sIsWhole [])
    (t_check_least : AtTop K "check_least" "check_least" sCheckLeast [])
    (t__law_box : AtTop K "_law_box" "_law_box" sLawBox [])
    (t__law_draw : AtTop K "_law_draw" "_law_draw" sLawDraw [])
    (t_divided_up : AtTop K "divided_up" "divided_up" sDividedUp [])
    (t_can_empty : AtTop K "can_empty" "can_empty" sCanEmpty [])
    (t__law_says : AtTop K "_law_says" "_law_says" sLawSays [])
    (t__law_walk : AtTop K "_law_walk" "_law_walk" sLawWalk [])
    (t__law_small : AtTop K "_law_small" "_law_small" sLawSmall [])
    (t__law_edge : AtTop K "_law_edge" "_law_edge" sLawEdge [])
    (t__law_field : AtTop K "_law_field" "_law_field" sLawField [])
    (t__law_limits : AtTop K "_law_limits" "_law_limits" sLawLimits [])
    (t_law : AtTop K "law" "law" sLaw [])
    (z_len : PySem.W.nsIn K mainGlobals "len" = some none)
    (z_abs : PySem.W.nsIn K mainGlobals "abs" = some none)
    (z_max : PySem.W.nsIn K mainGlobals "max" = some none)
    (z_min : PySem.W.nsIn K mainGlobals "min" = some none)
    (z_sum : PySem.W.nsIn K mainGlobals "sum" = some none)
    (z_all : PySem.W.nsIn K mainGlobals "all" = some none)
    (z_any : PySem.W.nsIn K mainGlobals "any" = some none)
    (z_range : PySem.W.nsIn K mainGlobals "range" = some none)
    (z_isinstance : PySem.W.nsIn K mainGlobals "isinstance" = some none)
    (z_intT : PySem.W.nsIn K mainGlobals "int" = some none)
    (z_strT : PySem.W.nsIn K mainGlobals "str" = some none)
    (z_boolT : PySem.W.nsIn K mainGlobals "bool" = some none)
    (z_listT : PySem.W.nsIn K mainGlobals "list" = some none)
    (z_divmod : PySem.W.nsIn K mainGlobals "divmod" = some none)
    (z_tupleT : PySem.W.nsIn K mainGlobals "tuple" = some none)
    (z_reversed : PySem.W.nsIn K mainGlobals "reversed" = some none)
    (z_repr : PySem.W.nsIn K mainGlobals "repr" = some none)
    (z_enumerate : PySem.W.nsIn K mainGlobals "enumerate" = some none)
    (z_zip : PySem.W.nsIn K mainGlobals "zip" = some none)
    (z_ValueErrorT : PySem.W.nsIn K mainGlobals "ValueError" = some none)
    : ∃ fd : FuncData, (∀ (s : Shared) (v : Value), BindsTo s fd ⟨[v], []⟩ [("script", v)]) ∧ ∀ base : Heap, K.In base → base.Ns mainGlobals mg → FnOk l.prog w K mg base CX0 7 fa fd ["script"] (spLaw K) := by
  obtain ⟨f, fd, a, F, FD⟩ := t_law.ex
  have e := hfa.symm.trans (PySem.W.mg_of X G a)
  cases e
  have B : Bi mg := ⟨PySem.W.mg_none_of X G z_len, PySem.W.mg_none_of X G z_abs, PySem.W.mg_none_of X G z_max, PySem.W.mg_none_of X G z_min, PySem.W.mg_none_of X G z_sum, PySem.W.mg_none_of X G z_all, PySem.W.mg_none_of X G z_any, PySem.W.mg_none_of X G z_range, PySem.W.mg_none_of X G z_isinstance, PySem.W.mg_none_of X G z_intT, PySem.W.mg_none_of X G z_strT, PySem.W.mg_none_of X G z_boolT, PySem.W.mg_none_of X G z_listT, PySem.W.mg_none_of X G z_divmod, PySem.W.mg_none_of X G z_tupleT, PySem.W.mg_none_of X G z_reversed, PySem.W.mg_none_of X G z_repr, PySem.W.mg_none_of X G z_enumerate, PySem.W.mg_none_of X G z_zip, PySem.W.mg_none_of X G z_ValueErrorT⟩
  refine ⟨fd, fun s v => FD.bindsA (ps := ["script"]) (fun _ _ _ _ _ _ us hl => match us, hl with | [_], _ => rfl) s [v] rfl, fun base _ _ => ?_⟩
  have E_InvalidInput : ErrC l.prog K mg "InvalidInput" C_InvalidInput "field" true := e_InvalidInput.ec X G zsuper
  have S_StoreError : ClsN K mg "StoreError" C_StoreError := n_StoreError.cn X G
  have E_KeyLimit : ClsN K mg "KeyLimit" C_KeyLimit := n_KeyLimit.cn X G
  have E_BadChoice : ClsN K mg "BadChoice" C_BadChoice := n_BadChoice.cn X G
  have E_Stalled : ClsN K mg "Stalled" C_Stalled := n_Stalled.cn X G
  have M_InvalidInput_StoreError : PySem.W.exmOne K (.ref C_InvalidInput) (.ref C_StoreError) = some true := mM_InvalidInput_StoreError
  have I_InvalidInput_KeyLimit : PySem.W.kitOne K (.ref C_InvalidInput) (.ref C_KeyLimit) = some false := iI_InvalidInput_KeyLimit
  have I_InvalidInput_BadChoice : PySem.W.kitOne K (.ref C_InvalidInput) (.ref C_BadChoice) = some false := iI_InvalidInput_BadChoice
  have I_InvalidInput_Stalled : PySem.W.kitOne K (.ref C_InvalidInput) (.ref C_Stalled) = some false := iI_InvalidInput_Stalled
  have I_InvalidInput_ValueError : PySem.W.kitOne K (.ref C_InvalidInput) (.type "ValueError") = some true := iI_InvalidInput_ValueError
  have D_is_whole : Dn l.prog w K mg base "is_whole" 1 ["value"] spIsWhole := t_is_whole.dn X G (fun _ _ _ _ _ _ us hl => match us, hl with | [_], _ => rfl) (fun f fd F => ok_is_whole F B)
  have D_check_least : Dx l.prog w K mg base "check_least" 3 ["value", "least", "field"] (spChk C_InvalidInput) := t_check_least.dx X G (fun _ _ _ _ _ _ us hl => match us, hl with | [_, _, _], _ => rfl) (fun f fd F => ok_check_least F D_is_whole E_InvalidInput)
  have D__law_box : Dn l.prog w K mg base "_law_box" 1 ["script"] (spBox K) := t__law_box.dn X G (fun _ _ _ _ _ _ us hl => match us, hl with | [_], _ => rfl) (fun f fd F => ok__law_box F B)
  have D__law_draw : Dn l.prog w K mg base "_law_draw" 1 ["box", "many"] spTakeB := t__law_draw.dn X G (fun _ _ _ _ _ _ us hl => match us, hl with | [_, _], _ => rfl) (fun f fd F => ok__law_draw F B)
  have D_divided_up : Dn l.prog w K mg base "divided_up" 1 ["total", "parts"] spUp := t_divided_up.dn X G (fun _ _ _ _ _ _ us hl => match us, hl with | [_, _], _ => rfl) (fun f fd F => ok_divided_up F)
  have D_can_empty : Dx l.prog w K mg base "can_empty" 4 ["written", "fewest", "budget", "size"] (spCan C_InvalidInput) := t_can_empty.dx X G (fun _ _ _ _ _ _ us hl => match us, hl with | [_, _, _, _], _ => rfl) (fun f fd F => ok_can_empty F D_check_least D_divided_up)
  have D__law_says : Dn l.prog w K mg base "_law_says" 5 ["numbers", "due"] spSays := t__law_says.dn X G (fun _ _ _ _ _ _ us hl => match us, hl with | [_, _], _ => rfl) (fun f fd F => ok__law_says F B D_can_empty)
  have D__law_walk : Dn l.prog w K mg base "_law_walk" 1 ["place", "left", "allowance", "width"] spWalk := t__law_walk.dn X G (fun _ _ _ _ _ _ us hl => match us, hl with | [_, _, _, _], _ => rfl) (fun f fd F => ok__law_walk F B)
  have D__law_small : Dn l.prog w K mg base "_law_small" 6 ["box"] spOne := t__law_small.dn X G (fun _ _ _ _ _ _ us hl => match us, hl with | [_], _ => rfl) (fun f fd F => ok__law_small F B D__law_draw D__law_says D__law_walk)
  have D__law_edge : Dn l.prog w K mg base "_law_edge" 6 ["box"] spOne := t__law_edge.dn X G (fun _ _ _ _ _ _ us hl => match us, hl with | [_], _ => rfl) (fun f fd F => ok__law_edge F B D__law_draw D__law_says)
  have D__law_field : Dn l.prog w K mg base "_law_field" 5 ["numbers"] spField := t__law_field.dn X G (fun _ _ _ _ _ _ us hl => match us, hl with | [_], _ => rfl) (fun f fd F => ok__law_field F B D_can_empty E_InvalidInput S_StoreError E_KeyLimit E_BadChoice E_Stalled M_InvalidInput_StoreError I_InvalidInput_KeyLimit I_InvalidInput_BadChoice I_InvalidInput_Stalled I_InvalidInput_ValueError)
  have D__law_limits : Dn l.prog w K mg base "_law_limits" 6 ["box"] spOne := t__law_limits.dn X G (fun _ _ _ _ _ _ us hl => match us, hl with | [_], _ => rfl) (fun f fd F => ok__law_limits F B D__law_draw D__law_field)
  exact ok_law F B D__law_box D__law_small D__law_edge D__law_limits
theorem walk {l : PySem.W.OpenLaw} {q : Program} {loose : List Str} {XP : (Str → Option Value) → Heap → Prop} {YP : World → Heap → Prop} {d : DefRec} {K : Params → PySem.W.Frag} (hn : l.most = some 63) (hdf : d.params.defaults = [])
    (hY : ∀ (w : World) (h : Heap), YP w h → (K w.params).In h)
    (F : ∀ (w : World) (mg : Str → Option Value) (fa : Addr) (h : Heap), (K w.params).In h → h.Ns mainGlobals mg → mg d.name = some (.ref fa) →
      ∃ fd : FuncData, (∀ (s : Shared) (u : Value), BindsTo s fd ⟨[u], []⟩ [("script", u)]) ∧ ∀ base : Heap, (K w.params).In base → base.Ns mainGlobals mg → FnOk l.prog w (K w.params) mg base CX0 7 fa fd ["script"] (spLaw (K w.params))) :
    PySem.W.WalkO q loose XP YP l.row.toRowW d [] (fun f vs => PySem.call f vs) :=
  L2.walk_of (n := 63) (k := 7) (x := "script") (CX := fun _ => CX0) (sp := fun w => spLaw (K w.params)) hn (by decide) hdf ⟨rfl, by decide, by decide⟩ hY F (fun _ _ a ns hl _ hS => ⟨a, ns, rfl, hS, hl, fun _ => rfl⟩) fun _ _ _ _ _ z => z
end Cl
open PySem PySem.W PyProof.Rows
set_option maxRecDepth 100000 in
set_option maxHeartbeats 0 in
theorem PySem.Challenge.cw_carrylog_k34_can_empty_holds : PySem.Challenge.rw_carrylog_k34_can_empty.Holds := by
  w_on; o_law; k_head; (case hw => w_witness2)
  k_fill
  refine Cl.walk (l := PySem.Challenge.rw_carrylog_k34_can_empty) rfl rfl (fun w h Y => PySem.W.kIn_of Y) ?F
  case F =>
    intro w mg fa h KX G hmg
    refine' Cl.all_mk KX G hmg ?e_InvalidInput ?zsuper ?n_StoreError ?n_KeyLimit ?n_BadChoice ?n_Stalled ?mM_InvalidInput_StoreError ?iI_InvalidInput_KeyLimit ?iI_InvalidInput_BadChoice ?iI_InvalidInput_Stalled ?iI_InvalidInput_ValueError ?t_is_whole ?t_check_least ?t__law_box ?t__law_draw ?t_divided_up ?t_can_empty ?t__law_says ?t__law_walk ?t__law_small ?t__law_edge ?t__law_field ?t__law_limits ?t_law ?z_len ?z_abs ?z_max ?z_min ?z_sum ?z_all ?z_any ?z_range ?z_isinstance ?z_intT ?z_strT ?z_boolT ?z_listT ?z_divmod ?z_tupleT ?z_reversed ?z_repr ?z_enumerate ?z_zip ?z_ValueErrorT
    (case e_InvalidInput => (refine' Cl.errAt Cl.so_InvalidInput Cl.fo_field ?e1_a ?e1_cls ?e1_bm ?e1_sa ?e1_noN ?e1_iC ?e1_tC ?e1_su ?e1_sv ?e1_op ?e1_ds ?e1_l ?e1_c ?e1_lc ?e1_lv ?e1_hv ?e1_hf ?e1_hm ?e1_kp ?e1_exC ?e1_tyC ?e1_ga ?e1_gg ?e1_hd ?e1_ha ?e1_hn ?e1_ht ?e1_hmo ?e1_nd ?e1_is; (case e1_a => k_is); (case e1_cls => k_is); (case e1_bm => first | decide +kernel | rfl); (case e1_sa => k_is); (case e1_noN => k_is); (case e1_iC => k_is); (case e1_tC => k_is); (case e1_su => ks_is); (case e1_sv => k_is); (case e1_op => k_is); (case e1_ds => k_is); (case e1_l => k_is); (case e1_c => k_is); (case e1_lc => k_is); (case e1_lv => k_is); (case e1_hv => rfl); (case e1_hf => rfl); (case e1_hm => rfl); (case e1_kp => k_is); (case e1_exC => k_is); (case e1_tyC => k_is); (case e1_ga => k_is); (case e1_gg => k_is); (case e1_hd => k_is); (case e1_ha => k_is); (case e1_hn => k_is); (case e1_ht => k_is); (case e1_hmo => k_is); (case e1_nd => decide); (case e1_is => k_is)))
    (case zsuper => k_is)
    (case n_StoreError => (refine' Cl.namAt ?u2_na; (case u2_na => k_is)))
    (case n_KeyLimit => (refine' Cl.namAt ?u3_na; (case u3_na => k_is)))
    (case n_BadChoice => (refine' Cl.namAt ?u4_na; (case u4_na => k_is)))
    (case n_Stalled => (refine' Cl.namAt ?u5_na; (case u5_na => k_is)))
    (case mM_InvalidInput_StoreError => (refine' Cl.exm_mk ?u6_ex ?u6_hd ?u6_ty ?u6_s; (case u6_ex => k_is); (case u6_hd => k_is); (case u6_ty => k_is); (case u6_s => k_is)))
    (case iI_InvalidInput_KeyLimit => (refine' Cl.kit_own ?i7_n ?i7_c ?i7_t ?i7_s; (case i7_n => first | decide | rfl); (case i7_c => k_is); (case i7_t => k_is); (case i7_s => k_is)))
    (case iI_InvalidInput_BadChoice => (refine' Cl.kit_own ?i8_n ?i8_c ?i8_t ?i8_s; (case i8_n => first | decide | rfl); (case i8_c => k_is); (case i8_t => k_is); (case i8_s => k_is)))
    (case iI_InvalidInput_Stalled => (refine' Cl.kit_own ?i9_n ?i9_c ?i9_t ?i9_s; (case i9_n => first | decide | rfl); (case i9_c => k_is); (case i9_t => k_is); (case i9_s => k_is)))
    (case iI_InvalidInput_ValueError => (refine' Cl.kit_bin ?i10_m ?i10_s; (case i10_m => first | rfl | decide +kernel); (case i10_s => k_is)))
    (case t_is_whole => (refine' Cl.atTop0 ?u11_xa ?u11_xl ?u11_xc ?u11_xp; (case u11_xa => k_is); (case u11_xl => k_is); (case u11_xc => k_is); (case u11_xp => k_is)))
    (case t_check_least => (refine' Cl.atTop0 ?u12_xa ?u12_xl ?u12_xc ?u12_xp; (case u12_xa => k_is); (case u12_xl => k_is); (case u12_xc => k_is); (case u12_xp => k_is)))
    (case t__law_box => (refine' Cl.atTop0 ?u13_xa ?u13_xl ?u13_xc ?u13_xp; (case u13_xa => k_is); (case u13_xl => k_is); (case u13_xc => k_is); (case u13_xp => k_is)))
    (case t__law_draw => (refine' Cl.atTop0 ?u14_xa ?u14_xl ?u14_xc ?u14_xp; (case u14_xa => k_is); (case u14_xl => k_is); (case u14_xc => k_is); (case u14_xp => k_is)))
    (case t_divided_up => (refine' Cl.atTop0 ?u15_xa ?u15_xl ?u15_xc ?u15_xp; (case u15_xa => k_is); (case u15_xl => k_is); (case u15_xc => k_is); (case u15_xp => k_is)))
    (case t_can_empty => (refine' Cl.atTop0 ?u16_xa ?u16_xl ?u16_xc ?u16_xp; (case u16_xa => k_is); (case u16_xl => k_is); (case u16_xc => k_is); (case u16_xp => k_is)))
    (case t__law_says => (refine' Cl.atTop0 ?u17_xa ?u17_xl ?u17_xc ?u17_xp; (case u17_xa => k_is); (case u17_xl => k_is); (case u17_xc => k_is); (case u17_xp => k_is)))
    (case t__law_walk => (refine' Cl.atTop0 ?u18_xa ?u18_xl ?u18_xc ?u18_xp; (case u18_xa => k_is); (case u18_xl => k_is); (case u18_xc => k_is); (case u18_xp => k_is)))
    (case t__law_small => (refine' Cl.atTop0 ?u19_xa ?u19_xl ?u19_xc ?u19_xp; (case u19_xa => k_is); (case u19_xl => k_is); (case u19_xc => k_is); (case u19_xp => k_is)))
    (case t__law_edge => (refine' Cl.atTop0 ?u20_xa ?u20_xl ?u20_xc ?u20_xp; (case u20_xa => k_is); (case u20_xl => k_is); (case u20_xc => k_is); (case u20_xp => k_is)))
    (case t__law_field => (refine' Cl.atTop0 ?u21_xa ?u21_xl ?u21_xc ?u21_xp; (case u21_xa => k_is); (case u21_xl => k_is); (case u21_xc => k_is); (case u21_xp => k_is)))
    (case t__law_limits => (refine' Cl.atTop0 ?u22_xa ?u22_xl ?u22_xc ?u22_xp; (case u22_xa => k_is); (case u22_xl => k_is); (case u22_xc => k_is); (case u22_xp => k_is)))
    (case t_law => (refine' Cl.atTop0 ?u23_xa ?u23_xl ?u23_xc ?u23_xp; (case u23_xa => k_is); (case u23_xl => k_is); (case u23_xc => k_is); (case u23_xp => k_is)))
    (case z_len => k_is)
    (case z_abs => k_is)
    (case z_max => k_is)
    (case z_min => k_is)
    (case z_sum => k_is)
    (case z_all => k_is)
    (case z_any => k_is)
    (case z_range => k_is)
    (case z_isinstance => k_is)
    (case z_intT => k_is)
    (case z_strT => k_is)
    (case z_boolT => k_is)
    (case z_listT => k_is)
    (case z_divmod => k_is)
    (case z_tupleT => k_is)
    (case z_reversed => k_is)
    (case z_repr => k_is)
    (case z_enumerate => k_is)
    (case z_zip => k_is)
    (case z_ValueErrorT => k_is)
