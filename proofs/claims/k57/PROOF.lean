import PyProof.Rows.All
import Wide.All
import OpenK.AllK
import Wide.FinOn
import HandS.ForMost
import HandS.Wide
import HandS.IsInst
import HandS.Defaults
import HandS.Codes
import HandS.MakeKwOnly
import PySem.Challenge.RW_carrylog_k57_whole_thrifty
import HandS.Star
import HandS.ClsMeth
import HandS.Property
import HandS.TupLe
import HandS.Sort
import HandS.Evl
import HandS.TupAny
import HandS.DeepEq
import KE.KTupSum
import KE.KMathG
import Flt.RightSqrt
import HandS.Struct
import HandS.Iter
import HandS.Walk
import PyProof.EnumMake
import PyProof.Draws
import PyProof.Rows.StrJoinRep
import PyProof.Rows.RegReprOcc
import PyProof.Rows.StrCut
import HandS.DictComp
import HandS.Text
import HandS.StrMore
import HandS.Zip
import KE.KExcSuper
import KE.KSuper
import PyProof.FString
import PyProof.FString4
import HandS.Exc
import HandS.ExcOwn
import HandS.TryOnly
import HandS.WordsExc
import HandS.CallSlots
import KE.KExcIs
import HandS.ExcIs
import KE.RegKSuper
import HandS.Style
import HandS.Conv
set_option Elab.async false
set_option maxRecDepth 100000
/-! ### my words over the hand layer -/
namespace Cl
open PySem L2
/-- the built-in names that the law's text uses are still the built-ins -/
structure Bi (mg : Str → Option Value) : Prop where
  len : mg "len" = none
  abs : mg "abs" = none
  max : mg "max" = none
  min : mg "min" = none
  sum : mg "sum" = none
  all : mg "all" = none
  any : mg "any" = none
  range : mg "range" = none
  isinstance : mg "isinstance" = none
  intT : mg "int" = none
  strT : mg "str" = none
  boolT : mg "bool" = none
  listT : mg "list" = none
  divmod : mg "divmod" = none
  tupleT : mg "tuple" = none
  reversed : mg "reversed" = none
  repr : mg "repr" = none
  enumerate : mg "enumerate" = none
  zip : mg "zip" = none
  ValueErrorT : mg "ValueError" = none
/-- a def of the text, by its name: what it promises -/
structure Dn (P : Program) (w : World) (K : PySem.W.Frag) (mg : Str → Option Value) (base : Heap) (x : Str) (k : Nat) (ps : List Str) (sp : Sp) (dvs : List V := []) : Prop where
  ex : ∃ (f : Addr) (fd : FuncData) (ds : List Value), FnOk P w K mg base CX0 k f fd ps sp ∧ mg x = some (.ref f) ∧ PySem.W.keepIn K (.ref f) = true ∧ Binds K fd ps ds ∧ Vals dvs ds
/-- the same called with keywords -/
structure Dk (P : Program) (w : World) (K : PySem.W.Frag) (mg : Str → Option Value) (base : Heap) (x : Str) (k : Nat) (ps : List Str) (sp : Sp) (n : Nat) (ks : List Str) (gV : List V → List V → List V) : Prop where
  ex : ∃ (f : Addr) (fd : FuncData) (g : List Value → List Value → List Value), FnOk P w K mg base CX0 k f fd ps sp ∧ mg x = some (.ref f) ∧ PySem.W.keepIn K (.ref f) = true ∧ KBn K fd ps n ks g gV
section
variable {X : Cx} {k n : Nat} {ps ks : List Str} {sp : Sp} {dvs : List V} {E : XK} {x : Str} {p pos : Pos} {e : Expr} {es : List Expr} {kws : List Keyword} {t tk : TA} {gV : List V → List V → List V}
theorem pe_dn (D : Dn X.prog X.w X.K X.mg X.base x k ps sp dvs) (hr : Room k X.A) (hg : Gl X x) (hx : Passes CX0 X E) (ha : PA X (e :: es) t)
    (hdb : (x == ("__debug__" : Str)) = false := by decide) (he : starEach (e :: es) X.env = (false, eval e X.env) :: starEach es X.env := by rfl)
    (hpl : (backTo pos (starEach es X.env)).any (·.1) = false := by rfl) : PE X (.Call (.Name x p) (e :: es) [] pos) (tCall sp dvs E t) := by
  obtain ⟨f, fd, ds, G, m, kp, b, v⟩ := D.ex
  exact pe_call G hr hg m kp b v hx ha hdb he hpl
theorem pe_dn0 (D : Dn X.prog X.w X.K X.mg X.base x k ps sp dvs) (hr : Room k X.A) (hg : Gl X x) (hx : Passes CX0 X E)
    (hdb : (x == ("__debug__" : Str)) = false := by decide) : PE X (.Call (.Name x p) [] [] pos) (tCall sp dvs E tNil) := by
  obtain ⟨f, fd, ds, G, m, kp, b, v⟩ := D.ex
  exact pe_call0 G hr hg m kp b v hx hdb
theorem pe_dk (D : Dk X.prog X.w X.K X.mg X.base x k ps sp n ks gV) (hr : Room k X.A) (hg : Gl X x) (hx : Passes CX0 X E) (ha : PA X (e :: es) t) (hkw : PK X kws tk)
    (hall : (backToKw pos (keywordEach kws X.env)).all (·.1.isSome) = true := by rfl) (hks : (backToKw pos (keywordEach kws X.env)).filterMap (·.1) = ks := by rfl)
    (hdb : (x == ("__debug__" : Str)) = false := by decide) (he : starEach (e :: es) X.env = (false, eval e X.env) :: starEach es X.env := by rfl)
    (hpl : ((backTo pos (starEach (e :: es) X.env)).any (·.1) || (backToKw pos (keywordEach kws X.env)).any (·.1.isNone)) = false := by rfl) :
    PE X (.Call (.Name x p) (e :: es) kws pos) (tCallN n ks.length sp gV E t tk) := by
  obtain ⟨f, fd, g, G, m, kp, b⟩ := D.ex
  exact pe_callN G hr hg m kp b hx ha hkw hall hks hdb he hpl
end
theorem mulB {i j : Int} (h1 : -100000000000000000000000000000000000000000000000000000000000000 ≤ i) (h2 : i ≤ 100000000000000000000000000000000000000000000000000000000000000) (h3 : -100000000000000000000000000000000000000000000000000000000000000 ≤ j) (h4 : j ≤ 100000000000000000000000000000000000000000000000000000000000000) : CMulW i j :=
  wide_mul (a := 220) (b := 220) (Nat.lt_of_le_of_lt (show i.natAbs ≤ 100000000000000000000000000000000000000000000000000000000000000 by omega) (by decide)) (Nat.lt_of_le_of_lt (show j.natAbs ≤ 100000000000000000000000000000000000000000000000000000000000000 by omega) (by decide)) (by decide) (by decide) (by decide)
theorem divB {i j : Int} (h : 0 < j) (h2 : j ≤ 100000000000000000000000000000000000000000000000000000000000000) : CDivW i j :=
  wide_div h (b := 220) (Nat.lt_of_le_of_lt (show j.natAbs ≤ 100000000000000000000000000000000000000000000000000000000000000 by omega) (by decide)) (by decide) (by decide)
theorem strB {i : Int} (h1 : -100000000000000000000000000000000000000000000000000000000000000 ≤ i) (h2 : i ≤ 100000000000000000000000000000000000000000000000000000000000000) : i.natAbs.log2 < 1920 :=
  Nat.lt_of_lt_of_le (PySem.Flt.log2_lt_of (k := 220) (by decide) (Nat.lt_of_le_of_lt (show i.natAbs ≤ 100000000000000000000000000000000000000000000000000000000000000 by omega) (by decide))) (by decide)
/-- all that was tracked but what stands at a is as it was -/
def But (a : Addr) (H H' : Hp) : Prop := ∀ b o, b ≠ a → H b = some o → H' b = some o
theorem But.refl (a : Addr) (H : Hp) : But a H H := fun _ _ _ h => h
theorem But.trans {a : Addr} {H H1 H2 : Hp} (x : But a H H1) (y : But a H1 H2) : But a H H2 := fun b o n h => y b o n (x b o n h)
theorem But.of {a : Addr} {H H' : Hp} (x : Same H H') : But a H H' := fun b o _ h => x b o h
theorem But.upd {a : Addr} {H : Hp} {o : HO} : But a H (upd H a o) := fun b u n h => by rw [upd_ne n]; exact h
theorem Same.upd {p : Addr} {H : Hp} {o : HO} (h : H p = none) : Same H (upd H p o) := fun b u e => by rw [upd_ne (ne_of_none e h)]; exact e
theorem itd {c A B : Prop} [Decidable c] (h1 : c → A) (h2 : ¬ c → B) : if decide c = true then A else B := by
  by_cases h : c
  · rw [decide_eq_true h]; exact iteT (h1 h)
  · rw [decide_eq_false h]; exact iteF (h2 h)
theorem itn {c A B : Prop} [Decidable c] (h1 : ¬ c → A) (h2 : c → B) : if (!decide c) = true then A else B := by
  by_cases h : c
  · rw [decide_eq_true h]; exact iteF (h2 h)
  · rw [decide_eq_false h]; exact iteT (h1 h)
theorem iti {a b : Int} {A B : Prop} (h1 : a = b → A) (h2 : a ≠ b → B) : if decide (V.int a = V.int b) = true then A else B :=
  itd (fun h => h1 (V.int.inj h)) (fun h => h2 fun e => h (by rw [e]))
theorem itni {a b : Int} {A B : Prop} (h1 : a ≠ b → A) (h2 : a = b → B) : if (!decide (V.int a = V.int b)) = true then A else B :=
  itn (fun h => h1 fun e => h (by rw [e])) (fun h => h2 (V.int.inj h))
theorem But.sub {a b : Addr} {H H1 H2 : Hp} {o : HO} (n : b ≠ a) (x : But a H H1) (h : H b = some o) : H1 b = some o := x b o n h
/-- a comprehension without tests whose element is reckoned without a trace: the new list is the old one, mapped -/
theorem lc_pure {K : PySem.W.Frag} {a D : Addr} {xs : List V} {g : TG} {te : TE} {vs : List Nat} {σ : L2.St} {H1 : Hp} {Qd : Hp → Prop} (f : V → V) (hx : SqL K H1 a xs) (hD : H1 D = none) (hlen : xs.length < 10000)
    (hs : ∀ (x : V) (H : Hp) (R : V → Hp → Prop), x ∈ xs → (∀ b o, H1 b = some o → H b = some o) → R (f x) H → g x (wipe σ vs) H fun σ2 H2 => wipe σ2 vs = wipe σ vs ∧ te σ2 H2 R) (hd : Qd (upd H1 D (.lst (xs.map f)))) :
    ∃ W : Nat → Nat → Hp → Prop, (∃ m, W 0 m (upd H1 D (.lst []))) ∧ ∀ i m H, W i m H →
      ((Itl K a).stop i H ∧ Qd H) ∨ ((Itl K a).go i H ∧ ∃ Nx : Hp → Prop, (∀ H', Nx H' → ∃ m', m' < m ∧ W (i + 1) m' H') ∧ ∀ x H', (Itl K a).yld i H x H' → g x (wipe σ vs) H' fun σ2 H2 => wipe σ2 vs = wipe σ vs ∧ tYes σ2 H2 fun b H3 =>
        if b = true then te σ2 H3 fun y H4 => ∃ acc, H4 D = some (.lst acc) ∧ acc.length < sizeLine ∧ Nx (upd H4 D (.lst (acc ++ [y]))) else Nx H3) := by
  refine lc_list (K := K) (a := a) (xs := xs) (fun i H => H = upd H1 D (.lst ((xs.take i).map f))) (by rw [List.take_zero]; rfl) (fun i H _ e => by rw [e]; exact Same.seq (Same.upd hD) hx) ?_ ?_
  · rintro i x H hi rfl
    have hm : x ∈ xs := List.mem_of_getElem? hi
    have hi2 := (List.getElem?_eq_some_iff.mp hi).1
    have key : ∀ R : V → Hp → Prop, R (f x) (upd H1 D (.lst ((xs.take i).map f))) → g x (wipe σ vs) (upd H1 D (.lst ((xs.take i).map f))) fun σ2 H2 => wipe σ2 vs = wipe σ vs ∧ te σ2 H2 R := fun R hR =>
      hs x _ R hm (fun b o e => Same.upd hD b o e) hR
    have k2 := key (fun y H4 => ∃ acc, H4 D = some (.lst acc) ∧ acc.length < sizeLine ∧ upd H4 D (.lst (acc ++ [y])) = upd H1 D (.lst ((xs.take (i + 1)).map f))) ⟨_, upd_same, ?_, ?_⟩
    · exact k2
    · rw [List.length_map, List.length_take]
      have : (10000 : Nat) ≤ sizeLine := by decide
      omega
    · rw [upd_upd]
      have e : xs.take (i + 1) = xs.take i ++ [x] := by
        rw [List.take_add_one, hi]; rfl
      rw [e, List.map_append]; rfl
  · rintro H rfl
    rw [List.take_length]
    exact hd
/-- what stays while a new list at D grows: all that H1 tracks -/
theorem grow_same {D : Addr} {H1 H : Hp} {o : HO} (hD : H1 D = none) (x : Same H1 H) : Same H1 (upd H D o) := fun b u e => by
  rw [upd_ne (ne_of_none e hD)]; exact x b u e
/-- a comprehension over a range; its element may make objects -/
theorem lc_growR {lo : Int} {n : Nat} {g : TG} {te : TE} {vs : List Nat} {σ : L2.St} {H1 : Hp} {D : Addr} {Qd : Hp → Prop} (f : Nat → V) (hD : H1 D = none) (hlen : n < 10000)
    (hs : ∀ (i : Nat) (H : Hp) (R : V → Hp → Prop), i < n → Same H1 H → (∀ H', Same H H' → R (f i) H') → g (.int (lo + i)) (wipe σ vs) H fun σ2 H2 => wipe σ2 vs = wipe σ vs ∧ te σ2 H2 R)
    (hd : ∀ H, Same H1 H → H D = some (.lst ((List.range n).map f)) → Qd H) :
    ∃ W : Nat → Nat → Hp → Prop, (∃ m, W 0 m (upd H1 D (.lst []))) ∧ ∀ i m H, W i m H →
      ((Itr lo n).stop i H ∧ Qd H) ∨ ((Itr lo n).go i H ∧ ∃ Nx : Hp → Prop, (∀ H', Nx H' → ∃ m', m' < m ∧ W (i + 1) m' H') ∧ ∀ x H', (Itr lo n).yld i H x H' → g x (wipe σ vs) H' fun σ2 H2 => wipe σ2 vs = wipe σ vs ∧ tYes σ2 H2 fun b H3 =>
        if b = true then te σ2 H3 fun y H4 => ∃ acc, H4 D = some (.lst acc) ∧ acc.length < sizeLine ∧ Nx (upd H4 D (.lst (acc ++ [y]))) else Nx H3) := by
  refine lc_range (lo := lo) (n := n) (fun i H => Same H1 H ∧ H D = some (.lst ((List.range i).map f))) ⟨grow_same hD (Same.refl H1), upd_same⟩ ?_ (fun H h => hd H h.1 h.2)
  rintro i H hi ⟨hS, hL⟩
  have key := hs i H (fun y H4 => ∃ acc, H4 D = some (.lst acc) ∧ acc.length < sizeLine ∧ (Same H1 (upd H4 D (.lst (acc ++ [y]))) ∧ upd H4 D (.lst (acc ++ [y])) D = some (.lst ((List.range (i + 1)).map f)))) hi hS fun H' hS' => ⟨_, hS' _ _ hL, ?_, grow_same hD (hS.trans hS'), ?_⟩
  · exact key
  · rw [List.length_map, List.length_range]
    have : (10000 : Nat) ≤ sizeLine := by decide
    omega
  · rw [upd_same, List.range_succ, List.map_append]; rfl
/-- .. with a test -/
theorem lc_filtR {lo : Int} {n : Nat} {g : TG} {tt : TT} {te : TE} {vs : List Nat} {σ : L2.St} {H1 : Hp} {D : Addr} {Qd : Hp → Prop} (f : Nat → V) (p : Nat → Bool) (hD : H1 D = none) (hlen : n < 10000)
    (hs : ∀ (i : Nat) (H : Hp) (R : V → Hp → Prop) (R0 : Hp → Prop), i < n → Same H1 H → (p i = true → ∀ H', Same H H' → R (f i) H') → (p i = false → ∀ H', Same H H' → R0 H') →
      g (.int (lo + i)) (wipe σ vs) H fun σ2 H2 => wipe σ2 vs = wipe σ vs ∧ tt σ2 H2 fun b H3 => if b = true then te σ2 H3 R else R0 H3)
    (hd : ∀ H, Same H1 H → H D = some (.lst (((List.range n).filter p).map f)) → Qd H) :
    ∃ W : Nat → Nat → Hp → Prop, (∃ m, W 0 m (upd H1 D (.lst []))) ∧ ∀ i m H, W i m H →
      ((Itr lo n).stop i H ∧ Qd H) ∨ ((Itr lo n).go i H ∧ ∃ Nx : Hp → Prop, (∀ H', Nx H' → ∃ m', m' < m ∧ W (i + 1) m' H') ∧ ∀ x H', (Itr lo n).yld i H x H' → g x (wipe σ vs) H' fun σ2 H2 => wipe σ2 vs = wipe σ vs ∧ tt σ2 H2 fun b H3 =>
        if b = true then te σ2 H3 fun y H4 => ∃ acc, H4 D = some (.lst acc) ∧ acc.length < sizeLine ∧ Nx (upd H4 D (.lst (acc ++ [y]))) else Nx H3) := by
  refine lc_range (lo := lo) (n := n) (fun i H => Same H1 H ∧ H D = some (.lst (((List.range i).filter p).map f))) ⟨grow_same hD (Same.refl H1), upd_same⟩ ?_ (fun H h => hd H h.1 h.2)
  rintro i H hi ⟨hS, hL⟩
  have e1 : (List.range (i + 1)).filter p = (List.range i).filter p ++ (if p i = true then [i] else []) := by
    rw [List.range_succ, List.filter_append, List.filter_cons, List.filter_nil]
  have key := hs i H (fun y H4 => ∃ acc, H4 D = some (.lst acc) ∧ acc.length < sizeLine ∧ (Same H1 (upd H4 D (.lst (acc ++ [y]))) ∧ upd H4 D (.lst (acc ++ [y])) D = some (.lst (((List.range (i + 1)).filter p).map f))))
    (fun H4 => Same H1 H4 ∧ H4 D = some (.lst (((List.range (i + 1)).filter p).map f))) hi hS (fun hp H' hS' => ⟨_, hS' _ _ hL, ?_, grow_same hD (hS.trans hS'), ?_⟩) (fun hp H' hS' => ⟨hS.trans hS', ?_⟩)
  · exact key
  · rw [List.length_map]
    have : (10000 : Nat) ≤ sizeLine := by decide
    have h2 := List.length_filter_le p (List.range i)
    rw [List.length_range] at h2
    omega
  · rw [upd_same, e1, if_pos hp, List.map_append]; rfl
  · rw [hS' _ _ hL, e1, if_neg (by rw [hp]; exact Bool.false_ne_true), List.append_nil]
/-- .. over a list that stands still -/
theorem lc_growL {K : PySem.W.Frag} {a D : Addr} {xs : List V} {g : TG} {te : TE} {vs : List Nat} {σ : L2.St} {H1 : Hp} {Qd : Hp → Prop} (f : V → V) (hx : SqL K H1 a xs) (hD : H1 D = none) (hlen : xs.length < 10000)
    (hs : ∀ (x : V) (H : Hp) (R : V → Hp → Prop), x ∈ xs → Same H1 H → (∀ H', Same H H' → R (f x) H') → g x (wipe σ vs) H fun σ2 H2 => wipe σ2 vs = wipe σ vs ∧ te σ2 H2 R)
    (hd : ∀ H, Same H1 H → H D = some (.lst (xs.map f)) → Qd H) :
    ∃ W : Nat → Nat → Hp → Prop, (∃ m, W 0 m (upd H1 D (.lst []))) ∧ ∀ i m H, W i m H →
      ((Itl K a).stop i H ∧ Qd H) ∨ ((Itl K a).go i H ∧ ∃ Nx : Hp → Prop, (∀ H', Nx H' → ∃ m', m' < m ∧ W (i + 1) m' H') ∧ ∀ x H', (Itl K a).yld i H x H' → g x (wipe σ vs) H' fun σ2 H2 => wipe σ2 vs = wipe σ vs ∧ tYes σ2 H2 fun b H3 =>
        if b = true then te σ2 H3 fun y H4 => ∃ acc, H4 D = some (.lst acc) ∧ acc.length < sizeLine ∧ Nx (upd H4 D (.lst (acc ++ [y]))) else Nx H3) := by
  refine lc_list (K := K) (a := a) (xs := xs) (fun i H => Same H1 H ∧ H D = some (.lst ((xs.take i).map f))) ⟨grow_same hD (Same.refl H1), upd_same⟩ (fun i H _ h => Same.seq h.1 hx) ?_ (fun H h => hd H h.1 (by rw [h.2, List.take_length]))
  rintro i x H hi ⟨hS, hL⟩
  have hi2 := (List.getElem?_eq_some_iff.mp hi).1
  have key := hs x H (fun y H4 => ∃ acc, H4 D = some (.lst acc) ∧ acc.length < sizeLine ∧ (Same H1 (upd H4 D (.lst (acc ++ [y]))) ∧ upd H4 D (.lst (acc ++ [y])) D = some (.lst ((xs.take (i + 1)).map f)))) (List.mem_of_getElem? hi) hS fun H' hS' => ⟨_, hS' _ _ hL, ?_, grow_same hD (hS.trans hS'), ?_⟩
  · exact key
  · rw [List.length_map, List.length_take]
    have : (10000 : Nat) ≤ sizeLine := by decide
    omega
  · rw [upd_same]
    have e : xs.take (i + 1) = xs.take i ++ [x] := by
      rw [List.take_add_one, hi]; rfl
    rw [e, List.map_append]; rfl
/-- a bag stands at a -/
def BagAt (H : Hp) (a : Addr) : Prop := ∃ c t s : Int, H a = some (.lst [.int c, .int t, .int s])
theorem BagAt.same {H H' : Hp} {a : Addr} (h : BagAt H a) (x : Same H H') : BagAt H' a := by
  obtain ⟨c, t, s, e⟩ := h
  exact ⟨c, t, s, x _ _ e⟩
/-- a comprehension over a range whose element draws from a bag: the ints that it makes, each of which P holds -/
theorem lc_bagR {lo : Int} {n : Nat} {g : TG} {te : TE} {vs : List Nat} {σ : L2.St} {H1 : Hp} {D a : Addr} {Qd : Hp → Prop} (P : Int → Prop) (hB : BagAt H1 a) (hD : H1 D = none) (hlen : n < 10000)
    (hs : ∀ (i : Nat) (H : Hp) (R : V → Hp → Prop), i < n → BagAt H a → But a H1 H → (∀ d H', P d → BagAt H' a → But a H H' → R (.int d) H') → g (.int (lo + i)) (wipe σ vs) H fun σ2 H2 => wipe σ2 vs = wipe σ vs ∧ te σ2 H2 R)
    (hd : ∀ (ls : List Int) (H : Hp), H D = some (.lst (ls.map V.int)) → ls.length = n → (∀ x, x ∈ ls → P x) → BagAt H a → But a H1 H → Qd H) :
    ∃ W : Nat → Nat → Hp → Prop, (∃ m, W 0 m (upd H1 D (.lst []))) ∧ ∀ i m H, W i m H →
      ((Itr lo n).stop i H ∧ Qd H) ∨ ((Itr lo n).go i H ∧ ∃ Nx : Hp → Prop, (∀ H', Nx H' → ∃ m', m' < m ∧ W (i + 1) m' H') ∧ ∀ x H', (Itr lo n).yld i H x H' → g x (wipe σ vs) H' fun σ2 H2 => wipe σ2 vs = wipe σ vs ∧ tYes σ2 H2 fun b H3 =>
        if b = true then te σ2 H3 fun y H4 => ∃ acc, H4 D = some (.lst acc) ∧ acc.length < sizeLine ∧ Nx (upd H4 D (.lst (acc ++ [y]))) else Nx H3) := by
  have nDa : D ≠ a := fun e => by
    subst e
    obtain ⟨_, _, _, e2⟩ := hB
    rw [e2] at hD; cases hD
  have bagU : ∀ {H : Hp} {o : HO}, BagAt H a → BagAt (upd H D o) a := fun {H o} hb => by
    obtain ⟨x, y, z, e⟩ := hb
    exact ⟨x, y, z, by rw [upd_ne nDa.symm]; exact e⟩
  have butU : ∀ {H : Hp} {o : HO}, But a H1 H → But a H1 (upd H D o) := fun {H o} hb b u nb e => by
    rw [upd_ne (ne_of_none e hD)]; exact hb b u nb e
  refine lc_range (lo := lo) (n := n) (fun i H => ∃ ls : List Int, H D = some (.lst (ls.map V.int)) ∧ ls.length = i ∧ (∀ x, x ∈ ls → P x) ∧ BagAt H a ∧ But a H1 H) ⟨[], upd_same, rfl, fun x hx => (by cases hx), bagU hB, butU (But.refl _ _)⟩ ?_ (fun H ⟨ls, h1, h2, h3, h4, h5⟩ => hd ls H h1 h2 h3 h4 h5)
  rintro i H hi ⟨ls, h1, h2, h3, h4, h5⟩
  have key := hs i H (fun y H4 => ∃ acc, H4 D = some (.lst acc) ∧ acc.length < sizeLine ∧ ∃ ls : List Int, upd H4 D (.lst (acc ++ [y])) D = some (.lst (ls.map V.int)) ∧ ls.length = i + 1 ∧ (∀ x, x ∈ ls → P x) ∧ BagAt (upd H4 D (.lst (acc ++ [y]))) a ∧ But a H1 (upd H4 D (.lst (acc ++ [y])))) hi h4 h5
    fun d H' hP hB' hb' => ⟨ls.map V.int, hb' D _ nDa h1, ?_, ls ++ [d], by rw [upd_same, List.map_append]; rfl, by rw [List.length_append, h2]; rfl, fun x hx => ?_, bagU hB', butU (h5.trans hb')⟩
  · exact key
  · rw [List.length_map]
    have : (10000 : Nat) ≤ sizeLine := by decide
    omega
  · rcases List.mem_append.mp hx with h | h
    · exact h3 x h
    · simp at h; subst h; exact hP
/-! ### what the top has written -/
structure AtTop (K : PySem.W.Frag) (x qual : Str) (st : Stmt) (kws : List (Str × V)) : Prop where
  ex : ∃ (f : Addr) (fd : FuncData), PySem.W.nsIn K mainGlobals x = some (some (.ref f)) ∧ Fun K x qual st f fd ∧ FunD K x qual (defArgs st) (defBody st) (defScope st) [] kws f fd
section
variable {P : Program} {w : World} {K : PySem.W.Frag} {mg : Str → Option Value} {base : Heap} {x qual : Str} {st : Stmt} {ps : List Str} {k : Nat} {sp : Sp} {kws : List (Str × V)} {h : Heap}
theorem atTop0 {f : Addr} {oc : Value} {od an : Option Addr} {osl : Array (Option Value)} {kV doc pm cdv ct : Value} (a : PySem.W.nsIn K mainGlobals x = some (some (.ref f)))
    (l : K.lookup f = some ⟨oc, od, .func (PySem.W.fnOf x qual (defArgs st) (defBody st) (defScope st) .none kV doc pm an cdv ct), osl⟩) (c : PySem.W.codeIn K cdv qual = true) (p : PySem.W.keepIn K (.ref f) = true) : AtTop K x qual st [] :=
  ⟨f, _, a, fun_mk l c p, ⟨⟨oc, od, .none, kV, doc, pm, an, cdv, ct, osl, rfl, l, c, .inl ⟨rfl, rfl⟩, .inl rfl⟩, p⟩⟩
theorem atTop1 {f D : Addr} {oc : Value} {od an : Option Addr} {osl : Array (Option Value)} {doc pm cdv ct u : Value} {n : Str} {v : V} (a : PySem.W.nsIn K mainGlobals x = some (some (.ref f)))
    (l : K.lookup f = some ⟨oc, od, .func (PySem.W.fnOf x qual (defArgs st) (defBody st) (defScope st) .none (.ref D) doc pm an cdv ct), osl⟩) (c : PySem.W.codeIn K cdv qual = true) (p : PySem.W.keepIn K (.ref f) = true)
    (hk : PySem.W.nsIn K D n = some (some u)) (r : RelV v u) : AtTop K x qual st [(n, v)] :=
  ⟨f, _, a, fun_mk l c p, ⟨⟨oc, od, .none, .ref D, doc, pm, an, cdv, ct, osl, rfl, l, c, .inl ⟨rfl, rfl⟩, .inr ⟨D, rfl, fun q hq => by
    rcases List.mem_cons.mp hq with rfl | hq
    · exact ⟨u, hk, r⟩
    · cases hq⟩⟩, p⟩⟩
theorem atTop2 {f D : Addr} {oc : Value} {od an : Option Addr} {osl : Array (Option Value)} {doc pm cdv ct u u1 : Value} {n n1 : Str} {v v1 : V} (a : PySem.W.nsIn K mainGlobals x = some (some (.ref f)))
    (l : K.lookup f = some ⟨oc, od, .func (PySem.W.fnOf x qual (defArgs st) (defBody st) (defScope st) .none (.ref D) doc pm an cdv ct), osl⟩) (c : PySem.W.codeIn K cdv qual = true) (p : PySem.W.keepIn K (.ref f) = true)
    (hk : PySem.W.nsIn K D n = some (some u)) (r : RelV v u) (hk1 : PySem.W.nsIn K D n1 = some (some u1)) (r1 : RelV v1 u1) : AtTop K x qual st [(n, v), (n1, v1)] :=
  ⟨f, _, a, fun_mk l c p, ⟨⟨oc, od, .none, .ref D, doc, pm, an, cdv, ct, osl, rfl, l, c, .inl ⟨rfl, rfl⟩, .inr ⟨D, rfl, fun q hq => by
    rcases List.mem_cons.mp hq with rfl | hq
    · exact ⟨u, hk, r⟩
    rcases List.mem_cons.mp hq with rfl | hq
    · exact ⟨u1, hk1, r1⟩
    · cases hq⟩⟩, p⟩⟩
theorem atTop3 {f D : Addr} {oc : Value} {od an : Option Addr} {osl : Array (Option Value)} {doc pm cdv ct u u1 u2 : Value} {n n1 n2 : Str} {v v1 v2 : V} (a : PySem.W.nsIn K mainGlobals x = some (some (.ref f)))
    (l : K.lookup f = some ⟨oc, od, .func (PySem.W.fnOf x qual (defArgs st) (defBody st) (defScope st) .none (.ref D) doc pm an cdv ct), osl⟩) (c : PySem.W.codeIn K cdv qual = true) (p : PySem.W.keepIn K (.ref f) = true)
    (hk : PySem.W.nsIn K D n = some (some u)) (r : RelV v u) (hk1 : PySem.W.nsIn K D n1 = some (some u1)) (r1 : RelV v1 u1) (hk2 : PySem.W.nsIn K D n2 = some (some u2)) (r2 : RelV v2 u2) : AtTop K x qual st [(n, v), (n1, v1), (n2, v2)] :=
  ⟨f, _, a, fun_mk l c p, ⟨⟨oc, od, .none, .ref D, doc, pm, an, cdv, ct, osl, rfl, l, c, .inl ⟨rfl, rfl⟩, .inr ⟨D, rfl, fun q hq => by
    rcases List.mem_cons.mp hq with rfl | hq
    · exact ⟨u, hk, r⟩
    rcases List.mem_cons.mp hq with rfl | hq
    · exact ⟨u1, hk1, r1⟩
    rcases List.mem_cons.mp hq with rfl | hq
    · exact ⟨u2, hk2, r2⟩
    · cases hq⟩⟩, p⟩⟩
/-- the arguments in the parameters' order: of each keyword-only one, whether it was written (which one of the call's) or lacks (which one of those) -/
def pick {α : Type} (sel : List (Sum Nat Nat)) (us mv ws : List α) : List α := us ++ sel.flatMap fun q => match q with | .inl i => (ws.drop i).take 1 | .inr j => (mv.drop j).take 1
abbrev kwp (sel : List (Sum Nat Nat)) (mz : List V) : List V → List V → List V := fun vs zs => pick sel vs mz zs
theorem pick_rel {vs mz zs : List V} {us mv ws : List Value} (r1 : Vals vs us) (r2 : Vals mz mv) (r3 : Vals zs ws) : ∀ sel : List (Sum Nat Nat), Vals (pick sel vs mz zs) (pick sel us mv ws) := fun sel => by
  refine r1.append ?_
  induction sel with
  | nil => exact .nil
  | cons q l ih =>
    rw [List.flatMap_cons, List.flatMap_cons]
    refine Vals.append ?_ ih
    cases q with
    | inl i => exact (r3.drop i).take 1
    | inr j => exact (r2.drop j).take 1
theorem AtTop.dn (t : AtTop K x qual st kws) (X : K.In h) (G : h.Ns mainGlobals mg)
    (hb : ∀ (kV doc pm : Value) (an : Option Addr) (cdv ct : Value) (us : List Value), us.length = ps.length → bindArgs (PySem.W.fnOf x qual (defArgs st) (defBody st) (defScope st) .none kV doc pm an cdv ct) ⟨us, []⟩ = pure (ps.zip us))
    (ok : ∀ (f : Addr) (fd : FuncData), Fun K x qual st f fd → FnOk P w K mg base CX0 k f fd ps sp) : Dn P w K mg base x k ps sp := by
  obtain ⟨f, fd, a, F, _⟩ := t.ex
  exact ⟨f, fd, [], ok f fd F, PySem.W.mg_of X G a, F.kp, F.binds hb, .nil⟩
/-- a def that calls itself: the knot is tied level by level -/
theorem AtTop.dnR (t : AtTop K x qual st kws) (X : K.In h) (G : h.Ns mainGlobals mg)
    (hb : ∀ (kV doc pm : Value) (an : Option Addr) (cdv ct : Value) (us : List Value), us.length = ps.length → bindArgs (PySem.W.fnOf x qual (defArgs st) (defBody st) (defScope st) .none kV doc pm an cdv ct) ⟨us, []⟩ = pure (ps.zip us))
    (ok : ∀ (f : Addr) (fd : FuncData), Fun K x qual st f fd → (∀ (j : Nat) (sq : Sp), FnOk P w K mg base CX0 j f fd ps sq → Dn P w K mg base x j ps sq) → FnOk P w K mg base CX0 k f fd ps sp) : Dn P w K mg base x k ps sp := by
  obtain ⟨f, fd, a, F, _⟩ := t.ex
  have I : ∀ (j : Nat) (sq : Sp), FnOk P w K mg base CX0 j f fd ps sq → Dn P w K mg base x j ps sq := fun j sq g => ⟨f, fd, [], g, PySem.W.mg_of X G a, F.kp, F.binds hb, .nil⟩
  exact I k sp (ok f fd F I)
/-- called without its keywords: all the defaults -/
theorem AtTop.dd (t : AtTop K x qual st kws) (X : K.In h) (G : h.Ns mainGlobals mg) (n : Nat) (hk : kws ≠ []) (hn : n + kws.length = ps.length)
    (hb : ∀ (D : Addr) (doc pm : Value) (an : Option Addr) (cdv ct : Value) (us ks : List Value), us.length = n → ks.length = kws.length →
      KwChain D ((kws.map (·.1)).zip ks) (bindArgs (PySem.W.fnOf x qual (defArgs st) (defBody st) (defScope st) .none (.ref D) doc pm an cdv ct) ⟨us, []⟩) (ps.zip (us ++ ks)))
    (ok : ∀ (f : Addr) (fd : FuncData), Fun K x qual st f fd → FnOk P w K mg base CX0 k f fd ps sp) : Dn P w K mg base x k ps sp (kws.map (·.2)) := by
  obtain ⟨f, fd, a, F, FD⟩ := t.ex
  obtain ⟨ds, v, b⟩ := FD.binds0 n hk hn hb
  exact ⟨f, fd, ds, ok f fd F, PySem.W.mg_of X G a, F.kp, b, v⟩
/-- called with all its keywords, in their order -/
theorem AtTop.dk (t : AtTop K x qual st kws) (X : K.In h) (G : h.Ns mainGlobals mg) (n : Nat) (ks : List Str)
    (hb : ∀ (kV doc pm : Value) (an : Option Addr) (cdv ct : Value) (us ws : List Value), us.length = n → ws.length = ks.length → bindArgs (PySem.W.fnOf x qual (defArgs st) (defBody st) (defScope st) .none kV doc pm an cdv ct) ⟨us, ks.zip ws⟩ = pure (ps.zip (us ++ ws)))
    (ok : ∀ (f : Addr) (fd : FuncData), Fun K x qual st f fd → FnOk P w K mg base CX0 k f fd ps sp) : Dk P w K mg base x k ps sp n ks (fun vs zs => vs ++ zs) := by
  obtain ⟨f, fd, a, F, _⟩ := t.ex
  obtain ⟨oc, od, kV, doc, pm, an, cdv, ct, osl, rfl, lk, hcd⟩ := F.ex
  exact ⟨f, _, fun us ws => us ++ ws, ok f _ F, PySem.W.mg_of X G a, F.kp, ⟨fun s us ws _ l1 l2 => .of_eq (hb kV doc pm an cdv ct us ws l1 l2), fun r1 r2 => r1.append r2⟩⟩
/-- called with some of its keywords: of the rest the defaults -/
theorem AtTop.dkp (t : AtTop K x qual st kws) (X : K.In h) (G : h.Ns mainGlobals mg) (n : Nat) (ks : List Str) (ms : List (Str × V)) (sel : List (Sum Nat Nat)) (hk : kws ≠ []) (hms : ∀ q ∈ ms, q ∈ kws)
    (hb : ∀ (D : Addr) (doc pm : Value) (an : Option Addr) (cdv ct : Value) (us mv ws : List Value), us.length = n → mv.length = ms.length → ws.length = ks.length →
      KwChain D ((ms.map (·.1)).zip mv) (bindArgs (PySem.W.fnOf x qual (defArgs st) (defBody st) (defScope st) .none (.ref D) doc pm an cdv ct) ⟨us, ks.zip ws⟩) (ps.zip (pick sel us mv ws)))
    (ok : ∀ (f : Addr) (fd : FuncData), Fun K x qual st f fd → FnOk P w K mg base CX0 k f fd ps sp) : Dk P w K mg base x k ps sp n ks (kwp sel (ms.map (·.2))) := by
  obtain ⟨f, fd, a, F, FD⟩ := t.ex
  obtain ⟨mv, b⟩ := FD.kbinds0 (ps := ps) n ks ms (fun us mv ws => pick sel us mv ws) hk hms (fun r1 r2 r3 => pick_rel r1 r2 r3 sel) hb
  exact ⟨f, fd, _, ok f fd F, PySem.W.mg_of X G a, F.kp, b⟩
end
end Cl

open PySem L2 Cl
local macro_rules | `(tactic| walk_at "rd") => `(tactic| (repeat (first | refine ⟨_, rfl, ?_⟩ | refine ⟨_, _, rfl, rfl, ?_⟩ | refine ⟨_, _, rfl, ?_⟩ | refine ⟨_, _, _, rfl, ?_⟩ | refine ⟨_, _, _, _, rfl, ?_⟩ | refine ⟨.inr ⟨by decide, by decide⟩, ?_⟩ | refine ⟨.inl ⟨by decide, by decide⟩, ?_⟩ | refine ⟨⟨by decide, by decide⟩, ?_⟩ | refine ⟨⟨by decide, by decide, by decide⟩, ?_⟩ | refine ⟨(by show (0 : Int) < _; decide), ?_⟩ | refine ⟨rfl, ?_⟩ | refine .inl ⟨_, rfl, ?_⟩ | refine .inr ⟨_, rfl, ?_⟩)))
/-! ### my rules: own __len__, __add__, __eq__, static methods, C(*xs) -/
namespace Cl
open StX ClX PyProof.Rows
section
variable {X : Cx} {CX : CXT} {k : Nat} {C f p g : Addr} {mc : Value} {fd : FuncData} {ps : List Str} {sp : Sp} {dvs : List V} {ds : List Value} {E : XK} {x m : Str} {pn pos apos : Pos} {e o : Expr} {es : List Expr} {te ta : TE} {t : TA} {pl : Sem Bool}
theorem call_lenO (F : FnOk X.prog X.w X.K X.mg X.base CX k f fd ps sp) (hr : Room (k + 1) X.A) (hs : PySem.W.findIn X.K (.ref C) "__len__" = some (some (.ref f))) (hf : PySem.W.isFn X.K (.ref f) = true) (hb : Binds X.K fd ps []) (hx : Passes CX X E) :
    CallR X (.builtin "len") (fun xs H Q => ∃ a dx fs, xs = [.ref a] ∧ H a = some (.ins C dx fs) ∧ sp [.ref a] H (fun v H' => ∃ n : Nat, v = .int n ∧ n < 4611686018427387904 ∧ Q (.int n) H') E) := by
  intro pins s σ H xs us Q I r h
  obtain ⟨a, dx, fs, rfl, ha, hq⟩ := h
  obtain ⟨u, rfl, r1⟩ := vals1 r
  cases r1
  obtain ⟨mA, O, _⟩ := ins_get I.hok ha
  obtain ⟨od, J, _⟩ := O.look
  obtain ⟨mm, hF⟩ := I.fr
  have hl := F.len _ _ _ _ hq
  refine PySem.W.len_K hF I.ok.mod.kin J hs hf ?_
  refine wpAny_call (codeAny_mono (F.run X.A.in1 X.stack s H ⟨[.ref a], []⟩ [.ref a] [.ref a] _ E hr.in1 I.env0.in1 (by
    have := hb s [.ref a] I.kIn (by simpa using hl)
    simpa using this) (.cons rfl .nil) hq) fun r s' hq => ?_)
  cases r with
  | error e => exact hx pins σ H s e s' I hq
  | ok fl =>
    cases fl with
    | ret w =>
      obtain ⟨z, H', I', rz, n, ez, hn, q⟩ := I.after hq
      subst ez
      obtain ⟨tk, rfl⟩ := rz
      exact ⟨⟨by omega, by omega⟩, .int n, H', I'.tok _, ⟨_, rfl⟩, q⟩
    | next => exact False.elim hq
    | brk => exact False.elim hq
    | cont => exact False.elim hq
theorem notNI {v : V} {u : Value} {Q : Value → Shared → Prop} {s : Shared} (r : RelV v u) (q : Q u s) : PySem.W.CmpBack Q u s := by
  cases v with
  | non => cases r; exact q
  | bl b => cases r; exact q
  | int i => obtain ⟨t, rfl⟩ := r; exact q
  | str i => obtain ⟨t, rfl⟩ := r; exact q
  | byt i => obtain ⟨t, rfl⟩ := r; exact q
  | flt i => obtain ⟨t, rfl⟩ := r; exact q
  | ref a => cases r; exact q
  | ty n => cases r; exact q
def rOwn2 (C : Addr) (sp : Sp) (E : XK) : R2 := fun x y H Q => ∃ a b dx dy fs gs, x = .ref a ∧ y = .ref b ∧ H a = some (.ins C dx fs) ∧ H b = some (.ins C dy gs) ∧ sp [.ref a, .ref b] H Q E
theorem op_addO (F : FnOk X.prog X.w X.K X.mg X.base CX k f fd ps sp) (hr : Room k X.A) (hc : PySem.W.selfFirst X.K C = true) (hs : PySem.W.findIn X.K (.ref C) "__add__" = some (some (.ref f))) (hf : PySem.W.isFn X.K (.ref f) = true) (hb : Binds X.K fd ps []) (hx : Passes CX X E) :
    OpR X (binaryOp .Add) (rOwn2 C sp E) := by
  intro pins s σ H x y v u Q I rx ry h
  obtain ⟨a, b, dx, dy, fs, gs, rfl, rfl, ha, hb2, hq⟩ := h
  cases rx
  cases ry
  obtain ⟨mA, J, _⟩ := ins_get I.hok ha
  obtain ⟨mB, J', _⟩ := ins_get I.hok hb2
  obtain ⟨od, J, _⟩ := J.look
  obtain ⟨od', J', _⟩ := J'.look
  obtain ⟨mm, hF⟩ := I.fr
  refine PySem.W.binop_K (op := .Add) hF I.ok.mod.kin J J'.type hc hs hf ?_
  exact thn (run_fn (us := [.ref a, .ref b]) (vs := [.ref a, .ref b]) (dvs := []) (ds := []) F hr hb .nil hx I (.cons rfl (.cons rfl .nil)) hq) fun w s' hw => by
    obtain ⟨z, H', I', rz, q⟩ := hw
    exact notNI rz ⟨z, H', I', rz, q⟩
theorem op_eqO (F : FnOk X.prog X.w X.K X.mg X.base CX k f fd ps sp) (hr : Room k X.A) (hs : PySem.W.findIn X.K (.ref C) "__eq__" = some (some (.ref f))) (hf : PySem.W.isFn X.K (.ref f) = true) (hb : Binds X.K fd ps []) (hx : Passes CX X E) :
    OpR X (compareOp .Eq) (rOwn2 C sp E) := by
  intro pins s σ H x y v u Q I rx ry h
  obtain ⟨a, b, dx, dy, fs, gs, rfl, rfl, ha, hb2, hq⟩ := h
  cases rx
  cases ry
  obtain ⟨mA, J, _⟩ := ins_get I.hok ha
  obtain ⟨mB, J', _⟩ := ins_get I.hok hb2
  obtain ⟨od, J, _⟩ := J.look
  obtain ⟨od', J', _⟩ := J'.look
  obtain ⟨mm, hF⟩ := I.fr
  show wpAny (model X.prog X.w) X.A (richCompare .Eq (.ref a) (.ref b)) (EP X pins σ Q) X.xe s
  refine PySem.W.cmp_K (op := .Eq) (tb := .ref C) hr.units0 hF I.ok.mod.kin J J'.type (by simp [PySem.W.notFirst]) hs hf ?_
  exact thn (run_fn (us := [.ref a, .ref b]) (vs := [.ref a, .ref b]) (dvs := []) (ds := []) F hr hb .nil hx I (.cons rfl (.cons rfl .nil)) hq) fun w s' hw => by
    obtain ⟨z, H', I', rz, q⟩ := hw
    exact notNI rz ⟨z, H', I', rz, q⟩
/-- C.m is a static method: its record at p, its def at g -/
structure SMet (K : PySem.W.Frag) (C : Addr) (mc : Value) (m : Str) (p g : Addr) : Prop where
  at_ : PySem.W.findCls K (.ref C) mc m = some (.get (.builtin "staticmethod.__get__") (.ref p) .none (.ref C))
  rc : ∃ rest, PySem.W.recIn K p "staticmethod" = some (.ref g :: rest)
def tSMeth (C : Addr) (sp : Sp) (dvs : List V) (E : XK) (ta : TE) (t : TA) : TE := fun σ H Q => ta σ H fun x H1 => x = .ref C ∧ t σ H1 fun vs H2 => sp (vs ++ dvs) H2 Q E
theorem pe_smeth (he : PE X o ta) (r : CRead X.K C mc) (c : SMet X.K C mc m p f) (F : FnOk X.prog X.w X.K X.mg X.base CX k f fd ps sp) (hr : Room k X.A) (hk : PySem.W.keepIn X.K (.ref f) = true) (hb : Binds X.K fd ps ds) (hd : Vals dvs ds) (hx : Passes CX X E) (ha : PA X (e :: es) t)
    (hst : starEach (e :: es) X.env = (false, eval e X.env) :: starEach es X.env := by rfl) (hpl : (backTo pos (starEach es X.env)).any (·.1) = false := by rfl)
    (ht : eval (.Call (.Attribute o m apos) (e :: es) [] pos) X.env = (do
      let ov ← eval o X.env
      standAt apos.atName
      let (f, first) ← holding [ov] (getMethod ov m pl)
      callWith pos f first (backTo pos (starEach (e :: es) X.env)) (backToKw pos (keywordEach [] X.env))) := by rfl) :
    PE X (.Call (.Attribute o m apos) (e :: es) [] pos) (tSMeth C sp dvs E ta t) := by
  refine ⟨fun pins s σ H Q I h => ?_⟩
  refine PySem.W.methodCall_KW (pl := pl) (thn (he.run pins s σ H _ I h) fun u s1 ⟨x, H1, I1, rx, ex, q⟩ => ?_) ht
  subst ex
  obtain rfl : u = Value.ref C := rx
  obtain ⟨rest, hp⟩ := c.rc
  refine PySem.W.method_cls I1.kIn r.ga ?_
  refine PySem.W.cls_bind I1.kIn r.rd c.at_ ?_
  refine wpAny_call (PySem.W.sm_get (s := { s1 with toks := s1.toks + 1 }) I1.kIn hp ?_)
  refine PySem.W.handed_on rfl ?_
  refine PySem.W.callWith_K (h₀ := X.base) I.ok.mod.kin hk (thn (ha.run pos pins _ σ H1 _ (I1.tok _) q) fun us s2 ⟨vs, H2, I2, r2, q2⟩ => ⟨I2.kIn, ?_⟩) hst hpl
  exact run_fn F hr hb hd hx I2 r2 q2
def tMakeS (K : PySem.W.Frag) (C : Addr) (sp : Sp) (E : XK) (te : TE) : TE := fun σ H Q => te σ H fun y H1 => ∃ a xs, y = V.ref a ∧ (SqT K H1 a xs ∨ SqL K H1 a xs) ∧
  ∀ x dx, H1 x = Option.none → H1 dx = Option.none → dx ≠ x → sp (V.ref x :: xs) (upd (upd H1 dx (.own x)) x (.ins C dx [])) (fun v H2 => v = .non ∧ Q (.ref x) H2) E
theorem pe_makeS {sp_ : Pos} (M : Mk X.K C f) (F : FnR X.prog X.w X.K X.mg X.base CX k f sp) (hr : Room (k + 1) X.A) (hg : Gl X x) (hm : X.mg x = some (.ref C)) (hx : Passes CX X E) (he : PE X e te) (hdb : (x == ("__debug__" : Str)) = false := by decide)
    (hst : starEach [.Starred e sp_] X.env = [(true, eval e X.env)] := by rfl) : PE X (.Call (.Name x pn) [.Starred e sp_] [] pos) (tMakeS X.K C sp E te) := by
  refine ⟨fun pins s σ H Q I h => ?_⟩
  refine wpAny_Call_Name_kw (ld_glob I hg hm ?_ hdb)
  refine PySem.W.callWith_S (h₀ := X.base) I.ok.mod.kin M.kp (thn (he.run pins s σ H _ I h) fun v s1 ⟨y, H1, I1, ry, a, xs, ey, hxs, q⟩ => ?_) hst
  subst ey
  obtain rfl : v = Value.ref a := ry
  exact star_any I1 hxs fun us s2 I2 rv => ⟨I2.kIn, run_makeR M F hr hx I2 rv q⟩
/-- sum(t) of a tuple of ints -/
def rSumT (K : PySem.W.Frag) : List V → Hp → VK → Prop := fun vs H Q => ∃ (a : Addr) (ns : List Int), vs = [V.ref a] ∧ SqT K H a (ns.map V.int) ∧ Q (.int ns.sum) H
theorem cr_sumT (hc : X.calm = true) : CallR X (.builtin "sum") (rSumT X.K) := by
  intro pins s σ H vs us Q I r h
  obtain ⟨a, ns, rfl, hs, q⟩ := h
  obtain ⟨its, rv, hl, _⟩ := I.tuple hs
  rw [Vals.ref1 r]
  have hi := rv.ints
  obtain ⟨xs, e⟩ := hi.allInts.items
  have hn : numsOf (intItems xs).toList = ns := by rw [← e]; exact hi.numsOf
  rw [nums_intItems] at hn
  rw [e] at hl
  refine PySem.W.ktm_sumG (I.ok.hd hc) hl fun h' tk t' hk => ?_
  rw [preSum_eq, List.take_of_length_le (by simp), hn]
  exact ⟨.int _, H, I.kept hk, ⟨_, rfl⟩, q⟩
/-! rules that say a new tuple by what can be read of it -/
def rSlE (K : PySem.W.Frag) : V → Option Int → Option Int → Hp → VK → Prop := fun x lo hi H Q => ∃ a xs, x = .ref a ∧ SqT K H a xs ∧ ∀ p H', SqT K H' p (cutV xs lo hi) → Same H H' → Q (.ref p) H'
theorem sl_tupE : SlR X (rSlE X.K) := by
  intro pins s σ H x v vl vu lo hi sl Q I rx hs pl pu h
  refine sl_tupA pins s σ H x v vl vu lo hi sl Q I rx hs pl pu ?_
  obtain ⟨a, xs, e, ha, q⟩ := h
  refine ⟨a, xs, e, ha, fun hw => ?_, fun _ p hp => ?_⟩
  · refine q a H ?_ (Same.refl H)
    obtain ⟨h1, h2⟩ := hw
    unfold cutV
    rw [h1, h2, Nat.sub_zero, List.drop_zero, List.take_length]
    exact ha
  · exact q p _ (SqT.of upd_same) (Same.upd hp)
def rCatE (K : PySem.W.Frag) : R2 := fun x y H Q => ∃ a b xs ys, x = .ref a ∧ y = .ref b ∧ SqT K H a xs ∧ SqT K H b ys ∧ xs.length + ys.length ≤ 10000 ∧ ∀ p H', SqT K H' p (xs ++ ys) → Same H H' → Q (.ref p) H'
theorem op_catE : OpR X (binaryOp .Add) (rCatE X.K) := by
  intro pins s σ H x y v u Q I rx ry h
  refine op_catA pins s σ H x y v u Q I rx ry ?_
  obtain ⟨a, b, xs, ys, e1, e2, ha, hb, hl, q⟩ := h
  refine ⟨a, b, xs, ys, e1, e2, ha, hb, Nat.le_trans hl (by decide), fun h1 => ?_, fun _ h2 => ?_, fun _ _ p hp => ?_⟩
  · exact q b H (by rw [h1]; exact hb) (Same.refl H)
  · exact q a H (by rw [h2, List.append_nil]; exact ha) (Same.refl H)
  · exact q p _ (SqT.of upd_same) (Same.upd hp)
end
/-! ### a class's defs by their names -/
structure ClsC (K : PySem.W.Frag) (mg : Str → Option Value) (x : Str) (C : Addr) : Prop where
  cl : Cls K C
  mg : mg x = some (.ref C)
  ic : C8.InsC K C
  sf : PySem.W.selfFirst K C = true
structure Mn (P : Program) (w : World) (K : PySem.W.Frag) (mg : Str → Option Value) (base : Heap) (C : Addr) (m : Str) (k : Nat) (ps : List Str) (sp : Sp) : Prop where
  ex : ∃ (f : Addr) (fd : FuncData), Meth K C m f ∧ FnOk P w K mg base CX0 k f fd ps sp ∧ Binds K fd ps []
structure Pn (P : Program) (w : World) (K : PySem.W.Frag) (mg : Str → Option Value) (base : Heap) (C : Addr) (m : Str) (k : Nat) (sp : Sp) : Prop where
  ex : ∃ (p g : Addr) (fd : FuncData), PropOf K C m p g ∧ FnOk P w K mg base CX0 k g fd ["self"] sp ∧ Binds K fd ["self"] []
structure Sn (P : Program) (w : World) (K : PySem.W.Frag) (mg : Str → Option Value) (base : Heap) (C : Addr) (m : Str) (k : Nat) (ps : List Str) (sp : Sp) : Prop where
  ex : ∃ (p f : Addr) (fd : FuncData) (mc : Value), CRead K C mc ∧ SMet K C mc m p f ∧ FnOk P w K mg base CX0 k f fd ps sp ∧ PySem.W.keepIn K (.ref f) = true ∧ Binds K fd ps []
structure Cn (P : Program) (w : World) (K : PySem.W.Frag) (mg : Str → Option Value) (base : Heap) (C : Addr) (k : Nat) (sp : Sp) : Prop where
  ex : ∃ (f : Addr), Mk K C f ∧ FnR P w K mg base CX0 k f sp
structure On (P : Program) (w : World) (K : PySem.W.Frag) (mg : Str → Option Value) (base : Heap) (C : Addr) (m : Str) (k : Nat) (ps : List Str) (sp : Sp) : Prop where
  ex : ∃ (f : Addr) (fd : FuncData), PySem.W.findIn K (.ref C) m = some (some (.ref f)) ∧ PySem.W.isFn K (.ref f) = true ∧ FnOk P w K mg base CX0 k f fd ps sp ∧ Binds K fd ps []
section
variable {X : Cx} {k : Nat} {C : Addr} {ps : List Str} {sp : Sp} {E : XK} {x m : Str} {pn pos apos : Pos} {e o : Expr} {es : List Expr} {te ta : TE} {t : TA} {pl : Sem Bool}
theorem pe_cls (c : ClsC X.K X.mg x C) (hg : Gl X x) (hd : (x == ("__debug__" : Str)) = false := by decide) : PE X (.Name x pos) (tC (.ref C)) := pe_glob (v := .ref C) hg c.mg rfl hd
theorem pe_mn (D : Mn X.prog X.w X.K X.mg X.base C m k ps sp) (cl : Cls X.K C) (hr : Room k X.A) (hx : Passes CX0 X E) (he : PE X o ta) (ha : PA X (e :: es) t)
    (hst : starEach (e :: es) X.env = (false, eval e X.env) :: starEach es X.env := by rfl) (hpl : (backTo pos (starEach es X.env)).any (·.1) = false := by rfl)
    (ht : eval (.Call (.Attribute o m apos) (e :: es) [] pos) X.env = (do
      let ov ← eval o X.env
      standAt apos.atName
      let (f, first) ← holding [ov] (getMethod ov m pl)
      callWith pos f first (backTo pos (starEach (e :: es) X.env)) (backToKw pos (keywordEach [] X.env))) := by rfl) :
    PE X (.Call (.Attribute o m apos) (e :: es) [] pos) (tMeth C m sp [] E ta t) := by
  obtain ⟨f, fd, M, F, b⟩ := D.ex
  exact pe_meth (pl := pl) he cl M F hr b .nil hx ha hst hpl ht
theorem pe_mn0 (D : Mn X.prog X.w X.K X.mg X.base C m k ps sp) (cl : Cls X.K C) (hr : Room k X.A) (hx : Passes CX0 X E) (he : PE X o ta)
    (ht : eval (.Call (.Attribute o m apos) [] [] pos) X.env = (do
      let ov ← eval o X.env
      standAt apos.atName
      let (f, first) ← holding [ov] (getMethod ov m pl)
      callWith pos f first (backTo pos (starEach [] X.env)) (backToKw pos (keywordEach [] X.env))) := by rfl) :
    PE X (.Call (.Attribute o m apos) [] [] pos) (tMeth C m sp [] E ta tNil) := by
  obtain ⟨f, fd, M, F, b⟩ := D.ex
  exact pe_meth0 (pl := pl) he cl M F hr b .nil hx ht
theorem pe_pn (D : Pn X.prog X.w X.K X.mg X.base C m k sp) (cl : Cls X.K C) (hr : Room (k + 1) X.A) (he : PE X o ta) (hab : attributeBase o m X.env (eval o X.env) = eval o X.env := by rfl) : PE X (.Attribute o m pos) (tProp C sp [] E0 ta) := by
  obtain ⟨p, g, fd, hp, F, b⟩ := D.ex
  exact pe_prop he cl hp F hr b .nil pass0 hab
theorem pe_sn (D : Sn X.prog X.w X.K X.mg X.base C m k ps sp) (hr : Room k X.A) (hx : Passes CX0 X E) (he : PE X o ta) (ha : PA X (e :: es) t)
    (hst : starEach (e :: es) X.env = (false, eval e X.env) :: starEach es X.env := by rfl) (hpl : (backTo pos (starEach es X.env)).any (·.1) = false := by rfl)
    (ht : eval (.Call (.Attribute o m apos) (e :: es) [] pos) X.env = (do
      let ov ← eval o X.env
      standAt apos.atName
      let (f, first) ← holding [ov] (getMethod ov m pl)
      callWith pos f first (backTo pos (starEach (e :: es) X.env)) (backToKw pos (keywordEach [] X.env))) := by rfl) :
    PE X (.Call (.Attribute o m apos) (e :: es) [] pos) (tSMeth C sp [] E ta t) := by
  obtain ⟨p, f, fd, mc, r, c, F, kp, b⟩ := D.ex
  exact pe_smeth (pl := pl) he r c F hr kp b .nil hx ha hst hpl ht
theorem pe_mkR (D : Cn X.prog X.w X.K X.mg X.base C k sp) (hr : Room (k + 1) X.A) (hg : Gl X x) (hm : X.mg x = some (.ref C)) (hx : Passes CX0 X E) (ha : PA X (e :: es) t) (hdb : (x == ("__debug__" : Str)) = false := by decide)
    (he : starEach (e :: es) X.env = (false, eval e X.env) :: starEach es X.env := by rfl) (hpl : (backTo pos (starEach es X.env)).any (·.1) = false := by rfl) : PE X (.Call (.Name x pn) (e :: es) [] pos) (tMakeR C sp E t) := by
  obtain ⟨f, M, F⟩ := D.ex
  exact pe_makeR M F hr hg hm hx ha hdb he hpl
theorem pe_mkS {sp_ : Pos} (D : Cn X.prog X.w X.K X.mg X.base C k sp) (hr : Room (k + 1) X.A) (hg : Gl X x) (hm : X.mg x = some (.ref C)) (hx : Passes CX0 X E) (he : PE X e te) (hdb : (x == ("__debug__" : Str)) = false := by decide)
    (hst : starEach [.Starred e sp_] X.env = [(true, eval e X.env)] := by rfl) : PE X (.Call (.Name x pn) [.Starred e sp_] [] pos) (tMakeS X.K C sp E te) := by
  obtain ⟨f, M, F⟩ := D.ex
  exact pe_makeS M F hr hg hm hx he hdb hst
theorem op_addN (D : On X.prog X.w X.K X.mg X.base C "__add__" k ps sp) (c : ClsC X.K X.mg x C) (hr : Room k X.A) : OpR X (binaryOp .Add) (rOwn2 C sp E0) := by
  obtain ⟨f, fd, a, i, F, b⟩ := D.ex
  exact op_addO F hr c.sf a i b pass0
theorem op_eqN (D : On X.prog X.w X.K X.mg X.base C "__eq__" k ps sp) (hr : Room k X.A) : OpR X (compareOp .Eq) (rOwn2 C sp E0) := by
  obtain ⟨f, fd, a, i, F, b⟩ := D.ex
  exact op_eqO F hr a i b pass0
def rLenO (C : Addr) (sp : Sp) : List V → Hp → VK → Prop := fun xs H Q => ∃ a dx fs, xs = [.ref a] ∧ H a = some (.ins C dx fs) ∧ sp [.ref a] H (fun v H' => ∃ n : Nat, v = .int n ∧ n < 4611686018427387904 ∧ Q (.int n) H') E0
theorem call_lenN (D : On X.prog X.w X.K X.mg X.base C "__len__" k ps sp) (hr : Room (k + 1) X.A) : CallR X (.builtin "len") (rLenO C sp) := by
  obtain ⟨f, fd, a, i, F, b⟩ := D.ex
  exact call_lenO F hr a i b pass0
/-! a range kept as a value, walked -/
def iRngV (tl : TE) : TI := fun σ H R => tl σ H fun x H1 => ∃ a lo hi, x = .ref a ∧ H1 a = some (.rng lo hi) ∧ (-(2 ^ 62) ≤ lo ∧ lo < 2 ^ 62 ∧ -(2 ^ 62) ≤ hi ∧ hi < 2 ^ 62) ∧ R (Itr lo (hi - lo).toNat) H1
theorem pi_rng {tg l : Expr} {tl : TE} (hl : PE X l tl) : PI X tg l (iRngV tl) := by
  refine ⟨fun pins s σ H R I h => ?_⟩
  refine thn (hl.run pins s σ H _ I h) fun v s1 ⟨x, H1, I1, r1, q1⟩ => ?_
  obtain ⟨a, lo, hi, e, ha, ⟨h1, h2, h3, h4⟩, q⟩ := q1
  subst e
  cases r1
  obtain ⟨t, u, w', hg⟩ := I1.hok a _ ha
  refine wpAny_pyIter_range (show IsRange _ _ _ _ _ _ _ _ from hg) (small_one h1 h2 h3 h4) ?_
  refine ⟨s1.heap.objs.size, [s1.heap.objs.size], _, _, H1, rfl, I1.kept (t' := s1.toks) fun b o e => Heap.get?_push_of_some _ e, turn_range _ lo (hi - lo).toNat, ?_, fun b hb => ?_, q⟩
  · have e1 : lo + ((0 : Nat) : Int) * 1 = lo := by simp
    have e2 : (((hi - lo).toNat : Nat) : Int) - ((0 : Nat) : Int) = Builtin.Range.rangeSize lo hi 1 := by rw [rangeSize_one]; split <;> omega
    show IsRangeIter _ _ (lo + ((0 : Nat) : Int) * 1) ((((hi - lo).toNat : Nat) : Int) - ((0 : Nat) : Int)) 1
    rw [e1, e2]
    exact Heap.get?_push_size _ rfl
  · have e : b = s1.heap.objs.size := by simpa using hb
    subst e
    exact I1.fpOk (Nat.le_refl _) (I1.hok.fresh (Nat.le_refl _))
/-! the rules that name the written part, with its name given (for the element of a comprehension) -/
theorem ix_listK (K : PySem.W.Frag) (h : X.K = K := by rfl) : IxR X (rIxL K) := h ▸ ix_list
theorem ix_tupK (K : PySem.W.Frag) (h : X.K = K := by rfl) : IxR X (rIxT K) := h ▸ ix_tup
def rLenK (K : PySem.W.Frag) : List V → Hp → VK → Prop := fun xs H Q => ∃ p ys, xs = [.ref p] ∧ (SqL K H p ys ∨ SqT K H p ys) ∧ Q (.int ys.length) H
theorem call_lenK (K : PySem.W.Frag) (h : X.K = K := by rfl) : CallR X (.builtin "len") (rLenK K) := h ▸ call_len_seq
theorem cr_sumK (K : PySem.W.Frag) (hc : X.calm = true) (h : X.K = K := by rfl) : CallR X (.builtin "sum") (rSum K) := h ▸ cr_sum hc
theorem cr_minK (K : PySem.W.Frag) (hc : X.calm = true) (h : X.K = K := by rfl) : CallR X (.builtin "min") (rMin K) := h ▸ cr_min hc
theorem call_isiK (K : PySem.W.Frag) (h : X.K = K := by rfl) : CallR X (.builtin "isinstance") (rIsi K) := h ▸ call_isi
theorem op_eqDK (K : PySem.W.Frag) (hu : X.A.units + 64 < cLine) (h : X.K = K := by rfl) : OpR X (compareOp .Eq) (rEqD K) := h ▸ op_eqD hu
def rIsqrt : List V → Hp → VK → Prop := fun vs H Q => ∃ a : Int, vs = [.int a] ∧ 0 ≤ a ∧ a < 2 ^ 64 ∧ ∀ r : Nat, r * r ≤ a.toNat → a.toNat < (r + 1) * (r + 1) → Q (.int (r : Int)) H
theorem cr_isqrt : CallR X (.builtin "math.isqrt") rIsqrt := by
  intro pins s σ H vs us Q I r h
  obtain ⟨a, rfl, h0, h1, q⟩ := h
  obtain ⟨u, rfl, t, rfl⟩ := Vals.one r
  have sp := PySem.Float64.isqrt_spec a.toNat
  exact PySem.W.mg_isqrt h0 h1 ⟨.int _, H, I.tok _, ⟨_, rfl⟩, q _ sp.1 sp.2⟩
theorem sl_listK (K : PySem.W.Frag) (h : X.K = K := by rfl) : SlR X (rSlL K) := h ▸ sl_list
theorem pe_fldK (K : PySem.W.Frag) {f : Str} (he : PE X e ta) (hb : attributeBase e f X.env (eval e X.env) = eval e X.env) (h : X.K = K := by rfl) : PE X (.Attribute e f pos) (tFld K ta f) := h ▸ pe_fld he hb
end
/-! ### what the top has written of a class -/
structure AtC (K : PySem.W.Frag) (x : Str) (C : Addr) : Prop where
  at_ : PySem.W.nsIn K mainGlobals x = some (some (.ref C))
  cl : Cls K C
  ic : C8.InsC K C
  sf : PySem.W.selfFirst K C = true
  made : PySem.W.makesIn K C = true
  kp : PySem.W.keepIn K (.ref C) = true
theorem atC {K : PySem.W.Frag} {x : Str} {C : Addr} (a : PySem.W.nsIn K mainGlobals x = some (some (.ref C))) (pg : PySem.W.plainGet K C Str.empty = true) (hd : PySem.W.hasDictIn K C = true) (po : PySem.W.plainOver K C = true) (sa : PySem.W.findIn K (.ref C) "__setattr__" = some (some (.builtin "object.__setattr__")))
    (ha : PySem.W.findIn K (.ref C) "__class__" = some (some (.builtin "object.__class__"))) (hn : PySem.W.specialIn K (.builtin "object.__class__") "__get__" = some (some (.builtin "getset_descriptor.__get__"))) (htk : PySem.W.takesIn K (.builtin "object.__class__") = some true)
    (hm : PySem.W.mroIn K C (.type "object") = some true) (sf : PySem.W.selfFirst K C = true) (mk : PySem.W.makesIn K C = true) (kp : PySem.W.keepIn K (.ref C) = true) : AtC K x C :=
  ⟨a, ⟨pg, hd, po, sa⟩, ⟨⟨pg, hd, po, sa⟩, ha, hn, htk, hm, by unfold PySem.W.kitOne; simp⟩, sf, mk, kp⟩
structure AtCls (K : PySem.W.Frag) (C : Addr) (m qual : Str) (st : Stmt) : Prop where
  ex : ∃ (f : Addr) (fd : FuncData), PySem.W.findIn K (.ref C) m = some (some (.ref f)) ∧ PySem.W.isFn K (.ref f) = true ∧ Fun K m qual st f fd
theorem atCls {K : PySem.W.Frag} {C f : Addr} {m qual : Str} {st : Stmt} {oc : Value} {od an : Option Addr} {osl : Array (Option Value)} {kV doc pm cdv ct : Value} (a : PySem.W.findIn K (.ref C) m = some (some (.ref f))) (i : PySem.W.isFn K (.ref f) = true)
    (l : K.lookup f = some ⟨oc, od, .func (PySem.W.fnOf m qual (defArgs st) (defBody st) (defScope st) .none kV doc pm an cdv ct), osl⟩) (c : PySem.W.codeIn K cdv qual = true) (p : PySem.W.keepIn K (.ref f) = true) : AtCls K C m qual st :=
  ⟨f, _, a, i, fun_mk l c p⟩
structure AtProp (K : PySem.W.Frag) (C : Addr) (m qual : Str) (st : Stmt) : Prop where
  ex : ∃ (p g : Addr) (fd : FuncData), PropOf K C m p g ∧ Fun K m qual st g fd
theorem atProp {K : PySem.W.Frag} {C p g : Addr} {m qual : Str} {st : Stmt} {oc : Value} {od an : Option Addr} {osl : Array (Option Value)} {kV doc pm cdv ct : Value} {rest : List Value} (a : PySem.W.findIn K (.ref C) m = some (some (.ref p))) (gt : PySem.W.specialIn K (.ref p) "__get__" = some (some (.builtin "property.__get__")))
    (tk : PySem.W.takesIn K (.ref p) = some true) (rc : PySem.W.recIn K p "property" = some (.ref g :: rest))
    (l : K.lookup g = some ⟨oc, od, .func (PySem.W.fnOf m qual (defArgs st) (defBody st) (defScope st) .none kV doc pm an cdv ct), osl⟩) (c : PySem.W.codeIn K cdv qual = true) (kp : PySem.W.keepIn K (.ref g) = true) : AtProp K C m qual st :=
  ⟨p, g, _, ⟨a, gt, tk, _, rc⟩, fun_mk l c kp⟩
structure AtStat (K : PySem.W.Frag) (C : Addr) (m qual : Str) (st : Stmt) : Prop where
  ex : ∃ (p g : Addr) (fd : FuncData) (mc : Value), CRead K C mc ∧ SMet K C mc m p g ∧ Fun K m qual st g fd
theorem atStat {K : PySem.W.Frag} {C p g : Addr} {m qual : Str} {st : Stmt} {oc mc : Value} {od an : Option Addr} {osl : Array (Option Value)} {kV doc pm cdv ct : Value} {rest : List Value} (_ty : PySem.W.typeIn K (.ref C) = some mc) (rd : PySem.W.readsIn K C mc = true)
    (ga : PySem.W.specialIn K (.ref C) "__getattribute__" = some (some (.builtin "type.__getattribute__"))) (fc : PySem.W.findCls K (.ref C) mc m = some (.get (.builtin "staticmethod.__get__") (.ref p) .none (.ref C))) (rc : PySem.W.recIn K p "staticmethod" = some (.ref g :: rest))
    (l : K.lookup g = some ⟨oc, od, .func (PySem.W.fnOf m qual (defArgs st) (defBody st) (defScope st) .none kV doc pm an cdv ct), osl⟩) (c : PySem.W.codeIn K cdv qual = true) (kp : PySem.W.keepIn K (.ref g) = true) : AtStat K C m qual st :=
  ⟨p, g, _, mc, ⟨rd, ga⟩, ⟨fc, _, rc⟩, fun_mk l c kp⟩
theorem cvAt {K : PySem.W.Frag} {C : Addr} {m : Str} {v : V} {mc u : Value} (_ty : PySem.W.typeIn K (.ref C) = some mc) (rd : PySem.W.readsIn K C mc = true)
    (ga : PySem.W.specialIn K (.ref C) "__getattribute__" = some (some (.builtin "type.__getattribute__"))) (fc : PySem.W.findCls K (.ref C) mc m = some (.val u)) (r : RelV v u) : ∃ mc u, CRead K C mc ∧ CVal K C mc m v u := ⟨mc, u, ⟨rd, ga⟩, ⟨fc, r⟩⟩
section
variable {P : Program} {w : World} {K : PySem.W.Frag} {mg : Str → Option Value} {base : Heap} {C : Addr} {x m qual : Str} {st : Stmt} {ps : List Str} {k : Nat} {sp : Sp} {h : Heap}
theorem AtC.cc (t : AtC K x C) (X : K.In h) (G : h.Ns mainGlobals mg) : ClsC K mg x C := ⟨t.cl, PySem.W.mg_of X G t.at_, t.ic, t.sf⟩
abbrev Bd (m qual : Str) (st : Stmt) (ps : List Str) : Prop := ∀ (kV doc pm : Value) (an : Option Addr) (cdv ct : Value) (us : List Value), us.length = ps.length → bindArgs (PySem.W.fnOf m qual (defArgs st) (defBody st) (defScope st) .none kV doc pm an cdv ct) ⟨us, []⟩ = pure (ps.zip us)
theorem AtCls.mn (t : AtCls K C m qual st) (hb : Bd m qual st ps) (ok : ∀ (f : Addr) (fd : FuncData), Fun K m qual st f fd → FnOk P w K mg base CX0 k f fd ps sp) : Mn P w K mg base C m k ps sp := by
  obtain ⟨f, fd, a, i, F⟩ := t.ex
  exact ⟨f, fd, ⟨a, i, F.kp⟩, ok f fd F, F.binds hb⟩
theorem AtCls.on (t : AtCls K C m qual st) (hb : Bd m qual st ps) (ok : ∀ (f : Addr) (fd : FuncData), Fun K m qual st f fd → FnOk P w K mg base CX0 k f fd ps sp) : On P w K mg base C m k ps sp := by
  obtain ⟨f, fd, a, i, F⟩ := t.ex
  exact ⟨f, fd, a, i, ok f fd F, F.binds hb⟩
theorem AtCls.cn (t : AtCls K C "__init__" qual st) (c : AtC K x C) (ok : ∀ (f : Addr) (fd : FuncData), Fun K "__init__" qual st f fd → FnR P w K mg base CX0 k f sp) : Cn P w K mg base C k sp := by
  obtain ⟨f, fd, a, i, F⟩ := t.ex
  exact ⟨f, ⟨c.made, a, i, c.kp⟩, ok f fd F⟩
theorem AtProp.pn (t : AtProp K C m qual st) (hb : Bd m qual st ["self"]) (ok : ∀ (f : Addr) (fd : FuncData), Fun K m qual st f fd → FnOk P w K mg base CX0 k f fd ["self"] sp) : Pn P w K mg base C m k sp := by
  obtain ⟨p, g, fd, a, F⟩ := t.ex
  exact ⟨p, g, fd, a, ok g fd F, F.binds hb⟩
theorem AtStat.sn (t : AtStat K C m qual st) (hb : Bd m qual st ps) (ok : ∀ (f : Addr) (fd : FuncData), Fun K m qual st f fd → FnOk P w K mg base CX0 k f fd ps sp) : Sn P w K mg base C m k ps sp := by
  obtain ⟨p, g, fd, mc, r, c, F⟩ := t.ex
  exact ⟨p, g, fd, mc, r, c, ok g fd F, F.kp, F.binds hb⟩
end
end Cl

/-! ### texts of 0 and 1, enumerate(text), text * int -/
namespace Cl
open PySem PySem.Spec PyProof.Rows L2 PySem.Builtin PySem.Builtin.Str
def bt (b : Bool) : Nat := if b then 49 else 48
def tx (l : List Bool) : Str := ⟨(l.map bt).toArray⟩
theorem str_ext {a b : Str} (h : a.cps.toList = b.cps.toList) : a = b := Str.ext' (Array.toList_inj.mp h)
theorem tx_lst (l : List Bool) : (tx l).cps.toList = l.map bt := by simp [tx]
theorem tx_len (l : List Bool) : (tx l).length = l.length := by simp [tx, Str.length]
theorem tx_size (l : List Bool) : (tx l).cps.size = l.length := by simp [tx]
theorem tx_app (a b : List Bool) : tx a ++ tx b = tx (a ++ b) := by
  apply str_ext
  show ((tx a).cps ++ (tx b).cps).toList = _
  rw [Array.toList_append, tx_lst, tx_lst, tx_lst, List.map_append]
theorem bt_inj {a b : Bool} (h : bt a = bt b) : a = b := by
  cases a <;> cases b <;> first | rfl | (simp [bt] at h)
theorem map_bt_inj : ∀ {a b : List Bool}, a.map bt = b.map bt → a = b
  | [], [], _ => rfl
  | [], _ :: _, h => by simp at h
  | _ :: _, [], h => by simp at h
  | x :: a, y :: b, h => by
    rw [List.map_cons, List.map_cons] at h
    injection h with h1 h2
    rw [bt_inj h1, map_bt_inj h2]
theorem tx_inj {a b : List Bool} (h : tx a = tx b) : a = b := map_bt_inj (by rw [← tx_lst, ← tx_lst, h])
theorem t1 : Str.ofString "1" = tx [true] := by decide +kernel
theorem t0 : Str.ofString "0" = tx [false] := by decide +kernel
theorem t01 : Str.ofString "01" = tx [false, true] := by decide +kernel
theorem te : Str.ofString "" = tx [] := by decide +kernel
theorem tx_one (b : Bool) : tx [b] = ⟨#[bt b]⟩ := rfl
theorem tx_get {l : List Bool} {i : Nat} : (tx l).cps[i]? = l[i]?.map bt := by
  rw [← Array.getElem?_toList, tx_lst, List.getElem?_map]
theorem tx_mul (b : Bool) (n : Int) : Txt.mul (tx [b]) n = tx (List.replicate n.toNat b) := by
  apply str_ext
  rw [tx_one, mul_one_list, tx_lst, List.map_replicate]
theorem tx_mulOk (b : Bool) {n : Int} (h1 : -1000000 ≤ n) (h2 : n ≤ 1000000) : MulOk (tx [b]) n := by
  have hl : (tx [b]).length = 1 := tx_len _
  refine ⟨?_, fun h3 _ => ?_, fun h3 _ => ?_⟩
  · rw [decide_eq_false (by omega), decide_eq_false (by omega)]; rfl
  · rw [hl]
    have : (1 : Int) ≤ (2 ^ 63 - 1) / n := by
      rw [Int.le_ediv_iff_mul_le (by omega)]
      omega
    omega
  · rw [hl]
    have hs : (1000000 : Nat) ≤ sizeLine := by decide
    unfold tooLong
    rw [decide_eq_false (by omega)]
theorem cnt_tx (b : Bool) : ∀ l : List Bool, cnt (bt b) (l.map bt) = (l.count b : Nat)
  | [] => rfl
  | x :: r => by
    rw [List.map_cons, cnt_cons, cnt_tx b r, List.count_cons]
    by_cases h : x = b
    · subst h; simp; omega
    · have h2 : ¬ bt x = bt b := fun e => h (bt_inj e)
      rw [if_neg h2]
      have h3 : (x == b) = false := by simpa using h
      rw [h3]; simp
theorem tx_count (l : List Bool) (b : Bool) : Txt.count (tx l) (tx [b]) = ((l.count b : Nat) : Int) := by
  rw [tx_one, count_cnt, tx_lst, cnt_tx]
/-- without the leading zeros -/
def nrm (l : List Bool) : List Bool := l.dropWhile (! ·)
theorem tx_sub (l : List Bool) (i j : Nat) : strSub (tx l) i j = tx ((l.drop i).take (j - i)) := by
  apply str_ext
  rw [StrLaws.strSub_toList, tx_lst, tx_lst, ← List.map_drop, ← List.map_take]
theorem takeW_len {α β : Type} (f : α → β) (p : β → Bool) (q : α → Bool) (h : ∀ a, p (f a) = q a) : ∀ l : List α, ((l.map f).takeWhile p).length = (l.takeWhile q).length
  | [] => rfl
  | a :: r => by
    rw [List.map_cons, List.takeWhile_cons, List.takeWhile_cons, h a]
    split
    · rw [List.length_cons, List.length_cons, takeW_len f p q h r]
    · rfl
theorem drop_takeW {α : Type} (p : α → Bool) : ∀ l : List α, l.drop (l.takeWhile p).length = l.dropWhile p
  | [] => rfl
  | a :: r => by
    rw [List.takeWhile_cons, List.dropWhile_cons]
    split
    · rw [List.length_cons, List.drop_succ_cons, drop_takeW p r]
    · rfl
theorem has0 (b : Bool) : (tx [false]).cps.contains (bt b) = !b := by cases b <;> decide +kernel
theorem has01 (b : Bool) : (tx [false, true]).cps.contains (bt b) = true := by cases b <;> decide +kernel
theorem tx_lstrip (l : List Bool) : Txt.lstripChars (tx l) (tx [false]) = tx (nrm l) := by
  unfold Txt.lstripChars
  rw [stripBy_eq]
  simp only [stripLo, stripHi, if_true, Bool.false_eq_true, if_false]
  rw [tx_sub, tx_lst, takeW_len bt _ (! ·) has0, drop_takeW, tx_len]
  congr 1
  apply List.take_of_length_le
  have h1 : ((nrm l).length + (l.takeWhile (! ·)).length) = l.length := by
    have := congrArg List.length (List.takeWhile_append_dropWhile (p := fun x : Bool => ! x) (l := l))
    rw [List.length_append] at this
    unfold nrm
    omega
  show (nrm l).length ≤ _
  omega
theorem takeW_all {α : Type} (p : α → Bool) (l : List α) (h : ∀ a ∈ l, p a = true) : l.takeWhile p = l := by
  induction l with
  | nil => rfl
  | cons a r ih => rw [List.takeWhile_cons, if_pos (h a (List.mem_cons_self ..)), ih fun b hb => h b (List.mem_cons_of_mem _ hb)]
theorem tx_strip (l : List Bool) : Txt.stripChars (tx l) (tx [false, true]) = tx [] := by
  unfold Txt.stripChars
  rw [stripBy_eq]
  simp only [stripLo, stripHi, if_true]
  rw [tx_sub]
  congr 1
  apply List.eq_nil_of_length_eq_zero
  rw [List.length_take, List.length_drop, tx_lst, takeW_all (l := l.map bt) _ fun a ha => by
    obtain ⟨b, _, rfl⟩ := List.mem_map.mp ha
    exact has01 b, List.length_map]
  omega
theorem tx_join : ∀ l : List Bool, Txt.join (tx []) (l.map fun b => tx [b]) = tx l := by
  intro l
  show glued (tx []) _ = _
  rw [StrLaws.glued_eq_join]
  induction l with
  | nil => rfl
  | cons b r ih =>
    cases r with
    | nil => rfl
    | cons c r =>
      show tx [b] ++ tx [] ++ Str.join (tx []) ((c :: r).map fun b => tx [b]) = _
      rw [ih, tx_app, tx_app]; rfl
theorem tx_sum (l : List Bool) : ((l.map fun b => tx [b]).map (·.length)).sum = l.length := by
  induction l with
  | nil => rfl
  | cons b r ih => rw [List.map_cons, List.map_cons, List.sum_cons, ih, List.length_cons, tx_len]; simp; omega
section
variable {X : Cx}
def rMulS : R2 := fun x y H Q => ∃ a n, x = .str a ∧ y = .int n ∧ MulOk a n ∧ Q (.str (Txt.mul a n)) H
theorem op_mul_str : OpR X (binaryOp .Mult) rMulS := by
  intro pins s σ H x y v u Q I rx ry h
  obtain ⟨a, n, rfl, rfl, hok, q⟩ := h
  obtain ⟨t, rfl⟩ := rx
  obtain ⟨t', rfl⟩ := ry
  exact SB.mul hok fun t' k => ⟨.str (Txt.mul a n), H, I.tok _, ⟨_, rfl⟩, q⟩
/-- the signs of a text in new pairs -/
def Ites (x : Str) : It :=
  ⟨fun i _ => i < x.cps.size, fun i H v H' => ∃ T c, v = .ref T ∧ H T = none ∧ H' = upd H T (.tup [.int (i : Nat), .str ⟨#[c]⟩]) ∧ x.cps[i]? = some c, fun i _ => x.cps.size ≤ i⟩
theorem turn_enumS {P : Program} {w : World} {K : PySem.W.Frag} {elts : List Expr} {kk : Nat} {tpos : Pos} (x : Str) (t : Tok) (ty : String) (hty : ty = "str_ascii_iterator" ∨ ty = "str_iterator") (e it : Addr) :
    Turn P w K (.Tuple elts kk tpos) (Ites x) [e, it] e (fun i h => (∃ old, IsEnum h e it ((i : Nat) : Int) old) ∧ h.IsStrIter it ty x t i ∧ e ≠ it ∧ i ≤ x.cps.size) where
  mem := by simp
  obj := fun i h st b hb => by
    obtain ⟨⟨old, he⟩, ⟨o, ho, hc, hd⟩, _⟩ := st
    have e' : b = e ∨ b = it := by simpa using hb
    rcases e' with z | z
    · rw [z]; exact ⟨_, he, fun v q => nomatch q⟩
    · rw [z]; exact ⟨o, ho, fun v q => by rw [hd] at q; cases q⟩
  keep := fun i h h' st k => let ⟨⟨old, he⟩, ⟨o, ho, r⟩, hne⟩ := st; ⟨⟨old, k e (by simp) _ he⟩, ⟨o, k it (by simp) o ho, r⟩, hne⟩
  item := by
    intro X hP hw hK hc i pins s σ H E I hf st hg
    subst hP hw hK
    obtain ⟨⟨old, he⟩, hit, hne, hle⟩ := st
    have D : Draws X.prog X.w X.A.in1 it [it] x.cps.size (fun i v => ∃ c u, x.cps[i]? = some c ∧ v = .str ⟨#[c]⟩ u) (fun i h => h.IsStrIter it ty x t i) := by
      rcases hty with z | z
      · rw [z]; exact Draws.strAscii (show X.A.in1.handled = none from I.ok.hd hc) it x t
      · rw [z]; exact Draws.strWide (show X.A.in1.handled = none from I.ok.hd hc) it x t
    have hel : e < s.heap.objs.size := Heap.lt_size he
    have hil : it < s.heap.objs.size := by obtain ⟨_, q, _⟩ := hit; exact Heap.lt_size q
    refine wpAny_pyNext_enum_itemD D he hit hg hne (by simpa using hne) fun y h' tk hP ho hit' hT hsz hk => ?_
    obtain ⟨c, u, hcx, rfl⟩ := hP
    refine ⟨_, rfl, wpAny_letOwnedTupleGo_enum (s := { s with heap := h', toks := tk + 1 }) ho fun h'' he' sb => ?_⟩
    have hT2 : h''.get? s.heap.objs.size = some { cls := .type "tuple", data := .seq #[.int i tk, .str ⟨#[c]⟩ u] } := (sb.2 _ (Nat.ne_of_gt hel)).trans hT
    have new : ObjOk X.prog X.w (upd H s.heap.objs.size (.tup [.int (i : Nat), .str ⟨#[c]⟩])) h'' s.heap.objs.size (.tup [.int (i : Nat), .str ⟨#[c]⟩]) :=
      ⟨by show 2 ≤ sizeLine; decide, [.int i tk, .str ⟨#[c]⟩ u], .cons ⟨_, rfl⟩ (.cons ⟨_, rfl⟩ .nil), ⟨_, hT2, rfl, _, rfl⟩⟩
    have I1 : Inv X pins σ (upd H s.heap.objs.size (.tup [.int (i : Nat), .str ⟨#[c]⟩])) { s with heap := h'', toks := tk + 1 } :=
      I.turnedNew (ch := [e, it]) (fun b ob hb q => (sb.2 b (fun z => hb (by simp [z]))).trans (hk b ob (fun z => hb (by simp [z])) (fun z => hb (by simp [z])) q)) hf (Nat.le_refl _) new
    refine ⟨.ref s.heap.objs.size, _, I1, rfl, ⟨_, c, rfl, I.hok.fresh (Nat.le_refl _), rfl, hcx⟩, ⟨⟨.str ⟨#[c]⟩ u, ?_⟩, ?_, hne, hg⟩, fun b hb => ?_⟩
    · have e1 : ((i + 1 : Nat) : Int) = (i : Int) + 1 := by omega
      rw [e1]; exact he'
    · obtain ⟨o, q, r⟩ := hit'
      exact ⟨o, (sb.2 it (Ne.symm hne)).trans q, r⟩
    · have hb' : b < s.heap.objs.size := by
        have e' : b = e ∨ b = it := by simpa using hb
        rcases e' with z | z
        · rw [z]; exact hel
        · rw [z]; exact hil
      rw [upd_ne (Nat.ne_of_lt hb')]
      exact (hf b hb).1
  done := by
    intro X hP hw hK hc i pins s σ H E I hf st hg
    subst hP hw hK
    obtain ⟨f0, f1, f2, f3, f4, f5⟩ := hf e (by simp)
    obtain ⟨g0, g1, g2, g3, g4, g5⟩ := hf it (by simp)
    obtain ⟨⟨old, he⟩, hit, hne, hle⟩ := st
    obtain rfl : i = x.cps.size := Nat.le_antisymm hle hg
    have D : Draws X.prog X.w X.A.in1 it [it] x.cps.size (fun i v => ∃ c u, x.cps[i]? = some c ∧ v = .str ⟨#[c]⟩ u) (fun i h => h.IsStrIter it ty x t i) := by
      rcases hty with z | z
      · rw [z]; exact Draws.strAscii (show X.A.in1.handled = none from I.ok.hd hc) it x t
      · rw [z]; exact Draws.strWide (show X.A.in1.handled = none from I.ok.hd hc) it x t
    exact wpAny_pyNext_enum_endD D he hit fun h' eb => ⟨rfl, I.turned (t' := s.toks) (fun b o hb q => eb b o hb q) g0 g1 g3 g4 g5⟩
  self := fun A i s Q E st h => let ⟨⟨_, he⟩, _⟩ := st; wpAny_pyIter_enum he h
def iEnumS (ta : TA) : TI := fun σ H R => ta σ H fun vs H1 => ∃ x, vs = [.str x] ∧ R (Ites x) H1
theorem pi_enumS {X : Cx} {e : Expr} {ta : TA} {p pos tpos : Pos} {elts : List Expr} {kk : Nat} (hg : Gl X "enumerate") (hm : X.mg "enumerate" = none) (ha : PA X [e] ta) (hs : starEach [e] X.env = [(false, eval e X.env)] := by rfl) :
    PI X (.Tuple elts kk tpos) (.Call (.Name "enumerate" p) [e] [] pos) (iEnumS ta) := by
  refine ⟨fun pins s σ H R I h => ?_⟩
  refine Call_ (ld_blt I hg hm boot_enumerate (PyProof.Rows.callWith_type1 (thn (ha.run pos pins s σ H _ I h) fun us s1 ⟨vs, H1, I1, r1, q1⟩ => ?_) hs rfl))
  obtain ⟨x, ex, q⟩ := q1
  subst ex
  cases r1 with
  | cons r rr =>
    cases rr
    obtain ⟨t, rfl⟩ := r
    refine call_enumerate_str fun h' he hit hsz hk => wpAny_pyIter_enum he ?_
    have I2 : Inv X pins σ H1 { s1 with heap := h' } := I1.kept (t' := s1.toks) hk
    refine ⟨s1.heap.objs.size + 1, [s1.heap.objs.size + 1, s1.heap.objs.size], _, _, H1, rfl, I2, turn_enumS x t (strIterType x) ?_ (s1.heap.objs.size + 1) s1.heap.objs.size, ⟨⟨.none, he⟩, hit, Nat.succ_ne_self _, Nat.zero_le _⟩, fun b hb => ?_, q⟩
    · unfold strIterType; split <;> simp
    have e' : b = s1.heap.objs.size + 1 ∨ b = s1.heap.objs.size := by simpa using hb
    have hle : s1.heap.objs.size ≤ b := by
      rcases e' with z | z
      · rw [z]; exact Nat.le_add_right _ _
      · rw [z]; exact Nat.le_refl _
    exact I1.fpOk hle (I1.hok.fresh hle)
theorem walk_enumS {x : Str} : Walk (Ites x) x.cps.size (fun _ => True) (YPair (fun i => some (.int (i : Nat))) (fun i => x.cps[i]?.map fun c => .str ⟨#[c]⟩)) := by
  refine ⟨fun i _ hi _ => hi, fun _ _ => Nat.le_refl _, fun i H v H' _ _ y => ?_⟩
  obtain ⟨T, c, h1, h2, h3, h4⟩ := y
  exact ⟨T, .int (i : Nat), .str ⟨#[c]⟩, h1, h2, h3, rfl, by show x.cps[i]?.map _ = _; rw [h4]; rfl⟩
theorem op_in_seqK (K : PySem.W.Frag) (e : X.K = K := by rfl) : OpR X (compareOp .In) (rIn K false) := e ▸ op_in_seq
theorem op_notIn_seqK (K : PySem.W.Frag) (e : X.K = K := by rfl) : OpR X (compareOp .NotIn) (rIn K true) := e ▸ op_notIn_seq
theorem pg_tupK {pos : Pos} {es : List Expr} {k : Nat} {t : TGs} {n : Nat} (K : PySem.W.Frag) (hc : X.calm = true) (h : PGs X es t)
    (hn : (assignEach es X.env).length = n := by rfl) (hst : (assignEach es X.env).findIdx? (·.1) = none := by rfl) (e : X.K = K := by rfl) : PG X (.Tuple es k pos) (gTup K n t) := e ▸ pg_tup hc h hn hst
end
/-- a comprehension over any walk, with a test: its turns may make objects -/
theorem lc_filtW {J : It} {n : Nat} {G : Hp → Prop} {Y : Nat → Hp → V → Hp → Prop} (w : Walk J n G Y) {g : TG} {tt : TT} {te : TE} {vs : List Nat} {σ : L2.St} {H1 : Hp} {D : Addr} {Qd : Hp → Prop} (f : Nat → V) (p : Nat → Bool) (hD : H1 D = none) (hlen : n < 10000) (hG : ∀ H, Same H1 H → G H)
    (hs : ∀ (i : Nat) (x : V) (H H' : Hp) (R : V → Hp → Prop) (R0 : Hp → Prop), i < n → Same H1 H → Y i H x H' → (p i = true → ∀ H2, Same H H2 → R (f i) H2) → (p i = false → ∀ H2, Same H H2 → R0 H2) →
      g x (wipe σ vs) H' fun σ2 H2 => wipe σ2 vs = wipe σ vs ∧ tt σ2 H2 fun b H3 => if b = true then te σ2 H3 R else R0 H3)
    (hd : ∀ H, Same H1 H → H D = some (.lst (((List.range n).filter p).map f)) → Qd H) :
    ∃ W : Nat → Nat → Hp → Prop, (∃ m, W 0 m (upd H1 D (.lst []))) ∧ ∀ i m H, W i m H →
      (J.stop i H ∧ Qd H) ∨ (J.go i H ∧ ∃ Nx : Hp → Prop, (∀ H', Nx H' → ∃ m', m' < m ∧ W (i + 1) m' H') ∧ ∀ x H', J.yld i H x H' → g x (wipe σ vs) H' fun σ2 H2 => wipe σ2 vs = wipe σ vs ∧ tt σ2 H2 fun b H3 =>
        if b = true then te σ2 H3 fun y H4 => ∃ acc, H4 D = some (.lst acc) ∧ acc.length < sizeLine ∧ Nx (upd H4 D (.lst (acc ++ [y]))) else Nx H3) := by
  refine lc_it w (fun i H => Same H1 H ∧ H D = some (.lst (((List.range i).filter p).map f))) ⟨fun b u e => by rw [upd_ne (ne_of_none e hD)]; exact e, upd_same⟩ (fun i H _ h => hG H h.1) ?_ (fun H h => hd H h.1 h.2)
  rintro i x H H' hi ⟨hS, hL⟩ y
  have e1 : (List.range (i + 1)).filter p = (List.range i).filter p ++ (if p i = true then [i] else []) := by
    rw [List.range_succ, List.filter_append, List.filter_cons, List.filter_nil]
  have key := hs i x H H' (fun y H4 => ∃ acc, H4 D = some (.lst acc) ∧ acc.length < sizeLine ∧ (Same H1 (upd H4 D (.lst (acc ++ [y]))) ∧ upd H4 D (.lst (acc ++ [y])) D = some (.lst (((List.range (i + 1)).filter p).map f))))
    (fun H4 => Same H1 H4 ∧ H4 D = some (.lst (((List.range (i + 1)).filter p).map f))) hi hS y (fun hp H2 hS' => ⟨_, hS' _ _ hL, ?_, fun b u e => by rw [upd_ne (ne_of_none e hD)]; exact hS' _ _ (hS _ _ e), ?_⟩) (fun hp H2 hS' => ⟨hS.trans hS', ?_⟩)
  · exact key
  · rw [List.length_map]
    have : (10000 : Nat) ≤ sizeLine := by decide
    have h2 := List.length_filter_le p (List.range i)
    rw [List.length_range] at h2
    omega
  · rw [upd_same, e1, if_pos hp, List.map_append]; rfl
  · rw [hS' _ _ hL, e1, if_neg (by rw [hp]; exact Bool.false_ne_true), List.append_nil]
/-- .. without a test -/
theorem lc_mapW {J : It} {n : Nat} {G : Hp → Prop} {Y : Nat → Hp → V → Hp → Prop} (w : Walk J n G Y) {g : TG} {te : TE} {vs : List Nat} {σ : L2.St} {H1 : Hp} {D : Addr} {Qd : Hp → Prop} (f : Nat → V) (hD : H1 D = none) (hlen : n < 10000) (hG : ∀ H, Same H1 H → G H)
    (hs : ∀ (i : Nat) (x : V) (H H' : Hp) (R : V → Hp → Prop), i < n → Same H1 H → Y i H x H' → (∀ H2, Same H H2 → R (f i) H2) →
      g x (wipe σ vs) H' fun σ2 H2 => wipe σ2 vs = wipe σ vs ∧ te σ2 H2 R)
    (hd : ∀ H, Same H1 H → H D = some (.lst ((List.range n).map f)) → Qd H) :
    ∃ W : Nat → Nat → Hp → Prop, (∃ m, W 0 m (upd H1 D (.lst []))) ∧ ∀ i m H, W i m H →
      (J.stop i H ∧ Qd H) ∨ (J.go i H ∧ ∃ Nx : Hp → Prop, (∀ H', Nx H' → ∃ m', m' < m ∧ W (i + 1) m' H') ∧ ∀ x H', J.yld i H x H' → g x (wipe σ vs) H' fun σ2 H2 => wipe σ2 vs = wipe σ vs ∧ tYes σ2 H2 fun b H3 =>
        if b = true then te σ2 H3 fun y H4 => ∃ acc, H4 D = some (.lst acc) ∧ acc.length < sizeLine ∧ Nx (upd H4 D (.lst (acc ++ [y]))) else Nx H3) := by
  refine lc_filtW w f (fun _ => true) hD hlen hG (fun i x H H' R R0 hi hS y h1 _ => ?_) (fun H h1 h2 => hd H h1 (by rw [h2, List.filter_eq_self.mpr (fun _ _ => rfl)]))
  exact hs i x H H' R hi hS y (h1 rfl)
/-- the dict of a comprehension without a test: which keys it has -/
theorem dc_keysW {K : PySem.W.Frag} {a D : Addr} {ns : List Int} {g : TG} {tk tv : TE} {vs : List Nat} {σ : L2.St} {H1 : Hp} {Qd : Hp → Prop} (hx : SqL K H1 a (ns.map V.int)) (hD : H1 D = none) (hlen : ns.length < 10000)
    (hs : ∀ (i : Int) (H : Hp) (R : V → V → Hp → Prop), i ∈ ns → Same H1 H → (∀ z, R (.int i) z H) → g (.int i) (wipe σ vs) H fun σ2 H2 => wipe σ2 vs = wipe σ vs ∧ tk σ2 H2 fun y H3 => tv σ2 H3 fun z H4 => R y z H4)
    (hd : ∀ H kvs, Same H1 H → H D = some (.dK kvs) → (∀ k : Int, (valV kvs (Sum.inl k : Key)).isSome = decide (k ∈ ns)) → Qd H) :
    ∃ W : Nat → Nat → Hp → Prop, (∃ m, W 0 m (upd H1 D (.dK []))) ∧ ∀ i m H, W i m H →
      ((Itl K a).stop i H ∧ Qd H) ∨ ((Itl K a).go i H ∧ ∃ Nx : Hp → Prop, (∀ H', Nx H' → ∃ m', m' < m ∧ W (i + 1) m' H') ∧ ∀ x H', (Itl K a).yld i H x H' → g x (wipe σ vs) H' fun σ2 H2 => wipe σ2 vs = wipe σ vs ∧ tYes σ2 H2 fun b H3 =>
        if b = true then tk σ2 H3 fun y H4 => tv σ2 H4 fun z H5 => ∃ kvs k, y = kV k ∧ H5 D = some (.dK kvs) ∧ kvs.length < sizeLine ∧ Nx (upd H5 D (.dK (putK kvs k z))) else Nx H3) := by
  have w := walk_list (K := K) (a := a) (xs := ns.map V.int)
  let Pv : Nat → Hp → Prop := fun i H => Same H1 H ∧ ∃ kvs : List (Key × V), H D = some (.dK kvs) ∧ kvs.length ≤ i ∧ ∀ k : Int, (valV kvs (Sum.inl k : Key)).isSome = decide (k ∈ ns.take i)
  have hn : (ns.map V.int).length = ns.length := List.length_map _
  refine ⟨fun i m H => m = ns.length - i ∧ i ≤ ns.length ∧ Pv i H, ⟨ns.length, rfl, Nat.zero_le _, fun b u e => by rw [upd_ne (ne_of_none e hD)]; exact e, [], upd_same, Nat.le_refl _, fun k => by simp [valV]⟩, ?_⟩
  rintro i m H ⟨rfl, hi, hS, kvs, hk, hkl, hv⟩
  have q : SqL K H a (ns.map V.int) := Same.seq hS hx
  by_cases hlt : i < ns.length
  · refine .inr ⟨w.goes i H (by rw [hn]; exact hlt) q, Pv (i + 1), fun H' p' => ⟨ns.length - (i + 1), by omega, rfl, hlt, p'⟩, fun x H' y => ?_⟩
    obtain ⟨rfl, hy⟩ := w.yields i H x H' (by rw [hn]; exact hlt) q y
    rw [List.getElem?_map, List.getElem?_eq_getElem hlt] at hy
    obtain rfl : V.int ns[i] = x := Option.some.inj hy
    have key := hs ns[i] H' (fun y z H5 => ∃ kvs k, y = kV k ∧ H5 D = some (.dK kvs) ∧ kvs.length < sizeLine ∧ Pv (i + 1) (upd H5 D (.dK (putK kvs k z)))) (List.getElem_mem hlt) hS fun z => by
      refine ⟨kvs, .inl ns[i], rfl, hk, ?_, fun b u e => by rw [upd_ne (ne_of_none e hD)]; exact hS _ _ e, _, upd_same, ?_, fun k => ?_⟩
      · have : (10000 : Nat) ≤ sizeLine := by decide
        omega
      · have := length_putK kvs (Sum.inl ns[i] : Key) z
        omega
      · have e0 : ns.take (i + 1) = ns.take i ++ [ns[i]] := by rw [List.take_add_one, List.getElem?_eq_getElem hlt]; rfl
        rw [valV_put, e0]
        by_cases e : (k : Int) = ns[i]
        · subst e; rw [if_pos rfl, decide_eq_true (List.mem_append_right _ (List.mem_singleton.mpr rfl))]; rfl
        · rw [if_neg (fun z => e (Sum.inl.inj z)), hv k]
          refine decide_eq_decide.mpr ⟨fun h => List.mem_append_left _ h, fun h => ?_⟩
          rcases List.mem_append.mp h with h | h
          · exact h
          · exact absurd (List.mem_singleton.mp h) e
    exact key
  · have e : i = ns.length := by omega
    subst e
    exact .inl ⟨by have := w.stops H q; rw [hn] at this; exact this, hd H kvs hS hk fun k => by rw [hv k, List.take_length]⟩
theorem tcut_from {xs : List V} {f : Nat} : cutV xs (some (f : Int)) none = xs.drop f := by
  unfold cutV
  rw [HT.sIx_nat, HT.sIx_none]
  rcases Nat.le_total f xs.length with h | h
  · rw [Nat.min_eq_left h, List.take_of_length_le (by rw [List.length_drop]; omega)]
  · rw [Nat.min_eq_right h, List.drop_eq_nil_of_le (Nat.le_refl _), List.drop_eq_nil_of_le h]; simp
theorem tcut_to {xs : List V} {f : Nat} : cutV xs none (some (f : Int)) = xs.take f := by
  unfold cutV
  rw [HT.sIx_nat, HT.sIx_none, List.drop_zero, Nat.sub_zero]
  rcases Nat.le_total f xs.length with h | h
  · rw [Nat.min_eq_left h]
  · rw [Nat.min_eq_right h, List.take_of_length_le (Nat.le_refl _), List.take_of_length_le h]
theorem teqvAll_ints : ∀ (as bs : List Int), PyData.eqvAll (as.map PyData.int) (bs.map PyData.int) = decide (as = bs)
  | [], [] => by simp [PyData.eqvAll]
  | [], b :: bs => by simp [PyData.eqvAll]
  | a :: as, [] => by simp [PyData.eqvAll]
  | a :: as, b :: bs => by
    simp only [List.map_cons, PyData.eqvAll, PyData.eqv, teqvAll_ints as bs, List.cons.injEq]
    by_cases h : a = b
    · subst h; simp
    · simp [h]
theorem tdpAll_ints {K : PySem.W.Frag} {H : Hp} : ∀ (as : List Int), DpAll K H (as.map V.int) (as.map PyData.int)
  | [] => .nil
  | a :: as => .cons (.int a) (tdpAll_ints as)
theorem tlay_ints : ∀ (as : List Int), PyData.canLayAll0 (as.map PyData.int) = true
  | [] => rfl
  | a :: as => by simp only [List.map_cons, PyData.canLayAll0, PyData.canLay0, tlay_ints as]; rfl
theorem tdep_ints : ∀ (as : List Int), PyData.depthAll (as.map PyData.int) = 0
  | [] => rfl
  | a :: as => by simp only [List.map_cons, PyData.depthAll, PyData.depth, tdep_ints as]; rfl
theorem tshaped_lst (as : List Int) : SeqAt.shaped (.list (as.map PyData.int)) = true := by
  show (PyData.canLayAll0 (as.map PyData.int) && decide (PyData.depthAll (as.map PyData.int) + 1 ≤ 64)) = true
  rw [tlay_ints, tdep_ints]; rfl
theorem eqd_ints {K : PySem.W.Frag} {H : Hp} {a b : Addr} {as bs : List Int} {Q : VK} (ha : SqL K H a (as.map V.int)) (hb : SqL K H b (bs.map V.int)) (q : Q (.bl (decide (as = bs))) H) : rEqD K (.ref a) (.ref b) H Q :=
  ⟨.list (as.map .int), .list (bs.map .int), .lst ha (tdpAll_ints as), .lst hb (tdpAll_ints bs), tshaped_lst as, tshaped_lst bs, by
    show Q (.bl (PyData.eqvAll (as.map .int) (bs.map .int))) H
    rw [teqvAll_ints]; exact q⟩
theorem cutS_from {l : List Bool} {f : Nat} : cutS (tx l) (some (f : Int)) none = tx (l.drop f) := by
  apply str_ext
  unfold cutS
  rw [HT.sIx_nat, HT.sIx_none, tx_lst, tx_lst, tx_len, List.map_drop]
  rcases Nat.le_total f l.length with h | h
  · rw [Nat.min_eq_left h, List.take_of_length_le (by rw [List.length_drop, List.length_map]; omega)]
  · rw [Nat.min_eq_right h, List.drop_eq_nil_of_le (by rw [List.length_map]; exact Nat.le_refl _), List.drop_eq_nil_of_le (by rw [List.length_map]; exact h)]; simp
theorem cutS_to {l : List Bool} {f : Nat} : cutS (tx l) none (some (f : Int)) = tx (l.take f) := by
  apply str_ext
  unfold cutS
  rw [HT.sIx_nat, HT.sIx_none, tx_lst, tx_lst, tx_len, List.drop_zero, Nat.sub_zero, List.map_take]
  rcases Nat.le_total f l.length with h | h
  · rw [Nat.min_eq_left h]
  · rw [Nat.min_eq_right h, List.take_of_length_le (by rw [List.length_map]; exact Nat.le_refl _), List.take_of_length_le (by rw [List.length_map]; exact h)]
end Cl

/-! ### the checks that all laws share -/
namespace Cl
def top (i : Nat) : Stmt := PySem.Challenge.pw_carrylog_k57_whole_thrifty.main.body.getD i (.Pass ⟨0, 0, 0, 0⟩)
abbrev sWall : Stmt := top 0
abbrev sInvalidinputInit : Stmt := inClass (top 3) 0
abbrev sNoplaceInit : Stmt := inClass (top 4) 0
abbrev sIsWhole : Stmt := top 6
abbrev sCheckLeast : Stmt := top 7
abbrev sConsistsOf : Stmt := top 8
abbrev sRoundInit : Stmt := inClass (top 10) 1
abbrev sRoundConstant : Stmt := inClass (top 10) 2
abbrev sRoundBudgets : Stmt := inClass (top 10) 3
abbrev sRoundLen : Stmt := inClass (top 10) 4
abbrev sRoundEq : Stmt := inClass (top 10) 5
abbrev sRoundAdd : Stmt := inClass (top 10) 6
abbrev sRoundAt : Stmt := inClass (top 10) 7
abbrev sRoundShifted : Stmt := inClass (top 10) 8
abbrev sRoundTotal : Stmt := inClass (top 10) 9
abbrev sRoundLeast : Stmt := inClass (top 10) 10
abbrev sRoundWorstStart : Stmt := inClass (top 10) 11
abbrev sRoundReach : Stmt := inClass (top 10) 12
abbrev sRoundTotals : Stmt := inClass (top 10) 13
abbrev sCheckRound : Stmt := top 11
abbrev sLiving : Stmt := top 13
abbrev sDepths : Stmt := top 14
abbrev sRelease : Stmt := top 15
abbrev sCarry : Stmt := top 16
abbrev sAppendRecord : Stmt := top 17
abbrev sStep : Stmt := top 18
abbrev sIsWord : Stmt := top 19
abbrev sCheckWord : Stmt := top 20
abbrev sCheckIndex : Stmt := top 21
abbrev sCheckFits : Stmt := top 22
abbrev sFreed : Stmt := top 23
abbrev sOnes : Stmt := top 24
abbrev sWithout : Stmt := top 25
abbrev sMoved : Stmt := top 26
abbrev sAppended : Stmt := top 27
abbrev sBlockedAt : Stmt := top 29
abbrev sShortAt : Stmt := top 30
abbrev sLife : Stmt := top 31
abbrev sSafe : Stmt := top 32
abbrev sPlacesInPlay : Stmt := top 33
abbrev sBlocks : Stmt := top 34
abbrev sFirstShort : Stmt := top 35
abbrev sFallsShort : Stmt := top 36
abbrev sCheckStanding : Stmt := top 37
abbrev sCheckStandingAlone : Stmt := top 38
abbrev sCheckStandingFits : Stmt := top 39
abbrev sCheckTerms : Stmt := top 40
abbrev sCheckLimitFits : Stmt := top 41
abbrev sKeeperChoose : Stmt := inClass (top 43) 0
abbrev sKeeperLabel : Stmt := inClass (top 43) 1
abbrev sThriftyInit : Stmt := inClass (top 44) 0
abbrev sThriftyChoose : Stmt := inClass (top 44) 1
abbrev sThriftyLabel : Stmt := inClass (top 44) 2
abbrev sMostCarries : Stmt := top 45
abbrev sFewestCarries : Stmt := top 46
abbrev sIsSafeAfter : Stmt := top 47
abbrev sCheckMoment : Stmt := top 48
abbrev sRingMoves : Stmt := top 50
abbrev sStepped : Stmt := top 51
abbrev sRunRow : Stmt := top 53
abbrev sPlayed : Stmt := top 54
abbrev sLawIsCount : Stmt := top 56
abbrev sLawBox : Stmt := top 57
abbrev sLawTake : Stmt := top 58
abbrev sLawRound : Stmt := top 59
abbrev sLawFreed : Stmt := top 60
abbrev sLawCarried : Stmt := top 61
abbrev sLawSafe : Stmt := top 62
abbrev sLawThrifty : Stmt := top 63
abbrev sLawPays : Stmt := top 64
abbrev sLawGoes : Stmt := top 65
abbrev sLawRaised : Stmt := top 66
abbrev sLawWord : Stmt := top 67
abbrev sLawMove : Stmt := top 68
abbrev sLawStand : Stmt := top 69
abbrev sLawAsked : Stmt := top 70
abbrev sLawPlay : Stmt := top 71
abbrev sLawMoves : Stmt := top 72
abbrev sLawRuns : Stmt := top 73
abbrev sLaw : Stmt := top 74
section
variable {P : Program} {w : World} {K : PySem.W.Frag} {mg : Str → Option Value} {base : Heap}
def spIsWhole : Sp := fun vs H Q _ => ∃ (v : Int), vs = [.int v] ∧ Q (.bl true) H
theorem kit_ii (K : PySem.W.Frag) : PySem.W.kitOne K (.type "int") (.type "int") = some true := kit_ty (by decide +kernel)
theorem kit_ib (K : PySem.W.Frag) : PySem.W.kitOne K (.type "int") (.type "bool") = some false := kit_ty (by decide +kernel)
theorem kit_ss (K : PySem.W.Frag) : PySem.W.kitOne K (.type "str") (.type "str") = some true := kit_ty (by decide +kernel)
theorem kit_ll (K : PySem.W.Frag) : PySem.W.kitOne K (.type "list") (.type "list") = some true := kit_ty (by decide +kernel)
theorem kit_bb (K : PySem.W.Frag) : PySem.W.kitOne K (.type "bool") (.type "bool") = some true := kit_ty (by decide +kernel)
theorem scIsWhole : FnScope ["value"] ["value"] (defScope sIsWhole) := ⟨rfl, rfl, rfl, by decide +kernel, rfl, by decide +kernel, by decide +kernel⟩
theorem ok_is_whole {f : Addr} {fd : FuncData} (F : Fun K "is_whole" "is_whole" sIsWhole f fd) (B : Bi mg) : FnOk P w K mg base CX0 1 f fd ["value"] spIsWhole := by
  refine F.ok scIsWhole (fun vs H Q E h => ?_) (fun cdv A outer s H vs Q E hr h => ?_)
  · obtain ⟨v, rfl, _⟩ := h
    rfl
  · obtain ⟨v, rfl, k⟩ := h
    refine ⟨_, (pss_one (ps_ret (pe_and (pe_callB call_isi (by rfl) B.isinstance (by decide +kernel) (pa_cons (pv 0) (pa_cons (pe_bltn (v := .ty "int") (by rfl) B.intT (by decide +kernel) rfl) pa_nil))) (pe_one (pe_not (pe_callB call_isi (by rfl) B.isinstance (by decide +kernel) (pa_cons (pv 0) (pa_cons (pe_bltn (v := .ty "bool") (by rfl) B.boolT (by decide +kernel) rfl) pa_nil)))))))), ?_⟩
    refine ⟨_, rfl, _, _, _, _, _, rfl, .ty _, .base (.int _), kit_ii _, _, rfl, iteT ?_⟩
    exact ⟨_, rfl, _, _, _, _, _, rfl, .ty _, .base (.int _), kit_ib _, _, rfl, k⟩
def spCheckLeast : Sp := fun vs H Q _ => ∃ (v l : Int) (x : Str), vs = [.int v, .int l, .str x] ∧ l ≤ v ∧ Q .non H
theorem scCheckLeast : FnScope ["value", "least", "field"] ["value", "least", "field"] (defScope sCheckLeast) := ⟨rfl, rfl, rfl, by decide +kernel, rfl, by decide +kernel, by decide +kernel⟩
theorem ok_check_least {f : Addr} {fd : FuncData} (F : Fun K "check_least" "check_least" sCheckLeast f fd) (D_is_whole : Dn P w K mg base "is_whole" 1 ["value"] spIsWhole) : FnOk P w K mg base CX0 2 f fd ["value", "least", "field"] spCheckLeast := by
  refine F.ok scCheckLeast (fun vs H Q E h => ?_) (fun cdv A outer s H vs Q E hr h => ?_)
  · obtain ⟨v, l, x, rfl, _⟩ := h
    rfl
  · obtain ⟨v, l, x, rfl, hl, k⟩ := h
    refine ⟨_, (pss_one (ps_if (PW.pt (pw_or (pt_not (pt_val (pe_dn D_is_whole (hr.mono (by decide)) (by rfl) pass0 (pa_cons (pv 0) pa_nil)))) (pw_or1 (pt_cmpR op_lt (pv 0) (pv 1) (nomark _))))) (pss_one ps_never)
  pss_nil)), ?_⟩
    refine ⟨_, rfl, v, rfl, _, rfl, iteF ?_⟩
    walk_at "rd"
    rw [decide_eq_false (by omega)]
    exact iteF k
end
end Cl

/-! ### the program's words -/
namespace Cl
/-- a word: empty, or a one ahead -/
def Wd (l : List Bool) : Prop := l = [] ∨ ∃ r, l = true :: r
theorem nrm_wd {l : List Bool} (h : Wd l) : nrm l = l := by
  rcases h with rfl | ⟨r, rfl⟩ <;> rfl
theorem nrm_is (l : List Bool) : Wd (nrm l) := by
  induction l with
  | nil => exact .inl rfl
  | cons b r ih =>
    cases b with
    | true => exact .inr ⟨r, rfl⟩
    | false => exact ih
theorem nrm_zeros (n : Nat) (l : List Bool) : nrm (List.replicate n false ++ l) = nrm l := by
  induction n with
  | zero => rfl
  | succ n ih => rw [List.replicate_succ]; exact ih
theorem small_le {n : Nat} (h : n ≤ 1000000) : n ≤ sizeLine := Nat.le_trans h (by decide)
theorem strV_ne {a b : Str} (h : a ≠ b) : decide (V.str a = V.str b) = false := decide_eq_false fun e => h (V.str.inj e)
theorem txV_eq {a b : List Bool} : decide (V.str (tx a) = V.str (tx b)) = decide (a = b) := by
  by_cases h : a = b
  · subst h; rw [decide_eq_true rfl, decide_eq_true rfl]
  · rw [decide_eq_false h, decide_eq_false fun e => h (tx_inj (V.str.inj e))]
theorem eqtx (l : List Bool) : decide (V.str (tx l) = V.str (tx l)) = true := decide_eq_true rfl
/-- the places of the ones -/
def onesAt (l : List Bool) : List Nat := (List.range l.length).filter fun k => l[k]? == some true
/-- the depths -/
def dps (l : List Bool) : List Int := (onesAt l).map fun (k : Nat) => (l.length : Int) - k
theorem at_tx {l : List Bool} {i : Nat} {b : Bool} (h : l[i]? = some b) : atI (tx l).cps.toList (i : Int) = some (bt b) := atI_nat (by rw [tx_lst, List.getElem?_map, h]; rfl)
theorem bt_eq {a b : Bool} : decide (V.str ⟨#[bt a]⟩ = V.str (tx [b])) = (a == b) := by
  show decide (V.str (tx [a]) = V.str (tx [b])) = _
  rw [txV_eq]
  cases a <;> cases b <;> decide
theorem onesAt_lt {l : List Bool} {k : Nat} (h : k ∈ onesAt l) : k < l.length := List.mem_range.mp (List.mem_filter.mp h).1
theorem onesAt_mem {l : List Bool} {k : Nat} : k ∈ onesAt l ↔ l[k]? = some true := by
  unfold onesAt
  rw [List.mem_filter, List.mem_range]
  constructor
  · rintro ⟨_, h⟩; exact by simpa using h
  · intro h
    exact ⟨(List.getElem?_eq_some_iff.mp h).1, by rw [h]; rfl⟩
theorem dps_mem {l : List Bool} {d : Int} : d ∈ dps l ↔ ∃ k : Nat, l[k]? = some true ∧ d = (l.length : Int) - k := by
  unfold dps
  rw [List.mem_map]
  exact ⟨fun ⟨k, h1, h2⟩ => ⟨k, onesAt_mem.mp h1, h2.symm⟩, fun ⟨k, h1, h2⟩ => ⟨k, onesAt_mem.mpr h1, h2.symm⟩⟩
theorem onesAt_cons (b : Bool) (r : List Bool) : onesAt (b :: r) = (if b = true then [0] else []) ++ (onesAt r).map (· + 1) := by
  unfold onesAt
  rw [List.length_cons, List.range_succ_eq_map, List.filter_cons, List.filter_map]
  have e : ((fun k => (b :: r)[k]? == some true) ∘ Nat.succ) = fun k => r[k]? == some true := by
    funext k
    show ((b :: r)[k + 1]? == some true) = _
    rw [List.getElem?_cons_succ]
  rw [e]
  cases b <;> rfl
theorem dps_cons (b : Bool) (r : List Bool) : dps (b :: r) = (if b = true then [(r.length : Int) + 1] else []) ++ dps r := by
  unfold dps
  rw [onesAt_cons, List.map_append, List.map_map]
  congr 1
  · cases b
    · rfl
    · simp
  · refine List.map_congr_left fun k _ => ?_
    show (((b :: r).length : Nat) : Int) - ((k + 1 : Nat) : Int) = (r.length : Int) - k
    rw [List.length_cons]; omega
theorem dps_nil : dps [] = [] := rfl
theorem dps_len (l : List Bool) : (dps l).length = l.count true := by
  induction l with
  | nil => rfl
  | cons b r ih =>
    rw [dps_cons, List.length_append, ih, List.count_cons]
    cases b <;> simp <;> omega
theorem dps_le {l : List Bool} {d : Int} (h : d ∈ dps l) : 1 ≤ d ∧ d ≤ l.length := by
  obtain ⟨k, h1, h2⟩ := dps_mem.mp h
  have := (List.getElem?_eq_some_iff.mp h1).1
  omega
theorem dps_desc (l : List Bool) : (dps l).Pairwise (· > ·) := by
  induction l with
  | nil => exact List.Pairwise.nil
  | cons b r ih =>
    rw [dps_cons]
    cases b
    · exact ih
    · refine List.pairwise_cons.mpr ⟨fun d hd => ?_, ih⟩
      have := (dps_le hd).2
      omega
theorem range_getD (l : List Bool) : (List.range l.length).map (fun i => l.getD i false) = l := by
  apply List.ext_getElem
  · rw [List.length_map, List.length_range]
  · intro i h1 h2
    rw [List.getElem_map, List.getElem_range, List.getD_eq_getElem?_getD, List.getElem?_eq_getElem h2]; rfl
theorem dps_empty {l : List Bool} (h : Wd l) : dps l = [] ↔ l = [] := by
  rcases h with rfl | ⟨r, rfl⟩
  · exact ⟨fun _ => rfl, fun _ => rfl⟩
  · rw [dps_cons]; simp
section
variable {P : Program} {w : World} {K : PySem.W.Frag} {mg : Str → Option Value} {base : Heap}
def spConsists : Sp := fun vs H Q _ => ∃ l, vs = [.str (tx l), .str "01"] ∧ l.length ≤ 1000000 ∧ Q (.bl true) H
theorem scConsistsOf : FnScope ["text", "characters"] ["text", "characters"] (defScope sConsistsOf) := ⟨rfl, rfl, rfl, by decide +kernel, rfl, by decide +kernel, by decide +kernel⟩
theorem ok_consists_of {f : Addr} {fd : FuncData} (F : Fun K "consists_of" "consists_of" sConsistsOf f fd) : FnOk P w K mg base CX0 1 f fd ["text", "characters"] spConsists := by
  refine F.ok scConsistsOf (fun vs H Q E h => ?_) (fun cdv A outer s H vs Q E hr h => ?_)
  · obtain ⟨l, rfl, _⟩ := h
    rfl
  · obtain ⟨l, rfl, hl, k⟩ := h
    refine ⟨_, (pss_one (ps_ret (pe_cmpR op_eq (pe_m1 PySem.F.slot_str_strip PySem.F.type_str_strip mt_stripChars (pv 0) (pv 1)) pe_str (nomark _)))), ?_⟩
    refine ⟨_, rfl, ⟨_, rfl⟩, _, rfl, _, _, rfl, rfl, small_le (by rw [tx_len]; exact hl), rfl, ?_⟩
    rw [t01, tx_strip, te, decide_eq_true rfl]
    exact k
def spNrm : Sp := fun vs H Q _ => ∃ l, vs = [.str (tx l)] ∧ l.length ≤ 1000000 ∧ Q (.str (tx (nrm l))) H
theorem scFreed : FnScope ["text"] ["text"] (defScope sFreed) := ⟨rfl, rfl, rfl, by decide +kernel, rfl, by decide +kernel, by decide +kernel⟩
theorem ok__freed {f : Addr} {fd : FuncData} (F : Fun K "_freed" "_freed" sFreed f fd) : FnOk P w K mg base CX0 1 f fd ["text"] spNrm := by
  refine F.ok scFreed (fun vs H Q E h => ?_) (fun cdv A outer s H vs Q E hr h => ?_)
  · obtain ⟨l, rfl, _⟩ := h
    rfl
  · obtain ⟨l, rfl, hl, k⟩ := h
    refine ⟨_, (pss_one (ps_ret (pe_m1 PySem.F.slot_str_lstrip PySem.F.type_str_lstrip mt_lstripChars (pv 0) pe_str))), ?_⟩
    refine ⟨_, rfl, ⟨_, rfl⟩, _, _, rfl, rfl, small_le (by rw [tx_len]; exact hl), ?_⟩
    rw [t0, tx_lstrip]
    exact k
def spIsWord : Sp := fun vs H Q _ => ∃ l, vs = [.str (tx l)] ∧ l.length ≤ 1000000 ∧ Wd l ∧ Q (.bl true) H
theorem scIsWord : FnScope ["text"] ["text"] (defScope sIsWord) := ⟨rfl, rfl, rfl, by decide +kernel, rfl, by decide +kernel, by decide +kernel⟩
theorem ok_is_word {f : Addr} {fd : FuncData} (F : Fun K "is_word" "is_word" sIsWord f fd) (D_consists_of : Dn P w K mg base "consists_of" 1 ["text", "characters"] spConsists) : FnOk P w K mg base CX0 2 f fd ["text"] spIsWord := by
  refine F.ok scIsWord (fun vs H Q E h => ?_) (fun cdv A outer s H vs Q E hr h => ?_)
  · obtain ⟨l, rfl, _⟩ := h
    rfl
  · obtain ⟨l, rfl, hl, hw, k⟩ := h
    refine ⟨_, (pss_one (ps_ret (pe_or (pe_cmpR op_eq (pv 0) pe_str (nomark _)) (pe_one (pe_and (pe_cmpR op_eq (pe_ix ix_str (pv 0) pe_int (fun _ _ => rfl)) pe_str (nomark _)) (pe_one (pe_dn D_consists_of (hr.mono (by decide)) (by rfl) pass0 (pa_cons (pv 0) (pa_cons pe_str pa_nil))))))))), ?_⟩
    refine ⟨_, rfl, rfl, _, rfl, ?_⟩
    rw [te, txV_eq]
    rcases hw with rfl | ⟨r, rfl⟩
    · exact iteT k
    · refine iteF ?_
      refine ⟨_, rfl, _, _, _, rfl, rfl, small_le (by rw [tx_len]; exact hl), at_tx (i := 0) rfl, rfl, _, rfl, ?_⟩
      rw [t1, bt_eq]
      exact iteT ⟨_, rfl, _, rfl, hl, k⟩
def spCheckWord : Sp := fun vs H Q _ => ∃ l x, vs = [.str (tx l), .str x] ∧ l.length ≤ 1000000 ∧ Wd l ∧ Q .non H
theorem scCheckWord : FnScope ["word", "field"] ["word", "field"] (defScope sCheckWord) := ⟨rfl, rfl, rfl, by decide +kernel, rfl, by decide +kernel, by decide +kernel⟩
theorem ok_check_word {f : Addr} {fd : FuncData} (F : Fun K "check_word" "check_word" sCheckWord f fd) (D_is_word : Dn P w K mg base "is_word" 2 ["text"] spIsWord) : FnOk P w K mg base CX0 3 f fd ["word", "field"] spCheckWord := by
  refine F.ok scCheckWord (fun vs H Q E h => ?_) (fun cdv A outer s H vs Q E hr h => ?_)
  · obtain ⟨l, x, rfl, _⟩ := h
    rfl
  · obtain ⟨l, x, rfl, hl, hw, k⟩ := h
    refine ⟨_, (pss_one (ps_if (pt_not (pt_val (pe_dn D_is_word (hr.mono (by decide)) (by rfl) pass0 (pa_cons (pv 0) pa_nil)))) (pss_one ps_never)
  pss_nil)), ?_⟩
    exact ⟨_, rfl, _, rfl, hl, hw, _, rfl, iteF k⟩
def spLiving : Sp := fun vs H Q _ => ∃ l, vs = [.str (tx l)] ∧ l.length ≤ 1000000 ∧ Wd l ∧ Q (.int ((l.count true : Nat) : Int)) H
theorem scLiving : FnScope ["word"] ["word"] (defScope sLiving) := ⟨rfl, rfl, rfl, by decide +kernel, rfl, by decide +kernel, by decide +kernel⟩
theorem ok_living {f : Addr} {fd : FuncData} (F : Fun K "living" "living" sLiving f fd) (D_check_word : Dn P w K mg base "check_word" 3 ["word", "field"] spCheckWord) : FnOk P w K mg base CX0 4 f fd ["word"] spLiving := by
  refine F.ok scLiving (fun vs H Q E h => ?_) (fun cdv A outer s H vs Q E hr h => ?_)
  · obtain ⟨l, rfl, _⟩ := h
    rfl
  · obtain ⟨l, rfl, hl, hw, k⟩ := h
    refine ⟨_, (pss_cons (ps_expr (pe_dn D_check_word (hr.mono (by decide)) (by rfl) pass0 (pa_cons (pv 0) (pa_cons pe_str pa_nil))))
  (pss_one (ps_ret (pe_m1 PySem.F.slot_str_count PySem.F.type_str_count mt_count (pv 0) pe_str)))), ?_⟩
    refine ⟨_, rfl, _, _, rfl, hl, hw, ?_⟩
    refine ⟨_, rfl, ⟨_, rfl⟩, _, _, rfl, rfl, ?_⟩
    rw [t1, tx_count]
    exact k
def spNewest : Sp := fun vs H Q _ => ∃ l, vs = [.str (tx l)] ∧ l.length ≤ 1000000 ∧ Wd l ∧ Q (if l = [] then .non else .int ((l.count true : Nat) - 1 : Int)) H
def spBest : Sp := fun vs H Q _ => ∃ n : Int, vs = [.int n] ∧ 0 ≤ n ∧ n ≤ 1000000 ∧ Q (.str (tx (List.replicate n.toNat true))) H
def worst (n m : Int) : List Bool := List.replicate n.toNat true ++ List.replicate (m - n).toNat false
def spWorst : Sp := fun vs H Q _ => ∃ n m : Int, vs = [.int n, .int m] ∧ 0 ≤ n ∧ n ≤ m ∧ m ≤ 1000000 ∧ (n = 0 → m = 0) ∧ Q (.str (tx (worst n m))) H
theorem rep_len (n : Int) (b : Bool) : (tx (List.replicate n.toNat b)).length = n.toNat := by rw [tx_len, List.length_replicate]
def spOnes : Sp := fun vs H Q _ => ∃ l, vs = [.str (tx l)] ∧ l.length ≤ 9000 ∧ ∀ p H', H p = none → Same H H' → H' p = some (.lst (((onesAt l).map fun (k : Nat) => (k : Int)).map V.int)) → Q (.ref p) H'
theorem scOnes : FnScope ["word", "at", "mark"] ["word"] (defScope sOnes) := ⟨rfl, rfl, rfl, by decide +kernel, rfl, by decide +kernel, by decide +kernel⟩
theorem ok__ones {f : Addr} {fd : FuncData} (F : Fun K "_ones" "_ones" sOnes f fd) (B : Bi mg) : FnOk P w K mg base CX0 1 f fd ["word"] spOnes := by
  refine F.ok scOnes (fun vs H Q E h => ?_) (fun cdv A outer s H vs Q E hr h => ?_)
  · obtain ⟨l, rfl, _⟩ := h
    rfl
  · obtain ⟨l, rfl, hl, k⟩ := h
    refine ⟨_, (pss_one (ps_ret (pe_lc (own := [("at", 1), ("mark", 2)]) (g := gTup K 2 (gCons (gName 1) (gCons (gName 2) (gNil)))) rfl scOnes.nd (pi_enumS rfl B.enumerate (pa_cons (pv 0) pa_nil)) (blkOk_by (own := [("at", 1), ("mark", 2)]) (N := ["word", "at", "mark"]) (sc := defScope sOnes) (by decide +kernel)) (fun _ _ _ _ _ => (pg_tupK K (by rfl) (pgs_cons (pg_name (i := 1) scOnes.nd rfl (Or.inl rfl)) (pgs_cons (pg_name (i := 2) scOnes.nd rfl (Or.inl rfl)) pgs_nil)))) (fun _ _ _ _ _ => (pts_one (pt_cmpR op_eq (pv 2) pe_str (nomark _)))) (fun _ _ _ _ _ => (pv 1))))), ?_⟩
    refine ⟨_, rfl, _, rfl, fun D hD => ?_⟩
    refine lc_filtW walk_enumS (fun i => .int (i : Nat)) (fun i => l[i]? == some true) hD (by rw [tx_size]; omega) (fun _ _ => trivial) ?_ (fun H1 hS hL => k D H1 hD hS ?_)
    · intro i x H1 H2 R R0 hi hS y h1 h0
      obtain ⟨T, v, z, rfl, hT, rfl, ev, ez⟩ := y
      obtain rfl := Option.some.inj ev
      dsimp only at ez
      obtain ⟨b, hb⟩ : ∃ b, l[i]? = some b := ⟨l[i]'(by rw [tx_size] at hi; exact hi), List.getElem?_eq_getElem _⟩
      rw [tx_get, hb] at ez
      obtain rfl := Option.some.inj ez
      refine ⟨T, _, rfl, SqT.of upd_same, rfl, _, _, rfl, _, _, rfl, rfl, rfl, ?_⟩
      refine ⟨_, rfl, rfl, _, rfl, ?_⟩
      rw [t1, bt_eq]
      have hb2 : (l[i]? == some true) = (b == true) := by rw [hb]; cases b <;> rfl
      rw [hb2] at h1 h0
      cases b
      · exact iteF (h0 rfl _ (Same.upd hT))
      · exact iteT ⟨_, rfl, h1 rfl _ (Same.upd hT)⟩
    · rw [hL, tx_size, List.map_map]; rfl
def spDepths : Sp := fun vs H Q _ => ∃ l, vs = [.str (tx l)] ∧ l.length ≤ 9000 ∧ Wd l ∧ ∀ p H', H p = none → Same H H' → H' p = some (.lst ((dps l).map V.int)) → Q (.ref p) H'
theorem scDepths : FnScope ["word", "at"] ["word"] (defScope sDepths) := ⟨rfl, rfl, rfl, by decide +kernel, rfl, by decide +kernel, by decide +kernel⟩
theorem ok_depths {f : Addr} {fd : FuncData} (F : Fun K "depths" "depths" sDepths f fd) (B : Bi mg) (D_check_word : Dn P w K mg base "check_word" 3 ["word", "field"] spCheckWord) (D__ones : Dn P w K mg base "_ones" 1 ["word"] spOnes) : FnOk P w K mg base CX0 4 f fd ["word"] spDepths := by
  refine F.ok scDepths (fun vs H Q E h => ?_) (fun cdv A outer s H vs Q E hr h => ?_)
  · obtain ⟨l, rfl, _⟩ := h
    rfl
  · obtain ⟨l, rfl, hl, hw, k⟩ := h
    refine ⟨_, (pss_cons (ps_expr (pe_dn D_check_word (hr.mono (by decide)) (by rfl) pass0 (pa_cons (pv 0) (pa_cons pe_str pa_nil))))
  (pss_one (ps_ret (pe_lc (own := [("at", 1)]) (g := gName 1) rfl scDepths.nd (pi_list (pe_dn D__ones (hr.mono (by decide)) (by rfl) pass0 (pa_cons (pv 0) pa_nil))) (blkOk_by (own := [("at", 1)]) (N := ["word", "at"]) (sc := defScope sDepths) (by decide +kernel)) (fun _ _ _ _ _ => (pg_name (i := 1) scDepths.nd rfl (Or.inl rfl))) (fun _ _ _ _ _ => pts_nil) (fun _ _ _ _ _ => (pe_op op_sub (pe_callB call_len_str (by rfl) B.len PySem.boot_len (pa_cons (pv 0) pa_nil)) (pv 1))))))), ?_⟩
    refine ⟨_, rfl, _, _, rfl, by omega, hw, ?_⟩
    refine ⟨_, rfl, _, rfl, hl, fun p H1 hp hS hL => ⟨p, rfl, ⟨_, SqL.of hL⟩, fun D hD => ?_⟩⟩
    refine lc_growL (fun x => match x with | .int i => .int ((l.length : Int) - i) | v => v) (SqL.of hL) hD (by rw [List.length_map, List.length_map]; exact Nat.lt_of_le_of_lt (by have h2 := List.length_filter_le (fun k => l[k]? == some true) (List.range l.length); rw [List.length_range] at h2; exact h2) (by omega)) ?_ ?_
    · intro x H2 R hx hS2 h
      obtain ⟨i, _, rfl⟩ := List.mem_map.mp hx
      exact ⟨rfl, _, rfl, _, rfl, small_le (by rw [tx_len]; omega), _, rfl, _, _, rfl, rfl, by rw [tx_len]; exact h _ (Same.refl _)⟩
    · intro H2 hS2 hL2
      refine k D H2 ?_ (hS.trans hS2) ?_
      · exact Classical.byContradiction fun h => by
          obtain ⟨o, ho⟩ := Option.ne_none_iff_exists'.mp h
          rw [hS _ _ ho] at hD; cases hD
      · rw [hL2, List.map_map, List.map_map]
        unfold dps
        rw [List.map_map]
        rfl
def spWordOf (K : PySem.W.Frag) : Sp := fun vs H Q _ => ∃ a l, vs = [.ref a] ∧ l.length ≤ 9000 ∧ Wd l ∧ SqL K H a ((dps l).map V.int) ∧ ∀ H', Same H H' → Q (.str (tx l)) H'
end
end Cl

/-! ### an own error over an own base over ValueError: super().__init__(text), then one field -/
namespace PySem
namespace OwnX
open PySem.W PySem.Calls PyProof.Rows PySem.HandSPX
def iA (fl : Str) (p1 p2 : Pos) : Arguments := { posonlyargs := [], args := [{ arg := "self", annotation := none, pos := p1 }, { arg := fl, annotation := none, pos := p2 }], vararg := none, kwonlyargs := [], kw_defaults := [], kwarg := none, defaults := [] }
def iB (fl : Str) (me : Expr) (q1 q2 q3 q4 q5 q6 q7 q8 q9 : Pos) : List Stmt :=
  [.Expr (.Call (.Attribute (.Call (.Name "super" q1) [] [] q2) "__init__" q3) [me] [] q4) q5, .Assign [.Attribute (.Name "self" q6) fl q7] (.Name fl q8) q9]
def iS (fl : Str) : Scope := { kind := .function, names := [(PySem.Str.ofString "self", .local), (fl, .local), (PySem.Str.ofString "__class__", .free), (PySem.Str.ofString "super", .globalImplicit)], isGenerator := false, isCoroutine := false, more := [] }
abbrev ve : String := "ValueError.__init__"
/-- the text that the error hands on: a constant, or f'..{field}..' -/
inductive Msg (fl : Str) : Expr → Bool → Prop where
  | con (z : Str) (k : Nat) (p : Pos) : Msg fl (.Constant (.str z) k p) false
  | fmt (a b : Str) (j k : Nat) (p1 p2 p3 p4 p5 : Pos) (ha : a.length ≤ 1000) (hb : b.length ≤ 1000) :
    Msg fl (.JoinedStr [.Constant (.str a) j p1, .FormattedValue (.Name fl p2) (-1) none p3, .Constant (.str b) k p4] p5) true
/-- what is asked of the field's value: a text, where the message has it -/
def okF (ok : Bool) (v : Value) : Prop := ok = true → ∃ z t, v = .str z t ∧ z.length ≤ 1000
/-- what is reckoned for each field's name -/
structure FlOk (fl : Str) : Prop where
  bind : ∀ (qual : Str) (me : Expr) (p1 p2 q1 q2 q3 q4 q5 q6 q7 q8 q9 : Pos) (doc pm : Value) (an : Option Addr) (cd ct : Value) (cc : Addr) (a b : Value),
    bindArgs (ksFn "__init__" qual (iA fl p1 p2) (iB fl me q1 q2 q3 q4 q5 q6 q7 q8 q9) (iS fl) .none .none doc pm an cd ct cc) ⟨[a, b], []⟩ = pure [(("self" : Str), a), (fl, b)]
  lf : (iS fl).names.lookup fl = some .local
  lc : (iS fl).names.lookup ("__class__" : Str) = some .free
  lu : (iS fl).names.lookup ("super" : Str) = some .globalImplicit
  dbg : (fl == ("__debug__" : Str)) = false
  sf : (("self" : Str) == fl) = false
  cells : ∀ y ∈ (iS fl).names, y.2 ≠ .cell
  lk : ∀ v : Value, List.lookup fl [(fl, v)] = some v
/-- what the written part says of the class x at C, of its __init__ at fI -/
structure OwnTxt (prog : Program) (K : Frag) (C fI : Addr) (fl : Str) (ok : Bool) : Prop where
  cls : ∃ nm q N bs bm sn sub ab col dd k0 k1 k2 k3 k5, K.lookup C = some (excClassObj nm q C N bs bm true sn sub ab col dd k0 k1 k2 k3 k5 "ValueError.__new__") ∧ refsVE bm = true
  sa : findIn K (.ref C) "__setattr__" = some (some (.builtin "object.__setattr__"))
  noN : findIn K (.ref C) fl = some none
  iC : findIn K (.ref C) "__init__" = some (some (.ref fI))
  tC : typeIn K (.ref fI) = some (.type "function")
  su : ks_superIn K C C "__init__" = some (some (.builtin ve))
  sv : subIn K (.ref C) (.type "ValueError") = some true
  op : nsIn K cStatics "thirdparty.any" = some none
  ds : mroIn K C (.ref C) = some true
  fo : FlOk fl
  fn : ∃ (qual : Str) (oc : Value) (od : Option Addr) (doc pm : Value) (an : Option Addr) (cda : Addr) (ct : Value) (osl : Array (Option Value)) (me : Expr) (p1 p2 q1 q2 q3 q4 q5 q6 q7 q8 q9 : Pos) (cc : Addr) (cl : Value) (cld : Option Addr) (csl : Array (Option Value))
    (ccl : Value) (cdd : Option Addr) (ccs : Array (Option Value)) (vs : Array Value) (file : Str) (tf : Tok),
    K.lookup fI = some ⟨oc, od, .func (ksFn "__init__" qual (iA fl p1 p2) (iB fl me q1 q2 q3 q4 q5 q6 q7 q8 q9) (iS fl) .none .none doc pm an (.ref cda) ct cc), osl⟩ ∧ codeIn K (.ref cda) qual = true ∧ Msg fl me ok ∧
    K.lookup cc = some ⟨cl, cld, .cell (some (.ref C)), csl⟩ ∧ K.lookup cda = some ⟨ccl, cdd, .fields vs, ccs⟩ ∧ vs[2]? = some (.str file tf) ∧ ((prog.main.file : Str) == file) = true ∧ (q3.endLine == q4.line) = true
  main : (prog.main.scope.names.lookup ("super" : Str)).isSome = false
theorem one_size (v : Value) : [v].length ≤ sizeLine := by
  rw [sizeLine_eq]
  exact (by decide : 1 ≤ 16777216)
/-- what __init__ leaves of a fresh exception at x -/
structure InitEnd (h h' : Heap) (x C dx : Addr) (fl : Str) (v : Value) : Prop where
  keep : ∀ b o, b ≠ x → h.get? b = some o → h'.get? b = some o
  obj : ∃ t1 : Addr, h'.get? x = some { cls := .ref C, dict := some dx, data := .fields #[.ref t1, .none, .none, .none, .bool false, .none] }
  dbig : h.objs.size ≤ dx
  dne : dx ≠ x
  ns : h'.Ns1 dx (fun y => if y = fl then some v else none)
section
variable {prog : Program} {w : World} {M : Model} {A : Around} {E : Value → Shared → Prop} {h : Heap} {g : Array GenState} {d : Drawn} {t : Nat} {os : OsState}
variable {nm q : Str} {C N : Addr} {bs bm : List Value} {hdct : Bool} {sn : List Str} {sub : List Value} {ab : Bool} {col : Option Bool} {dd : Option Addr} {k0 k1 k2 k3 k5 : Option Value}
theorem call_mw {u e t0 : Addr} {rest : List Value} {Q : Value → Shared → Prop}
    (hC : h.get? C = some (excClassObj nm q C N bs bm hdct sn sub ab col dd k0 k1 k2 k3 k5 "ValueError.__new__")) (he : h.get? e = some (excO C t0)) (hu : h.get? u = some (kxs_mw ve e)) (hrest : rest.length ≤ sizeLine)
    (hq : ∀ h' t1, (∀ b o, b ≠ e → h.get? b = some o → h'.get? b = some o) → h'.get? e = some (excO C t1) → Q .none ⟨h', g, d, t, os⟩) :
    wpAny (model prog w) A (call (.ref u) rest) Q E ⟨h, g, d, t, os⟩ := by
  refine wpAny_call (codeAny_of_tree ?_)
  show wpAny _ A.in1 (callAny (.ref u) ⟨rest, []⟩) _ _ _
  simp only [callAny]
  refine wpAny_bind (wpAny_load hu ?_)
  simp only [kxs_mw, show (Value.type "method-wrapper" == Value.type "method" || Value.type "method-wrapper" == Value.type "builtin_function_or_method" || Value.type "method-wrapper" == Value.type "method-wrapper") = true by decide, if_true]
  refine W.KFB.if_so (by decide) ?_
  refine wpAny_bind (check_bound_init F.excBase_ValueError.toExcCallFacts hC he rfl ?_)
  refine wpAny_bind (wpAny_pure (wpAny_pure ?_))
  refine ⟨plainId_quiet F.excBase_ValueError.init.plain _, codeAny_builtin F.excBase_ValueError.initEntry ?_⟩
  exact exc_init_tree (cls := .ref C) (t0 := t0) (dv := none) (c2 := .none) (c3 := .none) (b4 := .bool false) he hrest fun h' k e' _ => hq h' _ k e'
end
section
variable {prog : Program} {w : World} {A : Around} {E : Value → Shared → Prop} {R : Result → Shared → Prop} {s : Shared} {K : Frag} {mg : Str → Option Value} {C fI : Addr} {fl : Str} {ok : Bool}
theorem msg_eval {me : Expr} {env : Env} {m : Str → Option Value} {v : Value} {Q : Value → Shared → Prop} (M : Msg fl me ok) (hv : okF ok v) (hns : s.heap.Ns env.locals m) (hm : m fl = some v) (hk : env.scope.kind = .function) (hl : env.kindOf fl = some .local) (hd : (fl == ("__debug__" : Str)) = false)
    (h : ∀ (z : Str) (t k : Nat), Q (.str z t) { s with toks := k }) : wpAny (model prog w) A (eval me env) Q E s := by
  cases M with
  | con z k p => exact Calls.Constant_str (h _ _ _)
  | fmt a b j k p1 p2 p3 p4 p5 ha hb =>
    obtain ⟨z, t, rfl, hz⟩ := hv rfl
    refine wpAny_JoinedStr ?_
    have big : (1000000 : Nat) ≤ sizeLine := by decide
    have e0 : (Str.empty ++ a).length = a.length := by rw [Str.length_append]; simp [Str.empty, Str.length]
    have e1 : (Str.empty ++ a ++ z).length = a.length + z.length := by rw [Str.length_append, e0]
    have e2 : (Str.empty ++ a ++ z ++ b).length = a.length + z.length + b.length := by rw [Str.length_append, e1]
    refine Calls.Constant_str ⟨a, _, rfl, by rw [e0]; omega, ?_⟩
    have nxt : ∀ (t2 k2 : Nat), wpAny (model prog w) A (eval (.Constant (.str b) k p4) env) (fun v s1 => ∃ (y : Str) (tk : Tok), v = .str y tk ∧ (Str.empty ++ a ++ z ++ y).length ≤ sizeLine ∧ Joins (model prog w) A E [] (Str.empty ++ a ++ z ++ y) (fun out s₁ => out.length ≤ sizeLine ∧ Q (.str out s₁.toks) { s₁ with toks := s₁.toks + 1 }) s1) E { s with toks := k2 } := fun t2 k2 => by
      refine Calls.Constant_str ⟨b, _, rfl, by rw [e2]; omega, ?_⟩
      exact ⟨by rw [e2]; omega, h _ _ _⟩
    refine wpAny_FormattedValue_plain (wpAny_Name (wpAny_loadName_local hk hl hns hm ?_) hd)
    exact wpAny_formatField_str ⟨z, t, rfl, by rw [e1]; omega, nxt t _⟩ ⟨z, _, rfl, by rw [e1]; omega, nxt t _⟩ (by omega)
theorem msg_call {me : Expr} {q1 q2 apos pos : Pos} {env : Env} (M : Msg fl me ok) (hline : (apos.endLine == pos.line) = true) : ∃ pl : Sem Bool, eval (.Call (.Attribute (.Call (.Name "super" q1) [] [] q2) "__init__" apos) [me] [] pos) env = (do
      let ov ← attributeBase (.Call (.Name "super" q1) [] [] q2) "__init__" env (eval (.Call (.Name "super" q1) [] [] q2) env)
      standAt apos.atName
      let (f, first) ← holding [ov] (getMethod ov "__init__" pl)
      callWith pos f first (backTo pos (starEach [me] env)) []) := by
  refine ⟨do return (← importBound (.Call (.Name "super" q1) [] [] q2) env).getD true, ?_⟩
  have few : methodCallForm ([me].length + ([] : List Keyword).length) (backTo pos (starEach [me] env)) (backToKw pos (keywordEach [] env)) = true := by cases M <;> rfl
  show (do
      let ov ← attributeBase (.Call (.Name "super" q1) [] [] q2) "__init__" env (eval (.Call (.Name "super" q1) [] [] q2) env)
      standAt apos.atName
      methodCall (.Call (.Name "super" q1) [] [] q2) "__init__" apos pos env ov ([me].length + ([] : List Keyword).length) (backTo pos (starEach [me] env)) (backToKw pos (keywordEach [] env))) = _
  unfold methodCall calleeOf methodCallPos
  rw [few, hline]
  rfl
theorem msg_star {me : Expr} {env : Env} (M : Msg fl me ok) : starEach [me] env = (false, eval me env) :: starEach [] env := by cases M <;> rfl
theorem msg_swap {me o : Expr} {apos pos : Pos} {env : Env} {line : Nat} (M : Msg fl me ok) : swapsWith (.Call (.Attribute o "__init__" apos) [me] [] pos) none line env = pure false := by cases M <;> rfl
theorem mw_callWith1 {u x : Addr} {pos : Pos} {env : Env} {e : Expr} {Q : Value → Shared → Prop} (he : starEach [e] env = (false, eval e env) :: starEach [] env)
    (h : wpAny (model prog w) A (eval e env) (fun v s₁ => KxsAt ve u x s₁.heap ∧ wpAny (model prog w) A (call (.ref u) [v]) Q E s₁) E s) :
    wpAny (model prog w) A (callWith pos (.ref u) [] (backTo pos (starEach [e] env)) []) Q E s := by
  have h2 : wpAny (model prog w) A (spliced (backTo pos (starEach [e] env))) (fun vs s₁ => KxsAt ve u x s₁.heap ∧ wpAny (model prog w) A (call (.ref u) vs) Q E s₁) E s := by
    exact spliced_more (wpAny_mono h (fun v s₁ h₁ => spliced_none h₁) fun _ _ z => z) he
  rw [he] at h2 ⊢
  refine kxs_callWith (i := ve) (x := x) rfl ?_
  exact evalArgs_plain h2
/-- the whole __init__ at a fresh exception -/
theorem own_init (T : OwnTxt prog K C fI fl ok) {x t0 : Addr} {v : Value} (X : K.In s.heap) (hlim : s.heap.NoLimit) (hgl : s.heap.Ns mainGlobals mg) (hms : mg "super" = none) (hbl : ∃ mb, s.heap.Ns builtinsNs mb ∧ ∀ y : Str, y ≠ "__name__" → mb y = bootBuiltins y)
    (hok : okF ok v) (hx : s.heap.get? x = some (excO C t0)) (hnx : K.lookup x = none) (hroom : A.depth < recursionLimit)
    (hq : ∀ h' tk dx, InitEnd s.heap h' x C dx fl v → R (.ok (.ret .none)) { s with heap := h', toks := tk }) :
    codeAny (model prog w) A (.call (.ref fI) ⟨[.ref x, v], []⟩) R s := by
  obtain ⟨qual, oc, od, doc, pm, an, cda, ct, osl, me, p1, p2, q1, q2, q3, q4, q5, q6, q7, q8, q9, cc, cl, cld, csl, ccl, cdd, ccs, vs, file, tf, ho, hcd, hM, hcell, hcode, hvs, hfile, hline⟩ := T.fn
  obtain ⟨nm, q, N, bs, bm, sn, sub, ab, col, dd, k0, k1, k2, k3, k5, hC, hbm⟩ := T.cls
  have hcl : clsIn K C = some { name := nm, bases := bs, mro := .ref C :: bm, ns := N, qualname := q, hasDict := true, slotNames := sn, subclasses := sub, abstract := ab, collection := col, hasDel := false } := by unfold clsIn; rw [hC] <;> rfl
  have FO := T.fo
  have env0 : ∀ L, (callEnv (ksFn "__init__" qual (iA fl p1 p2) (iB fl me q1 q2 q3 q4 q5 q6 q7 q8 q9) (iS fl) .none .none doc pm an (.ref cda) ct cc) L fI) = ksEnv qual (iS fl) L fI (.ref cda) cc := fun L => rfl
  refine ks_codeAny_call_defAt (fd := ksFn "__init__" qual (iA fl p1 p2) (iB fl me q1 q2 q3 q4 q5 q6 q7 q8 q9) (iS fl) .none .none doc pm an (.ref cda) ct cc) (body := iB fl me q1 q2 q3 q4 q5 q6 q7 q8 q9) (binds := [(("self" : Str), .ref x), (fl, v)])
    hroom (X _ _ ho) rfl hlim (codeRec_of X hcd) rfl (BindsTo.of_eq (FO.bind _ _ _ _ _ _ _ _ _ _ _ _ _ _ _ _ _ _ _ _ _)) FO.cells ?_ (fun h₁ hn k => ?_)
  · intro y hy
    rcases List.mem_cons.mp hy with rfl | hy
    · rfl
    · rw [List.mem_singleton.mp hy]; exact FO.lf
  have X₁ : K.In h₁ := X.keeps k
  have hx₁ := k _ _ hx
  have hxL : s.heap.objs.size ≠ x := Nat.ne_of_gt (Heap.lt_size hx)
  have mv : (fun y => List.lookup y ([(("self" : Str), Value.ref x), (fl, v)] : List (Str × Value)).reverse) fl = some v := by
    show List.lookup fl [(fl, v), (("self" : Str), Value.ref x)] = some v
    have := FO.lk v
    unfold List.lookup at this ⊢
    cases hb : (fl == fl)
    · rw [hb] at this; cases this
    · rfl
  have ms : (fun y => List.lookup y ([(("self" : Str), Value.ref x), (fl, v)] : List (Str × Value)).reverse) "self" = some (.ref x) := by
    show List.lookup ("self" : Str) [(fl, v), (("self" : Str), Value.ref x)] = some (.ref x)
    unfold List.lookup
    rw [FO.sf]
    rfl
  obtain ⟨mb, hb1, hb2⟩ := hbl
  obtain ⟨pl, hpl⟩ := msg_call (q1 := q1) (q2 := q2) (apos := q3) (pos := q4) (env := ksEnv qual (iS fl) s.heap.objs.size fI (.ref cda) cc) hM hline
  refine ks_wpAt_execs_cons (ks_wpAt_Expr_any (ks_wpAt_MethodCall (pl := pl) ?_ hpl) rfl (msg_swap hM))
  obtain ⟨hp, g, dr, tk, os⟩ := s
  obtain ⟨oD, cdD, hD1, hD2⟩ : ∃ (oD : Obj) (cdD : ClassData), h₁.get? C = some oD ∧ oD.data = .cls cdD := ⟨_, _, X₁ _ _ hC, rfl⟩
  refine ks_wpAt_super_base (env := ksEnv qual (iS fl) hp.objs.size fI (.ref cda) cc) (ar := { arg := "self", annotation := none, pos := p1 }) FO.lu FO.lc rfl rfl (X₁ _ _ ho) rfl rfl rfl (X₁ _ _ hcode) rfl hvs hfile T.main ?_
  refine ks_loadName_global rfl FO.lu (loadGlobal_builtin (env := ksEnv qual (iS fl) hp.objs.size fI (.ref cda) cc) (hgl.keeps k) hms (hb1.keeps k) ((hb2 _ (by decide +kernel)).trans (by decide +kernel : bootBuiltins "super" = some (.type "super"))) ⟨rfl, ?_⟩)
  refine wpAny_loadName_free rfl FO.lc rfl ⟨_, X₁ _ _ hcell, rfl⟩ ?_
  refine wpAny_loadName_local rfl rfl hn ms ?_
  refine ks_wpAny_isType_cls hD1 hD2 ⟨rfl, ?_⟩
  refine ks_wpAny_call_super hD1 hD2 hx₁ rfl (fun c e => nomatch e) (looks_mroIn X₁ T.ds) (fun h₂ hso k₂ => ?_)
  have X₂ : K.In h₂ := X₁.keeps k₂
  have hx₂ := k₂ _ _ hx₁
  have I₂ : InstAt h₂ x (excO C t0) C none := ⟨hx₂, rfl, rfl, trivial⟩
  have hsu := T.su
  unfold ks_superIn at hsu
  rw [hcl] at hsu
  refine kxs_getMethod kxs_ValueError hso (looks_opaque X₂ T.op) (l₀ := .ref C :: bm) ?_ rfl X₂ hsu (I₂.type.andThen (looks_subIn X₂ T.sv)) (ks_ne X₂ I₂ hcl) rfl ?_
  · exact fun A Q E s k q => wpAny_bind ((looks_clsIn X₂ hcl) A _ E s k (wpAny_pure q))
  have k₃ : ∀ b o, h₂.get? b = some o → (h₂.push (kxs_mw ve x)).get? b = some o := fun b o e => Heap.get?_push_of_some _ e
  have hu : (h₂.push (kxs_mw ve x)).get? h₂.objs.size = some (kxs_mw ve x) := Heap.get?_push_at rfl rfl
  have X₃ := X₂.keeps k₃
  have hx₃ := k₃ _ _ hx₂
  have n₃ := (hn.keeps k₂).keeps k₃
  generalize h₂.push (kxs_mw ve x) = h₃ at *
  refine mw_callWith1 (x := x) (msg_star hM) (msg_eval hM hok n₃ mv rfl FO.lf FO.dbg fun z tz kz => ⟨hu, ?_⟩)
  refine call_mw (X₃ _ _ hC) hx₃ hu (one_size _) fun h₄ t1 k₄ hx₄ => ?_
  have nxL : hp.objs.size ≠ x := hxL
  have n₄ : h₄.Ns hp.objs.size (fun y => List.lookup y ([(("self" : Str), Value.ref x), (fl, v)] : List (Str × Value)).reverse) := n₃.at fun o e => k₄ _ _ nxL e
  have X₄ : K.In h₄ := fun a o e => k₄ a o (fun z => by rw [z, hnx] at e; cases e) (X₃ a o e)
  show _root_.PySem.wpAt _ _ _ (execs _ _) _ _ _
  refine wpAt_of_wpAny (wpAny_execs_cons (plainObj_wpAny_Assign_Attribute ?_))
  refine wpAny_Name (wpAny_loadName_local rfl FO.lf n₄ mv ?_) FO.dbg
  refine wpAny_Name (wpAny_loadName_local rfl rfl n₄ ms ?_) (by decide)
  refine set_plain X₄ (ox := excO C t1) (od := none) ⟨hx₄, rfl, rfl, trivial⟩ T.sa ?_
  refine exc_osa X₄ hx₄ hcl (show refsVE (.ref C :: bm) = true from hbm) rfl T.noN (fun h₅ tk₅ dx k₅ dn dne hx₅ hn₅ => ?_)
  show wpAny _ _ (execs _ _) _ _ _
  have kk : ∀ b o, b ≠ x → hp.get? b = some o → h₅.get? b = some o := fun b o hb e => k₅ b o hb (k₄ b o hb (k₃ _ _ (k₂ _ _ (k _ _ e))))
  have z : hp.objs.size < h₄.objs.size := n₄.lt
  exact wpAny_execs_nil (hq h₅ tk₅ dx ⟨kk, ⟨t1, hx₅⟩, Nat.le_of_lt (Nat.lt_of_lt_of_le z dn), dne, hn₅⟩)
/-- a made error -/
structure ErrMade (h h' : Heap) (e C d : Addr) (fl : Str) (v : Value) : Prop where
  keep : ∀ b o, h.get? b = some o → h'.get? b = some o
  new : h.objs.size ≤ e
  obj : ∃ oe vs, h'.get? e = some oe ∧ oe.cls = .ref C ∧ oe.dict = some d ∧ oe.data = .fields vs ∧ vs[1]? = some .none
  dbig : h.objs.size ≤ d
  dne : d ≠ e
  ns : h'.Ns1 d (fun y => if y = fl then some v else none)
theorem err_made (T : OwnTxt prog K C fI fl ok) {v : Value} (X : K.In s.heap) (hlim : s.heap.NoLimit) (hgl : s.heap.Ns mainGlobals mg) (hms : mg "super" = none) (hbl : ∃ mb, s.heap.Ns builtinsNs mb ∧ ∀ y : Str, y ≠ "__name__" → mb y = bootBuiltins y) (hok : okF ok v)
    (hroom : A.depth + 1 < recursionLimit) (hq : ∀ h' tk e d, ErrMade s.heap h' e C d fl v → R (.ok (.ret (.ref e))) { s with heap := h', toks := tk }) :
    codeAny (model prog w) A (.call (.ref C) ⟨[v], []⟩) R s := by
  obtain ⟨nm, q, N, bs, bm, sn, sub, ab, col, dd, k0, k1, k2, k3, k5, hC, hbm⟩ := T.cls
  obtain ⟨hp, g, dr, tk, os⟩ := s
  have k : ∀ b o, hp.get? b = some o → ((hp.push (kdv_tup [v])).push (excO C hp.objs.size)).get? b = some o := fun b o e => Heap.get?_push_of_some _ (Heap.get?_push_of_some _ e)
  have hget : ((hp.push (kdv_tup [v])).push (excO C hp.objs.size)).get? (hp.objs.size + 1) = some (excO C hp.objs.size) := by heap_get
  have hnx : K.lookup (hp.objs.size + 1) = none := by
    cases e : K.lookup (hp.objs.size + 1) with
    | none => rfl
    | some o =>
      have z : hp.get? (hp.objs.size + 1) = some o := X _ _ e
      exact absurd (Nat.lt_of_succ_lt (Heap.lt_size z)) (Nat.lt_irrefl _)
  obtain ⟨mb, hb1, hb2⟩ := hbl
  refine call_own F.excBase_ValueError (fun X => refsVE_contains X bm hbm) (X _ _ hC) (looks_findIn X T.iC) (fun self => bind_fn X self T.tC) (one_size v) ?_
  refine own_init (s := ⟨(hp.push (kdv_tup [v])).push (excO C hp.objs.size), g, dr, tk, os⟩) T (X.keeps k) (hlim.keeps k) (hgl.keeps k) hms ⟨mb, hb1.keeps k, hb2⟩ hok hget hnx ?_ fun h' tk' dx ⟨k', ⟨t1, hx⟩, dn, dne, hns⟩ => ?_
  · show A.depth + 1 < recursionLimit
    exact hroom
  · have old : ∀ b o, hp.get? b = some o → h'.get? b = some o := fun b o e => k' b o (Nat.ne_of_lt (Nat.lt_succ_of_lt (Heap.lt_size e))) (k b o e)
    have z : hp.objs.size + 1 + 1 ≤ dx := by
      have q := dn
      rw [Heap.size_push, Heap.size_push] at q
      exact q
    exact ⟨rfl, hq h' tk' (hp.objs.size + 1) dx ⟨old, Nat.le_succ _, ⟨_, _, hx, rfl, rfl, rfl, rfl⟩, Nat.le_trans (Nat.le_trans (Nat.le_succ _) (Nat.le_succ _)) z, dne, hns⟩⟩
end
end OwnX
end PySem
namespace L2
open PySem PySem.Spec PyProof.Rows
theorem relO_fld {fl : Str} {v : V} {v' : Value} (r : RelV v v') (f : Str) : RelO (List.lookup f [(fl, v)]) (if f = fl then some v' else none) := by
  by_cases hw : f = fl
  · subst hw
    rw [if_pos rfl]
    have q : List.lookup f [(f, v)] = some v := by simp [List.lookup]
    rw [q]
    exact r
  · rw [if_neg hw]
    have qw : (f == fl) = false := by simpa using hw
    have q2 : List.lookup f [(fl, v)] = none := by simp [List.lookup, qw]
    rw [q2]
    trivial
def okV (ok : Bool) (v : V) : Prop := ok = true → ∃ z, v = .str z ∧ z.length ≤ 1000
section
variable {X : Cx} {C fI : Addr} {fl : Str} {ok : Bool}
/-- Err(e) -/
def tMkErr (C : Addr) (fl : Str) (ok : Bool) (ta : TA) : St → Hp → XK → Prop := fun σ H Q => ta σ H fun vs H1 => ∃ v, vs = [v] ∧ okV ok v ∧ ∀ d, H1 d = none → Q (.ref C) (some d) (upd H1 d (.xd [(fl, v)]))
theorem pmk_err {nm : Str} {a : Expr} {ta : TA} {p pos : Pos} {k : Nat} (T : PySem.OwnX.OwnTxt X.prog X.K C fI fl ok) (exC : PySem.W.subIn X.K (.ref C) (.type "BaseException") = some true) (tyC : PySem.W.typeIn X.K (.ref C) = some (.type "type")) (kC : PySem.W.keepIn X.K (.ref C) = true)
    (gC : X.mg nm = some (.ref C)) (hms : X.mg "super" = none) (hr : Room (k + 1) X.A) (ha : PA X [a] ta) (hg : Gl X nm) (hdb : (nm == ("__debug__" : Str)) = false)
    (he : starEach (a :: []) X.env = (false, eval a X.env) :: starEach [] X.env := by rfl) (hpl : (backTo pos (starEach [] X.env)).any (·.1) = false := by rfl) :
    PMk X (.Call (.Name nm p) [a] [] pos) (tMkErr C fl ok ta) := by
  intro pins s σ H Q I h
  refine wpAny_Call_Name_kw (ld_glob I hg gC ?_ hdb)
  refine PySem.W.callWith_K (h₀ := X.base) I.ok.mod.kin kC (thn (ha.run pos pins s σ H _ I h) fun us s1 hh => ?_) he hpl
  obtain ⟨vs, H1, I1, r1, v, ev, hok, q1⟩ := hh
  subst ev
  refine ⟨I1.kIn, ?_⟩
  cases r1 with
  | cons rv rn =>
    rename_i v' us'
    cases rn
    show wpAny _ _ (call (.ref C) [v']) _ _ _
    have hlim := I1.nolimit
    have hok' : PySem.OwnX.okF ok v' := fun e => by
      obtain ⟨z, rfl, hz⟩ := hok e
      obtain ⟨t, rfl⟩ := rv
      exact ⟨z, t, rfl, hz⟩
    obtain ⟨mb, hb1, hb2⟩ := I1.mod.blt
    have hgl := I1.mod.glob.keeps I1.bk
    have hbl := hb1.keeps I1.bk
    obtain ⟨hp, g, dr, tk, os⟩ := s1
    refine wpAny_call (PySem.OwnX.err_made T I1.kIn hlim hgl hms ⟨mb, hbl, hb2⟩ hok' (by have := hr.dp; omega) fun h' tk' e d M => ?_)
    show MkP X pins σ Q (.ref e) ⟨h', g, dr, tk', os⟩
    obtain ⟨oe, fv, hoe, hc, hd, hdat, h1⟩ := M.obj
    have hns := M.ns
    obtain ⟨G', g1, g2⟩ := restrict h' fun b => decide (b ≠ e)
    have gk : ∀ b, b ≠ e → G'.get? b = h'.get? b := fun b hb => g1 b (decide_eq_true hb)
    have ge : G'.get? e = none := g2 e (by simp)
    have old : ∀ b o, hp.get? b = some o → G'.get? b = some o := fun b o q => (gk b (Nat.ne_of_lt (Nat.lt_of_lt_of_le (Heap.lt_size q) M.new))).trans (M.keep b o q)
    have ob : ObjOk X.prog X.w (upd H1 d (.xd [(fl, v)])) G' d (.xd [(fl, v)]) :=
      ⟨_, hns.at (fun o q => (gk d M.dne).trans q), fun f => relO_fld rv f⟩
    have J : Inv X pins σ (upd H1 d (.xd [(fl, v)])) ⟨G', g, dr, tk', os⟩ := I1.laid (t' := tk') old M.dbig ob
    refine ⟨e, oe, fv, ⟨G', g, dr, tk', os⟩, _, .ref C, some d, rfl, J, fun b o q => ?_, ge, hoe, ⟨hc, hd⟩, hdat, h1, ?_, rfl, I1.bare, raises_own exC tyC, q1 d (I1.hok.fresh M.dbig)⟩
    · by_cases hb : b = e
      · have q' : G'.get? b = some o := q
        rw [hb, ge] at q'; cases q'
      · exact (gk b hb).symm.trans q
    · rw [upd_ne (Ne.symm M.dne)]
      exact I1.hok.fresh M.new
end
end L2

/-! ### own errors by their names -/
namespace Cl
open PySem L2 PyProof.Rows
theorem kit_err {K : PySem.W.Frag} {C S : Addr} {b : Bool} (ne : (Value.ref C == Value.ref S) = false) (c : (PySem.W.clsIn K S).isSome = true) (t : PySem.W.typeIn K (.ref S) = some (.type "type")) (s : PySem.W.subIn K (.ref C) (.ref S) = some b) : PySem.W.kitOne K (.ref C) (.ref S) = some b := by
  have e2 : ((PySem.W.clsIn K S).isSome && PySem.W.typeIn K (.ref S) == some (.type "type")) = true := by rw [c, t] <;> rfl
  unfold PySem.W.kitOne PySem.W.kitCls
  rw [ne, if_neg Bool.false_ne_true]
  show (if ((PySem.W.clsIn K S).isSome && PySem.W.typeIn K (.ref S) == some (.type "type")) = true then PySem.W.subIn K (.ref C) (.ref S) else none) = some b
  rw [if_pos e2]; exact s
theorem kit_self {K : PySem.W.Frag} {C : Addr} : PySem.W.kitOne K (.ref C) (.ref C) = some true := by
  unfold PySem.W.kitOne; simp
/-- the class x at C of the program's errors, its field fl -/
structure ErrC (P : Program) (K : PySem.W.Frag) (mg : Str → Option Value) (x : Str) (C : Addr) (fl : Str) (ok : Bool) : Prop where
  T : ∃ fI, PySem.OwnX.OwnTxt P K C fI fl ok
  g : mg x = some (.ref C)
  su : mg "super" = none
  kp : PySem.W.keepIn K (.ref C) = true
  exC : PySem.W.subIn K (.ref C) (.type "BaseException") = some true
  tyC : PySem.W.typeIn K (.ref C) = some (.type "type")
  ga : PySem.W.findIn K (.ref C) "__getattribute__" = some (some (.builtin "BaseException.__getattribute__"))
  gg : PySem.W.findIn K (.ref C) "__getattr__" = some none
  hd : PySem.W.hasDictIn K C = true
  ha : PySem.W.findIn K (.ref C) "__class__" = some (some (.builtin "object.__class__"))
  hn : PySem.W.specialIn K (.builtin "object.__class__") "__get__" = some (some (.builtin "getset_descriptor.__get__"))
  ht : PySem.W.takesIn K (.builtin "object.__class__") = some true
  hm : PySem.W.mroIn K C (.type "object") = some true
  nm : (x == ("__debug__" : Str)) = false
  is_ : (PySem.W.clsIn K C).isSome = true
/-- an error of the class at C with the field fl = v flies: its own dict at d -/
def Err (H : Hp) (C : Addr) (fl : Str) (v : V) (cls : Value) (d : Option Addr) : Prop := cls = .ref C ∧ ∃ dd, d = some dd ∧ H dd = some (.xd [(fl, v)])
/-- the promise that such an error leaves -/
def Out (C : Addr) (fl : Str) (v : V) (H : Hp) (E : XK) : Prop := ∀ d : Addr, H d = none → E (.ref C) (some d) (upd H d (.xd [(fl, v)]))
section
variable {X : Cx} {C : Addr} {fl x : Str} {ok : Bool} {ta : TA} {a : Expr} {p pos pos2 : Pos} {k : Nat} {W : WX}
def tRaiseE (C : Addr) (fl : Str) (ok : Bool) (W : WX) (ta : TA) : TS := fun _ σ H => ta σ H fun vs H1 => ∃ v, vs = [v] ∧ okV ok v ∧ Out C fl v H1 fun cls d H' => W cls d σ H'
theorem ps_raiseE (T : ErrC X.prog X.K X.mg x C fl ok) (hc : X.calm = true) (hr : Room (k + 1) X.A) (tk : Takes X W) (ha : PA X [a] ta) (hg : Gl X x := by rfl)
    (he : starEach (a :: []) X.env = (false, eval a X.env) :: starEach [] X.env := by rfl) (hpl : (backTo pos (starEach [] X.env)).any (·.1) = false := by rfl) :
    PS X (.Raise (some (.Call (.Name x p) [a] [] pos)) none pos2) (tRaiseE C fl ok W ta) := by
  obtain ⟨fI, t⟩ := T.T
  exact ps_raise hc tk (pmk_err t T.exC T.tyC T.kp T.g T.su hr ha hg T.nm he hpl)
end
section
variable {X : Cx} {a : Addr} {oe : Obj} {cls : Value} {d : Option Addr} {pn : List (Addr × Obj)}
/-- err.fl in a suite: the class is told by the reading -/
def tFldE (P : Program) (K : PySem.W.Frag) (mg : Str → Option Value) (fl : Str) (a : Addr) (cls : Value) (d : Option Addr) (te : TE) : TE := fun σ H Q => te σ H fun y H1 => y = .ref a ∧ ∃ (x : Str) (C : Addr) (ok : Bool) (v : V), ErrC P K mg x C fl ok ∧ Err H1 C fl v cls d ∧ Q v H1
theorem pe_fldE {e : Expr} {te : TE} {fl : Str} {pos : Pos} (hz : Zc cls d oe) (hf : ∃ vs, oe.data = .fields vs) (he : PE (X.suite a ((a, oe) :: pn)) e te) (hb : attributeBase e fl X.env (eval e X.env) = eval e X.env := by rfl) :
    PE (X.suite a ((a, oe) :: pn)) (.Attribute e fl pos) (tFldE X.prog X.K X.mg fl a cls d te) := by
  refine ⟨fun pins s σ H Q I h => ?_⟩
  refine attr_of hb (thn (he.run pins s σ H _ I h) fun u s1 hh => ?_)
  obtain ⟨y, H1, I1, rx, ey, x, C, ok, v, T, ⟨ec, dd, ed, ea⟩, q⟩ := hh
  obtain ⟨fI, t⟩ := T.T
  subst ey ec ed
  obtain rfl : u = Value.ref a := rx
  obtain ⟨hat, _⟩ := I1.pin (a, oe) (List.mem_append_left _ List.mem_cons_self)
  obtain ⟨vs, hdat⟩ := hf
  obtain ⟨mA, hns, hr⟩ := (show ObjOk X.prog X.w H1 s1.heap dd (.xd [(fl, v)]) from I1.hok dd _ ea)
  obtain ⟨od, ho, hl⟩ := lookIn_ns hns
  have l : List.lookup fl [(fl, v)] = some v := by simp [List.lookup]
  obtain ⟨u, hu, ru⟩ := RelO.some_of (v := v) (o := mA fl) (by rw [← l]; exact hr fl)
  have J : PySem.W.InstAt s1.heap a oe C (some od) := ⟨hat, hz.1, by unfold PySem.W.notCls; rw [hdat] <;> rfl, by rw [hz.2]; exact ho⟩
  exact HandSPX.exc_get I1.kIn J T.ga T.gg T.exC (PySem.W.findObj_own T.hd t.noN rfl (by rw [hl, hu])) (handed_of ru) ⟨v, H1, I1.tok _, ru, q⟩
/-- isinstance(err, c) in a suite -/
def rIsErr (P : Program) (K : PySem.W.Frag) (mg : Str → Option Value) (a : Addr) (cls : Value) (d : Option Addr) : List V → Hp → VK → Prop := fun xs H Q => ∃ (c : V) (cv : Value) (b : Bool) (x : Str) (C : Addr) (fl : Str) (ok : Bool) (v : V), xs = [.ref a, c] ∧ (∀ u, RelV c u → u = cv) ∧
  ErrC P K mg x C fl ok ∧ Err H C fl v cls d ∧ PySem.W.kitOne K (.ref C) cv = some b ∧ Q (.bl b) H
theorem call_isErr (hz : Zc cls d oe) (hf : ∃ vs, oe.data = .fields vs) : CallR (X.suite a ((a, oe) :: pn)) (.builtin "isinstance") (rIsErr X.prog X.K X.mg a cls d) := by
  intro pins s σ H xs us Q I r h
  obtain ⟨c, cv, b, x, C, fl, ok, v, rfl, hcv, T, ⟨ec, dd, ed, ea⟩, e, q⟩ := h
  subst ec ed
  cases r with
  | cons rx rr =>
    cases rr with
    | cons rt rr =>
      cases rr
      cases rx
      obtain rfl := hcv _ rt
      obtain ⟨hat, _⟩ := I.pin (a, oe) (List.mem_append_left _ List.mem_cons_self)
      obtain ⟨vs, hdat⟩ := hf
      obtain ⟨mA, hns, _⟩ := (show ObjOk X.prog X.w H s.heap dd (.xd [(fl, v)]) from I.hok dd _ ea)
      obtain ⟨od, ho, _⟩ := lookIn_ns hns
      have J : PySem.W.InstAt s.heap a oe C (some od) := ⟨hat, hz.1, by unfold PySem.W.notCls; rw [hdat] <;> rfl, by rw [hz.2]; exact ho⟩
      exact PySem.W.kia_one (PySem.W.kitx_exc T.is_ T.ga T.gg T.exC T.ha T.hn T.ht T.hm) I.kIn J e (fun z => nomatch z) fun tk => ⟨.bl b, H, I.kept (t' := tk) fun _ _ z => z, rfl, q⟩
end
/-- a def that may raise, by its name -/
structure Dx (P : Program) (w : World) (K : PySem.W.Frag) (mg : Str → Option Value) (base : Heap) (x : Str) (k : Nat) (ps : List Str) (sp : Sp) (dvs : List V := []) : Prop where
  ex : ∃ (f : Addr) (fd : FuncData) (ds : List Value), FnOk P w K mg base (L2.CX P w) k f fd ps sp ∧ mg x = some (.ref f) ∧ PySem.W.keepIn K (.ref f) = true ∧ Binds K fd ps ds ∧ Vals dvs ds
section
variable {X : Cx} {k : Nat} {ps : List Str} {sp : Sp} {dvs : List V} {x : Str} {p pos : Pos} {e : Expr} {es : List Expr} {t : TA} {W : WX} {E : XK}
theorem passX0 : Passes (L2.CX X.prog X.w) X E0 := fun _ _ _ _ _ _ _ c => by
  obtain ⟨_, _, _, _, _, _, _, _, _, _, _, _, z⟩ := c
  exact z.elim
/-- its call where nothing is raised, or where what is raised is this def's own -/
theorem pe_dx (D : Dx X.prog X.w X.K X.mg X.base x k ps sp dvs) (hr : Room k X.A) (hg : Gl X x) (hx : Passes (L2.CX X.prog X.w) X E) (ha : PA X (e :: es) t)
    (hdb : (x == ("__debug__" : Str)) = false := by decide) (he : starEach (e :: es) X.env = (false, eval e X.env) :: starEach es X.env := by rfl)
    (hpl : (backTo pos (starEach es X.env)).any (·.1) = false := by rfl) : PE X (.Call (.Name x p) (e :: es) [] pos) (tCall sp dvs E t) := by
  obtain ⟨f, fd, ds, G, m, kp, b, v⟩ := D.ex
  exact pe_call G hr hg m kp b v hx ha hdb he hpl
/-- its call in the body of a try -/
theorem pe_dxT (D : Dx X.prog X.w X.K X.mg X.base x k ps sp dvs) (hr : Room k X.A) (hg : Gl X x) (tk : Takes X W) (ha : PA X (e :: es) t)
    (hdb : (x == ("__debug__" : Str)) = false := by decide) (he : starEach (e :: es) X.env = (false, eval e X.env) :: starEach es X.env := by rfl)
    (hpl : (backTo pos (starEach es X.env)).any (·.1) = false := by rfl) : PE X (.Call (.Name x p) (e :: es) [] pos) (tCallSD sp dvs (WE W) t) := by
  obtain ⟨f, fd, ds, G, m, kp, b, v⟩ := D.ex
  exact pe_callSD G hr hg m kp b v (fun σ => passAt tk σ) ha hdb he hpl
end
section
variable {P : Program} {w : World} {K : PySem.W.Frag} {mg : Str → Option Value} {base : Heap} {x qual : Str} {st : Stmt} {ps : List Str} {k : Nat} {sp : Sp} {kws : List (Str × V)} {h : Heap}
theorem AtTop.dx (t : AtTop K x qual st kws) (X : K.In h) (G : h.Ns mainGlobals mg)
    (hb : ∀ (kV doc pm : Value) (an : Option Addr) (cdv ct : Value) (us : List Value), us.length = ps.length → bindArgs (PySem.W.fnOf x qual (defArgs st) (defBody st) (defScope st) .none kV doc pm an cdv ct) ⟨us, []⟩ = pure (ps.zip us))
    (ok : ∀ (f : Addr) (fd : FuncData), Fun K x qual st f fd → FnOk P w K mg base (L2.CX P w) k f fd ps sp) : Dx P w K mg base x k ps sp := by
  obtain ⟨f, fd, a, F, _⟩ := t.ex
  exact ⟨f, fd, [], ok f fd F, PySem.W.mg_of X G a, F.kp, F.binds hb, .nil⟩
end
end Cl

/-! ### own errors found in the written part -/
namespace Cl
open PySem PySem.W PySem.Calls PySem.HandSPX L2 PyProof.Rows
/-- the class x at C, told by its __init__'s statement -/
structure ErrAt (P : Program) (K : PySem.W.Frag) (x : Str) (C : Addr) (fl : Str) (ok : Bool) : Prop where
  T : ∃ fI, PySem.OwnX.OwnTxt P K C fI fl ok
  a : PySem.W.nsIn K mainGlobals x = some (some (.ref C))
  kp : PySem.W.keepIn K (.ref C) = true
  exC : PySem.W.subIn K (.ref C) (.type "BaseException") = some true
  tyC : PySem.W.typeIn K (.ref C) = some (.type "type")
  ga : PySem.W.findIn K (.ref C) "__getattribute__" = some (some (.builtin "BaseException.__getattribute__"))
  gg : PySem.W.findIn K (.ref C) "__getattr__" = some none
  hd : PySem.W.hasDictIn K C = true
  ha : PySem.W.findIn K (.ref C) "__class__" = some (some (.builtin "object.__class__"))
  hn : PySem.W.specialIn K (.builtin "object.__class__") "__get__" = some (some (.builtin "getset_descriptor.__get__"))
  ht : PySem.W.takesIn K (.builtin "object.__class__") = some true
  hm : PySem.W.mroIn K C (.type "object") = some true
  nm : (x == ("__debug__" : Str)) = false
  is_ : (PySem.W.clsIn K C).isSome = true
theorem ErrAt.ec {P : Program} {K : PySem.W.Frag} {x : Str} {C : Addr} {fl : Str} {ok : Bool} {h : Heap} {mg : Str → Option Value} (t : ErrAt P K x C fl ok) (X : K.In h) (G : h.Ns mainGlobals mg) (su : PySem.W.nsIn K mainGlobals "super" = some none) : ErrC P K mg x C fl ok :=
  ⟨t.T, PySem.W.mg_of X G t.a, PySem.W.mg_none_of X G su, t.kp, t.exC, t.tyC, t.ga, t.gg, t.hd, t.ha, t.hn, t.ht, t.hm, t.nm, t.is_⟩
/-- the text of its __init__, as a statement of the program -/
structure OwnSt (st : Stmt) (fl : Str) (ok : Bool) : Prop where
  ex : ∃ (me : Expr) (p1 p2 q1 q2 q3 q4 q5 q6 q7 q8 q9 : Pos), (q3.endLine == q4.line) = true ∧ defArgs st = PySem.OwnX.iA fl p1 p2 ∧ defBody st = PySem.OwnX.iB fl me q1 q2 q3 q4 q5 q6 q7 q8 q9 ∧ defScope st = PySem.OwnX.iS fl ∧ PySem.OwnX.Msg fl me ok
theorem errAt {P : Program} {K : PySem.W.Frag} {x qual : Str} {C fI N cda cc : Addr} {fl file : Str} {ok : Bool} {st : Stmt} {nm q : Str} {bs bm : List Value} {sn : List Str} {sub : List Value} {ab : Bool} {col : Option Bool} {dd : Option Addr} {k0 k1 k2 k3 k5 : Option Value}
    {oc cl ccl doc pm ct : Value} {od an cld cdd : Option Addr} {osl csl ccs : Array (Option Value)} {vs : Array Value} {tf : Tok}
    (so : OwnSt st fl ok) (fo : PySem.OwnX.FlOk fl) (a : PySem.W.nsIn K mainGlobals x = some (some (.ref C)))
    (cls : K.lookup C = some (excClassObj nm q C N bs bm true sn sub ab col dd k0 k1 k2 k3 k5 "ValueError.__new__")) (bm_ : refsVE bm = true)
    (sa : PySem.W.findIn K (.ref C) "__setattr__" = some (some (.builtin "object.__setattr__"))) (noN : PySem.W.findIn K (.ref C) fl = some none)
    (iC : PySem.W.findIn K (.ref C) "__init__" = some (some (.ref fI))) (tC : PySem.W.typeIn K (.ref fI) = some (.type "function"))
    (su : PySem.W.ks_superIn K C C "__init__" = some (some (.builtin PySem.OwnX.ve))) (sv : PySem.W.subIn K (.ref C) (.type "ValueError") = some true)
    (op : PySem.W.nsIn K cStatics "thirdparty.any" = some none) (ds : PySem.W.mroIn K C (.ref C) = some true)
    (l : K.lookup fI = some ⟨oc, od, .func (PySem.W.ksFn "__init__" qual (defArgs st) (defBody st) (defScope st) .none .none doc pm an (.ref cda) ct cc), osl⟩) (c : PySem.W.codeIn K (.ref cda) qual = true)
    (lc : K.lookup cc = some ⟨cl, cld, .cell (some (.ref C)), csl⟩) (lv : K.lookup cda = some ⟨ccl, cdd, .fields vs, ccs⟩) (hv : vs[2]? = some (.str file tf)) (hf : ((P.main.file : Str) == file) = true)
    (hm : (P.main.scope.names.lookup ("super" : Str)).isSome = false) (kp : PySem.W.keepIn K (.ref C) = true) (exC : PySem.W.subIn K (.ref C) (.type "BaseException") = some true) (tyC : PySem.W.typeIn K (.ref C) = some (.type "type"))
    (ga : PySem.W.findIn K (.ref C) "__getattribute__" = some (some (.builtin "BaseException.__getattribute__"))) (gg : PySem.W.findIn K (.ref C) "__getattr__" = some none) (hd : PySem.W.hasDictIn K C = true)
    (ha : PySem.W.findIn K (.ref C) "__class__" = some (some (.builtin "object.__class__"))) (hn : PySem.W.specialIn K (.builtin "object.__class__") "__get__" = some (some (.builtin "getset_descriptor.__get__")))
    (ht : PySem.W.takesIn K (.builtin "object.__class__") = some true) (hmo : PySem.W.mroIn K C (.type "object") = some true) (nd : (x == ("__debug__" : Str)) = false) (is_ : PySem.W.isClsIn K C = true) : ErrAt P K x C fl ok := by
  obtain ⟨me, p1, p2, q1, q2, q3, q4, q5, q6, q7, q8, q9, hl, e1, e2, e3, M⟩ := so.ex
  rw [e1, e2, e3] at l
  exact ⟨⟨fI, ⟨_, _, _, _, _, _, _, _, _, _, _, _, _, _, _, cls, bm_⟩, sa, noN, iC, tC, su, sv, op, ds, fo, ⟨_, _, _, _, _, _, _, _, _, me, _, _, _, _, _, _, _, _, _, _, _, _, _, _, _, _, _, _, _, _, _, l, c, M, lc, lv, hv, hf, hl⟩, hm⟩, a, kp, exC, tyC, ga, gg, hd, ha, hn, ht, hmo, nd, is_⟩
/-- a class that is only named -/
structure ClsN (K : PySem.W.Frag) (mg : Str → Option Value) (x : Str) (C : Addr) : Prop where
  g : mg x = some (.ref C)
structure NamAt (K : PySem.W.Frag) (x : Str) (C : Addr) : Prop where
  a : PySem.W.nsIn K mainGlobals x = some (some (.ref C))
theorem namAt {K : PySem.W.Frag} {x : Str} {C : Addr} (a : PySem.W.nsIn K mainGlobals x = some (some (.ref C))) : NamAt K x C := ⟨a⟩
theorem NamAt.cn {K : PySem.W.Frag} {x : Str} {C : Addr} {h : Heap} {mg : Str → Option Value} (t : NamAt K x C) (X : K.In h) (G : h.Ns mainGlobals mg) : ClsN K mg x C := ⟨PySem.W.mg_of X G t.a⟩
/-- except S: an error of C, told -/
theorem exm_mk {K : PySem.W.Frag} {C S : Addr} {b : Bool} (ex : PySem.W.subIn K (.ref S) (.type "BaseException") = some true) (hd : PySem.W.hasDictIn K S = true) (ty : PySem.W.typeIn K (.ref S) = some (.type "type")) (s : PySem.W.subIn K (.ref C) (.ref S) = some b) : PySem.W.exmOne K (.ref C) (.ref S) = some b :=
  PySem.W.exm_ref ex hd ty s
theorem kit_bin {K : PySem.W.Frag} {C : Addr} {t : String} {b : Bool} (m : PySem.W.kitMeta t = true) (e : PySem.W.subIn K (.ref C) (.type t) = some b) : PySem.W.kitOne K (.ref C) (.type t) = some b := by
  show (if PySem.W.kitMeta t = true then PySem.W.subIn K (.ref C) (.type t) else none) = some b
  rw [if_pos m]; exact e
theorem kit_own {K : PySem.W.Frag} {C S : Addr} {b : Bool} (ne : (Value.ref C == Value.ref S) = false) (c : PySem.W.isClsIn K S = true) (t : PySem.W.typeIn K (.ref S) = some (.type "type")) (s : PySem.W.subIn K (.ref C) (.ref S) = some b) : PySem.W.kitOne K (.ref C) (.ref S) = some b :=
  kit_err ne c t s
end Cl

/-! ### defs that may raise: positional defaults, keywords in a try body -/
namespace Cl
open PySem L2 PyProof.Rows
structure Dkx (P : Program) (w : World) (K : PySem.W.Frag) (mg : Str → Option Value) (base : Heap) (x : Str) (k : Nat) (ps : List Str) (sp : Sp) (n : Nat) (ks : List Str) (gV : List V → List V → List V) : Prop where
  ex : ∃ (f : Addr) (fd : FuncData) (g : List Value → List Value → List Value), FnOk P w K mg base (L2.CX P w) k f fd ps sp ∧ mg x = some (.ref f) ∧ PySem.W.keepIn K (.ref f) = true ∧ KBn K fd ps n ks g gV
def tCallNT (n m : Nat) (sp : Sp) (gV : List V → List V → List V) (E : L2.St → XK) (t tk : TA) : TE := fun σ H Q => t σ H fun vs H1 => tk σ H1 fun zs H2 => vs.length = n ∧ zs.length = m ∧ sp (gV vs zs) H2 Q (E σ)
section
variable {X : Cx} {k n : Nat} {ps ks : List Str} {sp : Sp} {x : Str} {p pos : Pos} {e : Expr} {es : List Expr} {kws : List Keyword} {t tk : TA} {gV : List V → List V → List V} {W : WX}
theorem pe_dkxT (D : Dkx X.prog X.w X.K X.mg X.base x k ps sp n ks gV) (hr : Room k X.A) (hg : Gl X x) (tw : Takes X W) (ha : PA X (e :: es) t) (hkw : PK X kws tk)
    (hall : (backToKw pos (keywordEach kws X.env)).all (·.1.isSome) = true := by rfl) (hks : (backToKw pos (keywordEach kws X.env)).filterMap (·.1) = ks := by rfl)
    (hdb : (x == ("__debug__" : Str)) = false := by decide) (he : starEach (e :: es) X.env = (false, eval e X.env) :: starEach es X.env := by rfl)
    (hpl : ((backTo pos (starEach (e :: es) X.env)).any (·.1) || (backToKw pos (keywordEach kws X.env)).any (·.1.isNone)) = false := by rfl) :
    PE X (.Call (.Name x p) (e :: es) kws pos) (tCallNT n ks.length sp gV (WE W) t tk) := by
  obtain ⟨f, fd, g, G, m, kp, b⟩ := D.ex
  refine ⟨fun pn st σ H Q J hyp => wpAny_Call_Name_kw (ld_glob J hg m (PySem.W.callWith_KW (h₀ := X.base) J.ok.mod.kin kp hall (thn (ha.run pos pn st σ H _ J hyp) fun us sA hA => ?_) hpl he) hdb)⟩
  obtain ⟨vs, HA, JA, rA, qA⟩ := hA
  refine thn (hkw.run pos pn sA σ HA _ JA qA) fun ws sB hB => ?_
  obtain ⟨zs, HB, JB, rB, l1, l2, qB⟩ := hB
  rw [hks]
  have to := b.to sB us ws JB.kIn (rA.length.symm.trans l1) (rB.length.symm.trans l2)
  have run := G.run X.A X.stack sB HB ⟨us, ks.zip ws⟩ (g us ws) (gV vs zs) Q (WE W σ) hr JB.env0 to (b.rel rA rB) qB
  refine ⟨JB.kIn, wpAny_call (codeAny_mono run fun r s' hq => ?_)⟩
  rcases r with e' | fl
  · exact passAt tw σ pn HB sB e' s' JB hq
  · rcases fl with _ | _ | _ | u
    · exact hq.elim
    · exact hq.elim
    · exact hq.elim
    · exact JB.after hq
end
section
variable {P : Program} {w : World} {K : PySem.W.Frag} {mg : Str → Option Value} {base : Heap} {x qual : Str} {st : Stmt} {ps : List Str} {k : Nat} {sp : Sp} {kws : List (Str × V)} {dvs : List V} {h : Heap}
theorem AtTop.ddx (t : AtTop K x qual st kws) (X : K.In h) (G : h.Ns mainGlobals mg) (n : Nat) (hk : kws ≠ []) (hn : n + kws.length = ps.length)
    (hb : ∀ (D : Addr) (doc pm : Value) (an : Option Addr) (cdv ct : Value) (us ks : List Value), us.length = n → ks.length = kws.length →
      KwChain D ((kws.map (·.1)).zip ks) (bindArgs (PySem.W.fnOf x qual (defArgs st) (defBody st) (defScope st) .none (.ref D) doc pm an cdv ct) ⟨us, []⟩) (ps.zip (us ++ ks)))
    (ok : ∀ (f : Addr) (fd : FuncData), Fun K x qual st f fd → FnOk P w K mg base (L2.CX P w) k f fd ps sp) : Dx P w K mg base x k ps sp (kws.map (·.2)) := by
  obtain ⟨f, fd, a, F, FD⟩ := t.ex
  obtain ⟨ds, v, b⟩ := FD.binds0 n hk hn hb
  exact ⟨f, fd, ds, ok f fd F, PySem.W.mg_of X G a, F.kp, b, v⟩
theorem AtTop.dkx (t : AtTop K x qual st kws) (X : K.In h) (G : h.Ns mainGlobals mg) (n : Nat) (ks : List Str)
    (hb : ∀ (kV doc pm : Value) (an : Option Addr) (cdv ct : Value) (us ws : List Value), us.length = n → ws.length = ks.length → bindArgs (PySem.W.fnOf x qual (defArgs st) (defBody st) (defScope st) .none kV doc pm an cdv ct) ⟨us, ks.zip ws⟩ = pure (ps.zip (us ++ ws)))
    (ok : ∀ (f : Addr) (fd : FuncData), Fun K x qual st f fd → FnOk P w K mg base (L2.CX P w) k f fd ps sp) : Dkx P w K mg base x k ps sp n ks (fun vs zs => vs ++ zs) := by
  obtain ⟨f, fd, a, F, _⟩ := t.ex
  obtain ⟨oc, od, kV, doc, pm, an, cdv, ct, osl, rfl, lk, hcd⟩ := F.ex
  exact ⟨f, _, fun us ws => us ++ ws, ok f _ F, PySem.W.mg_of X G a, F.kp, ⟨fun s us ws _ l1 l2 => .of_eq (hb kV doc pm an cdv ct us ws l1 l2), fun r1 r2 => r1.append r2⟩⟩
/-- a def with positional defaults -/
structure AtTopP (K : PySem.W.Frag) (x qual : Str) (st : Stmt) (dvs : List V) : Prop where
  ex : ∃ (f : Addr) (fd : FuncData), PySem.W.nsIn K mainGlobals x = some (some (.ref f)) ∧ FunD K x qual (defArgs st) (defBody st) (defScope st) dvs [] f fd
theorem atTopP1 {f T : Addr} {oc toc : Value} {od an tod : Option Addr} {osl tsl : Array (Option Value)} {kV doc pm cdv ct u : Value} {n : Nat} {v : V} (a : PySem.W.nsIn K mainGlobals x = some (some (.ref f)))
    (l : K.lookup f = some ⟨oc, od, .func (PySem.W.fnOf x qual (defArgs st) (defBody st) (defScope st) (.ref T) kV doc pm an cdv ct), osl⟩) (c : PySem.W.codeIn K cdv qual = true) (p : PySem.W.keepIn K (.ref f) = true)
    (lt : K.lookup T = some ⟨toc, tod, .seq #[u] n, tsl⟩) (r : RelV v u) : AtTopP K x qual st [v] :=
  ⟨f, _, a, ⟨oc, od, .ref T, kV, doc, pm, an, cdv, ct, osl, rfl, l, c, .inr ⟨by simp, T, _, [u], n, rfl, lt, rfl, .cons r .nil⟩, .inl rfl⟩, p⟩
theorem AtTopP.dx (t : AtTopP K x qual st dvs) (X : K.In h) (G : h.Ns mainGlobals mg) (n j : Nat) (hd : dvs ≠ []) (hn : n + (dvs.length - j) = ps.length)
    (hb : ∀ (T : Addr) (kV doc pm : Value) (an : Option Addr) (cdv ct : Value) (us its : List Value), us.length = n → its.length = dvs.length →
      ∃ k, bindArgs (PySem.W.fnOf x qual (defArgs st) (defBody st) (defScope st) (.ref T) kV doc pm an cdv ct) ⟨us, []⟩ = seqItems? (.ref T) >>= k ∧ k (some its.toArray) = pure (ps.zip (us ++ its.drop j)))
    (ok : ∀ (f : Addr) (fd : FuncData), FunD K x qual (defArgs st) (defBody st) (defScope st) dvs [] f fd → FnOk P w K mg base (L2.CX P w) k f fd ps sp) : Dx P w K mg base x k ps sp (dvs.drop j) := by
  obtain ⟨f, fd, a, FD⟩ := t.ex
  obtain ⟨ds, v, b⟩ := FD.binds1 n j hd hn hb
  exact ⟨f, fd, ds, ok f fd FD, PySem.W.mg_of X G a, FD.kp, b, v⟩
end
end Cl

/-! ### words moved: release, carry, carries, append_record, step -/
namespace Cl
open PySem L2 PyProof.Rows
theorem set_cut {l : List Bool} {k : Nat} (h : k < l.length) : l.take k ++ [false] ++ l.drop (k + 1) = l.set k false := by
  rw [List.set_eq_take_append_cons_drop, if_pos h, List.append_assoc]; rfl
theorem nrm_len (l : List Bool) : (nrm l).length ≤ l.length := by
  induction l with
  | nil => exact Nat.le_refl _
  | cons b r ih =>
    cases b with
    | true => exact Nat.le_refl _
    | false => exact Nat.le_trans ih (Nat.le_succ _)
theorem nrm_count (l : List Bool) : (nrm l).count true = l.count true := by
  induction l with
  | nil => rfl
  | cons b r ih =>
    cases b with
    | true => rfl
    | false => show (nrm r).count true = _; rw [ih]; simp
/-- the one at index i becomes a zero -/
def wout (l : List Bool) (i : Option Nat) : List Bool := match i with
  | none => l
  | some k => match (onesAt l)[k]? with
    | some at_ => nrm (l.set at_ false)
    | none => l
/-- one carry -/
def mv1 (p : Int) (l : List Bool) : List Bool := if l = [] ∨ (l.length : Int) = p then l else nrm (l.drop 1 ++ [true])
def mvd (p : Int) : Nat → List Bool → List Bool
  | 0, l => l
  | n + 1, l => mv1 p (mvd p n l)
theorem mv1_wd {p : Int} {l : List Bool} (h : Wd l) : Wd (mv1 p l) := by
  unfold mv1; split
  · exact h
  · exact nrm_is _
theorem mv1_len {p : Int} {l : List Bool} : (mv1 p l).length ≤ l.length := by
  unfold mv1; split
  · exact Nat.le_refl _
  · rename_i h
    refine Nat.le_trans (nrm_len _) ?_
    have : l ≠ [] := fun e => h (.inl e)
    have := List.length_pos_iff.mpr this
    rw [List.length_append, List.length_drop, List.length_singleton]; omega
theorem mvd_wd {p : Int} {l : List Bool} (h : Wd l) : ∀ n, Wd (mvd p n l)
  | 0 => h
  | n + 1 => mv1_wd (mvd_wd h n)
theorem mvd_len {p : Int} {l : List Bool} : ∀ n, (mvd p n l).length ≤ l.length
  | 0 => Nat.le_refl _
  | n + 1 => Nat.le_trans mv1_len (mvd_len n)
theorem mv1_stuck {p : Int} {l : List Bool} (h : l = [] ∨ (l.length : Int) = p) : mv1 p l = l := if_pos h
theorem mvd_stuck {p : Int} {l : List Bool} {n : Nat} (h : mvd p n l = [] ∨ ((mvd p n l).length : Int) = p) : ∀ m, n ≤ m → mvd p m l = mvd p n l := by
  intro m hm
  induction m with
  | zero => rw [Nat.le_zero.mp hm]
  | succ m ih =>
    rcases Nat.lt_or_ge m n with c | c
    · rw [show n = m + 1 by omega]
    · show mv1 p (mvd p m l) = _
      rw [ih c]; exact mv1_stuck h
theorem wout_wd {l : List Bool} (h : Wd l) (i : Option Nat) : Wd (wout l i) := by
  unfold wout; split
  · exact h
  · split
    · exact nrm_is _
    · exact h
theorem wout_len {l : List Bool} (i : Option Nat) : (wout l i).length ≤ l.length := by
  unfold wout; split
  · exact Nat.le_refl _
  · split
    · exact Nat.le_trans (nrm_len _) (by rw [List.length_set]; exact Nat.le_refl _)
    · exact Nat.le_refl _
theorem ones_count (l : List Bool) : (onesAt l).length = l.count true := by
  rw [← dps_len]; unfold dps; rw [List.length_map]
def ixV (i : Option Nat) : V := match i with
  | none => .non
  | some k => .int (k : Nat)
section
variable {P : Program} {w : World} {K : PySem.W.Frag} {mg : Str → Option Value} {base : Heap} {C_InvalidInput C_NoPlace : Addr}
def spCheckIx : Sp := fun vs H Q _ => ∃ (l : List Bool) (k : Nat), vs = [.str (tx l), .int (k : Nat)] ∧ k < l.count true ∧ Q .non H
theorem scCheckIndex : FnScope ["word", "index"] ["word", "index"] (defScope sCheckIndex) := ⟨rfl, rfl, rfl, by decide +kernel, rfl, by decide +kernel, by decide +kernel⟩
theorem ok__check_index {f : Addr} {fd : FuncData} (F : Fun K "_check_index" "_check_index" sCheckIndex f fd) : FnOk P w K mg base CX0 1 f fd ["word", "index"] spCheckIx := by
  refine F.ok scCheckIndex (fun vs H Q E h => ?_) (fun cdv A outer s H vs Q E hr h => ?_)
  · obtain ⟨l, k, rfl, _⟩ := h
    rfl
  · obtain ⟨l, k, rfl, hk, q⟩ := h
    refine ⟨_, (pss_one (ps_if (pt_cmpR op_ge (pv 1) (pe_m1 PySem.F.slot_str_count PySem.F.type_str_count mt_count (pv 0) pe_str) (nomark _)) (pss_one ps_never)
  pss_nil)), ?_⟩
    refine ⟨_, rfl, _, rfl, ⟨_, rfl⟩, _, _, rfl, rfl, _, _, rfl, rfl, _, rfl, ?_⟩
    rw [t1, tx_count, decide_eq_false (by omega)]
    exact iteF q
def spFits : Sp := fun vs H Q _ => ∃ (l : List Bool) (p : Int), vs = [.str (tx l), .int p] ∧ l.length ≤ 9000 ∧ (l.length : Int) ≤ p ∧ Q .non H
theorem scCheckFits : FnScope ["word", "places"] ["word", "places"] (defScope sCheckFits) := ⟨rfl, rfl, rfl, by decide +kernel, rfl, by decide +kernel, by decide +kernel⟩
theorem ok__check_fits {f : Addr} {fd : FuncData} (F : Fun K "_check_fits" "_check_fits" sCheckFits f fd) (B : Bi mg) : FnOk P w K mg base CX0 1 f fd ["word", "places"] spFits := by
  refine F.ok scCheckFits (fun vs H Q E h => ?_) (fun cdv A outer s H vs Q E hr h => ?_)
  · obtain ⟨l, p, rfl, _⟩ := h
    rfl
  · obtain ⟨l, p, rfl, hl, hp, q⟩ := h
    refine ⟨_, (pss_one (ps_if (pt_cmpR op_gt (pe_callB call_len_str (by rfl) B.len PySem.boot_len (pa_cons (pv 0) pa_nil)) (pv 1) (nomark _)) (pss_one ps_never)
  pss_nil)), ?_⟩
    refine ⟨_, rfl, _, rfl, small_le (by rw [tx_len]; omega), _, rfl, _, _, rfl, rfl, _, rfl, ?_⟩
    rw [tx_len, decide_eq_false (by omega)]
    exact iteF q
def spWout : Sp := fun vs H Q _ => ∃ (l : List Bool) (i : Option Nat), vs = [.str (tx l), ixV i] ∧ l.length ≤ 9000 ∧ (∀ k, i = some k → k < l.count true) ∧ ∀ H', Same H H' → Q (.str (tx (wout l i))) H'
theorem scWithout : FnScope ["word", "index", "at"] ["word", "index"] (defScope sWithout) := ⟨rfl, rfl, rfl, by decide +kernel, rfl, by decide +kernel, by decide +kernel⟩
theorem ok__without {f : Addr} {fd : FuncData} (F : Fun K "_without" "_without" sWithout f fd) (D__ones : Dn P w K mg base "_ones" 1 ["word"] spOnes) (D__freed : Dn P w K mg base "_freed" 1 ["text"] spNrm) : FnOk P w K mg base CX0 2 f fd ["word", "index"] spWout := by
  refine F.ok scWithout (fun vs H Q E h => ?_) (fun cdv A outer s H vs Q E hr h => ?_)
  · obtain ⟨l, i, rfl, _⟩ := h
    rfl
  · obtain ⟨l, i, rfl, hl, hi, q⟩ := h
    refine ⟨_, (pss_cons (ps_if (pt_cmpR op_isN (pv 1) pe_non (nomark _)) (pss_one (ps_ret (pv 0)))
  pss_nil)
  (pss_cons (ps_set (i := 2) scWithout.nd rfl (Or.inl rfl) (pe_ix ix_list (pe_dn D__ones (hr.mono (by decide)) (by rfl) pass0 (pa_cons (pv 0) pa_nil)) (pv 1) (fun _ _ => rfl)))
  (pss_one (ps_ret (pe_dn D__freed (hr.mono (by decide)) (by rfl) pass0 (pa_cons (pe_op op_add_str (pe_op op_add_str (pe_slice sl_str (pv 0) po_none (po_some (pv 2))) pe_str) (pe_slice sl_str (pv 0) (po_some (pe_op op_add (pv 2) pe_int)) po_none)) pa_nil)))))), ?_⟩
    cases i with
    | none =>
      walk_at "rd"
      exact q _ (Same.refl _)
    | some k =>
      have hk := hi k rfl
      have hk2 : k < (onesAt l).length := by rw [ones_count]; exact hk
      obtain ⟨at_, hat⟩ : ∃ z, (onesAt l)[k]? = some z := ⟨_, List.getElem?_eq_getElem hk2⟩
      have hlt := onesAt_lt (List.mem_of_getElem? hat)
      have hw : wout l (some k) = nrm (l.set at_ false) := by
        show (match (onesAt l)[k]? with | some at_ => nrm (l.set at_ false) | none => l) = _
        rw [hat]
      rw [hw] at q
      walk_at "rd"
      refine ⟨hl, fun p H1 hp hS hL => ?_⟩
      walk_at "rd"
      refine ⟨p, _, _, _, rfl, rfl, SqL.of hL, atI_nat (by rw [List.getElem?_map, List.getElem?_map, hat]; rfl), ?_⟩
      walk_at "rd"
      have big : (20000 : Nat) ≤ sizeLine := by decide
      refine ⟨small_le (by rw [tx_len]; omega), ?_⟩
      walk_at "rd"
      rw [show cutS (tx l) none (some ((at_ : Nat) : Int)) = tx (l.take at_) from cutS_to, t0]
      refine ⟨by rw [tx_len, tx_len, List.length_take]; show min _ _ + 1 ≤ _; omega, ?_⟩
      walk_at "rd"
      refine ⟨small_le (by rw [tx_len]; omega), ?_⟩
      rw [show (((fun k => (k : Int)) at_ : Int) + 1) = ((at_ + 1 : Nat) : Int) from rfl, show cutS (tx l) (some ((at_ + 1 : Nat) : Int)) none = tx (l.drop (at_ + 1)) from cutS_from]
      walk_at "rd"
      rw [tx_app]
      refine ⟨by rw [tx_len, tx_len, List.length_append, List.length_take, List.length_drop]; show min _ _ + 1 + _ ≤ _; omega, ?_⟩
      rw [tx_app, set_cut hlt]
      walk_at "rd"
      exact ⟨by rw [List.length_set]; omega, q _ hS⟩
def spMvd : Sp := fun vs H Q _ => ∃ (l : List Bool) (n p : Int), vs = [.str (tx l), .int n, .int p] ∧ l.length ≤ 9000 ∧ -1 ≤ n ∧ n ≤ 1000000 ∧ Q (.str (tx (mvd p n.toNat l))) H
theorem scMoved : FnScope ["word", "count", "places", "_"] ["word", "count", "places"] (defScope sMoved) := ⟨rfl, rfl, rfl, by decide +kernel, rfl, by decide +kernel, by decide +kernel⟩
theorem ok__moved {f : Addr} {fd : FuncData} (F : Fun K "_moved" "_moved" sMoved f fd) (B : Bi mg) (D__freed : Dn P w K mg base "_freed" 1 ["text"] spNrm) : FnOk P w K mg base CX0 2 f fd ["word", "count", "places"] spMvd := by
  refine F.ok scMoved (fun vs H Q E h => ?_) (fun cdv A outer s H vs Q E hr h => ?_)
  · obtain ⟨l, n, p, rfl, _⟩ := h
    rfl
  · obtain ⟨l, n, p, rfl, hl, n0, n1, q⟩ := h
    refine ⟨_, (pss_cons (ps_for PassesOwn.never rfl (pi_range1 rfl B.range (pa_cons (pv 1) pa_nil)) (pg_name (i := 3) scMoved.nd rfl (Or.inl rfl))
  (pss_cons (ps_if (PW.pt (pw_or (pt_cmpR op_eq (pv 0) pe_str (nomark _)) (pw_or1 (pt_cmpR op_eq (pe_callB call_len_str (by rfl) B.len PySem.boot_len (pa_cons (pv 0) pa_nil)) (pv 2) (nomark _))))) (pss_one (ps_ret (pv 0)))
  pss_nil)
  (pss_one (ps_set (i := 0) scMoved.nd rfl (Or.inl rfl) (pe_dn D__freed (hr.mono (by decide)) (by rfl) pass0 (pa_cons (pe_op op_add_str (pe_slice sl_str (pv 0) (po_some pe_int) po_none) pe_str) pa_nil))))))
  (pss_one (ps_ret (pv 0)))), ?_⟩
    refine ⟨_, rfl, n, rfl, by omega, by omega, ?_⟩
    refine for_range (fun i σ H' => ∃ x : Option V, σ = [some (.str (tx (mvd p i l))), some (.int n), some (.int p), x] ∧ H' = H) ⟨_, rfl, rfl⟩ ?_ ?_
    · rintro i σ H1 hi ⟨x, rfl, rfl⟩
      have hml := mvd_len (p := p) (l := l) i
      have stop : (mvd p i l = [] ∨ ((mvd p i l).length : Int) = p) → Q (.str (tx (mvd p i l))) H1 := fun h => by
        rw [mvd_stuck h n.toNat (by omega)] at q; exact q
      walk_at "rd"
      rw [te, txV_eq]
      refine itd (fun e => iteT ⟨_, rfl, stop (.inl e)⟩) (fun e => ?_)
      walk_at "rd"
      refine ⟨small_le (by rw [tx_len]; omega), ?_⟩
      walk_at "rd"
      rw [tx_len]
      refine iti (fun e2 => ⟨_, rfl, stop (.inr e2)⟩) (fun e2 => ?_)
      have big : (20000 : Nat) ≤ sizeLine := by decide
      walk_at "rd"
      refine ⟨small_le (by rw [tx_len]; omega), ?_⟩
      walk_at "rd"
      rw [show cutS (tx (mvd p i l)) (some 1) none = tx ((mvd p i l).drop 1) from cutS_from (f := 1), t1]
      refine ⟨by rw [tx_len, tx_len, List.length_drop]; show _ + 1 ≤ _; omega, ?_⟩
      rw [tx_app]
      walk_at "rd"
      have hnx : nrm ((mvd p i l).drop 1 ++ [true]) = mvd p (i + 1) l := by
        show _ = mv1 p (mvd p i l)
        unfold mv1
        rw [if_neg (fun h => h.elim e e2)]
      rw [hnx]
      exact ⟨by rw [List.length_append, List.length_drop, List.length_singleton]; omega, _, rfl, rfl⟩
    · rintro σ H1 ⟨x, rfl, rfl⟩
      walk_at "rd"
      exact q
def spRelease : Sp := fun vs H Q _ => ∃ (l : List Bool) (k : Nat), vs = [.str (tx l), .int (k : Nat)] ∧ l.length ≤ 9000 ∧ Wd l ∧ k < l.count true ∧ ∀ H', Same H H' → Q (.str (tx (wout l (some k)))) H'
theorem scRelease : FnScope ["word", "index"] ["word", "index"] (defScope sRelease) := ⟨rfl, rfl, rfl, by decide +kernel, rfl, by decide +kernel, by decide +kernel⟩
theorem ok_release {f : Addr} {fd : FuncData} (F : Fun K "release" "release" sRelease f fd) (D_check_word : Dn P w K mg base "check_word" 3 ["word", "field"] spCheckWord) (D_check_least : Dn P w K mg base "check_least" 2 ["value", "least", "field"] spCheckLeast)
    (D__check_index : Dn P w K mg base "_check_index" 1 ["word", "index"] spCheckIx) (D__without : Dn P w K mg base "_without" 2 ["word", "index"] spWout) : FnOk P w K mg base CX0 4 f fd ["word", "index"] spRelease := by
  refine F.ok scRelease (fun vs H Q E h => ?_) (fun cdv A outer s H vs Q E hr h => ?_)
  · obtain ⟨l, k, rfl, _⟩ := h
    rfl
  · obtain ⟨l, k, rfl, hl, hw, hk, q⟩ := h
    refine ⟨_, (pss_cons (ps_expr (pe_dn D_check_word (hr.mono (by decide)) (by rfl) pass0 (pa_cons (pv 0) (pa_cons pe_str pa_nil))))
  (pss_cons (ps_expr (pe_dn D_check_least (hr.mono (by decide)) (by rfl) pass0 (pa_cons (pv 1) (pa_cons pe_int (pa_cons pe_str pa_nil)))))
  (pss_cons (ps_expr (pe_dn D__check_index (hr.mono (by decide)) (by rfl) pass0 (pa_cons (pv 0) (pa_cons (pv 1) pa_nil))))
  (pss_one (ps_ret (pe_dn D__without (hr.mono (by decide)) (by rfl) pass0 (pa_cons (pv 0) (pa_cons (pv 1) pa_nil)))))))), ?_⟩
    refine ⟨_, rfl, _, _, rfl, by omega, hw, ?_⟩
    refine ⟨_, rfl, _, _, _, rfl, by omega, ?_⟩
    refine ⟨_, rfl, _, rfl, _, _, rfl, hk, ?_⟩
    exact ⟨_, rfl, _, rfl, l, some k, rfl, hl, fun k2 e => by cases e; exact hk, q⟩
def spCarry : Sp := fun vs H Q _ => ∃ (l : List Bool) (p : Int), vs = [.str (tx l), .int p] ∧ l.length ≤ 9000 ∧ Wd l ∧ 1 ≤ p ∧ (l.length : Int) ≤ p ∧ Q (.str (tx (mvd p 1 l))) H
theorem scCarry : FnScope ["word", "places"] ["word", "places"] (defScope sCarry) := ⟨rfl, rfl, rfl, by decide +kernel, rfl, by decide +kernel, by decide +kernel⟩
theorem ok_carry {f : Addr} {fd : FuncData} (F : Fun K "carry" "carry" sCarry f fd) (D_check_word : Dn P w K mg base "check_word" 3 ["word", "field"] spCheckWord) (D_check_least : Dn P w K mg base "check_least" 2 ["value", "least", "field"] spCheckLeast)
    (D__check_fits : Dn P w K mg base "_check_fits" 1 ["word", "places"] spFits) (D__moved : Dn P w K mg base "_moved" 2 ["word", "count", "places"] spMvd) : FnOk P w K mg base CX0 4 f fd ["word", "places"] spCarry := by
  refine F.ok scCarry (fun vs H Q E h => ?_) (fun cdv A outer s H vs Q E hr h => ?_)
  · obtain ⟨l, p, rfl, _⟩ := h
    rfl
  · obtain ⟨l, p, rfl, hl, hw, hp, hf, q⟩ := h
    refine ⟨_, (pss_cons (ps_expr (pe_dn D_check_word (hr.mono (by decide)) (by rfl) pass0 (pa_cons (pv 0) (pa_cons pe_str pa_nil))))
  (pss_cons (ps_expr (pe_dn D_check_least (hr.mono (by decide)) (by rfl) pass0 (pa_cons (pv 1) (pa_cons pe_int (pa_cons pe_str pa_nil)))))
  (pss_cons (ps_expr (pe_dn D__check_fits (hr.mono (by decide)) (by rfl) pass0 (pa_cons (pv 0) (pa_cons (pv 1) pa_nil))))
  (pss_one (ps_ret (pe_dn D__moved (hr.mono (by decide)) (by rfl) pass0 (pa_cons (pv 0) (pa_cons pe_int (pa_cons (pv 1) pa_nil))))))))), ?_⟩
    refine ⟨_, rfl, _, _, rfl, by omega, hw, ?_⟩
    refine ⟨_, rfl, _, _, _, rfl, hp, ?_⟩
    refine ⟨_, rfl, _, rfl, _, _, rfl, hl, hf, ?_⟩
    exact ⟨_, rfl, _, rfl, l, 1, p, rfl, hl, by decide, by decide, q⟩
def spCarries : Sp := fun vs H Q _ => ∃ (l : List Bool) (n p : Int), vs = [.str (tx l), .int n, .int p] ∧ l.length ≤ 9000 ∧ Wd l ∧ 0 ≤ n ∧ n ≤ 1000000 ∧ 1 ≤ p ∧ (l.length : Int) ≤ p ∧ Q (.str (tx (mvd p n.toNat l))) H
/-- the promise of an append: the word, or NoPlace with the places -/
def spAppd (C : Addr) : Sp := fun vs H Q E => ∃ (l : List Bool) (p : Int) (b : Bool), vs = [.str (tx l), .int p, .str (tx [b])] ∧ l.length ≤ 9000 ∧ ((l.length : Int) ≠ p → Q (.str (tx (nrm (l ++ [b])))) H) ∧ ((l.length : Int) = p → Out C "length" (.int p) H E)
theorem scAppended : FnScope ["word", "places", "record"] ["word", "places", "record"] (defScope sAppended) := ⟨rfl, rfl, rfl, by decide +kernel, rfl, by decide +kernel, by decide +kernel⟩
theorem ok__appended {f : Addr} {fd : FuncData} (F : Fun K "_appended" "_appended" sAppended f fd) (B : Bi mg) (D__freed : Dn P w K mg base "_freed" 1 ["text"] spNrm) (E_NoPlace : ErrC P K mg "NoPlace" C_NoPlace "length" false) :
    FnOk P w K mg base (L2.CX P w) 3 f fd ["word", "places", "record"] (spAppd C_NoPlace) := by
  refine F.okX scAppended (fun vs H Q E h => ?_) (fun cdv A outer s H vs Q E hr h => ?_)
  · obtain ⟨l, p, b, rfl, _⟩ := h
    rfl
  · obtain ⟨l, p, b, rfl, hl, k1, k2⟩ := h
    refine ⟨_, (pss_cons (ps_if (pt_cmpR op_eq (pe_callB call_len_str (by rfl) B.len PySem.boot_len (pa_cons (pv 0) pa_nil)) (pv 1) (nomark _)) (pss_one (ps_raiseE (k := 0) E_NoPlace rfl (hr.mono (by decide)) (takes_of rfl rfl rfl rfl) (pa_cons (pv 1) pa_nil)))
  pss_nil)
  (pss_one (ps_ret (pe_dn D__freed (hr.mono (by decide)) (by rfl) pass0 (pa_cons (pe_op op_add_str (pv 0) (pv 2)) pa_nil))))), ?_⟩
    have big : (20000 : Nat) ≤ sizeLine := by decide
    walk_at "rd"
    refine ⟨small_le (by rw [tx_len]; omega), ?_⟩
    walk_at "rd"
    rw [tx_len]
    refine iti (fun e => ?_) (fun e => ?_)
    · walk_at "rd"
      exact ⟨fun z => (nomatch z), fun d hd => k2 e d hd⟩
    · walk_at "rd"
      refine ⟨by rw [tx_len, tx_len]; show _ + 1 ≤ _; omega, ?_⟩
      rw [tx_app]
      walk_at "rd"
      exact ⟨by rw [List.length_append]; show _ + 1 ≤ _; omega, k1 e⟩
/-- a whole put, told: the word, or none where no place is free -/
def stepR (l : List Bool) (i : Option Nat) (c p : Int) (late : Bool) : Option (List Bool) :=
  if late = true then
    (if (l.length : Int) = p then none else some (mvd p (if ((wout (nrm (l ++ [true])) i).count true : Nat) - (1 : Int) < c then ((wout (nrm (l ++ [true])) i).count true : Nat) - (1 : Int) else c).toNat (wout (nrm (l ++ [true])) i)))
  else
    (if ((mvd p (if (((wout l i).count true : Nat) : Int) < c then (((wout l i).count true : Nat) : Int) else c).toNat (wout l i)).length : Int) = p then none else some (nrm (mvd p (if (((wout l i).count true : Nat) : Int) < c then (((wout l i).count true : Nat) : Int) else c).toNat (wout l i) ++ [true])))
theorem in01 (b : Bool) : inV (V.str (tx [b])) [V.str (tx [false]), V.str (tx [true])] = true := by cases b <;> decide +kernel
def spAppRec (C : Addr) : Sp := fun vs H Q E => ∃ (l : List Bool) (p : Int) (b : Bool), vs = [.str (tx l), .int p, .str (tx [b])] ∧ l.length ≤ 9000 ∧ Wd l ∧ 1 ≤ p ∧ (l.length : Int) ≤ p ∧ ((l.length : Int) ≠ p → ∀ H', Same H H' → Q (.str (tx (nrm (l ++ [b])))) H') ∧ ((l.length : Int) = p → ∀ H', Same H H' → Out C "length" (.int p) H' E)
theorem scAppendRecord : FnScope ["word", "places", "record"] ["word", "places", "record"] (defScope sAppendRecord) := ⟨rfl, rfl, rfl, by decide +kernel, rfl, by decide +kernel, by decide +kernel⟩
theorem ok_append_record {f : Addr} {fd : FuncData} (F : FunD K "append_record" "append_record" (defArgs sAppendRecord) (defBody sAppendRecord) (defScope sAppendRecord) [.str "1"] [] f fd) (D_check_word : Dn P w K mg base "check_word" 3 ["word", "field"] spCheckWord) (D_check_least : Dn P w K mg base "check_least" 2 ["value", "least", "field"] spCheckLeast)
    (D__check_fits : Dn P w K mg base "_check_fits" 1 ["word", "places"] spFits) (D__appended : Dx P w K mg base "_appended" 3 ["word", "places", "record"] (spAppd C_NoPlace)) (E_InvalidInput : ErrC P K mg "InvalidInput" C_InvalidInput "field" true) : FnOk P w K mg base (L2.CX P w) 4 f fd ["word", "places", "record"] (spAppRec C_NoPlace) := by
  refine F.ok (CX := L2.CX P w) scAppendRecord (fun vs H Q E h => ?_) (fun cdv A outer s H vs Q E hr h => ?_)
  · obtain ⟨l, p, b, rfl, _⟩ := h
    rfl
  · obtain ⟨l, p, b, rfl, hl, hw, hp, hf, k1, k2⟩ := h
    refine ⟨_, (pss_cons (ps_expr (pe_dn D_check_word (hr.mono (by decide)) (by rfl) pass0 (pa_cons (pv 0) (pa_cons pe_str pa_nil))))
  (pss_cons (ps_expr (pe_dn D_check_least (hr.mono (by decide)) (by rfl) pass0 (pa_cons (pv 1) (pa_cons pe_int (pa_cons pe_str pa_nil)))))
  (pss_cons (ps_if (pt_cmpR op_notIn_seq (pv 2) (pe_tup (pa_cons pe_str (pa_cons pe_str pa_nil))) (by with_unfolding_all rfl)) (pss_one (ps_raiseE (k := 0) E_InvalidInput rfl (hr.mono (by decide)) (takes_of rfl rfl rfl rfl) (pa_cons pe_str pa_nil)))
  pss_nil)
  (pss_cons (ps_expr (pe_dn D__check_fits (hr.mono (by decide)) (by rfl) pass0 (pa_cons (pv 0) (pa_cons (pv 1) pa_nil))))
  (pss_one (ps_ret (pe_dx D__appended (hr.mono (by decide)) (by rfl) (passes_call (takes_of rfl rfl rfl rfl) (fun _ _ _ _ h => h)) (pa_cons (pv 0) (pa_cons (pv 1) (pa_cons (pv 2) pa_nil)))))))))), ?_⟩
    refine ⟨_, rfl, _, _, rfl, by omega, hw, ?_⟩
    refine ⟨_, rfl, _, _, _, rfl, hp, ?_⟩
    refine ⟨_, rfl, by show 2 ≤ sizeLine; decide, fun t ht => ?_⟩
    refine ⟨t, _, rfl, .inr (SqT.of upd_same), by rfl, by rfl, _, rfl, ?_⟩
    rw [t0, t1, in01 b]
    refine iteF ?_
    refine ⟨_, rfl, _, rfl, _, _, rfl, hl, hf, ?_⟩
    exact ⟨_, rfl, _, rfl, _, rfl, l, p, b, rfl, hl, fun e => k1 e _ (Same.upd ht), fun e => k2 e _ (Same.upd ht)⟩
def spStep (C : Addr) : Sp := fun vs H Q E => ∃ (l : List Bool) (i : Option Nat) (c p : Int) (late : Bool), vs = [.str (tx l), ixV i, .int c, .int p, .bl late] ∧ l.length ≤ 8000 ∧ Wd l ∧ (∀ k, i = some k → k < l.count true) ∧ 0 ≤ c ∧ 1 ≤ p ∧ (l.length : Int) ≤ p ∧
  (∀ r, stepR l i c p late = some r → ∀ H', Same H H' → Q (.str (tx r)) H') ∧ (stepR l i c p late = none → ∀ H', Same H H' → Out C "length" (.int p) H' E)
theorem scStep : FnScope ["word", "index", "count", "places", "late", "left"] ["word", "index", "count", "places", "late"] (defScope sStep) := ⟨rfl, rfl, rfl, by decide +kernel, rfl, by decide +kernel, by decide +kernel⟩
theorem ok_step {f : Addr} {fd : FuncData} (F : Fun K "step" "step" sStep f fd) (B : Bi mg) (D_check_word : Dn P w K mg base "check_word" 3 ["word", "field"] spCheckWord) (D_check_least : Dn P w K mg base "check_least" 2 ["value", "least", "field"] spCheckLeast)
    (D__check_index : Dn P w K mg base "_check_index" 1 ["word", "index"] spCheckIx) (D__check_fits : Dn P w K mg base "_check_fits" 1 ["word", "places"] spFits) (D__without : Dn P w K mg base "_without" 2 ["word", "index"] spWout) (D__moved : Dn P w K mg base "_moved" 2 ["word", "count", "places"] spMvd)
    (D__appended : Dx P w K mg base "_appended" 3 ["word", "places", "record"] (spAppd C_NoPlace)) : FnOk P w K mg base (L2.CX P w) 4 f fd ["word", "index", "count", "places", "late"] (spStep C_NoPlace) := by
  refine F.okX scStep (fun vs H Q E h => ?_) (fun cdv A outer s H vs Q E hr h => ?_)
  · obtain ⟨l, i, c, p, late, rfl, _⟩ := h
    rfl
  · obtain ⟨l, i, c, p, late, rfl, hl, hw, hi, hc, hp, hf, k1, k2⟩ := h
    refine ⟨_, (pss_cons (ps_expr (pe_dn D_check_word (hr.mono (by decide)) (by rfl) pass0 (pa_cons (pv 0) (pa_cons pe_str pa_nil))))
  (pss_cons (ps_if (pt_cmpR op_notN (pv 1) pe_non (nomark _)) (pss_one (ps_expr (pe_dn D_check_least (hr.mono (by decide)) (by rfl) pass0 (pa_cons (pv 1) (pa_cons pe_int (pa_cons pe_str pa_nil))))))
  pss_nil)
  (pss_cons (ps_expr (pe_dn D_check_least (hr.mono (by decide)) (by rfl) pass0 (pa_cons (pv 2) (pa_cons pe_int (pa_cons pe_str pa_nil)))))
  (pss_cons (ps_expr (pe_dn D_check_least (hr.mono (by decide)) (by rfl) pass0 (pa_cons (pv 3) (pa_cons pe_int (pa_cons pe_str pa_nil)))))
  (pss_cons (ps_if (pt_cmpR op_notN (pv 1) pe_non (nomark _)) (pss_one (ps_expr (pe_dn D__check_index (hr.mono (by decide)) (by rfl) pass0 (pa_cons (pv 0) (pa_cons (pv 1) pa_nil)))))
  pss_nil)
  (pss_cons (ps_expr (pe_dn D__check_fits (hr.mono (by decide)) (by rfl) pass0 (pa_cons (pv 0) (pa_cons (pv 3) pa_nil))))
  (pss_cons (ps_if (pt_val (pv 4)) (pss_cons (ps_set (i := 5) scStep.nd rfl (Or.inl rfl) (pe_dn D__without (hr.mono (by decide)) (by rfl) pass0 (pa_cons (pe_dx D__appended (hr.mono (by decide)) (by rfl) (passes_call (takes_of rfl rfl rfl rfl) (fun _ _ _ _ h => h)) (pa_cons (pv 0) (pa_cons (pv 3) (pa_cons pe_str pa_nil)))) (pa_cons (pv 1) pa_nil))))
  (pss_one (ps_ret (pe_dn D__moved (hr.mono (by decide)) (by rfl) pass0 (pa_cons (pv 5) (pa_cons (pe_callB (call_min2 rfl) (by rfl) B.min (by decide +kernel) (pa_cons (pv 2) (pa_cons (pe_op op_sub (pe_m1 PySem.F.slot_str_count PySem.F.type_str_count mt_count (pv 5) pe_str) pe_int) pa_nil))) (pa_cons (pv 3) pa_nil)))))))
  pss_nil)
  (pss_cons (ps_set (i := 5) scStep.nd rfl (Or.inl rfl) (pe_dn D__without (hr.mono (by decide)) (by rfl) pass0 (pa_cons (pv 0) (pa_cons (pv 1) pa_nil))))
  (pss_one (ps_ret (pe_dx D__appended (hr.mono (by decide)) (by rfl) (passes_call (takes_of rfl rfl rfl rfl) (fun _ _ _ _ h => h)) (pa_cons (pe_dn D__moved (hr.mono (by decide)) (by rfl) pass0 (pa_cons (pv 5) (pa_cons (pe_callB (call_min2 rfl) (by rfl) B.min (by decide +kernel) (pa_cons (pv 2) (pa_cons (pe_m1 PySem.F.slot_str_count PySem.F.type_str_count mt_count (pv 5) pe_str) pa_nil))) (pa_cons (pv 3) pa_nil)))) (pa_cons (pv 3) (pa_cons pe_str pa_nil)))))))))))))), ?_⟩
    refine ⟨_, rfl, _, _, rfl, by omega, hw, ?_⟩
    obtain ⟨j, hj⟩ : ∃ j, j = i := ⟨i, rfl⟩
    rw [← hj] at hi k1 k2
    have hv0 : ixV j = ixV i := by rw [hj]
    unfold stepR at k1 k2
    cases late
    · rw [if_neg Bool.false_ne_true] at k1 k2
      have w1 := wout_len (l := l) j
      cases i
      case' none =>
        have hv : ixV j = .non := hv0
        walk_at "rd"
        refine ⟨hc, ?_⟩
        walk_at "rd"
        refine ⟨hp, ?_⟩
        walk_at "rd"
        refine ⟨by omega, hf, ?_⟩
      case' some k =>
        have hv : ixV j = .int (k : Nat) := hv0
        have hk := hi k hj
        walk_at "rd"
        refine ⟨by omega, ?_⟩
        walk_at "rd"
        refine ⟨hc, ?_⟩
        walk_at "rd"
        refine ⟨hp, ?_⟩
        walk_at "rd"
        refine ⟨hk, ?_⟩
        walk_at "rd"
        refine ⟨by omega, hf, ?_⟩
      all_goals
        refine ⟨_, rfl, _, rfl, iteF ?_⟩
        refine ⟨_, rfl, _, rfl, l, j, by rw [hv]; rfl, by omega, hi, fun H1 hS1 => ?_⟩
        walk_at "rd"
        refine ⟨⟨_, rfl⟩, ?_⟩
        walk_at "rd"
        rw [t1, tx_count]
        walk_at "rd"
        have hcn : (wout l j).count true ≤ (wout l j).length := List.count_le_length
        refine ⟨by omega, by split <;> omega, by split <;> omega, ?_⟩
        have hm := mvd_len (p := p) (l := wout l j) (if (((wout l j).count true : Nat) : Int) < c then (((wout l j).count true : Nat) : Int) else c).toNat
        refine ⟨_, rfl, _, p, true, rfl, by omega, fun e => k1 _ (if_neg e) H1 hS1, fun e => k2 (if_pos e) H1 hS1⟩
    · rw [if_pos rfl] at k1 k2
      cases i
      case' none =>
        have hv : ixV j = .non := hv0
        walk_at "rd"
        refine ⟨hc, ?_⟩
        walk_at "rd"
        refine ⟨hp, ?_⟩
        walk_at "rd"
        refine ⟨by omega, hf, ?_⟩
      case' some k =>
        have hv : ixV j = .int (k : Nat) := hv0
        have hk := hi k hj
        walk_at "rd"
        refine ⟨by omega, ?_⟩
        walk_at "rd"
        refine ⟨hc, ?_⟩
        walk_at "rd"
        refine ⟨hp, ?_⟩
        walk_at "rd"
        refine ⟨hk, ?_⟩
        walk_at "rd"
        refine ⟨by omega, hf, ?_⟩
      all_goals
        refine ⟨_, rfl, _, rfl, iteT ?_⟩
        refine ⟨_, rfl, _, rfl, l, p, true, by rw [← t1]; rfl, by omega, fun e => ?_, fun e => k2 (if_pos e) H (Same.refl _)⟩
        rw [if_neg e] at k1
        refine ⟨_, rfl, nrm (l ++ [true]), j, by rw [hv]; rfl, Nat.le_trans (nrm_len _) (by rw [List.length_append, List.length_singleton]; omega), fun k e2 => ?_, fun H1 hS1 => ?_⟩
        · rw [nrm_count, List.count_append]
          have := hi k e2
          omega
        walk_at "rd"
        refine ⟨⟨_, rfl⟩, ?_⟩
        walk_at "rd"
        rw [t1, tx_count]
        walk_at "rd"
        have hcn : (wout (nrm (l ++ [true])) j).count true ≤ (wout (nrm (l ++ [true])) j).length := List.count_le_length
        have w2 := wout_len (l := nrm (l ++ [true])) j
        have w3 := nrm_len (l ++ [true])
        rw [List.length_append, List.length_singleton] at w3
        refine ⟨by omega, by split <;> omega, by split <;> omega, ?_⟩
        exact k1 _ rfl H1 hS1
end
end Cl

/-! ### domination -/
namespace Cl
def domB (xs ys : List Int) : Bool := decide (xs.length ≤ ys.length) && (List.range (min xs.length ys.length)).all fun i => decide (xs.getD i 0 ≤ ys.getD i 0)
theorem domB_iff {xs ys : List Int} : domB xs ys = true ↔ xs.length ≤ ys.length ∧ ∀ i, i < xs.length → xs.getD i 0 ≤ ys.getD i 0 := by
  unfold domB
  rw [Bool.and_eq_true, decide_eq_true_eq, List.all_eq_true]
  constructor
  · rintro ⟨h1, h2⟩
    exact ⟨h1, fun i hi => of_decide_eq_true (h2 i (List.mem_range.mpr (by omega)))⟩
  · rintro ⟨h1, h2⟩
    exact ⟨h1, fun i hi => decide_eq_true (h2 i (by have := List.mem_range.mp hi; omega))⟩
theorem domB_refl (xs : List Int) : domB xs xs = true := domB_iff.mpr ⟨Nat.le_refl _, fun _ _ => Int.le_refl _⟩
theorem domB_trans {xs ys zs : List Int} (h1 : domB xs ys = true) (h2 : domB ys zs = true) : domB xs zs = true := by
  rw [domB_iff] at h1 h2 ⊢
  exact ⟨Nat.le_trans h1.1 h2.1, fun i hi => Int.le_trans (h1.2 i hi) (h2.2 i (by omega))⟩
theorem getD_at {xs : List Int} {i : Nat} (h : i < xs.length) : xs[i]? = some (xs.getD i 0) := by
  rw [List.getD_eq_getElem?_getD, List.getElem?_eq_getElem h]; rfl
theorem domB_anti {xs ys : List Int} (h1 : domB xs ys = true) (h2 : domB ys xs = true) : xs = ys := by
  rw [domB_iff] at h1 h2
  have hl : xs.length = ys.length := Nat.le_antisymm h1.1 h2.1
  apply List.ext_getElem? 
  intro i
  by_cases hi : i < xs.length
  · rw [getD_at hi, getD_at (by omega)]
    have := h1.2 i hi
    have := h2.2 i (by omega)
    congr 1
    omega
  · rw [List.getElem?_eq_none (by omega), List.getElem?_eq_none (by omega)]
theorem dps_inj {l m : List Bool} (hl : Wd l) (hm : Wd m) (h : dps l = dps m) : l = m := by
  have hlen : l.length = m.length := by
    rcases hl with rfl | ⟨r, rfl⟩
    · have := (dps_empty hm).mp (by rw [← h]; rfl)
      rw [this]
    · rcases hm with rfl | ⟨q, rfl⟩
      · have := (dps_empty (l := true :: r) (.inr ⟨r, rfl⟩)).mp (by rw [h]; rfl)
        cases this
      · rw [dps_cons, dps_cons] at h
        injection h with h1 h2
        rw [List.length_cons, List.length_cons]
        omega
  apply List.ext_getElem hlen
  intro i h1 h2
  have key : ∀ {a b : List Bool} (hd : dps a = dps b) (ha : i < a.length) (hb : i < b.length) (e : a.length = b.length), a[i] = true → b[i] = true := fun {a b} hd ha hb e ht => by
    have hmem : ((a.length : Int) - i) ∈ dps a := dps_mem.mpr ⟨i, by rw [List.getElem?_eq_getElem ha, ht], rfl⟩
    rw [hd] at hmem
    obtain ⟨k, hk, ek⟩ := dps_mem.mp hmem
    have : k = i := by omega
    subst this
    rw [List.getElem?_eq_getElem hb] at hk
    exact Option.some.inj hk
  cases hli : l[i]
  · cases hmi : m[i]
    · rfl
    · have := key h.symm h2 h1 hlen.symm hmi
      rw [hli] at this; cases this
  · exact (key h h1 h2 hlen hli).symm
def Dom (l m : List Bool) : Bool := domB (dps l) (dps m)
section
variable {P : Program} {w : World} {K : PySem.W.Frag} {mg : Str → Option Value} {base : Heap}
def spDominates : Sp := fun vs H Q _ => ∃ l m, vs = [.str (tx l), .str (tx m)] ∧ l.length ≤ 9000 ∧ m.length ≤ 9000 ∧ Wd l ∧ Wd m ∧ ∀ H', Same H H' → Q (.bl (Dom l m)) H'
def spAbove (K : PySem.W.Frag) : Sp := fun vs H Q _ => ∃ (p q : Addr) (xs ys : List Int), vs = [.ref p, .ref q] ∧ xs.length ≤ 9000 ∧ SqL K H p (xs.map V.int) ∧ SqL K H q (ys.map V.int) ∧ Q (.bl (domB xs ys)) H
end
end Cl

/-! ### law k10: domination is kept -/
namespace Cl
theorem dps_nrm (l : List Bool) : dps (nrm l) = dps l := by
  induction l with
  | nil => rfl
  | cons b r ih =>
    cases b with
    | true => rfl
    | false => show dps (nrm r) = _; rw [ih, dps_cons]; rfl
theorem dps_snoc (l : List Bool) : dps (l ++ [true]) = (dps l).map (· + 1) ++ [1] := by
  induction l with
  | nil => rfl
  | cons b r ih =>
    rw [List.cons_append, dps_cons, dps_cons, ih, List.map_append, List.length_append, List.append_assoc]
    congr 1
    cases b
    · rfl
    · simp
theorem dps_set {l : List Bool} : ∀ {k a : Nat}, (onesAt l)[k]? = some a → dps (l.set a false) = (dps l).eraseIdx k := by
  induction l with
  | nil => intro k a h; cases h
  | cons b r ih =>
    intro k a h
    rw [onesAt_cons] at h
    cases b with
    | true =>
      cases k with
      | zero =>
        have : (0 : Nat) = a := by simpa using h
        subst this
        show dps (false :: r) = _
        rw [dps_cons, dps_cons]; rfl
      | succ k =>
        rw [if_pos rfl, List.singleton_append, List.getElem?_cons_succ, List.getElem?_map] at h
        obtain ⟨a', ha, rfl⟩ := Option.map_eq_some_iff.mp h
        show dps (true :: r.set a' false) = _
        rw [dps_cons, dps_cons, ih ha, List.length_set]; rfl
    | false =>
      rw [if_neg Bool.false_ne_true, List.nil_append, List.getElem?_map] at h
      obtain ⟨a', ha, rfl⟩ := Option.map_eq_some_iff.mp h
      show dps (false :: r.set a' false) = _
      rw [dps_cons, dps_cons, ih ha]; rfl
theorem dps_wout {l : List Bool} {k : Nat} (h : k < l.count true) : dps (wout l (some k)) = (dps l).eraseIdx k := by
  have k2 : k < (onesAt l).length := by rw [ones_count]; exact h
  have h2 : (onesAt l)[k]? = some ((onesAt l)[k]) := List.getElem?_eq_getElem k2
  show dps (match (onesAt l)[k]? with | some a => nrm (l.set a false) | none => l) = _
  rw [h2]
  show dps (nrm _) = _
  rw [dps_nrm, dps_set h2]
/-- strictly falling, not below 1 -/
structure Fall (D : List Int) : Prop where
  lt : ∀ i, i + 1 < D.length → D.getD (i + 1) 0 < D.getD i 0
  ge : ∀ i, i < D.length → 1 ≤ D.getD i 0
theorem fall_dps (l : List Bool) : Fall (dps l) := by
  refine ⟨fun i hi => ?_, fun i hi => ?_⟩
  · have := List.pairwise_iff_getElem.mp (dps_desc l) i (i + 1) (by omega) hi (by omega)
    rw [List.getD_eq_getElem?_getD, List.getD_eq_getElem?_getD, List.getElem?_eq_getElem hi, List.getElem?_eq_getElem (show i < (dps l).length by omega)]
    exact this
  · have := (dps_le (List.mem_of_getElem? (getD_at hi))).1
    exact this
theorem getD_map1 {D : List Int} {i : Nat} (h : i < D.length) : (D.map (· + 1)).getD i 0 = D.getD i 0 + 1 := by
  rw [List.getD_eq_getElem?_getD, List.getElem?_map, getD_at h]; rfl
theorem getD_appL {A B : List Int} {i : Nat} (h : i < A.length) : (A ++ B).getD i 0 = A.getD i 0 := by
  rw [List.getD_eq_getElem?_getD, List.getElem?_append_left h, ← List.getD_eq_getElem?_getD]
theorem getD_last {A : List Int} {x : Int} {i : Nat} (h : i = A.length) : (A ++ [x]).getD i 0 = x := by
  subst h
  rw [List.getD_eq_getElem?_getD, List.getElem?_append_right (Nat.le_refl _), Nat.sub_self]; rfl
theorem getD_erase {D : List Int} {k i : Nat} : (D.eraseIdx k).getD i 0 = if i < k then D.getD i 0 else D.getD (i + 1) 0 := by
  rw [List.getD_eq_getElem?_getD, List.getElem?_eraseIdx]
  split <;> rw [List.getD_eq_getElem?_getD]
theorem erase_len {D : List Int} {k : Nat} (h : k < D.length) : (D.eraseIdx k).length = D.length - 1 := by rw [List.length_eraseIdx, if_pos h]
theorem dom_erase {D : List Int} (F : Fall D) {k : Nat} (h : k < D.length) : domB (D.eraseIdx k) D = true := by
  rw [domB_iff, erase_len h]
  refine ⟨by omega, fun i hi => ?_⟩
  rw [getD_erase]
  split
  · exact Int.le_refl _
  · exact Int.le_of_lt (F.lt i (by omega))
theorem dom_erase2 {D E : List Int} (F : Fall D) {k : Nat} (h : k < D.length) (d : domB D E = true) : domB (D.eraseIdx k) (E.eraseIdx (E.length - 1)) = true := by
  have d1 := domB_iff.mp (domB_trans (dom_erase F h) d)
  have d0 := (domB_iff.mp d).1
  rw [erase_len h] at d1
  rw [domB_iff, erase_len h, erase_len (by omega)]
  refine ⟨by omega, fun i hi => ?_⟩
  have := d1.2 i hi
  rw [getD_erase (D := E), if_pos (by omega)]
  exact this
theorem dom_less {D E : List Int} (h : D.length < E.length) (d : domB D E = true) : domB D (E.eraseIdx (E.length - 1)) = true := by
  have d1 := domB_iff.mp d
  rw [domB_iff, erase_len (by omega)]
  refine ⟨by omega, fun i hi => ?_⟩
  rw [getD_erase, if_pos (by omega)]
  exact d1.2 i hi
theorem dom_push {D E : List Int} (F : Fall E) (d : domB D E = true) : domB (D.map (· + 1) ++ [1]) (E.map (· + 1) ++ [1]) = true := by
  have d1 := domB_iff.mp d
  rw [domB_iff]
  simp only [List.length_append, List.length_map, List.length_singleton]
  refine ⟨by omega, fun i hi => ?_⟩
  by_cases c : i < D.length
  · rw [getD_appL (by rw [List.length_map]; exact c), getD_appL (by rw [List.length_map]; omega), getD_map1 c, getD_map1 (by omega)]
    have := d1.2 i c
    omega
  · rw [getD_last (by rw [List.length_map]; omega)]
    by_cases c2 : i < E.length
    · rw [getD_appL (by rw [List.length_map]; omega), getD_map1 c2]
      have := F.ge i c2
      omega
    · rw [getD_last (by rw [List.length_map]; omega)]
      exact Int.le_refl _
theorem dom_carry {x : Int} {D : List Int} (F : Fall (x :: D)) : domB (D.map (· + 1) ++ [1]) (x :: D) = true := by
  rw [domB_iff]
  simp only [List.length_append, List.length_map, List.length_cons, List.length_nil]
  refine ⟨Nat.le_refl _, fun i hi => ?_⟩
  by_cases c : i < D.length
  · rw [getD_appL (by rw [List.length_map]; exact c), getD_map1 c]
    have := F.lt i (by rw [List.length_cons]; omega)
    rw [List.getD_cons_succ] at this
    omega
  · rw [getD_last (by rw [List.length_map]; omega)]
    exact F.ge i (by rw [List.length_cons]; omega)
theorem dom_tail {x y : Int} {D E : List Int} (d : domB (x :: D) (y :: E) = true) : domB D E = true := by
  have d1 := domB_iff.mp d
  rw [List.length_cons, List.length_cons] at d1
  rw [domB_iff]
  refine ⟨by omega, fun i hi => ?_⟩
  have := d1.2 (i + 1) (by omega)
  rw [List.getD_cons_succ, List.getD_cons_succ] at this
  exact this
theorem fall_tail {x : Int} {D : List Int} (F : Fall (x :: D)) : Fall D := by
  refine ⟨fun i hi => ?_, fun i hi => ?_⟩
  · have := F.lt (i + 1) (by rw [List.length_cons]; omega)
    rw [List.getD_cons_succ, List.getD_cons_succ] at this
    exact this
  · have := F.ge (i + 1) (by rw [List.length_cons]; omega)
    rw [List.getD_cons_succ] at this
    exact this
theorem dom_nil (m : List Bool) : Dom [] m = true := domB_iff.mpr ⟨Nat.zero_le _, fun i hi => (by cases hi)⟩
theorem dom_refl (l : List Bool) : Dom l l = true := domB_refl _
theorem dom_trans {l m n : List Bool} (h1 : Dom l m = true) (h2 : Dom m n = true) : Dom l n = true := domB_trans h1 h2
/-- one carry makes a word no worse -/
theorem dom_mv1_self {p : Int} {l : List Bool} (W : Wd l) : Dom (mv1 p l) l = true := by
  unfold mv1
  split
  · exact dom_refl _
  · rename_i h
    rcases W with rfl | ⟨r, rfl⟩
    · exact absurd (.inl rfl) h
    · show domB (dps (nrm (r ++ [true]))) (dps (true :: r)) = true
      have F := fall_dps (true :: r)
      rw [dps_cons] at F ⊢
      rw [dps_nrm, dps_snoc]
      exact dom_carry F
theorem dom_len {l m : List Bool} (Wl : Wd l) (Wm : Wd m) (d : Dom l m = true) : l.length ≤ m.length := by
  rcases Wl with rfl | ⟨r, rfl⟩
  · exact Nat.zero_le _
  · rcases Wm with rfl | ⟨q, rfl⟩
    · have := (domB_iff.mp d).1
      rw [dps_cons] at this
      simp [dps_nil] at this
    · have := (domB_iff.mp d).2 0 (by rw [dps_cons]; simp)
      rw [dps_cons, dps_cons] at this
      have h2 : (r.length : Int) + 1 ≤ (q.length : Int) + 1 := this
      rw [List.length_cons, List.length_cons]
      omega
theorem dom_mv1 {p : Int} {l m : List Bool} (Wl : Wd l) (Wm : Wd m) (hm : (m.length : Int) ≤ p) (d : Dom l m = true) : Dom (mv1 p l) (mv1 p m) = true := by
  have hl := dom_len Wl Wm d
  by_cases sl : l = [] ∨ (l.length : Int) = p
  · rw [mv1_stuck sl]
    rcases sl with rfl | sl
    · exact dom_nil _
    · rw [mv1_stuck (.inr (by omega))]; exact d
  · by_cases sm : m = [] ∨ (m.length : Int) = p
    · rw [mv1_stuck sm]; exact dom_trans (dom_mv1_self Wl) d
    · unfold mv1
      rw [if_neg sl, if_neg sm]
      rcases Wl with rfl | ⟨r, rfl⟩
      · exact absurd (.inl rfl) sl
      · rcases Wm with rfl | ⟨q, rfl⟩
        · exact absurd (.inl rfl) sm
        · show domB (dps (nrm (r ++ [true]))) (dps (nrm (q ++ [true]))) = true
          rw [dps_nrm, dps_nrm, dps_snoc, dps_snoc]
          refine dom_push (fall_dps q) ?_
          have d' : domB (dps (true :: r)) (dps (true :: q)) = true := d
          rw [dps_cons, dps_cons] at d'
          exact dom_tail d'
theorem dom_mvd {p : Int} {l m : List Bool} (Wl : Wd l) (Wm : Wd m) (hm : (m.length : Int) ≤ p) (d : Dom l m = true) : ∀ b : Nat, Dom (mvd p b l) (mvd p b m) = true
  | 0 => d
  | b + 1 => dom_mv1 (mvd_wd Wl b) (mvd_wd Wm b) (by have := mvd_len (p := p) (l := m) b; omega) (dom_mvd Wl Wm hm d b)
theorem dom_more {p : Int} {l : List Bool} (W : Wd l) {b : Nat} : ∀ a, b ≤ a → Dom (mvd p a l) (mvd p b l) = true := by
  intro a h
  induction a with
  | zero => rw [Nat.le_zero.mp h]; exact dom_refl _
  | succ a ih =>
    rcases Nat.lt_or_ge a b with c | c
    · rw [show b = a + 1 by omega]; exact dom_refl _
    · exact dom_trans (dom_mv1_self (mvd_wd W a)) (ih c)
theorem dom_moves {p : Int} {l m : List Bool} (Wl : Wd l) (Wm : Wd m) (hm : (m.length : Int) ≤ p) (d : Dom l m = true) {a b : Nat} (h : b ≤ a) : Dom (mvd p a l) (mvd p b m) = true :=
  dom_trans (dom_more Wl a h) (dom_mvd Wl Wm hm d b)
theorem dom_app {l m : List Bool} (d : Dom l m = true) : Dom (nrm (l ++ [true])) (nrm (m ++ [true])) = true := by
  show domB (dps (nrm (l ++ [true]))) (dps (nrm (m ++ [true]))) = true
  rw [dps_nrm, dps_nrm, dps_snoc, dps_snoc]
  exact dom_push (fall_dps m) d
/-! moving more often than there are ones changes nothing -/
theorem nrm_mid (x y : List Bool) : nrm (x ++ true :: y) = nrm x ++ true :: y := by
  induction x with
  | nil => rfl
  | cons b r ih =>
    cases b with
    | true => rfl
    | false => exact ih
theorem rep_app (n : Nat) : List.replicate n true ++ [true] = List.replicate (n + 1) true := by rw [List.replicate_succ']
theorem mv1_rep (p : Int) (n : Nat) : mv1 p (List.replicate n true) = List.replicate n true := by
  unfold mv1
  split
  · rfl
  · rename_i h
    cases n with
    | zero => exact absurd (.inl rfl) h
    | succ n =>
      rw [List.replicate_succ]
      show nrm (List.replicate n true ++ [true]) = _
      rw [rep_app, List.replicate_succ]; rfl
theorem mvd_form {p : Int} {l x0 : List Bool} {s n : Nat} (W : Wd l) (e : l = x0 ++ List.replicate s true) (hc : x0.count true = n) : ∀ k, k ≤ n →
    (∃ j, j ≤ k ∧ (mvd p j l = [] ∨ ((mvd p j l).length : Int) = p)) ∨ ∃ x, mvd p k l = x ++ List.replicate (s + k) true ∧ x.count true = n - k
  | 0, _ => .inr ⟨x0, e, hc⟩
  | k + 1, hk => by
    rcases mvd_form (p := p) W e hc k (by omega) with ⟨j, hj, h⟩ | ⟨x, h1, h2⟩
    · exact .inl ⟨j, by omega, h⟩
    · by_cases st : mvd p k l = [] ∨ ((mvd p k l).length : Int) = p
      · exact .inl ⟨k, by omega, st⟩
      · refine .inr ?_
        have W2 := mvd_wd (p := p) W k
        have e2 : mvd p (k + 1) l = nrm ((mvd p k l).drop 1 ++ [true]) := if_neg st
        rw [h1] at e2 W2
        cases x with
        | nil => simp at h2; omega
        | cons b r =>
          rcases W2 with z | ⟨q, z⟩
          · cases z
          · have hb : b = true := (List.cons.inj z).1
            subst hb
            refine ⟨nrm r, ?_, ?_⟩
            · rw [e2]
              show nrm (r ++ List.replicate (s + k) true ++ [true]) = _
              rw [List.append_assoc, rep_app, List.replicate_succ, nrm_mid]
              rfl
            · rw [nrm_count]
              rw [List.count_cons] at h2
              simp at h2
              omega
theorem mvd_sat {p : Int} {l x0 : List Bool} {s n : Nat} (W : Wd l) (e : l = x0 ++ List.replicate s true) (hc : x0.count true = n) {c : Nat} (h : n ≤ c) : mvd p c l = mvd p n l := by
  rcases mvd_form (p := p) W e hc n (Nat.le_refl _) with ⟨j, hj, st⟩ | ⟨x, h1, h2⟩
  · rw [mvd_stuck st c (by omega), mvd_stuck st n hj]
  · have hx : x = [] := by
      cases x with
      | nil => rfl
      | cons b r =>
        have W2 := mvd_wd (p := p) W n
        rw [h1] at W2
        rcases W2 with z | ⟨q, z⟩
        · cases z
        · have hb : b = true := (List.cons.inj z).1
          subst hb
          simp at h2
    rw [hx, List.nil_append] at h1
    clear e hc
    induction c with
    | zero => rw [Nat.le_zero.mp h]
    | succ c ih =>
      rcases Nat.lt_or_ge c n with q | q
      · rw [show n = c + 1 by omega]
      · show mv1 p (mvd p c l) = _
        rw [ih q, h1, mv1_rep]
end Cl

/-! ### counts of words, domination by a release -/
namespace Cl
theorem wout_count {l : List Bool} {k : Nat} (h : k < l.count true) : (wout l (some k)).count true = l.count true - 1 := by
  rw [← dps_len, dps_wout h, erase_len (by rw [dps_len]; exact h), dps_len]
theorem dom_out {l : List Bool} {k : Nat} (h : k < l.count true) : Dom (wout l (some k)) l = true := by
  show domB (dps (wout l (some k))) (dps l) = true
  rw [dps_wout h]
  exact dom_erase (fall_dps l) (by rw [dps_len]; exact h)
theorem dom_out2 {l m : List Bool} {k : Nat} (h : k < l.count true) (d : Dom l m = true) : Dom (wout l (some k)) (wout m (some (m.count true - 1))) = true := by
  have d0 := (domB_iff.mp d).1
  rw [dps_len, dps_len] at d0
  show domB (dps (wout l (some k))) (dps (wout m (some (m.count true - 1)))) = true
  rw [dps_wout h, dps_wout (by omega)]
  have := dom_erase2 (fall_dps l) (E := dps m) (k := k) (by rw [dps_len]; exact h) d
  rw [dps_len] at this
  exact this
theorem dom_less2 {l m : List Bool} (h : l.count true < m.count true) (d : Dom l m = true) : Dom l (wout m (some (m.count true - 1))) = true := by
  show domB (dps l) (dps (wout m (some (m.count true - 1)))) = true
  rw [dps_wout (by omega)]
  have := dom_less (D := dps l) (E := dps m) (by rw [dps_len, dps_len]; exact h) d
  rw [dps_len] at this
  exact this
theorem dom_count {l m : List Bool} (d : Dom l m = true) : l.count true ≤ m.count true := by
  have := (domB_iff.mp d).1
  rw [dps_len, dps_len] at this
  exact this
theorem mv1_count {p : Int} {l : List Bool} (W : Wd l) : (mv1 p l).count true = l.count true := by
  unfold mv1
  split
  · rfl
  · rename_i h
    rcases W with rfl | ⟨r, rfl⟩
    · exact absurd (.inl rfl) h
    · rw [nrm_count]
      show (r ++ [true]).count true = _
      rw [List.count_append, List.count_cons, List.count_cons]; simp
theorem mvd_count {p : Int} {l : List Bool} (W : Wd l) : ∀ n, (mvd p n l).count true = l.count true
  | 0 => rfl
  | n + 1 => (mv1_count (mvd_wd W n)).trans (mvd_count W n)
theorem app_len (l : List Bool) : (nrm (l ++ [true])).length ≤ l.length + 1 := by
  have := nrm_len (l ++ [true])
  rw [List.length_append] at this
  exact this
theorem app_count (l : List Bool) : (nrm (l ++ [true])).count true = l.count true + 1 := by
  rw [nrm_count, List.count_append, List.count_cons]; simp
end Cl

/-! ### law k10: a whole put keeps domination -/
namespace Cl
theorem wdpush {l : List Bool} (h : Wd l) : Wd (l ++ [true]) := by
  rcases h with rfl | ⟨r, rfl⟩
  · exact .inr ⟨[], rfl⟩
  · exact .inr ⟨r ++ [true], rfl⟩
/-- the index names a one -/
def Ix (l : List Bool) (i : Option Nat) : Prop := ∀ k, i = some k → k < l.count true
theorem erase_push {D : List Int} {k : Nat} (h : k < D.length) : (D.map (· + 1) ++ [1]).eraseIdx k = (D.eraseIdx k).map (· + 1) ++ [1] := by
  rw [List.eraseIdx_append_of_lt_length (by rw [List.length_map]; exact h), List.eraseIdx_eq_take_drop_succ, List.eraseIdx_eq_take_drop_succ, List.map_append, List.map_take, List.map_drop]
theorem wout_push {l : List Bool} (W : Wd l) {i : Option Nat} (hi : Ix l i) : wout (l ++ [true]) i = wout l i ++ [true] := by
  cases i with
  | none => rfl
  | some k =>
    have hk := hi k rfl
    have hk2 : k < (l ++ [true]).count true := by rw [List.count_append]; omega
    refine dps_inj (wout_wd (wdpush W) _) (wdpush (wout_wd W _)) ?_
    rw [dps_wout hk2, dps_snoc, dps_snoc, dps_wout hk, erase_push (by rw [dps_len]; exact hk)]
theorem sat0 {p c : Int} {X : List Bool} (W : Wd X) (hc : 0 ≤ c) : mvd p (if ((X.count true : Nat) : Int) < c then ((X.count true : Nat) : Int) else c).toNat X = mvd p c.toNat X := by
  split
  · rename_i h
    have := mvd_sat (p := p) (x0 := X) (s := 0) W (by simp) rfl (c := c.toNat) (by omega)
    rw [this]; congr 1
  · rfl
theorem sat1 {p c : Int} {Y : List Bool} (W : Wd Y) (hc : 0 ≤ c) : mvd p (if (((Y ++ [true]).count true : Nat) : Int) - 1 < c then (((Y ++ [true]).count true : Nat) : Int) - 1 else c).toNat (Y ++ [true]) = mvd p c.toNat (Y ++ [true]) := by
  have hn : (Y ++ [true]).count true = Y.count true + 1 := by rw [List.count_append, List.count_cons]; simp
  rw [hn]
  split
  · rename_i h
    have := mvd_sat (p := p) (x0 := Y) (s := 1) (wdpush W) rfl rfl (c := c.toNat) (by omega)
    rw [this]; congr 1; omega
  · rfl
theorem stepR_early {l : List Bool} {i : Option Nat} {c p : Int} (W : Wd l) (hc : 0 ≤ c) : stepR l i c p false = if ((mvd p c.toNat (wout l i)).length : Int) = p then none else some (nrm (mvd p c.toNat (wout l i) ++ [true])) := by
  unfold stepR
  rw [if_neg Bool.false_ne_true, sat0 (wout_wd W i) hc]
theorem stepR_late {l : List Bool} {i : Option Nat} {c p : Int} (W : Wd l) (hi : Ix l i) (hc : 0 ≤ c) : stepR l i c p true = if (l.length : Int) = p then none else some (mvd p c.toNat (wout l i ++ [true])) := by
  unfold stepR
  rw [if_pos rfl, nrm_wd (wdpush W), wout_push W hi, sat1 (wout_wd W i) hc]
theorem len_dps {X : List Bool} (W : Wd X) : X.length = ((dps X).getD 0 0).toNat := by
  rcases W with rfl | ⟨r, rfl⟩
  · rfl
  · rw [dps_cons]
    show _ = ((r.length : Int) + 1).toNat
    rw [List.length_cons]; omega
theorem mvd_full {p : Int} {X : List Bool} {n : Nat} (h : (X.length : Int) ≤ p) : ((mvd p n X).length : Int) = p ↔ (X.length : Int) = p := by
  constructor
  · intro q
    have := mvd_len (p := p) (l := X) n
    omega
  · intro q
    have := mvd_stuck (p := p) (l := X) (n := 0) (.inr q) n (Nat.zero_le _)
    rw [this]; exact q
def dOut (l : List Bool) (i : Option Nat) : List Int := match i with
  | none => dps l
  | some k => (dps l).eraseIdx k
theorem dps_out {l : List Bool} {i : Option Nat} (hi : Ix l i) : dps (wout l i) = dOut l i := by
  cases i with
  | none => rfl
  | some k => exact dps_wout (hi k rfl)
/-- the law's own word of whether a put goes -/
def goes (l : List Bool) (i : Option Nat) (p : Int) (late : Bool) : Bool := if late = true then decide ((l.length : Int) < p) else decide (dOut l i = []) || decide ((dOut l i).getD 0 0 < p)
theorem goes_is {l : List Bool} {i : Option Nat} {c p : Int} {late : Bool} (W : Wd l) (hi : Ix l i) (hc : 0 ≤ c) (hp : 1 ≤ p) (hl : (l.length : Int) ≤ p) : (stepR l i c p late).isSome = goes l i p late := by
  cases late
  · rw [stepR_early W hc]
    unfold goes
    rw [if_neg Bool.false_ne_true, ← dps_out hi]
    have WX := wout_wd W i
    have lX := wout_len (l := l) i
    have e := len_dps WX
    by_cases h : ((wout l i).length : Int) = p
    · rw [if_pos ((mvd_full (by omega)).mpr h)]
      have h1 : dps (wout l i) ≠ [] := fun z => by
        rw [z] at e
        have : (wout l i).length = 0 := e
        omega
      rw [decide_eq_false h1, decide_eq_false (by omega)]; rfl
    · rw [if_neg fun q => h ((mvd_full (by omega)).mp q)]
      by_cases h1 : dps (wout l i) = []
      · rw [decide_eq_true h1]; rfl
      · have : 0 < (dps (wout l i)).length := List.length_pos_iff.mpr h1
        have := (fall_dps (wout l i)).ge 0 this
        rw [decide_eq_false h1, decide_eq_true (by omega)]; rfl
  · rw [stepR_late W hi hc]
    unfold goes
    rw [if_pos rfl]
    by_cases h : (l.length : Int) = p
    · rw [if_pos h, decide_eq_false (by omega)]; rfl
    · rw [if_neg h, decide_eq_true (by omega)]; rfl
theorem out_count {l : List Bool} {i : Option Nat} (hi : Ix l i) : (wout l i).count true + 1 = l.count true + (if i = none then 1 else 0) := by
  cases i with
  | none => rfl
  | some k =>
    have := hi k rfl
    rw [wout_count this, if_neg (by simp)]
    omega
theorem step_word {l r : List Bool} {i : Option Nat} {c p : Int} {late : Bool} (W : Wd l) (hi : Ix l i) (hc : 0 ≤ c) (hl : (l.length : Int) ≤ p) (h : stepR l i c p late = some r) :
    Wd r ∧ r.count true = l.count true + (if i = none then 1 else 0) ∧ (r.length : Int) ≤ p := by
  have WX := wout_wd W i
  have lX := wout_len (l := l) i
  have oc := out_count hi
  cases late
  · rw [stepR_early W hc] at h
    have ml := mvd_len (p := p) (l := wout l i) c.toNat
    split at h
    · cases h
    · rename_i q
      cases h
      refine ⟨nrm_is _, ?_, ?_⟩
      · rw [app_count, mvd_count WX]; exact oc
      · have := app_len (mvd p c.toNat (wout l i))
        omega
  · rw [stepR_late W hi hc] at h
    have ml := mvd_len (p := p) (l := wout l i ++ [true]) c.toNat
    split at h
    · cases h
    · rename_i q
      cases h
      refine ⟨mvd_wd (wdpush WX) _, ?_, ?_⟩
      · rw [mvd_count (wdpush WX), List.count_append, List.count_cons]
        simp only [List.count_nil]
        rw [← oc]; rfl
      · rw [List.length_append, List.length_singleton] at ml
        omega
theorem step_dom {l m r2 : List Bool} {i1 i2 : Option Nat} {c1 c2 p : Int} {late : Bool} (Wl : Wd l) (Wm : Wd m) (h1 : Ix l i1) (h2 : Ix m i2) (hc : 0 ≤ c2) (hcc : c2 ≤ c1) (hm : (m.length : Int) ≤ p) (d : Dom l m = true)
    (hx : Dom (wout l i1) (wout m i2) = true) (h : stepR m i2 c2 p late = some r2) : ∃ r1, stepR l i1 c1 p late = some r1 ∧ Dom r1 r2 = true := by
  have hl := dom_len Wl Wm d
  have X1 := wout_wd Wl i1
  have X2 := wout_wd Wm i2
  have lX := wout_len (l := m) i2
  cases late
  · rw [stepR_early Wm hc] at h
    rw [stepR_early Wl (by omega)]
    split at h
    · cases h
    · rename_i q
      cases h
      have dm := dom_moves (p := p) X1 X2 (by omega) hx (a := c1.toNat) (b := c2.toNat) (by omega)
      have dl := dom_len (mvd_wd (p := p) X1 c1.toNat) (mvd_wd (p := p) X2 c2.toNat) dm
      have ml := mvd_len (p := p) (l := wout m i2) c2.toNat
      rw [if_neg (by omega)]
      exact ⟨_, rfl, dom_app dm⟩
  · rw [stepR_late Wm h2 hc] at h
    rw [stepR_late Wl h1 (by omega)]
    split at h
    · cases h
    · rename_i q
      cases h
      rw [if_neg (by omega)]
      refine ⟨_, rfl, dom_moves (wdpush X1) (wdpush X2) (by rw [List.length_append, List.length_singleton]; omega) ?_ (by omega)⟩
      have := dom_app hx
      rw [nrm_wd (wdpush X1), nrm_wd (wdpush X2)] at this
      exact this
end Cl

/-! ### writing first is the same in one place more -/
namespace Cl
theorem wdp {l : List Bool} (h : Wd l) : Wd (l ++ [true]) := by
  rcases h with rfl | ⟨r, rfl⟩
  · exact .inr ⟨[], rfl⟩
  · exact .inr ⟨r ++ [true], rfl⟩
theorem ones_push (l : List Bool) : onesAt (l ++ [true]) = onesAt l ++ [l.length] := by
  unfold onesAt
  rw [List.length_append, List.length_singleton, List.range_succ, List.filter_append]
  congr 1
  · exact List.filter_congr fun k hk => by rw [List.getElem?_append_left (List.mem_range.mp hk)]
  · simp
theorem mid1 (x : List Bool) : nrm (x ++ [true]) = nrm x ++ [true] := by
  induction x with
  | nil => rfl
  | cons b r ih =>
    cases b with
    | true => rfl
    | false => exact ih
theorem wout_push1 {l : List Bool} {i : Option Nat} (hi : ∀ k, i = some k → k < l.count true) : wout (l ++ [true]) i = wout l i ++ [true] := by
  cases i with
  | none => rfl
  | some k =>
    have hk := hi k rfl
    rw [← ones_count] at hk
    have e1 : (onesAt l)[k]? = some (onesAt l)[k] := List.getElem?_eq_getElem hk
    have e2 : (onesAt (l ++ [true]))[k]? = some (onesAt l)[k] := by rw [ones_push, List.getElem?_append_left hk, e1]
    have hlt := onesAt_lt (List.getElem_mem hk)
    show (match (onesAt (l ++ [true]))[k]? with | some a => nrm ((l ++ [true]).set a false) | none => l ++ [true]) = (match (onesAt l)[k]? with | some a => nrm (l.set a false) | none => l) ++ [true]
    rw [e1, e2]
    show nrm ((l ++ [true]).set (onesAt l)[k] false) = nrm (l.set (onesAt l)[k] false) ++ [true]
    rw [List.set_append_left _ _ hlt, mid1]
theorem mv1_push {p : Int} {Y : List Bool} (h : (Y.length : Int) < p) : mv1 (p + 1) (Y ++ [true]) = mv1 p Y ++ [true] := by
  unfold mv1
  cases Y with
  | nil =>
    rw [if_neg (by rintro (z | z)
                   · cases z
                   · have : ((1 : Nat) : Int) = p + 1 := z
                     have : ((0 : Nat) : Int) < p := h
                     omega), if_pos (.inl rfl)]
    rfl
  | cons e r =>
    rw [List.length_cons] at h
    rw [if_neg (by rintro (z | z)
                   · cases z
                   · rw [List.length_append, List.length_cons, List.length_singleton] at z; omega), if_neg (by rintro (z | z)
                                                                                                               · cases z
                                                                                                               · rw [List.length_cons] at z; omega)]
    exact mid1 (r ++ [true])
theorem mvd_push {p : Int} {Y : List Bool} (h : (Y.length : Int) < p) : ∀ n, mvd (p + 1) n (Y ++ [true]) = mvd p n Y ++ [true]
  | 0 => rfl
  | n + 1 => by
    have ih := mvd_push h n
    have := mvd_len (p := p) (l := Y) n
    show mv1 (p + 1) (mvd (p + 1) n (Y ++ [true])) = mv1 p (mvd p n Y) ++ [true]
    rw [ih, mv1_push (by omega)]
/-- writing first costs one place -/
theorem twin_steps {l : List Bool} {i : Option Nat} {c p : Int} (wl : Wd l) (hi : ∀ k, i = some k → k < l.count true) (hc : 0 ≤ c) (hp : (l.length : Int) ≤ p) :
    ∃ r, stepR l i c (p + 1) true = some r ∧ (stepR l i c p false = none → (r.length : Int) = p + 1) ∧ ∀ r2, stepR l i c p false = some r2 → r2 = r := by
  have w2 := wdp wl
  have wx := wout_wd wl i
  have xl := wout_len (l := l) i
  unfold stepR
  rw [if_pos rfl, if_neg (show ¬ (l.length : Int) = p + 1 by omega), if_neg Bool.false_ne_true, nrm_wd w2, wout_push1 hi]
  generalize wout l i = X at *
  have ec : (((X ++ [true]).count true : Nat) : Int) - 1 = ((X.count true : Nat) : Int) := by
    rw [List.count_append]
    show ((X.count true + 1 : Nat) : Int) - 1 = _
    omega
  rw [ec]
  generalize (if ((X.count true : Nat) : Int) < c then ((X.count true : Nat) : Int) else c).toNat = N
  by_cases hf : (X.length : Int) = p
  · have s1 : mvd p N X = X := mvd_stuck (n := 0) (.inr hf) N (Nat.zero_le _)
    have hf2 : (((X ++ [true]).length : Nat) : Int) = p + 1 := by rw [List.length_append, List.length_singleton]; omega
    have s2 : mvd (p + 1) N (X ++ [true]) = X ++ [true] := mvd_stuck (n := 0) (.inr hf2) N (Nat.zero_le _)
    rw [s1, s2, if_pos hf]
    exact ⟨_, rfl, fun _ => hf2, fun _ z => nomatch z⟩
  · have hlt : (X.length : Int) < p := by omega
    have ml := mvd_len (p := p) (l := X) N
    rw [mvd_push hlt, if_neg (show ¬ ((mvd p N X).length : Int) = p by omega), nrm_wd (wdp (mvd_wd wx N))]
    exact ⟨_, rfl, fun z => (nomatch z), fun r2 z => by cases z; rfl⟩
end Cl

/-! ### the class Round -/
namespace Cl
open StX ClX
/-- the budgets of a Round -/
structure Okb (bs : List Int) : Prop where
  l1 : 1 ≤ bs.length
  l2 : bs.length ≤ 12
  nn : ∀ b, b ∈ bs → 0 ≤ b ∧ b ≤ 10000000000000000000000000000000
def bF (t : Addr) : List (Str × V) := [("_budgets", .ref t)]
def RoundAt (C : Addr) (H : Hp) (r : Addr) (bs : List Int) : Prop := ∃ dx t, H r = some (.ins C dx (bF t)) ∧ H t = some (.tup (bs.map V.int))
theorem RoundAt.same {C r : Addr} {H H' : Hp} {bs : List Int} (h : RoundAt C H r bs) (x : Same H H') : RoundAt C H' r bs := by
  obtain ⟨dx, t, h1, h2⟩ := h
  exact ⟨dx, t, x _ _ h1, x _ _ h2⟩
theorem RoundAt.but {C a r : Addr} {H H' : Hp} {bs : List Int} (h : RoundAt C H r bs) (x : But a H H') (b : BagAt H a) : RoundAt C H' r bs := by
  obtain ⟨dx, t, h1, h2⟩ := h
  obtain ⟨_, _, _, e⟩ := b
  exact ⟨dx, t, x _ _ (ne_of h1 e (by intro q; cases q)) h1, x _ _ (ne_of h2 e (by intro q; cases q)) h2⟩
theorem no_ (m : Str) (h : (m == ("_budgets" : Str)) = false) (t : Addr) : (bF t).lookup m = none := by
  unfold bF
  rw [List.lookup_cons, h]
  rfl
structure CV (K : PySem.W.Frag) (C : Addr) (m : Str) (v : V) : Prop where
  ex : ∃ mc u, CRead K C mc ∧ CVal K C mc m v u
section
variable {P : Program} {w : World} {K : PySem.W.Frag} {mg : Str → Option Value} {base : Heap} {C : Addr}
/-! making one -/
def spInit (C : Addr) : Sp := fun vs H Q _ => ∃ (x dx : Addr) (bs : List Int), vs = .ref x :: bs.map V.int ∧ H x = some (.ins C dx []) ∧ Okb bs ∧
  ∀ (t : Addr) (H' : Hp), H t = none → H' x = some (.ins C dx (bF t)) → H' t = some (.tup (bs.map V.int)) → (∀ b o, b ≠ x → H b = some o → H' b = some o) → Q .non H'
theorem scRoundInit : FnScope ["self", "budgets", "budget"] ["self", "budgets"] (defScope sRoundInit) := ⟨rfl, rfl, rfl, by decide +kernel, rfl, by decide +kernel, by decide +kernel⟩
theorem ok_Round_init {f : Addr} {fd : FuncData} (F : Fun K "__init__" "Round.__init__" sRoundInit f fd) (B : Bi mg) (R_Round : ClsC K mg "Round" C) (N_Round : NoAttr K C "_budgets") (V_Round : CV K C "MOST" (.int 12))
    (D_check_least : Dn P w K mg base "check_least" 2 ["value", "least", "field"] spCheckLeast) : FnR P w K mg base CX0 3 f (spInit C) := by
  obtain ⟨oc, od, kV, doc, pm, an, cdv, ct, osl, rfl, lk, hcd⟩ := F.ex
  refine FnR.imp (fn_star (ps := ["self"]) (pv := "budgets") (sp := fun vs H Q _ => ∃ (x dx t : Addr) (bs : List Int), vs = [.ref x, .ref t] ∧ H x = some (.ins C dx []) ∧ H t = some (.tup (bs.map V.int)) ∧ Okb bs ∧
    ∀ (H' : Hp), H' x = some (.ins C dx (bF t)) → (∀ b o, b ≠ x → H b = some o → H' b = some o) → Q .non H') lk hcd scRoundInit cxUp_none (bind_star1 (B := fun us => bindArgs (PySem.W.fnOf "__init__" "Round.__init__" (defArgs sRoundInit) (defBody sRoundInit) (defScope sRoundInit) .none kV doc pm an cdv ct) ⟨us, []⟩) (p1 := "self") (pv := "budgets") (fun _ => rfl) (fun _ _ _ => rfl)) ?_) ?_
  · rintro A outer s H vs Q E hr ⟨x, dx, t, bs, rfl, hx, ht, ok, k⟩
    refine ⟨_, PSs.nox (pss_cons (ps_if (pt_not (pt_chain op_le op_le pe_int (pe_callB call_len_seq (by rfl) B.len PySem.boot_len (pa_cons (pv 1) pa_nil)) (pe_cval (pe_cls R_Round rfl)))) (pss_one ps_never)
  pss_nil)
  (pss_cons (ps_for PassesOwn.never rfl (pi_tup (pv 1)) (pg_name (i := 2) scRoundInit.nd rfl (Or.inl rfl))
  (pss_one (ps_expr (pe_dn D_check_least (hr.mono (by decide)) (by rfl) pass0 (pa_cons (pv 2) (pa_cons pe_int (pa_cons pe_str pa_nil)))))))
  (pss_one (ps_fld (pv 0) (pv 1) rfl)))), ?_⟩
    obtain ⟨mc, u, hrd, hcv⟩ := V_Round.ex
    have hl : (bs.map V.int).length = bs.length := List.length_map ..
    walk_at "rd"
    refine ⟨t, _, rfl, .inr (SqT.of ht), ?_⟩
    walk_at "rd"
    rw [decide_eq_true (by have := ok.l1; omega)]
    refine iteT ?_
    walk_at "rd"
    refine ⟨C, mc, _, u, rfl, hrd, hcv, ?_⟩
    walk_at "rd"
    rw [decide_eq_true (by have := ok.l2; omega)]
    walk_at "rd"
    refine ⟨⟨_, SqT.of ht⟩, for_tup (K := K) (a := t) (xs := bs.map V.int) (fun i σ H' => ∃ v, σ = [some (.ref x), some (.ref t), v] ∧ H' = H) ⟨_, rfl, rfl⟩ (fun i σ H' _ ⟨_, _, e⟩ => by rw [e]; exact SqT.of ht) ?_ ?_⟩
    · rintro i y σ H' hi ⟨v, rfl, rfl⟩
      obtain ⟨z, hz, rfl⟩ : ∃ z, bs[i]? = some z ∧ y = V.int z := by
        rw [List.getElem?_map] at hi
        cases e : bs[i]? with
        | none => rw [e] at hi; cases hi
        | some z => rw [e] at hi; exact ⟨z, rfl, (Option.some.inj hi).symm⟩
      walk_at "rd"
      exact ⟨(ok.nn z (List.mem_of_getElem? hz)).1, _, rfl, rfl⟩
    · rintro σ H' ⟨v, rfl, rfl⟩
      refine ⟨_, rfl, _, rfl, x, C, dx, _, rfl, hx, R_Round.cl, N_Round, (by show 0 < 1000; decide), ?_⟩
      exact k _ upd_same fun b o n e => by rw [upd_ne n]; exact e
  · rintro vs H Q E ⟨x, dx, bs, rfl, hx, ok, k⟩
    refine ⟨[.ref x], bs.map V.int, rfl, rfl, ?_, fun t ht => ⟨x, dx, t, bs, rfl, ?_, upd_same, ok, fun H' h1 h2 => ?_⟩⟩
    · rw [List.length_map]
      exact Nat.le_trans ok.l2 (by decide)
    · rw [upd_ne (ne_of_none hx ht)]; exact hx
    · have ntx : t ≠ x := (ne_of_none hx ht).symm
      refine k t H' ht h1 (h2 t _ ntx upd_same) fun b o n e => h2 b o n ?_
      rw [upd_ne (ne_of_none e ht)]; exact e
/-- what the reading of Round(..) asks, from what a caller has -/
theorem mkRound {vs : List V} {H : Hp} {Q : VK} {E : XK} (h : ∃ bs : List Int, vs = bs.map V.int ∧ Okb bs ∧ ∀ (x : Addr) (H' : Hp), H x = none → RoundAt C H' x bs → Same H H' → Q (.ref x) H') :
    ∀ x dx, H x = Option.none → H dx = Option.none → dx ≠ x → spInit C (V.ref x :: vs) (upd (upd H dx (.own x)) x (.ins C dx [])) (fun v H2 => v = .non ∧ Q (.ref x) H2) E := by
  obtain ⟨bs, rfl, ok, k⟩ := h
  intro x dx hx hdx nd
  refine ⟨x, dx, bs, rfl, upd_same, ok, fun t H' ht h1 h2 h3 => ⟨rfl, k x H' hx ⟨dx, t, h1, h2⟩ fun b o e => ?_⟩⟩
  refine h3 b o (ne_of_none e hx) ?_
  rw [upd_ne (ne_of_none e hx), upd_ne (ne_of_none e hdx)]
  exact e
theorem mkRoundX {vs : List V} {H : Hp} {Qx : Addr → Hp → Prop} {E : XK} (h : ∃ bs : List Int, vs = bs.map V.int ∧ Okb bs ∧ ∀ (x : Addr) (H' : Hp), H x = none → RoundAt C H' x bs → Same H H' → Qx x H') :
    ∀ x dx, H x = Option.none → H dx = Option.none → dx ≠ x → spInit C (V.ref x :: vs) (upd (upd H dx (.own x)) x (.ins C dx [])) (fun v H2 => v = .non ∧ Qx x H2) E := by
  obtain ⟨bs, rfl, ok, k⟩ := h
  intro x dx hx hdx nd
  refine ⟨x, dx, bs, rfl, upd_same, ok, fun t H' ht h1 h2 h3 => ⟨rfl, k x H' hx ⟨dx, t, h1, h2⟩ fun b o e => ?_⟩⟩
  refine h3 b o (ne_of_none e hx) ?_
  rw [upd_ne (ne_of_none e hx), upd_ne (ne_of_none e hdx)]
  exact e
def spConst (C : Addr) : Sp := fun vs H Q _ => ∃ (b : Int), vs = [.int b] ∧ 0 ≤ b ∧ b ≤ 10000000000000000000000000000000 ∧ ∀ (x : Addr) (H' : Hp), H x = none → RoundAt C H' x [b] → Same H H' → Q (.ref x) H'
theorem ok1 {b : Int} (h0 : 0 ≤ b) (h1 : b ≤ 10000000000000000000000000000000) : Okb [b] := ⟨by simp, by simp, fun x hx => by simp at hx; subst hx; exact ⟨h0, h1⟩⟩
/-! its properties and methods -/
def spBudgets (C : Addr) : Sp := fun vs H Q _ => ∃ (r : Addr) (bs : List Int), vs = [.ref r] ∧ RoundAt C H r bs ∧ ∀ (p : Addr), H p = none → Q (.ref p) (upd H p (.lst (bs.map V.int)))
theorem scRoundBudgets : FnScope ["self"] ["self"] (defScope sRoundBudgets) := ⟨rfl, rfl, rfl, by decide +kernel, rfl, by decide +kernel, by decide +kernel⟩
theorem ok_Round_budgets {f : Addr} {fd : FuncData} (F : Fun K "budgets" "Round.budgets" sRoundBudgets f fd) (B : Bi mg) (R_Round : ClsC K mg "Round" C) (N_Round : NoAttr K C "_budgets") : FnOk P w K mg base CX0 1 f fd ["self"] (spBudgets C) := by
  refine F.ok scRoundBudgets (fun vs H Q E h => ?_) (fun cdv A outer s H vs Q E hr h => ?_)
  · obtain ⟨r, bs, rfl, _⟩ := h
    rfl
  · obtain ⟨r, bs, rfl, ⟨dx, t, h1, h2⟩, k⟩ := h
    refine ⟨_, (pss_one (ps_ret (pe_callTy call_list_of (by rfl) B.listT (by decide +kernel) (pa_cons (pe_fld (pv 0) rfl) pa_nil)))), ?_⟩
    refine ⟨_, rfl, r, C, dx, _, _, rfl, h1, R_Round.cl, N_Round, rfl, t, _, rfl, .inr (SqT.of h2), k⟩
def spLen (C : Addr) : Sp := fun vs H Q _ => ∃ (r : Addr) (bs : List Int), vs = [.ref r] ∧ RoundAt C H r bs ∧ Q (.int bs.length) H
theorem scRoundLen : FnScope ["self"] ["self"] (defScope sRoundLen) := ⟨rfl, rfl, rfl, by decide +kernel, rfl, by decide +kernel, by decide +kernel⟩
theorem ok_Round_len {f : Addr} {fd : FuncData} (F : Fun K "__len__" "Round.__len__" sRoundLen f fd) (B : Bi mg) (R_Round : ClsC K mg "Round" C) (N_Round : NoAttr K C "_budgets") : FnOk P w K mg base CX0 1 f fd ["self"] (spLen C) := by
  refine F.ok scRoundLen (fun vs H Q E h => ?_) (fun cdv A outer s H vs Q E hr h => ?_)
  · obtain ⟨r, bs, rfl, _⟩ := h
    rfl
  · obtain ⟨r, bs, rfl, ⟨dx, t, h1, h2⟩, k⟩ := h
    refine ⟨_, (pss_one (ps_ret (pe_callB call_len_seq (by rfl) B.len PySem.boot_len (pa_cons (pe_fld (pv 0) rfl) pa_nil)))), ?_⟩
    refine ⟨_, rfl, r, C, dx, _, _, rfl, h1, R_Round.cl, N_Round, rfl, t, _, rfl, .inr (SqT.of h2), ?_⟩
    have e : ((bs.map V.int).length : Int) = bs.length := by rw [List.length_map]
    rw [e]
    exact k
theorem eqvAll_ints : ∀ (as bs : List Int), PyData.eqvAll (as.map PyData.int) (bs.map PyData.int) = decide (as = bs)
  | [], [] => by simp [PyData.eqvAll]
  | [], b :: bs => by simp [PyData.eqvAll]
  | a :: as, [] => by simp [PyData.eqvAll]
  | a :: as, b :: bs => by
    simp only [List.map_cons, PyData.eqvAll, PyData.eqv, eqvAll_ints as bs, List.cons.injEq]
    by_cases h : a = b
    · subst h; simp
    · simp [h]
theorem dpAll_ints {K : PySem.W.Frag} {H : Hp} : ∀ (as : List Int), DpAll K H (as.map V.int) (as.map PyData.int)
  | [] => .nil
  | a :: as => .cons (.int a) (dpAll_ints as)
theorem lay_ints : ∀ (as : List Int), PyData.canLayAll0 (as.map PyData.int) = true
  | [] => rfl
  | a :: as => by simp only [List.map_cons, PyData.canLayAll0, PyData.canLay0, lay_ints as]; rfl
theorem dep_ints : ∀ (as : List Int), PyData.depthAll (as.map PyData.int) = 0
  | [] => rfl
  | a :: as => by simp only [List.map_cons, PyData.depthAll, PyData.depth, dep_ints as]; rfl
theorem shaped_tup (as : List Int) : SeqAt.shaped (.tuple (as.map PyData.int)) = true := by
  show (PyData.canLayAll0 (as.map PyData.int) && decide (PyData.depthAll (as.map PyData.int) + 1 ≤ 64)) = true
  rw [lay_ints, dep_ints]; rfl
theorem shaped_lst (as : List Int) : SeqAt.shaped (.list (as.map PyData.int)) = true := by
  show (PyData.canLayAll0 (as.map PyData.int) && decide (PyData.depthAll (as.map PyData.int) + 1 ≤ 64)) = true
  rw [lay_ints, dep_ints]; rfl
def spEqR (C : Addr) : Sp := fun vs H Q _ => ∃ (r q : Addr) (as bs : List Int), vs = [.ref r, .ref q] ∧ RoundAt C H r as ∧ RoundAt C H q bs ∧ Q (.bl (decide (as = bs))) H
theorem scRoundEq : FnScope ["self", "other"] ["self", "other"] (defScope sRoundEq) := ⟨rfl, rfl, rfl, by decide +kernel, rfl, by decide +kernel, by decide +kernel⟩
theorem ok_Round_eq {f : Addr} {fd : FuncData} (F : Fun K "__eq__" "Round.__eq__" sRoundEq f fd) (B : Bi mg) (R_Round : ClsC K mg "Round" C) (N_Round : NoAttr K C "_budgets") : FnOk P w K mg base CX0 1 f fd ["self", "other"] (spEqR C) := by
  refine F.ok scRoundEq (fun vs H Q E h => ?_) (fun cdv A outer s H vs Q E hr h => ?_)
  · obtain ⟨r, q, as, bs, rfl, _⟩ := h
    rfl
  · obtain ⟨r, q, as, bs, rfl, ⟨dx, t, h1, h2⟩, ⟨dy, u, g1, g2⟩, k⟩ := h
    refine ⟨_, (pss_one (ps_ret (pe_and (pe_callB (C8.call_isC R_Round.ic) (by rfl) B.isinstance (by decide +kernel) (pa_cons (pv 1) (pa_cons (pe_cls R_Round rfl) pa_nil))) (pe_one (pe_cmpR (op_eqD hr.units) (pe_fld (pv 0) rfl) (pe_fld (pv 1) rfl) (nomark _)))))), ?_⟩
    refine ⟨_, rfl, q, dy, _, rfl, g1, _, rfl, iteT ?_⟩
    refine ⟨_, rfl, r, C, dx, _, _, rfl, h1, R_Round.cl, N_Round, rfl, _, rfl, q, C, dy, _, _, rfl, g1, R_Round.cl, N_Round, rfl, .tuple (as.map .int), .tuple (bs.map .int), .tup (SqT.of h2) (dpAll_ints as), .tup (SqT.of g2) (dpAll_ints bs), ?_, ?_, ?_⟩
    · exact shaped_tup as
    · exact shaped_tup bs
    · show Q (.bl (PyData.eqvAll (as.map .int) (bs.map .int))) H
      rw [eqvAll_ints]
      exact k
def spAddR (C : Addr) : Sp := fun vs H Q _ => ∃ (r q : Addr) (as bs : List Int), vs = [.ref r, .ref q] ∧ RoundAt C H r as ∧ RoundAt C H q bs ∧ Okb as ∧ Okb bs ∧ as.length + bs.length ≤ 12 ∧ ∀ (x : Addr) (H' : Hp), H x = none → RoundAt C H' x (as ++ bs) → Same H H' → Q (.ref x) H'
theorem Okb.app {as bs : List Int} (a : Okb as) (b : Okb bs) (h : as.length + bs.length ≤ 12) : Okb (as ++ bs) :=
  ⟨by rw [List.length_append]; have := a.l1; omega, by rw [List.length_append]; exact h, fun x hx => (List.mem_append.mp hx).elim (a.nn x) (b.nn x)⟩
theorem scRoundAdd : FnScope ["self", "other", "both"] ["self", "other"] (defScope sRoundAdd) := ⟨rfl, rfl, rfl, by decide +kernel, rfl, by decide +kernel, by decide +kernel⟩
theorem ok_Round_add {f : Addr} {fd : FuncData} (F : Fun K "__add__" "Round.__add__" sRoundAdd f fd) (B : Bi mg) (R_Round : ClsC K mg "Round" C) (N_Round : NoAttr K C "_budgets") (MK_Round : Cn P w K mg base C 3 (spInit C)) : FnOk P w K mg base CX0 5 f fd ["self", "other"] (spAddR C) := by
  refine F.ok scRoundAdd (fun vs H Q E h => ?_) (fun cdv A outer s H vs Q E hr h => ?_)
  · obtain ⟨r, q, as, bs, rfl, _⟩ := h
    rfl
  · obtain ⟨r, q, as, bs, rfl, ⟨dx, t, h1, h2⟩, ⟨dy, u, g1, g2⟩, oa, ob, hl, k⟩ := h
    refine ⟨_, (pss_cons (ps_if (pt_not (pt_val (pe_callB (C8.call_isC R_Round.ic) (by rfl) B.isinstance (by decide +kernel) (pa_cons (pv 1) (pa_cons (pe_cls R_Round rfl) pa_nil))))) (pss_one ps_never)
  pss_nil)
  (pss_cons (ps_set (i := 2) scRoundAdd.nd rfl (Or.inl rfl) (pe_op op_catE (pe_fld (pv 0) rfl) (pe_fld (pv 1) rfl)))
  (pss_one (ps_ret (pe_mkS MK_Round (hr.mono (by decide)) rfl R_Round.mg pass0 (pv 2)))))), ?_⟩
    refine ⟨_, rfl, q, dy, _, rfl, g1, ?_⟩
    walk_at "rd"
    refine ⟨r, C, dx, _, _, rfl, h1, R_Round.cl, N_Round, rfl, ?_⟩
    refine ⟨_, rfl, q, C, dy, _, _, rfl, g1, R_Round.cl, N_Round, rfl, ?_⟩
    refine ⟨_, _, _, _, rfl, rfl, SqT.of h2, SqT.of g2, by rw [List.length_map, List.length_map]; omega, fun p H1 hp e1 => ?_⟩
    walk_at "rd"
    refine ⟨p, _, rfl, .inl hp, ?_⟩
    intro x dx' hx hdx nd
    exact mkRound (E := E0) ⟨as ++ bs, by rw [List.map_append], oa.app ob hl, fun x H2 hx h3 e2 => k x H2 (e1.free hx) h3 (e1.trans e2)⟩ x dx' hx hdx nd
def spAt (C : Addr) : Sp := fun vs H Q _ => ∃ (r : Addr) (bs : List Int) (t v : Int), vs = [.ref r, .int t] ∧ RoundAt C H r bs ∧ Okb bs ∧ 0 ≤ t ∧ bs[(t % bs.length).toNat]? = some v ∧ Q (.int v) H
theorem scRoundAt : FnScope ["self", "t"] ["self", "t"] (defScope sRoundAt) := ⟨rfl, rfl, rfl, by decide +kernel, rfl, by decide +kernel, by decide +kernel⟩
theorem ok_Round_at {f : Addr} {fd : FuncData} (F : Fun K "at" "Round.at" sRoundAt f fd) (B : Bi mg) (R_Round : ClsC K mg "Round" C) (N_Round : NoAttr K C "_budgets") (D_check_least : Dn P w K mg base "check_least" 2 ["value", "least", "field"] spCheckLeast) :
    FnOk P w K mg base CX0 3 f fd ["self", "t"] (spAt C) := by
  refine F.ok scRoundAt (fun vs H Q E h => ?_) (fun cdv A outer s H vs Q E hr h => ?_)
  · obtain ⟨r, bs, t, v, rfl, _⟩ := h
    rfl
  · obtain ⟨r, bs, m, v, rfl, ⟨dx, t, h1, h2⟩, ok, m0, hv, k⟩ := h
    refine ⟨_, (pss_cons (ps_expr (pe_dn D_check_least (hr.mono (by decide)) (by rfl) pass0 (pa_cons (pv 1) (pa_cons pe_int (pa_cons pe_str pa_nil)))))
  (pss_one (ps_ret (pe_ix ix_tup (pe_fld (pv 0) rfl) (pe_op op_mod (pv 1) (pe_callB call_len_seq (by rfl) B.len PySem.boot_len (pa_cons (pe_fld (pv 0) rfl) pa_nil))) (fun _ _ => rfl))))), ?_⟩
    have hl : (bs.map V.int).length = bs.length := List.length_map ..
    have l1 := ok.l1
    walk_at "rd"
    refine ⟨m0, ?_⟩
    refine ⟨_, rfl, r, C, dx, _, _, rfl, h1, R_Round.cl, N_Round, rfl, ?_⟩
    refine ⟨_, rfl, _, rfl, r, C, dx, _, _, rfl, h1, R_Round.cl, N_Round, rfl, t, _, rfl, .inr (SqT.of h2), ?_⟩
    refine ⟨_, _, rfl, rfl, (by show (0 : Int) < ((bs.map V.int).length : Int); omega), ?_⟩
    refine ⟨t, _, _, _, rfl, rfl, SqT.of h2, at_of (j := (m % bs.length).toNat) (v := .int v) ?_ ?_, k⟩
    · rw [hl]
      have := Int.emod_nonneg m (show (bs.length : Int) ≠ 0 by omega)
      omega
    · rw [List.getElem?_map, hv]; rfl
/-- the list from this place on, around -/
def rot (bs : List Int) (f : Nat) : List Int := bs.drop f ++ bs.take f
theorem rot_len {bs : List Int} {f : Nat} (h : f ≤ bs.length) : (rot bs f).length = bs.length := by
  unfold rot
  rw [List.length_append, List.length_drop, List.length_take]; omega
theorem Okb.rot {bs : List Int} {f : Nat} (o : Okb bs) (h : f ≤ bs.length) : Okb (rot bs f) :=
  ⟨by rw [rot_len h]; exact o.l1, by rw [rot_len h]; exact o.l2, fun b hb => o.nn b ((List.mem_append.mp hb).elim List.mem_of_mem_drop List.mem_of_mem_take)⟩
theorem cut_from {xs : List V} {f : Nat} : cutV xs (some (f : Int)) none = xs.drop f := by
  unfold cutV
  rw [HT.sIx_nat, HT.sIx_none]
  by_cases h : f ≤ xs.length
  · rw [Nat.min_eq_left h, List.take_of_length_le (by rw [List.length_drop]; omega)]
  · rw [Nat.min_eq_right (by omega), List.drop_length, List.drop_eq_nil_iff.mpr (by omega)]; simp
theorem cut_to {xs : List V} {f : Nat} : cutV xs none (some (f : Int)) = xs.take f := by
  unfold cutV
  rw [HT.sIx_nat, HT.sIx_none, Nat.sub_zero, List.drop_zero]
  by_cases h : f ≤ xs.length
  · rw [Nat.min_eq_left h]
  · rw [Nat.min_eq_right (by omega), List.take_length, List.take_of_length_le (by omega)]
theorem cut_both {xs : List V} {f g : Nat} (h : g ≤ xs.length) (h2 : f ≤ g) : cutV xs (some (f : Int)) (some (g : Int)) = (xs.drop f).take (g - f) := by
  unfold cutV
  rw [HT.sIx_nat, HT.sIx_nat, Nat.min_eq_left h, Nat.min_eq_left (by omega)]
def spShifted (C : Addr) : Sp := fun vs H Q _ => ∃ (r : Addr) (bs : List Int) (m : Int), vs = [.ref r, .int m] ∧ RoundAt C H r bs ∧ Okb bs ∧ 0 ≤ m ∧ ∀ (x : Addr) (H' : Hp), H x = none → RoundAt C H' x (rot bs (m % bs.length).toNat) → Same H H' → Q (.ref x) H'
/-- what total reckons -/
def tot (bs : List Int) (s c : Int) : Int := c / bs.length * bs.sum + (((bs ++ bs).drop (s % bs.length).toNat).take (c % bs.length).toNat).sum
theorem sum_le : ∀ {bs : List Int} {M : Int}, (∀ b, b ∈ bs → 0 ≤ b ∧ b ≤ M) → 0 ≤ bs.sum ∧ bs.sum ≤ bs.length * M
  | [], M, _ => by simp
  | b :: bs, M, h => by
    have h1 := h b List.mem_cons_self
    have h2 := sum_le (bs := bs) (M := M) fun x hx => h x (List.mem_cons_of_mem _ hx)
    rw [List.sum_cons, List.length_cons]
    have e : ((bs.length + 1 : Nat) : Int) * M = bs.length * M + M := by rw [Int.natCast_add, Int.add_mul]; simp
    rw [e]
    omega
theorem Okb.sum_b {bs : List Int} (o : Okb bs) : 0 ≤ bs.sum ∧ bs.sum ≤ 1000000000000000000000000000000000 := by
  have h := sum_le o.nn
  have l2 := o.l2
  have : (bs.length : Int) * 10000000000000000000000000000000 ≤ 12 * 10000000000000000000000000000000 := Int.mul_le_mul_of_nonneg_right (by omega) (by decide)
  omega
def spTotal (C : Addr) : Sp := fun vs H Q _ => ∃ (r : Addr) (bs : List Int) (s c : Int), vs = [.ref r, .int s, .int c] ∧ RoundAt C H r bs ∧ Okb bs ∧ 0 ≤ s ∧ 0 ≤ c ∧ c ≤ 1000000000000000000000000000000000000000000000000000000000000 ∧ ∀ (H' : Hp), Same H H' → Q (.int (tot bs s c)) H'
theorem scRoundTotal : FnScope ["self", "start", "count", "whole", "rest", "first", "twice"] ["self", "start", "count"] (defScope sRoundTotal) := ⟨rfl, rfl, rfl, by decide +kernel, rfl, by decide +kernel, by decide +kernel⟩
theorem ok_Round_total {f : Addr} {fd : FuncData} (F : Fun K "total" "Round.total" sRoundTotal f fd) (B : Bi mg) (R_Round : ClsC K mg "Round" C) (N_Round : NoAttr K C "_budgets") (D_check_least : Dn P w K mg base "check_least" 2 ["value", "least", "field"] spCheckLeast) :
    FnOk P w K mg base CX0 3 f fd ["self", "start", "count"] (spTotal C) := by
  refine F.ok scRoundTotal (fun vs H Q E h => ?_) (fun cdv A outer s H vs Q E hr h => ?_)
  · obtain ⟨r, bs, s, c, rfl, _⟩ := h
    rfl
  · obtain ⟨r, bs, st, c, rfl, ⟨dx, t, h1, h2⟩, ok, s0, c0, c1, k⟩ := h
    refine ⟨_, (pss_cons (ps_expr (pe_dn D_check_least (hr.mono (by decide)) (by rfl) pass0 (pa_cons (pv 1) (pa_cons pe_int (pa_cons pe_str pa_nil)))))
  (pss_cons (ps_expr (pe_dn D_check_least (hr.mono (by decide)) (by rfl) pass0 (pa_cons (pv 2) (pa_cons pe_int (pa_cons pe_str pa_nil)))))
  (pss_cons (ps_asg (pe_callB call_divmod (by rfl) B.divmod (by decide +kernel) (pa_cons (pv 2) (pa_cons (pe_callB call_len_seq (by rfl) B.len PySem.boot_len (pa_cons (pe_fld (pv 0) rfl) pa_nil)) pa_nil))) (pg_tup (by rfl) (pgs_cons (pg_name (i := 3) scRoundTotal.nd rfl (Or.inl rfl)) (pgs_cons (pg_name (i := 4) scRoundTotal.nd rfl (Or.inl rfl)) pgs_nil))))
  (pss_cons (ps_set (i := 5) scRoundTotal.nd rfl (Or.inl rfl) (pe_op op_mod (pv 1) (pe_callB call_len_seq (by rfl) B.len PySem.boot_len (pa_cons (pe_fld (pv 0) rfl) pa_nil))))
  (pss_cons (ps_set (i := 6) scRoundTotal.nd rfl (Or.inl rfl) (pe_op op_catE (pe_fld (pv 0) rfl) (pe_fld (pv 0) rfl)))
  (pss_one (ps_ret (pe_op op_add (pe_op op_mulW (pv 3) (pe_callB (cr_sumT rfl) (by rfl) B.sum (by decide +kernel) (pa_cons (pe_fld (pv 0) rfl) pa_nil))) (pe_callB (cr_sumT rfl) (by rfl) B.sum (by decide +kernel) (pa_cons (pe_slice sl_tupE (pv 6) (po_some (pv 5)) (po_some (pe_op op_add (pv 5) (pv 4)))) pa_nil)))))))))), ?_⟩
    have hl : (bs.map V.int).length = bs.length := List.length_map ..
    have l1 := ok.l1
    have l2 := ok.l2
    have ln : (0 : Int) < bs.length := by omega
    walk_at "rd"
    refine ⟨s0, ?_⟩
    walk_at "rd"
    refine ⟨c0, ?_⟩
    refine ⟨_, rfl, _, rfl, r, C, dx, _, _, rfl, h1, R_Round.cl, N_Round, rfl, t, _, rfl, .inr (SqT.of h2), ?_⟩
    refine ⟨_, _, rfl, ⟨by omega, by omega⟩, fun p hp => ?_⟩
    refine ⟨p, _, rfl, SqT.of upd_same, rfl, _, _, rfl, _, _, rfl, rfl, ?_⟩
    have e1 : Same H (upd H p (.tup [V.int (c / ((bs.map V.int).length : Int)), V.int (c % ((bs.map V.int).length : Int))])) := Same.upd hp
    generalize upd H p (.tup [V.int (c / ((bs.map V.int).length : Int)), V.int (c % ((bs.map V.int).length : Int))]) = H1 at e1 ⊢
    refine ⟨_, rfl, _, rfl, r, C, dx, _, _, rfl, e1 _ _ h1, R_Round.cl, N_Round, rfl, t, _, rfl, .inr (SqT.of (e1 _ _ h2)), ?_⟩
    refine ⟨_, _, rfl, rfl, (by show (0 : Int) < ((bs.map V.int).length : Int); omega), ?_⟩
    refine ⟨_, rfl, r, C, dx, _, _, rfl, e1 _ _ h1, R_Round.cl, N_Round, rfl, _, rfl, r, C, dx, _, _, rfl, e1 _ _ h1, R_Round.cl, N_Round, rfl, t, t, _, _, rfl, rfl, SqT.of (e1 _ _ h2), SqT.of (e1 _ _ h2), by omega, fun q H2 hq e2 => ?_⟩
    refine ⟨_, rfl, _, rfl, r, C, dx, _, _, rfl, e2 _ _ (e1 _ _ h1), R_Round.cl, N_Round, rfl, t, bs, rfl, SqT.of (e2 _ _ (e1 _ _ h2)), ?_⟩
    have sb := ok.sum_b
    have f0 := Int.emod_nonneg st (show (bs.length : Int) ≠ 0 by omega)
    have f1 := Int.emod_lt_of_pos st ln
    have g0 := Int.emod_nonneg c (show (bs.length : Int) ≠ 0 by omega)
    have g1 := Int.emod_lt_of_pos c ln
    have d0 : 0 ≤ c / bs.length := Int.ediv_nonneg c0 (by omega)
    have d1 : c / bs.length ≤ c := Int.ediv_le_self _ c0
    rw [hl]
    refine ⟨_, _, rfl, rfl, mulB (by omega) (by omega) (by omega) (by omega), ?_⟩
    obtain ⟨a, ha⟩ : ∃ a : Nat, st % bs.length = (a : Int) := ⟨(st % bs.length).toNat, by omega⟩
    obtain ⟨b, hb⟩ : ∃ b : Nat, c % bs.length = (b : Int) := ⟨(c % bs.length).toNat, by omega⟩
    have ha' : a < bs.length := by omega
    have hb' : b < bs.length := by omega
    refine ⟨_, rfl, _, rfl, _, rfl, _, rfl, _, rfl, _, _, rfl, rfl, _, rfl, q, _, rfl, hq, fun o H3 ho e3 => ?_⟩
    rw [ha, hb] at ho
    have ecut : cutV (bs.map V.int ++ bs.map V.int) (some (a : Int)) (some ((a : Int) + (b : Int))) = (((bs ++ bs).drop a).take b).map V.int := by
      rw [← Int.natCast_add, cut_both (by rw [List.length_append, hl]; omega) (by omega), Nat.add_sub_cancel_left, ← List.map_append, List.map_take, List.map_drop]
    rw [ecut] at ho
    refine ⟨o, _, rfl, ho, _, _, rfl, rfl, ?_⟩
    have key := k H3 ((e1.trans e2).trans e3)
    unfold tot at key
    rw [ha, hb, Int.toNat_natCast, Int.toNat_natCast] at key
    exact key
end
end Cl

/-! ### words of a log (true: a living record), the newest play, and the rule of the ring -/
namespace Cl
def S (c : Nat → Nat) (s : Nat) : Nat → Nat
  | 0 => 0
  | k + 1 => S c s k + c (s + k)
def zer : List Bool → Nat
  | [] => 0
  | true :: u => zer u
  | false :: u => zer u + 1
def one : List Bool → Nat
  | [] => 0
  | true :: u => one u + 1
  | false :: u => one u
def trim : List Bool → List Bool
  | [] => []
  | true :: u => true :: u
  | false :: u => trim u
/-- nothing unneeded stands in front -/
def Hd : List Bool → Prop
  | [] => True
  | b :: _ => b = true
theorem wlen : ∀ u : List Bool, u.length = zer u + one u
  | [] => rfl
  | true :: u => by have := wlen u; simp only [List.length_cons, zer, one]; omega
  | false :: u => by have := wlen u; simp only [List.length_cons, zer, one]; omega
theorem zer_app : ∀ u v : List Bool, zer (u ++ v) = zer u + zer v
  | [], v => by simp [zer]
  | true :: u, v => by have := zer_app u v; simp only [List.cons_append, zer]; omega
  | false :: u, v => by have := zer_app u v; simp only [List.cons_append, zer]; omega
theorem one_app : ∀ u v : List Bool, one (u ++ v) = one u + one v
  | [], v => by simp [one]
  | true :: u, v => by have := one_app u v; simp only [List.cons_append, one]; omega
  | false :: u, v => by have := one_app u v; simp only [List.cons_append, one]; omega
theorem one_trim : ∀ u : List Bool, one (trim u) = one u
  | [] => rfl
  | true :: u => rfl
  | false :: u => by have := one_trim u; simp only [trim, one]; omega
theorem zer_trim : ∀ u : List Bool, zer (trim u) ≤ zer u
  | [] => Nat.le_refl _
  | true :: u => Nat.le_refl _
  | false :: u => by have := zer_trim u; simp only [trim, zer]; omega
theorem hd_trim : ∀ u : List Bool, Hd (trim u)
  | [] => trivial
  | true :: u => rfl
  | false :: u => hd_trim u
theorem trim_hd : ∀ {u : List Bool}, Hd u → trim u = u
  | [], _ => rfl
  | true :: u, _ => rfl
  | false :: u, h => by cases h
theorem hd_app : ∀ {u v : List Bool}, Hd u → u ≠ [] → Hd (u ++ v)
  | [], _, _, h => absurd rfl h
  | _ :: _, _, h, _ => h
/-- what stands in front of a living record may be trimmed first -/
theorem trim_app_one : ∀ (u v : List Bool), 0 < one u → trim (u ++ v) = trim u ++ v
  | [], _, h => by simp [one] at h
  | true :: u, v, _ => rfl
  | false :: u, v, h => trim_app_one u v (by simpa only [one] using h)
/-- the living records behind which at most j unneeded ones stand -/
def O (j : Nat) : List Bool → Nat
  | [] => 0
  | b :: u => if zer (b :: u) ≤ j then one (b :: u) else O j u
theorem O_all : ∀ {j : Nat} {u : List Bool}, zer u ≤ j → O j u = one u
  | _, [], _ => rfl
  | _, _ :: _, h => if_pos h
theorem O_le : ∀ {j : Nat} {u : List Bool}, O j u ≤ one u
  | _, [] => Nat.le_refl _
  | j, b :: u => by
    unfold O
    split
    · exact Nat.le_refl _
    · have := O_le (j := j) (u := u)
      cases b <;> simp only [one] <;> omega
theorem O_trim : ∀ {j : Nat} {u : List Bool}, O j (trim u) = O j u
  | _, [] => rfl
  | _, true :: _ => rfl
  | j, false :: u => by
    have ih := O_trim (j := j) (u := u)
    show O j (trim u) = if zer (false :: u) ≤ j then one (false :: u) else O j u
    rw [ih]
    split
    · rename_i h
      simp only [zer] at h
      exact O_all (by omega)
    · rfl
theorem O_one : ∀ {j : Nat} {u : List Bool}, O j (u ++ [true]) = O j u + 1
  | j, [] => by show (if 0 ≤ j then 1 else 0) = 1; rw [if_pos (Nat.zero_le _)]
  | j, b :: u => by
    have ih := O_one (j := j) (u := u)
    have e1 : zer ((b :: u) ++ [true]) = zer (b :: u) := by rw [zer_app]; rfl
    have e2 : one ((b :: u) ++ [true]) = one (b :: u) + 1 := by rw [one_app]; rfl
    show (if zer ((b :: u) ++ [true]) ≤ j then one ((b :: u) ++ [true]) else O j (u ++ [true])) = (if zer (b :: u) ≤ j then one (b :: u) else O j u) + 1
    rw [e1, e2, ih]
    split <;> rfl
theorem O_zero : ∀ {j : Nat} {u : List Bool}, O (j + 1) (u ++ [false]) = O j u
  | j, [] => by show (if 1 ≤ j + 1 then 0 else 0) = 0; split <;> rfl
  | j, b :: u => by
    have ih := O_zero (j := j) (u := u)
    have e1 : zer ((b :: u) ++ [false]) = zer (b :: u) + 1 := by rw [zer_app]; rfl
    have e2 : one ((b :: u) ++ [false]) = one (b :: u) := by rw [one_app]; rfl
    show (if zer ((b :: u) ++ [false]) ≤ j + 1 then one ((b :: u) ++ [false]) else O (j + 1) (u ++ [false])) = (if zer (b :: u) ≤ j then one (b :: u) else O j u)
    rw [e1, e2, ih]
    by_cases h : zer (b :: u) ≤ j
    · rw [if_pos (by omega), if_pos h]
    · rw [if_neg (by omega), if_neg h]
theorem O_last : ∀ {u : List Bool}, O 0 (u ++ [false]) = 0
  | [] => rfl
  | b :: u => by
    have e1 : zer ((b :: u) ++ [false]) = zer (b :: u) + 1 := by rw [zer_app]; rfl
    show (if zer ((b :: u) ++ [false]) ≤ 0 then one ((b :: u) ++ [false]) else O 0 (u ++ [false])) = 0
    rw [e1, if_neg (by omega)]
    exact O_last
theorem O_few {j : Nat} {u : List Bool} (h : Hd u) (e : O j u = one u) : zer u ≤ j := by
  cases u with
  | nil => exact Nat.zero_le _
  | cons b u =>
    have h : b = true := h
    subst h
    by_cases q : zer (true :: u) ≤ j
    · exact q
    · exfalso
      have e2 : O j (true :: u) = O j u := if_neg q
      have := O_le (j := j) (u := u)
      rw [e2] at e
      simp only [one] at e
      omega
def carry (u : List Bool) : List Bool := trim (u.tail ++ [true])
theorem hd_carry {u : List Bool} : Hd (carry u) := hd_trim _
theorem one_carry {u : List Bool} (h : Hd u) (h2 : u ≠ []) : one (carry u) = one u := by
  cases u with
  | nil => exact absurd rfl h2
  | cons b u =>
    have h : b = true := h
    subst h
    unfold carry
    rw [one_trim, List.tail_cons, one_app]; rfl
theorem zer_carry {u : List Bool} (h : Hd u) : zer (carry u) ≤ zer u := by
  have := zer_trim (u.tail ++ [true])
  cases u with
  | nil => exact Nat.le_refl _
  | cons b u =>
    have h : b = true := h
    subst h
    rw [List.tail_cons, zer_app] at this
    unfold carry
    exact this
theorem O_carry {j : Nat} {u : List Bool} (h : Hd u) (h2 : u ≠ []) : O j (carry u) = min (one u) (O j u + 1) := by
  cases u with
  | nil => exact absurd rfl h2
  | cons b u =>
    have h : b = true := h
    subst h
    unfold carry
    rw [O_trim, List.tail_cons, O_one]
    have l := O_le (j := j) (u := u)
    by_cases q : zer (true :: u) ≤ j
    · have e1 : O j (true :: u) = one u + 1 := if_pos q
      have e2 : O j u = one u := O_all (by simpa only [zer] using q)
      have e3 : one (true :: u) = one u + 1 := rfl
      rw [e1, e2, e3]; omega
    · have e1 : O j (true :: u) = O j u := if_neg q
      have e3 : one (true :: u) = one u + 1 := rfl
      rw [e1, e3]; omega
def carries : Nat → List Bool → List Bool
  | 0, u => u
  | n + 1, u => carry (carries n u)
theorem ne_of_one {u : List Bool} (h : 0 < one u) : u ≠ [] := fun e => by rw [e] at h; simp [one] at h
theorem carries_dat {u : List Bool} (h : Hd u) : ∀ {n : Nat}, (n = 0 ∨ 0 < one u) → Hd (carries n u) ∧ one (carries n u) = one u ∧ zer (carries n u) ≤ zer u ∧ ∀ j, O j (carries n u) = min (one u) (O j u + n)
  | 0, _ => ⟨h, rfl, Nat.le_refl _, fun j => by have := O_le (j := j) (u := u); show O j u = _; omega⟩
  | n + 1, h2 => by
    have p : 0 < one u := by omega
    obtain ⟨a, b, c, d⟩ := carries_dat h (n := n) (.inr p)
    have ne : carries n u ≠ [] := ne_of_one (by omega)
    refine ⟨hd_carry, ?_, ?_, fun j => ?_⟩
    · show one (carry (carries n u)) = _
      rw [one_carry a ne, b]
    · have := zer_carry a
      show zer (carry (carries n u)) ≤ _
      omega
    · show O j (carry (carries n u)) = _
      rw [O_carry a ne, b, d]; omega
def ones (n : Nat) : List Bool := List.replicate n true
theorem one_ones : ∀ n, one (ones n) = n
  | 0 => rfl
  | n + 1 => by have := one_ones n; show one (ones n) + 1 = n + 1; omega
theorem ones_succ (n : Nat) : ones (n + 1) = ones n ++ [true] := by unfold ones; rw [List.replicate_succ']
theorem ones_len (n : Nat) : (ones n).length = n := List.length_replicate
theorem hd_ones : ∀ n, Hd (ones n)
  | 0 => trivial
  | _ + 1 => rfl
theorem carry_ones {n : Nat} (h : 0 < n) : carry (ones n) = ones n := by
  obtain ⟨m, rfl⟩ : ∃ m, n = m + 1 := ⟨n - 1, by omega⟩
  have e : (ones (m + 1)).tail ++ [true] = ones (m + 1) := by
    rw [show (ones (m + 1)).tail = ones m from rfl, ones_succ]
  unfold carry
  rw [e, trim_hd (hd_ones _)]
theorem carries_ones {n : Nat} : ∀ {k : Nat}, k ≤ n → carries k (ones n) = ones n
  | 0, _ => rfl
  | k + 1, h => by
    show carry (carries k (ones n)) = _
    rw [carries_ones (by omega), carry_ones (by omega)]
/-- the word from which the records of a put are carried -/
def U (K : Nat) (w : List Bool) : List Bool := if K ≤ one w then trim (w.dropLast ++ [false]) else w
/-- the word after t puts of the newest play -/
def W (K : Nat) (b : Nat → Nat) : Nat → List Bool
  | 0 => []
  | t + 1 => carries (min (one (U K (W K b t))) (b t)) (U K (W K b t)) ++ [true]
section
variable {K N n : Nat} {b : Nat → Nat}
theorem W_new : ∀ {t : Nat}, t ≤ K → W K b t = ones t
  | 0, _ => rfl
  | t + 1, h => by
    have e := W_new (t := t) (by omega)
    have u : U K (W K b t) = ones t := by
      rw [e]; unfold U
      rw [one_ones, if_neg (by omega)]
    show carries (min (one (U K (W K b t))) (b t)) (U K (W K b t)) ++ [true] = _
    rw [u, one_ones, carries_ones (by omega), ones_succ]
theorem U_new {t : Nat} (h : t < K) : U K (W K b t) = ones t := by
  rw [W_new (by omega)]; unfold U
  rw [one_ones, if_neg (by omega)]
/-- a log of all keys: its newest record stands last -/
def Full (K : Nat) (w : List Bool) : Prop := ∃ v, w = v ++ [true] ∧ Hd v ∧ one v + 1 = K
theorem Full.u {w : List Bool} (h : Full K w) : ∃ v, w = v ++ [true] ∧ Hd v ∧ one v + 1 = K ∧ U K w = trim (v ++ [false]) := by
  obtain ⟨v, rfl, h1, h2⟩ := h
  refine ⟨v, rfl, h1, h2, ?_⟩
  unfold U
  rw [one_app, List.dropLast_concat, if_pos (by show K ≤ one v + 1; omega)]
theorem Full.dat {w : List Bool} (h : Full K w) : Hd (U K w) ∧ one (U K w) + 1 = K ∧ O 0 (U K w) = 0 := by
  obtain ⟨v, rfl, h1, h2, e⟩ := h.u
  rw [e]
  refine ⟨hd_trim _, ?_, ?_⟩
  · rw [one_trim, one_app]; exact h2
  · rw [O_trim]; exact O_last
/-- what a put makes of the word U -/
def V' (b : Nat) (u : List Bool) : List Bool := carries (min (one u) b) u
theorem V_dat {c : Nat} {u : List Bool} (h : Hd u) : Hd (V' c u) ∧ one (V' c u) = one u ∧ zer (V' c u) ≤ zer u ∧ ∀ j, O j (V' c u) = min (one u) (O j u + c) := by
  obtain ⟨a, b', c', d⟩ := carries_dat h (n := min (one u) c) (by omega)
  refine ⟨a, b', c', fun j => ?_⟩
  unfold V'
  rw [d]; omega
theorem W_full (hK : 1 ≤ K) : ∀ d, Full K (W K b (K + d))
  | 0 => by
    rw [Nat.add_zero, W_new (Nat.le_refl _)]
    obtain ⟨m, rfl⟩ : ∃ m, K = m + 1 := ⟨K - 1, by omega⟩
    exact ⟨ones m, ones_succ m, hd_ones m, by rw [one_ones]⟩
  | d + 1 => by
    obtain ⟨h1, h2, h3⟩ := (W_full hK d).dat
    obtain ⟨i1, i2, i3, i4⟩ := V_dat (c := b (K + d)) h1
    exact ⟨V' (b (K + d)) (U K (W K b (K + d))), rfl, i1, by omega⟩
theorem U_next (hK : 1 ≤ K) (d : Nat) : U K (W K b (K + (d + 1))) = trim (V' (b (K + d)) (U K (W K b (K + d))) ++ [false]) := by
  obtain ⟨v, e, h1, h2, q⟩ := (W_full (K := K) (b := b) hK (d + 1)).u
  rw [q]
  have e2 : W K b (K + (d + 1)) = V' (b (K + d)) (U K (W K b (K + d))) ++ [true] := rfl
  rw [e2] at e
  rw [List.append_cancel_right e]
theorem U_dat (hK : 1 ≤ K) (d : Nat) : Hd (U K (W K b (K + d))) ∧ one (U K (W K b (K + d))) + 1 = K ∧ O 0 (U K (W K b (K + d))) = 0 := (W_full hK d).dat
theorem U_zer (hK : 1 ≤ K) : ∀ d, zer (U K (W K b (K + d))) ≤ d + 1
  | 0 => by
    obtain ⟨v, e, h1, h2, q⟩ := (W_full (K := K) (b := b) hK 0).u
    rw [q]
    have := zer_trim (v ++ [false])
    rw [zer_app] at this
    have e2 : W K b (K + 0) = ones K := W_new (Nat.le_refl _)
    obtain ⟨m, rfl⟩ : ∃ m, K = m + 1 := ⟨K - 1, by omega⟩
    rw [e2, ones_succ] at e
    have e3 := List.append_cancel_right e
    subst e3
    have z : zer (ones m) = 0 := by have := wlen (ones m); rw [ones_len, one_ones] at this; omega
    have : zer [false] = 1 := rfl
    omega
  | d + 1 => by
    have ih := U_zer hK d
    obtain ⟨h1, h2, h3⟩ := U_dat (b := b) hK d
    obtain ⟨i1, i2, i3, i4⟩ := V_dat (c := b (K + d)) h1
    rw [U_next hK d]
    have := zer_trim (V' (b (K + d)) (U K (W K b (K + d))) ++ [false])
    rw [zer_app] at this
    have : zer [false] = 1 := rfl
    omega
/-- what was carried in the last j puts stands behind the last j unneeded records -/
theorem O_U (hK : 1 ≤ K) (d : Nat) : ∀ j, O j (U K (W K b (K + (d + j)))) = min (K - 1) (S b (K + d) j)
  | 0 => by
    obtain ⟨h1, h2, h3⟩ := U_dat (b := b) hK d
    show O 0 (U K (W K b (K + d))) = min (K - 1) 0
    omega
  | j + 1 => by
    have ih := O_U hK d j
    obtain ⟨h1, h2, h3⟩ := U_dat (b := b) hK (d + j)
    obtain ⟨i1, i2, i3, i4⟩ := V_dat (c := b (K + (d + j))) h1
    rw [show d + (j + 1) = (d + j) + 1 by omega, U_next hK, O_trim, O_zero, i4, ih]
    show _ = min (K - 1) (S b (K + d) j + b (K + d + j))
    rw [show K + d + j = K + (d + j) by omega]
    omega
theorem S_per (per : ∀ t u, t % n = u % n → b t = b u) {s u : Nat} (h : s % n = u % n) : ∀ k, S b s k = S b u k
  | 0 => rfl
  | k + 1 => by
    have ih := S_per per h k
    show S b s k + b (s + k) = S b u k + b (u + k)
    rw [ih, per (s + k) (u + k) (by rw [Nat.add_mod, h, ← Nat.add_mod])]
theorem same_start (hn : 1 ≤ n) (K s : Nat) : ∃ d, d < n ∧ (K + d) % n = s % n := by
  refine ⟨(s + (n - 1) * K) % n, Nat.mod_lt _ hn, ?_⟩
  rw [Nat.add_mod_mod]
  have : K + (s + (n - 1) * K) = s + n * K := by
    obtain ⟨m, rfl⟩ : ∃ m, n = m + 1 := ⟨n - 1, by omega⟩
    rw [Nat.add_sub_cancel, Nat.add_mul]; omega
  rw [this, Nat.add_mul_mod_self_left]
/-- the rule of the ring: the newest play never stalls exactly if every run of so many budgets as places are free carries all keys but one -/
theorem ring_iff (hK : 1 ≤ K) (hn : 1 ≤ n) (per : ∀ t u, t % n = u % n → b t = b u) : (∀ t, t < N + n + 2 → (U K (W K b t)).length < N) ↔ (K ≤ N ∧ ∀ s, K - 1 ≤ S b s (N - K)) := by
  constructor
  · intro h
    have hKN : K ≤ N := by
      rcases Nat.lt_or_ge N K with q | q
      · have := h N (by omega)
        rw [U_new q, ones_len] at this
        omega
      · exact q
    refine ⟨hKN, fun s => ?_⟩
    obtain ⟨d, d1, d2⟩ := same_start hn K s
    rw [← S_per per d2]
    have t := h (K + (d + (N - K))) (by omega)
    have e := O_U (b := b) hK d (N - K)
    obtain ⟨h1, h2, _⟩ := U_dat (b := b) hK (d + (N - K))
    rw [wlen] at t
    rw [O_all (by omega)] at e
    omega
  · rintro ⟨hKN, h⟩ t _
    rcases Nat.lt_or_ge t K with q | q
    · rw [U_new q, ones_len]; omega
    · obtain ⟨d, rfl⟩ := Nat.exists_eq_add_of_le q
      obtain ⟨h1, h2, _⟩ := U_dat (b := b) hK d
      rw [wlen]
      rcases Nat.lt_or_ge d (N - K) with q2 | q2
      · have := U_zer (b := b) hK d
        omega
      · obtain ⟨c, rfl⟩ : ∃ c, d = c + (N - K) := ⟨d - (N - K), by omega⟩
        have e := O_U (b := b) hK c (N - K)
        have := h (K + c)
        have := O_few (j := N - K) h1 (by omega)
        omega
/-! the played log of the law -/
theorem trim_snoc : ∀ x : List Bool, trim (x ++ [true]) = trim x ++ [true]
  | [] => rfl
  | true :: _ => rfl
  | false :: x => trim_snoc x
theorem carry_f {u f : List Bool} (hf : f = [] ∨ f = [true]) (h : u ≠ []) : trim ((u ++ f).drop 1 ++ [true]) = carry u ++ f := by
  cases u with
  | nil => exact absurd rfl h
  | cons b u =>
    unfold carry
    rcases hf with rfl | rfl
    · rw [List.append_nil, List.append_nil]; rfl
    · show trim ((u ++ [true]) ++ [true]) = trim (u ++ [true]) ++ [true]
      exact trim_snoc _
theorem W_cases (hK : 1 ≤ K) (t : Nat) : (t < K ∧ one (W K b t) = t ∧ U K (W K b t) = W K b t ∧ W K b t = ones t) ∨ (K ≤ one (W K b t) ∧ ∃ v, W K b t = v ++ [true] ∧ Hd v ∧ one v + 1 = K ∧ U K (W K b t) = trim (v ++ [false])) := by
  rcases Nat.lt_or_ge t K with h | h
  · refine .inl ⟨h, ?_, ?_, W_new (by omega)⟩
    · rw [W_new (by omega), one_ones]
    · rw [U_new h, W_new (by omega)]
  · obtain ⟨d, rfl⟩ := Nat.exists_eq_add_of_le h
    obtain ⟨v, e, h1, h2, q⟩ := (W_full (K := K) (b := b) hK d).u
    refine .inr ⟨?_, v, e, h1, h2, q⟩
    rw [e, one_app]
    show K ≤ one v + 1
    omega
theorem U_hd (hK : 1 ≤ K) (t : Nat) : Hd (U K (W K b t)) := by
  rcases W_cases (b := b) hK t with ⟨h, _, e, e2⟩ | ⟨_, v, _, _, _, e⟩
  · rw [e, e2]; exact hd_ones _
  · rw [e]; exact hd_trim _
theorem U_len (hK : 1 ≤ K) (t : Nat) : (U K (W K b t)).length ≤ (W K b t).length := by
  rcases W_cases (b := b) hK t with ⟨h, _, e, e2⟩ | ⟨_, v, e2, _, _, e⟩
  · rw [e]; exact Nat.le_refl _
  · rw [e, e2, wlen, wlen, one_trim, one_app, one_app, zer_app]
    have := zer_trim (v ++ [false])
    rw [zer_app] at this
    have : zer [false] = 1 := rfl
    have : one [false] = 0 := rfl
    have : zer [true] = 0 := rfl
    have : one [true] = 1 := rfl
    omega
theorem V_len {c : Nat} {u : List Bool} (h : Hd u) : (V' c u).length ≤ u.length := by
  obtain ⟨_, h2, h3, _⟩ := V_dat (c := c) h
  rw [wlen, wlen u]; omega
theorem carries_len {c : Nat} {u : List Bool} (h : Hd u) (h2 : c ≤ one u) : (carries c u).length ≤ u.length := by
  obtain ⟨_, h2, h3, _⟩ := carries_dat h (n := c) (by omega)
  rw [wlen, wlen u]; omega
theorem W_len (hK : 1 ≤ K) : ∀ t, (W K b t).length ≤ t
  | 0 => Nat.le_refl _
  | t + 1 => by
    have ih := W_len hK t
    have := U_len (b := b) hK t
    have := V_len (c := b t) (U_hd (b := b) hK t)
    show (V' (b t) (U K (W K b t)) ++ [true]).length ≤ t + 1
    rw [List.length_append]
    show _ + 1 ≤ t + 1
    omega
end
end Cl

/-! ### sums of budgets, step by step -/
namespace Cl
open StX ClX
theorem wrap_at {bs : List Int} {s : Int} {i : Nat} (hn : 0 < bs.length) (hi : i < bs.length) :
    ((bs ++ bs).drop (s % bs.length).toNat)[i]? = bs[((s + i) % bs.length).toNat]? := by
  have f0 := Int.emod_nonneg s (show (bs.length : Int) ≠ 0 by omega)
  have f1 := Int.emod_lt_of_pos s (show (0 : Int) < bs.length by omega)
  rw [List.getElem?_drop, Int.add_emod, Int.emod_eq_of_lt (a := (i : Int)) (by omega) (by omega)]
  obtain ⟨f, hf⟩ : ∃ f : Nat, s % bs.length = (f : Int) := ⟨(s % bs.length).toNat, by omega⟩
  rw [hf, Int.toNat_natCast]
  by_cases h : f + i < bs.length
  · rw [List.getElem?_append_left h]
    have e : ((f : Int) + (i : Int)) % (bs.length : Int) = ((f + i : Nat) : Int) := by rw [Int.emod_eq_of_lt (by omega) (by omega)]; omega
    rw [e, Int.toNat_natCast]
  · rw [List.getElem?_append_right (by omega)]
    have e : ((f : Int) + (i : Int)) % (bs.length : Int) = ((f + i - bs.length : Nat) : Int) := by
      have : ((f : Int) + (i : Int)) = ((f + i - bs.length : Nat) : Int) + bs.length := by omega
      rw [this, Int.add_emod_right, Int.emod_eq_of_lt (by omega) (by omega)]
    rw [e, Int.toNat_natCast]
theorem tot_more {bs : List Int} {s c w : Int} (h : 1 ≤ bs.length) : tot bs s (w * bs.length + c) = w * bs.sum + tot bs s c := by
  unfold tot
  have e1 : (w * bs.length + c) / bs.length = w + c / bs.length := by rw [Int.add_comm, Int.add_mul_ediv_right _ _ (by omega), Int.add_comm]
  have e2 : (w * bs.length + c) % bs.length = c % bs.length := by rw [Int.add_comm, Int.add_mul_emod_self_right]
  rw [e1, e2, Int.add_mul, Int.add_assoc]
def bud (bs : List Int) (phase : Int) (t : Nat) : Nat := (bs[((phase + t) % bs.length).toNat]?.getD 0).toNat
theorem sum_tk {l : List Int} {i : Nat} {z : Int} (h : l[i]? = some z) : (l.take (i + 1)).sum = (l.take i).sum + z := by
  rw [List.take_add_one, h, List.sum_append]; simp
theorem rot_sum {bs : List Int} {f : Nat} : (rot bs f).sum = bs.sum := by
  unfold rot
  rw [List.sum_append, Int.add_comm, ← List.sum_append, List.take_append_drop]
theorem wrap_full {bs : List Int} {f : Nat} (h : f ≤ bs.length) : ((bs ++ bs).drop f).take bs.length = rot bs f := by
  unfold rot
  rw [List.drop_append_of_le_length h, List.take_append, List.length_drop, List.take_of_length_le (by rw [List.length_drop]; omega)]
  congr 2; omega
theorem tot_step {bs : List Int} {s : Int} {k : Nat} {z : Int} (ok : Okb bs) (hz : bs[((s + k) % bs.length).toNat]? = some z) : tot bs s ((k + 1 : Nat) : Int) = tot bs s (k : Int) + z := by
  have l1 := ok.l1
  have key : ∀ r : Nat, r < bs.length → bs[((s + r) % bs.length).toNat]? = some z → tot bs s ((r + 1 : Nat) : Int) = tot bs s (r : Int) + z := fun r hr hz => by
    have e0 : tot bs s (r : Int) = (((bs ++ bs).drop (s % bs.length).toNat).take r).sum := by
      unfold tot
      rw [Int.ediv_eq_zero_of_lt (by omega) (by omega), Int.emod_eq_of_lt (by omega) (by omega), Int.toNat_natCast]; simp
    have e1 := sum_tk (l := (bs ++ bs).drop (s % bs.length).toNat) (i := r) (z := z) (by rw [wrap_at (by omega) hr]; exact hz)
    rcases Nat.lt_or_ge (r + 1) bs.length with q | q
    · have e2 : tot bs s ((r + 1 : Nat) : Int) = (((bs ++ bs).drop (s % bs.length).toNat).take (r + 1)).sum := by
        unfold tot
        rw [Int.ediv_eq_zero_of_lt (by omega) (by omega), Int.emod_eq_of_lt (by omega) (by omega), Int.toNat_natCast]; simp
      rw [e2, e1, e0]
    · have e3 : r + 1 = bs.length := by omega
      have f0 := Int.emod_nonneg s (show (bs.length : Int) ≠ 0 by omega)
      have f1 := Int.emod_lt_of_pos s (show (0 : Int) < bs.length by omega)
      have e2 : tot bs s ((r + 1 : Nat) : Int) = bs.sum := by
        rw [e3]
        unfold tot
        rw [Int.ediv_self (by omega), Int.emod_self]; simp
      rw [e2, e0, ← e1, e3, wrap_full (by omega), rot_sum]
  obtain ⟨q, r, hr, rfl⟩ : ∃ q r : Nat, r < bs.length ∧ k = q * bs.length + r := ⟨k / bs.length, k % bs.length, Nat.mod_lt _ (by omega), by rw [Nat.mul_comm]; exact (Nat.div_add_mod _ _).symm⟩
  have c1 : ((q * bs.length + r : Nat) : Int) = (q : Int) * bs.length + (r : Nat) := by simp
  have c2 : ((q * bs.length + r + 1 : Nat) : Int) = (q : Int) * bs.length + ((r + 1 : Nat) : Int) := by
    rw [Nat.add_assoc]; simp
  rw [c1, c2, tot_more l1, tot_more l1]
  have := key r hr (by
    rw [c1] at hz
    have e : (s + ((q : Int) * bs.length + (r : Nat))) % bs.length = (s + (r : Nat)) % bs.length := by
      rw [show s + ((q : Int) * bs.length + (r : Nat)) = (s + (r : Nat)) + (q : Int) * bs.length by omega, Int.add_mul_emod_self_right]
    rw [e] at hz
    exact hz)
  omega
theorem bud_at {bs : List Int} {ph : Int} (ok : Okb bs) (i : Nat) : ∃ z, bs[((ph + i) % bs.length).toNat]? = some z ∧ 0 ≤ z ∧ z = (bud bs ph i : Int) := by
  have l1 := ok.l1
  have m0 := Int.emod_nonneg (ph + i) (show (bs.length : Int) ≠ 0 by omega)
  have m1 := Int.emod_lt_of_pos (ph + i) (show (0 : Int) < bs.length by omega)
  obtain ⟨z, hz⟩ : ∃ z, bs[((ph + i) % bs.length).toNat]? = some z := ⟨_, List.getElem?_eq_getElem (by omega)⟩
  have z0 := (ok.nn z (List.mem_of_getElem? hz)).1
  refine ⟨z, hz, z0, ?_⟩
  unfold bud
  rw [hz]
  show z = ((z.toNat : Nat) : Int)
  omega
theorem S_tot {bs : List Int} {ph : Int} (ok : Okb bs) (s : Nat) : ∀ k, (S (bud bs ph) s k : Int) = tot bs (ph + s) (k : Nat)
  | 0 => by unfold S tot; simp
  | k + 1 => by
    obtain ⟨z, hz, _, e⟩ := bud_at (ph := ph) ok (s + k)
    have e2 : ph + ((s + k : Nat) : Int) = ph + s + (k : Nat) := by simp [Int.add_assoc]
    rw [e2] at hz
    rw [tot_step ok hz, ← S_tot ok s k, e]
    show ((S (bud bs ph) s k + bud bs ph (s + k) : Nat) : Int) = _
    omega
theorem tot_per {bs : List Int} {s u c : Int} (h : s % bs.length = u % bs.length) : tot bs s c = tot bs u c := by
  unfold tot; rw [h]
theorem bud_per {bs : List Int} {ph : Int} (ok : Okb bs) : ∀ t u : Nat, t % bs.length = u % bs.length → bud bs ph t = bud bs ph u := fun t u h => by
  unfold bud
  have e : (ph + t) % bs.length = (ph + u) % bs.length := by
    rw [Int.add_emod, Int.add_emod ph u]
    have : (t : Int) % bs.length = (u : Int) % bs.length := by exact_mod_cast congrArg (Nat.cast (R := Int)) h
    rw [this]
  rw [e]
theorem S_mono {c : Nat → Nat} {s : Nat} : ∀ {a b : Nat}, a ≤ b → S c s a ≤ S c s b
  | a, 0, h => by rw [show a = 0 by omega]; exact Nat.le_refl _
  | a, b + 1, h => by
    rcases Nat.lt_or_ge a (b + 1) with q | q
    · have := S_mono (c := c) (s := s) (a := a) (b := b) (by omega)
      show _ ≤ S c s b + c (s + b)
      omega
    · rw [show a = b + 1 by omega]; exact Nat.le_refl _
theorem tot_mono {bs : List Int} {ph : Int} (ok : Okb bs) {a b : Nat} (h : a ≤ b) : tot bs ph (a : Nat) ≤ tot bs ph (b : Nat) := by
  have h1 := S_tot (ph := ph) ok 0 a
  have h2 := S_tot (ph := ph) ok 0 b
  have h3 := S_mono (c := bud bs ph) (s := 0) h
  have e : ph + ((0 : Nat) : Int) = ph := by omega
  rw [e] at h1 h2
  omega
end Cl

/-! ### life.py -/
namespace Cl
open PySem L2 StX ClX
/-- a standing within the limits -/
structure Std (l : List Bool) (p n : Int) (bs : List Int) (ph : Int) : Prop where
  w : Wd l
  len : (l.length : Int) ≤ p
  cnt : ((l.count true : Nat) : Int) ≤ n
  n1 : 1 ≤ n
  np : n ≤ p
  p9 : p ≤ 5000
  ok : Okb bs
  ph : 0 ≤ ph
/-- the places in play -/
def mIn (p : Int) (late : Bool) : Int := if late = true then p - 1 else p
/-- the first put that may be short -/
def fst1 (l : List Bool) (m : Int) : Int := if m - ((l.count true : Nat) : Int) > 0 then m - ((l.count true : Nat) : Int) else 0
def Blk (l : List Bool) (m n : Int) (bs : List Int) (ph : Int) (t : Nat) : Prop :=
  tot bs ph (t : Nat) < (if n - 1 < ((l.count true : Nat) : Int) then n - 1 else ((l.count true : Nat) : Int)) ∧ m ≤ (dps l).getD (tot bs ph (t : Nat)).toNat 0 + tot bs ph (t : Nat) + (t : Nat)
def Sht (l : List Bool) (m n : Int) (bs : List Int) (ph : Int) (t : Nat) : Prop :=
  fst1 l m ≤ (t : Nat) ∧ (m - n < 0 ∨ tot bs (ph + (t : Nat) - (m - n)) (m - n) < n - 1)
theorem tot_nn {bs : List Int} {s c : Int} (ok : Okb bs) (c0 : 0 ≤ c) : 0 ≤ tot bs s c := by
  have h1 := ok.sum_b.1
  have h2 : 0 ≤ c / bs.length := Int.ediv_nonneg c0 (by have := ok.l1; omega)
  have h3 : 0 ≤ (((bs ++ bs).drop (s % bs.length).toNat).take (c % bs.length).toNat).sum := by
    refine (sum_le (M := 10000000000000000000000000000000) fun b hb => ?_).1
    have := List.mem_of_mem_drop (List.mem_of_mem_take hb)
    exact ok.nn b ((List.mem_append.mp this).elim id id)
  unfold tot
  have := Int.mul_nonneg h2 h1
  omega
def Fst (p : Nat → Prop) : Option Nat → Prop
  | some t => p t ∧ ∀ s, s < t → ¬ p s
  | none => ∀ s, ¬ p s
def optV : Option Nat → V
  | some t => .int (t : Nat)
  | none => .non
theorem blk_far {l : List Bool} {m n : Int} {bs : List Int} {ph : Int} (ok : Okb bs) (m0 : 0 ≤ m) {N : Nat} (hN : (N : Int) = m + 1) (h : ∀ s, s < N → ¬ Blk l m n bs ph s) : ∀ s, ¬ Blk l m n bs ph s := fun s z => by
  by_cases hs : s < N
  · exact h s hs z
  · have hm := tot_mono (ph := ph) ok (a := m.toNat) (b := s) (by omega)
    have t0 := tot_nn (s := ph) (c := (m.toNat : Nat)) ok (by omega)
    have em : ((m.toNat : Nat) : Int) = m := Int.toNat_of_nonneg m0
    have z1 := z.1
    have hlt : (tot bs ph (m.toNat : Nat)).toNat < (dps l).length := by rw [dps_len]; split at z1 <;> omega
    have hd := (dps_le (l := l) (d := (dps l).getD (tot bs ph (m.toNat : Nat)).toNat 0) (by rw [List.getD_eq_getElem?_getD, List.getElem?_eq_getElem hlt]; exact List.getElem_mem hlt)).1
    exact h m.toNat (by omega) ⟨by omega, by omega⟩
section
variable {P : Program} {w : World} {K : PySem.W.Frag} {mg : Str → Option Value} {base : Heap} {C : Addr}
theorem sht_far {l : List Bool} {m n : Int} {bs : List Int} {ph : Int} (ok : Okb bs) {F0 N : Nat} (eF : fst1 l m = (F0 : Nat)) (hN : bs.length ≤ N) (h : ∀ s, s < F0 + N → ¬ Sht l m n bs ph s) : ∀ s, ¬ Sht l m n bs ph s := fun s z => by
  have l1 := ok.l1
  by_cases hs : s < F0 + N
  · exact h s hs z
  · obtain ⟨z1, z2⟩ := z
    have hr := Nat.mod_lt (s - F0) (show 0 < bs.length by omega)
    have hd := Nat.div_add_mod (s - F0) bs.length
    refine h (F0 + (s - F0) % bs.length) (by omega) ⟨by omega, z2.imp id fun q => ?_⟩
    rw [tot_per (u := ph + (s : Nat) - (m - n))]
    · exact q
    · have e : ph + ((s : Nat) : Int) - (m - n) = (ph + ((F0 + (s - F0) % bs.length : Nat) : Int) - (m - n)) + (((s - F0) / bs.length : Nat) : Int) * (bs.length : Int) := by
        have : ((bs.length * ((s - F0) / bs.length) : Nat) : Int) = (((s - F0) / bs.length : Nat) : Int) * (bs.length : Int) := by rw [Int.natCast_mul, Int.mul_comm]
        omega
      rw [e, Int.add_mul_emod_self_right]
theorem _root_.L2.FunD.okN {x qual : Str} {params : Arguments} {body : List Stmt} {scope : Scope} {dvs : List V} {kws : List (Str × V)} {f : Addr} {fd : FuncData} {N ps : List Str} {k : Nat} {sp : Sp} (F : FunD K x qual params body scope dvs kws f fd) (S : FnScope N ps scope) (len : ∀ vs H Q E, sp vs H Q E → vs.length = ps.length)
    (hbody : ∀ (cdv : Value) (A : Around) (outer : List Env) (s : Shared) (H : Hp) (vs : List V) (Q : VK) (E : XK), Room k (A.deeper (PyProof.Rows.envOfC qual scope s.heap.objs.size f cdv)) → sp vs H Q E →
      ∃ t, PSs (cxOf CX0 P w K mg base N qual scope f cdv A outer s H E).nox body t ∧ t { nx := fun _ H' => Q .non H', rt := Q } (L2.start N vs) H) : FnOk P w K mg base CX0 (k + 1) f fd ps sp := by
  refine F.ok (CX := CX0) S len fun cdv A outer s H vs Q E room hsp => ?_
  obtain ⟨t, run, post⟩ := hbody cdv A outer s H vs Q E room hsp
  exact ⟨t, run.nox, post⟩
def spCkRound (C : Addr) : Sp := fun vs H Q _ => ∃ (r : Addr) (bs : List Int), vs = [.ref r] ∧ RoundAt C H r bs ∧ Q .non H
theorem scCheckRound : FnScope ["budgets"] ["budgets"] (defScope sCheckRound) := ⟨rfl, rfl, rfl, by decide +kernel, rfl, by decide +kernel, by decide +kernel⟩
theorem ok_check_round {f : Addr} {fd : FuncData} (F : Fun K "check_round" "check_round" sCheckRound f fd) (B : Bi mg) (R_Round : ClsC K mg "Round" C) : FnOk P w K mg base CX0 1 f fd ["budgets"] (spCkRound C) := by
  refine F.ok scCheckRound (fun vs H Q E h => ?_) (fun cdv A outer s H vs Q E hr h => ?_)
  · obtain ⟨r, bs, rfl, _⟩ := h
    rfl
  · obtain ⟨r, bs, rfl, ⟨dx, t, h1, h2⟩, k⟩ := h
    refine ⟨_, (pss_one (ps_if (pt_not (pt_val (pe_callB (C8.call_isC R_Round.ic) (by rfl) B.isinstance (by decide +kernel) (pa_cons (pv 0) (pa_cons (pe_cls R_Round rfl) pa_nil))))) (pss_one ps_never)
  pss_nil)), ?_⟩
    exact ⟨_, rfl, r, dx, _, rfl, h1, true, rfl, k⟩
def spCkLimFits : Sp := fun vs H Q _ => ∃ (n p : Int), vs = [.int n, .int p] ∧ n ≤ p ∧ Q .non H
theorem scCheckLimitFits : FnScope ["limit", "places"] ["limit", "places"] (defScope sCheckLimitFits) := ⟨rfl, rfl, rfl, by decide +kernel, rfl, by decide +kernel, by decide +kernel⟩
theorem ok_check_limit_fits {f : Addr} {fd : FuncData} (F : Fun K "check_limit_fits" "check_limit_fits" sCheckLimitFits f fd) : FnOk P w K mg base CX0 1 f fd ["limit", "places"] spCkLimFits := by
  refine F.ok scCheckLimitFits (fun vs H Q E h => ?_) (fun cdv A outer s H vs Q E hr h => ?_)
  · obtain ⟨n, p, rfl, _⟩ := h
    rfl
  · obtain ⟨n, p, rfl, hn, k⟩ := h
    refine ⟨_, (pss_one (ps_if (pt_cmpR op_gt (pv 0) (pv 1) (nomark _)) (pss_one ps_never)
  pss_nil)), ?_⟩
    walk_at "rd"
    rw [decide_eq_false (by omega)]
    exact iteF k
def spCkFits : Sp := fun vs H Q _ => ∃ (l : List Bool) (p n : Int), vs = [.str (tx l), .int p, .int n] ∧ Wd l ∧ (l.length : Int) ≤ p ∧ ((l.count true : Nat) : Int) ≤ n ∧ n ≤ p ∧ p ≤ 5000 ∧ Q .non H
theorem scCheckStandingFits : FnScope ["word", "places", "limit"] ["word", "places", "limit"] (defScope sCheckStandingFits) := ⟨rfl, rfl, rfl, by decide +kernel, rfl, by decide +kernel, by decide +kernel⟩
theorem ok_check_standing_fits {f : Addr} {fd : FuncData} (F : Fun K "check_standing_fits" "check_standing_fits" sCheckStandingFits f fd) (B : Bi mg) (D_living : Dn P w K mg base "living" 4 ["word"] spLiving) (D_check_limit_fits : Dn P w K mg base "check_limit_fits" 1 ["limit", "places"] spCkLimFits) :
    FnOk P w K mg base CX0 5 f fd ["word", "places", "limit"] spCkFits := by
  refine F.ok scCheckStandingFits (fun vs H Q E h => ?_) (fun cdv A outer s H vs Q E hr h => ?_)
  · obtain ⟨l, p, n, rfl, _⟩ := h
    rfl
  · obtain ⟨l, p, n, rfl, wl, lp, cn, np, p9, k⟩ := h
    refine ⟨_, (pss_cons (ps_if (PW.pt (pw_or (pt_cmpR op_gt (pe_callB call_len_str (by rfl) B.len PySem.boot_len (pa_cons (pv 0) pa_nil)) (pv 1) (nomark _)) (pw_or1 (pt_cmpR op_gt (pe_dn D_living (hr.mono (by decide)) (by rfl) pass0 (pa_cons (pv 0) pa_nil)) (pv 2) (nomark _))))) (pss_one ps_never)
  pss_nil)
  (pss_one (ps_expr (pe_dn D_check_limit_fits (hr.mono (by decide)) (by rfl) pass0 (pa_cons (pv 2) (pa_cons (pv 1) pa_nil)))))), ?_⟩
    walk_at "rd"
    refine ⟨small_le (by rw [tx_len]; omega), ?_⟩
    walk_at "rd"
    rw [tx_len, decide_eq_false (by omega)]
    refine iteF ?_
    walk_at "rd"
    refine ⟨by omega, wl, ?_⟩
    walk_at "rd"
    rw [decide_eq_false (by omega)]
    refine iteF ?_
    walk_at "rd"
    exact ⟨np, k⟩
def spStd (C : Addr) : Sp := fun vs H Q _ => ∃ (l : List Bool) (p n : Int) (r : Addr) (bs : List Int) (ph : Int), vs = [.str (tx l), .int p, .int n, .ref r, .int ph] ∧ Std l p n bs ph ∧ RoundAt C H r bs ∧ Q .non H
theorem scCheckStandingAlone : FnScope ["word", "places", "limit", "budgets", "phase"] ["word", "places", "limit", "budgets", "phase"] (defScope sCheckStandingAlone) := ⟨rfl, rfl, rfl, by decide +kernel, rfl, by decide +kernel, by decide +kernel⟩
theorem ok_check_standing_alone {f : Addr} {fd : FuncData} (F : Fun K "check_standing_alone" "check_standing_alone" sCheckStandingAlone f fd) (D_check_word : Dn P w K mg base "check_word" 3 ["word", "field"] spCheckWord) (D_check_least : Dn P w K mg base "check_least" 2 ["value", "least", "field"] spCheckLeast)
    (D_check_round : Dn P w K mg base "check_round" 1 ["budgets"] (spCkRound C)) : FnOk P w K mg base CX0 4 f fd ["word", "places", "limit", "budgets", "phase"] (spStd C) := by
  refine F.ok scCheckStandingAlone (fun vs H Q E h => ?_) (fun cdv A outer s H vs Q E hr h => ?_)
  · obtain ⟨l, p, n, r, bs, ph, rfl, _⟩ := h
    rfl
  · obtain ⟨l, p, n, r, bs, ph, rfl, S, hR, k⟩ := h
    refine ⟨_, (pss_cons (ps_expr (pe_dn D_check_word (hr.mono (by decide)) (by rfl) pass0 (pa_cons (pv 0) (pa_cons pe_str pa_nil))))
  (pss_cons (ps_expr (pe_dn D_check_least (hr.mono (by decide)) (by rfl) pass0 (pa_cons (pv 1) (pa_cons pe_int (pa_cons pe_str pa_nil)))))
  (pss_cons (ps_expr (pe_dn D_check_least (hr.mono (by decide)) (by rfl) pass0 (pa_cons (pv 2) (pa_cons pe_int (pa_cons pe_str pa_nil)))))
  (pss_cons (ps_expr (pe_dn D_check_round (hr.mono (by decide)) (by rfl) pass0 (pa_cons (pv 3) pa_nil)))
  (pss_one (ps_expr (pe_dn D_check_least (hr.mono (by decide)) (by rfl) pass0 (pa_cons (pv 4) (pa_cons pe_int (pa_cons pe_str pa_nil)))))))))), ?_⟩
    have h1 := S.len
    have h2 := S.n1
    have h3 := S.np
    have h4 := S.p9
    refine ⟨_, rfl, _, _, rfl, by omega, S.w, ?_⟩
    refine ⟨_, rfl, _, _, _, rfl, by omega, ?_⟩
    refine ⟨_, rfl, _, _, _, rfl, S.n1, ?_⟩
    refine ⟨_, rfl, r, bs, rfl, hR, ?_⟩
    exact ⟨_, rfl, _, _, _, rfl, S.ph, k⟩
theorem scCheckStanding : FnScope ["word", "places", "limit", "budgets", "phase"] ["word", "places", "limit", "budgets", "phase"] (defScope sCheckStanding) := ⟨rfl, rfl, rfl, by decide +kernel, rfl, by decide +kernel, by decide +kernel⟩
theorem ok_check_standing {f : Addr} {fd : FuncData} (F : Fun K "check_standing" "check_standing" sCheckStanding f fd) (D_check_standing_alone : Dn P w K mg base "check_standing_alone" 4 ["word", "places", "limit", "budgets", "phase"] (spStd C)) (D_check_standing_fits : Dn P w K mg base "check_standing_fits" 5 ["word", "places", "limit"] spCkFits) :
    FnOk P w K mg base CX0 6 f fd ["word", "places", "limit", "budgets", "phase"] (spStd C) := by
  refine F.ok scCheckStanding (fun vs H Q E h => ?_) (fun cdv A outer s H vs Q E hr h => ?_)
  · obtain ⟨l, p, n, r, bs, ph, rfl, _⟩ := h
    rfl
  · obtain ⟨l, p, n, r, bs, ph, rfl, S, hR, k⟩ := h
    refine ⟨_, (pss_cons (ps_expr (pe_dn D_check_standing_alone (hr.mono (by decide)) (by rfl) pass0 (pa_cons (pv 0) (pa_cons (pv 1) (pa_cons (pv 2) (pa_cons (pv 3) (pa_cons (pv 4) pa_nil)))))))
  (pss_one (ps_expr (pe_dn D_check_standing_fits (hr.mono (by decide)) (by rfl) pass0 (pa_cons (pv 0) (pa_cons (pv 1) (pa_cons (pv 2) pa_nil))))))), ?_⟩
    refine ⟨_, rfl, _, rfl, _, rfl, _, rfl, _, rfl, l, p, n, r, bs, ph, rfl, S, hR, ?_⟩
    exact ⟨_, rfl, _, rfl, _, rfl, l, p, n, rfl, S.w, S.len, S.cnt, S.np, S.p9, k⟩
def spMIn : Sp := fun vs H Q _ => ∃ (p : Int) (late : Bool), vs = [.int p, .bl late] ∧ Q (.int (mIn p late)) H
theorem scPlacesInPlay : FnScope ["places", "late"] ["places", "late"] (defScope sPlacesInPlay) := ⟨rfl, rfl, rfl, by decide +kernel, rfl, by decide +kernel, by decide +kernel⟩
theorem ok_places_in_play {f : Addr} {fd : FuncData} (F : Fun K "places_in_play" "places_in_play" sPlacesInPlay f fd) : FnOk P w K mg base CX0 1 f fd ["places", "late"] spMIn := by
  refine F.ok scPlacesInPlay (fun vs H Q E h => ?_) (fun cdv A outer s H vs Q E hr h => ?_)
  · obtain ⟨p, late, rfl, _⟩ := h
    rfl
  · obtain ⟨p, late, rfl, k⟩ := h
    refine ⟨_, (pss_one (ps_ret (pe_ifExp (pt_val (pv 1)) (pe_op op_sub (pv 0) pe_int) (pv 0)))), ?_⟩
    cases late
    · refine ⟨_, rfl, _, rfl, iteF ?_⟩
      exact ⟨_, rfl, k⟩
    · refine ⟨_, rfl, _, rfl, iteT ?_⟩
      walk_at "rd"
      exact k
def spFirst : Sp := fun vs H Q _ => ∃ (l : List Bool) (p : Int) (late : Bool), vs = [.str (tx l), .int p, .bl late] ∧ Wd l ∧ l.length ≤ 9000 ∧ Q (.int (fst1 l (mIn p late))) H
theorem scFirstShort : FnScope ["word", "places", "late"] ["word", "places", "late"] (defScope sFirstShort) := ⟨rfl, rfl, rfl, by decide +kernel, rfl, by decide +kernel, by decide +kernel⟩
theorem ok_first_short {f : Addr} {fd : FuncData} (F : Fun K "first_short" "first_short" sFirstShort f fd) (B : Bi mg) (D_living : Dn P w K mg base "living" 4 ["word"] spLiving) (D_places_in_play : Dn P w K mg base "places_in_play" 1 ["places", "late"] spMIn) :
    FnOk P w K mg base CX0 5 f fd ["word", "places", "late"] spFirst := by
  refine F.ok scFirstShort (fun vs H Q E h => ?_) (fun cdv A outer s H vs Q E hr h => ?_)
  · obtain ⟨l, p, late, rfl, _⟩ := h
    rfl
  · obtain ⟨l, p, late, rfl, wl, ll, k⟩ := h
    refine ⟨_, (pss_one (ps_ret (pe_callB (call_max2 rfl) (by rfl) B.max (by decide +kernel) (pa_cons pe_int (pa_cons (pe_op op_sub (pe_dn D_places_in_play (hr.mono (by decide)) (by rfl) pass0 (pa_cons (pv 1) (pa_cons (pv 2) pa_nil))) (pe_dn D_living (hr.mono (by decide)) (by rfl) pass0 (pa_cons (pv 0) pa_nil))) pa_nil))))), ?_⟩
    refine ⟨_, rfl, _, rfl, p, late, rfl, ?_⟩
    refine ⟨_, rfl, l, rfl, by omega, wl, ?_⟩
    walk_at "rd"
    exact k
def stdV (l : List Bool) (p n : Int) (r : Addr) (ph : Int) (late : Bool) : List V := [.str (tx l), .int p, .int n, .ref r, .int ph, .bl late]
def spBlocks (C : Addr) : Sp := fun vs H Q _ => ∃ (l : List Bool) (p n : Int) (r : Addr) (bs : List Int) (ph : Int) (late : Bool) (t : Nat), vs = [.str (tx l), .int p, .int n, .ref r, .int ph, .bl late, .int (t : Nat)] ∧ Std l p n bs ph ∧ RoundAt C H r bs ∧ t ≤ 1000000 ∧
  ∀ (x : Bool) (H' : Hp), Same H H' → (x = true ↔ Blk l (mIn p late) n bs ph t) → Q (.bl x) H'
theorem scBlocks : FnScope ["word", "places", "limit", "budgets", "phase", "late", "t", "moved"] ["word", "places", "limit", "budgets", "phase", "late", "t"] (defScope sBlocks) := ⟨rfl, rfl, rfl, by decide +kernel, rfl, by decide +kernel, by decide +kernel⟩
theorem ok_blocks {f : Addr} {fd : FuncData} (F : Fun K "blocks" "blocks" sBlocks f fd) (B : Bi mg) (R_Round : ClsC K mg "Round" C) (M_Round_total : Mn P w K mg base C "total" 3 ["self", "start", "count"] (spTotal C)) (D_living : Dn P w K mg base "living" 4 ["word"] spLiving)
    (D_depths : Dn P w K mg base "depths" 4 ["word"] spDepths) (D_places_in_play : Dn P w K mg base "places_in_play" 1 ["places", "late"] spMIn) : FnOk P w K mg base CX0 5 f fd ["word", "places", "limit", "budgets", "phase", "late", "t"] (spBlocks C) := by
  refine F.ok scBlocks (fun vs H Q E h => ?_) (fun cdv A outer s H vs Q E hr h => ?_)
  · obtain ⟨l, p, n, r, bs, ph, late, t, rfl, _⟩ := h
    rfl
  · obtain ⟨l, p, n, r, bs, ph, late, t, rfl, S, hR, t1, k⟩ := h
    refine ⟨_, (pss_cons (ps_if (pt_cmpR op_lt (pv 6) pe_int (nomark _)) (pss_one (ps_ret pe_bl))
  pss_nil)
  (pss_cons (ps_set (i := 7) scBlocks.nd rfl (Or.inl rfl) (pe_mn M_Round_total R_Round.cl (hr.mono (by decide)) pass0 (pv 3) (pa_cons (pv 4) (pa_cons (pv 6) pa_nil))))
  (pss_cons (ps_if (pt_cmpR op_ge (pv 7) (pe_callB (call_min2 rfl) (by rfl) B.min (by decide +kernel) (pa_cons (pe_dn D_living (hr.mono (by decide)) (by rfl) pass0 (pa_cons (pv 0) pa_nil)) (pa_cons (pe_op op_sub (pv 2) pe_int) pa_nil))) (nomark _)) (pss_one (ps_ret pe_bl))
  pss_nil)
  (pss_one (ps_ret (pe_cmpR op_ge (pe_op op_add (pe_op op_add (pe_ix ix_list (pe_dn D_depths (hr.mono (by decide)) (by rfl) pass0 (pa_cons (pv 0) pa_nil)) (pv 7) (fun _ _ => rfl)) (pv 7)) (pv 6)) (pe_dn D_places_in_play (hr.mono (by decide)) (by rfl) pass0 (pa_cons (pv 1) (pa_cons (pv 5) pa_nil))) (nomark _))))))), ?_⟩
    have h1 := S.len
    have h4 := S.p9
    have hR0 := hR
    obtain ⟨dx, t0, hr1, hr2⟩ := hR0
    have k0 := tot_nn (s := ph) (c := (t : Nat)) S.ok (by omega)
    walk_at "rd"
    refine ⟨r, dx, _, rfl, hr1, no_ _ rfl t0, ?_⟩
    refine ⟨_, rfl, _, rfl, r, bs, ph, _, rfl, hR, S.ok, S.ph, by omega, by omega, fun H1 S1 => ?_⟩
    unfold Blk at k
    generalize tot bs ph (t : Nat) = T at k0 k ⊢
    walk_at "rd"
    refine ⟨by omega, S.w, ?_⟩
    walk_at "rd"
    refine itd (fun e => ?_) (fun e => ?_)
    · walk_at "rd"
      exact k false H1 S1 ⟨fun z => (nomatch z), fun z => by have := z.1; omega⟩
    · have cl : l.count true ≤ l.length := List.count_le_length
      have hT : T.toNat < (dps l).length := by rw [dps_len]; split at e <;> omega
      have hat : ((dps l).map V.int)[T.toNat]? = some (V.int ((dps l).getD T.toNat 0)) := by
        rw [List.getElem?_map, List.getD_eq_getElem?_getD, List.getElem?_eq_getElem hT]; rfl
      have eT : ((T.toNat : Nat) : Int) = T := Int.toNat_of_nonneg k0
      walk_at "rd"
      refine ⟨by omega, S.w, fun q H2 hq S2 hL2 => ?_⟩
      walk_at "rd"
      refine ⟨q, _, _, _, rfl, rfl, SqL.of hL2, by rw [← eT]; exact atI_nat hat, ?_⟩
      walk_at "rd"
      exact k _ H2 (S1.trans S2) ⟨fun z => ⟨by omega, of_decide_eq_true z⟩, fun z => decide_eq_true z.2⟩
def spShort (C : Addr) : Sp := fun vs H Q _ => ∃ (l : List Bool) (p n : Int) (r : Addr) (bs : List Int) (ph : Int) (late : Bool) (t : Nat), vs = [.str (tx l), .int p, .int n, .ref r, .int ph, .bl late, .int (t : Nat)] ∧ Std l p n bs ph ∧ RoundAt C H r bs ∧ t ≤ 1000000 ∧
  ∀ (x : Bool) (H' : Hp), Same H H' → (x = true ↔ Sht l (mIn p late) n bs ph t) → Q (.bl x) H'
theorem scFallsShort : FnScope ["word", "places", "limit", "budgets", "phase", "late", "t", "gap"] ["word", "places", "limit", "budgets", "phase", "late", "t"] (defScope sFallsShort) := ⟨rfl, rfl, rfl, by decide +kernel, rfl, by decide +kernel, by decide +kernel⟩
theorem ok_falls_short {f : Addr} {fd : FuncData} (F : Fun K "falls_short" "falls_short" sFallsShort f fd) (B : Bi mg) (R_Round : ClsC K mg "Round" C) (M_Round_total : Mn P w K mg base C "total" 3 ["self", "start", "count"] (spTotal C)) (D_first_short : Dn P w K mg base "first_short" 5 ["word", "places", "late"] spFirst)
    (D_places_in_play : Dn P w K mg base "places_in_play" 1 ["places", "late"] spMIn) : FnOk P w K mg base CX0 6 f fd ["word", "places", "limit", "budgets", "phase", "late", "t"] (spShort C) := by
  refine F.ok scFallsShort (fun vs H Q E h => ?_) (fun cdv A outer s H vs Q E hr h => ?_)
  · obtain ⟨l, p, n, r, bs, ph, late, t, rfl, _⟩ := h
    rfl
  · obtain ⟨l, p, n, r, bs, ph, late, t, rfl, S, hR, t1, k⟩ := h
    refine ⟨_, (pss_cons (ps_if (pt_cmpR op_lt (pv 6) (pe_dn D_first_short (hr.mono (by decide)) (by rfl) pass0 (pa_cons (pv 0) (pa_cons (pv 1) (pa_cons (pv 5) pa_nil)))) (nomark _)) (pss_one (ps_ret pe_bl))
  pss_nil)
  (pss_cons (ps_set (i := 7) scFallsShort.nd rfl (Or.inl rfl) (pe_op op_sub (pe_dn D_places_in_play (hr.mono (by decide)) (by rfl) pass0 (pa_cons (pv 1) (pa_cons (pv 5) pa_nil))) (pv 2)))
  (pss_cons (ps_if (pt_cmpR op_lt (pv 7) pe_int (nomark _)) (pss_one (ps_ret pe_bl))
  pss_nil)
  (pss_one (ps_ret (pe_cmpR op_lt (pe_mn M_Round_total R_Round.cl (hr.mono (by decide)) pass0 (pv 3) (pa_cons (pe_op op_sub (pe_op op_add (pv 4) (pv 6)) (pv 7)) (pa_cons (pv 7) pa_nil))) (pe_op op_sub (pv 2) pe_int) (nomark _))))))), ?_⟩
    have h1 := S.len
    have h2 := S.cnt
    have h4 := S.p9
    have h5 := S.np
    have h6 := S.n1
    have h7 := S.ph
    have hR0 := hR
    obtain ⟨dx, t0, hr1, hr2⟩ := hR0
    have hm : mIn p late ≤ 5000 := by unfold mIn; split <;> omega
    refine ⟨_, rfl, _, rfl, _, rfl, _, rfl, l, p, late, rfl, S.w, by omega, ?_⟩
    walk_at "rd"
    refine itd (fun e => ?_) (fun e => ?_)
    · walk_at "rd"
      exact k false H (Same.refl _) ⟨fun z => (nomatch z), fun z => by have := z.1; omega⟩
    · have ff : ((l.count true : Nat) : Int) ≤ n → mIn p late - n ≤ (t : Nat) := fun _ => by
        unfold fst1 at e
        split at e <;> omega
      have ff := ff h2
      refine ⟨_, rfl, _, rfl, p, late, rfl, ?_⟩
      unfold Sht at k
      generalize mIn p late = m at *
      walk_at "rd"
      refine itd (fun e2 => ?_) (fun e2 => ?_)
      · walk_at "rd"
        exact k true H (Same.refl _) ⟨fun _ => ⟨by omega, .inl e2⟩, fun _ => rfl⟩
      · refine ⟨_, rfl, r, dx, _, rfl, hr1, no_ _ rfl t0, ?_⟩
        walk_at "rd"
        refine ⟨r, bs, _, _, rfl, hR, S.ok, by omega, by omega, by omega, fun H1 S1 => ?_⟩
        walk_at "rd"
        exact k _ H1 S1 ⟨fun z => ⟨by omega, .inr (of_decide_eq_true z)⟩, fun z => decide_eq_true (z.2.resolve_left (by omega))⟩
def spAtO (C : Addr) (pr : List Bool → Int → Int → List Int → Int → Nat → Prop) : Sp := fun vs H Q _ => ∃ (l : List Bool) (p n : Int) (r : Addr) (bs : List Int) (ph : Int) (late : Bool), vs = [.str (tx l), .int p, .int n, .ref r, .int ph, .bl late] ∧ Std l p n bs ph ∧ RoundAt C H r bs ∧
  ∀ (o : Option Nat) (H' : Hp), Same H H' → Fst (pr l (mIn p late) n bs ph) o → Q (optV o) H'
theorem scBlockedAt : FnScope ["word", "places", "limit", "budgets", "phase", "late", "t"] ["word", "places", "limit", "budgets", "phase", "late"] (defScope sBlockedAt) := ⟨rfl, rfl, rfl, by decide +kernel, rfl, by decide +kernel, by decide +kernel⟩
theorem ok_blocked_at {f : Addr} {fd : FuncData} (F : FunD K "blocked_at" "blocked_at" (defArgs sBlockedAt) (defBody sBlockedAt) (defScope sBlockedAt) [.int 0] [("late", .bl false)] f fd) (B : Bi mg) (D_check_standing : Dn P w K mg base "check_standing" 6 ["word", "places", "limit", "budgets", "phase"] (spStd C))
    (D_places_in_play : Dn P w K mg base "places_in_play" 1 ["places", "late"] spMIn) (D_blocks : Dn P w K mg base "blocks" 5 ["word", "places", "limit", "budgets", "phase", "late", "t"] (spBlocks C)) : FnOk P w K mg base CX0 7 f fd ["word", "places", "limit", "budgets", "phase", "late"] (spAtO C Blk) := by
  refine F.okN scBlockedAt (fun vs H Q E h => ?_) (fun cdv A outer s H vs Q E hr h => ?_)
  · obtain ⟨l, p, n, r, bs, ph, late, rfl, _⟩ := h
    rfl
  · obtain ⟨l, p, n, r, bs, ph, late, rfl, S, hR, k⟩ := h
    refine ⟨_, (pss_cons (ps_expr (pe_dn D_check_standing (hr.mono (by decide)) (by rfl) pass0 (pa_cons (pv 0) (pa_cons (pv 1) (pa_cons (pv 2) (pa_cons (pv 3) (pa_cons (pv 4) pa_nil)))))))
  (pss_cons (ps_for PassesOwn.never rfl (pi_range1 rfl B.range (pa_cons (pe_op op_add (pe_dn D_places_in_play (hr.mono (by decide)) (by rfl) pass0 (pa_cons (pv 1) (pa_cons (pv 5) pa_nil))) pe_int) pa_nil)) (pg_name (i := 6) scBlockedAt.nd rfl (Or.inl rfl))
  (pss_one (ps_if (pt_val (pe_dn D_blocks (hr.mono (by decide)) (by rfl) pass0 (pa_cons (pv 0) (pa_cons (pv 1) (pa_cons (pv 2) (pa_cons (pv 3) (pa_cons (pv 4) (pa_cons (pv 5) (pa_cons (pv 6) pa_nil))))))))) (pss_one (ps_ret (pv 6)))
  pss_nil)))
  (pss_one (ps_ret pe_non)))), ?_⟩
    have h4 := S.p9
    have h5 := S.np
    have h6 := S.n1
    have hm : mIn p late ≤ 5000 ∧ 0 ≤ mIn p late := by unfold mIn; split <;> omega
    refine ⟨_, rfl, _, rfl, _, rfl, _, rfl, _, rfl, l, p, n, r, bs, ph, rfl, S, hR, ?_⟩
    refine ⟨_, rfl, _, rfl, p, late, rfl, ?_⟩
    walk_at "rd"
    refine ⟨by omega, by omega, ?_⟩
    refine for_range (fun i σ H' => ∃ x : Option V, σ = [some (.str (tx l)), some (.int p), some (.int n), some (.ref r), some (.int ph), some (.bl late), x] ∧ Same H H' ∧ ∀ s, s < i → ¬ Blk l (mIn p late) n bs ph s) ⟨_, rfl, Same.refl _, fun s hs => by omega⟩ ?_ ?_
    · rintro i σ H1 hi ⟨x, rfl, S1, hn⟩
      refine ⟨_, rfl, _, rfl, _, rfl, _, rfl, _, rfl, _, rfl, _, rfl, l, p, n, r, bs, ph, late, i, by rw [Int.zero_add]; rfl, S, hR.same S1, by omega, fun x H2 S2 hx => ⟨_, rfl, ?_⟩⟩
      cases x with
      | true =>
        refine iteT ?_
        refine ⟨_, rfl, ?_⟩
        have := k (some i) H2 (S1.trans S2) ⟨hx.mp rfl, hn⟩
        rw [Int.zero_add]
        exact this
      | false =>
        refine iteF ?_
        refine ⟨_, rfl, S1.trans S2, fun s hs => ?_⟩
        rcases Nat.lt_succ_iff_lt_or_eq.mp hs with q | rfl
        · exact hn s q
        · exact fun z => (nomatch hx.mpr z)
    · rintro σ H1 ⟨x, rfl, S1, hn⟩
      exact k none H1 S1 (blk_far S.ok hm.2 (by omega) hn)
theorem scShortAt : FnScope ["word", "places", "limit", "budgets", "phase", "late", "first", "t"] ["word", "places", "limit", "budgets", "phase", "late"] (defScope sShortAt) := ⟨rfl, rfl, rfl, by decide +kernel, rfl, by decide +kernel, by decide +kernel⟩
theorem ok_short_at {f : Addr} {fd : FuncData} (F : FunD K "short_at" "short_at" (defArgs sShortAt) (defBody sShortAt) (defScope sShortAt) [.int 0] [("late", .bl false)] f fd) (B : Bi mg) (O_Round___len__ : On P w K mg base C "__len__" 1 ["self"] (spLen C)) (D_check_standing : Dn P w K mg base "check_standing" 6 ["word", "places", "limit", "budgets", "phase"] (spStd C))
    (D_first_short : Dn P w K mg base "first_short" 5 ["word", "places", "late"] spFirst) (D_falls_short : Dn P w K mg base "falls_short" 6 ["word", "places", "limit", "budgets", "phase", "late", "t"] (spShort C)) : FnOk P w K mg base CX0 7 f fd ["word", "places", "limit", "budgets", "phase", "late"] (spAtO C Sht) := by
  refine F.okN scShortAt (fun vs H Q E h => ?_) (fun cdv A outer s H vs Q E hr h => ?_)
  · obtain ⟨l, p, n, r, bs, ph, late, rfl, _⟩ := h
    rfl
  · obtain ⟨l, p, n, r, bs, ph, late, rfl, S, hR, k⟩ := h
    refine ⟨_, (pss_cons (ps_expr (pe_dn D_check_standing (hr.mono (by decide)) (by rfl) pass0 (pa_cons (pv 0) (pa_cons (pv 1) (pa_cons (pv 2) (pa_cons (pv 3) (pa_cons (pv 4) pa_nil)))))))
  (pss_cons (ps_set (i := 6) scShortAt.nd rfl (Or.inl rfl) (pe_dn D_first_short (hr.mono (by decide)) (by rfl) pass0 (pa_cons (pv 0) (pa_cons (pv 1) (pa_cons (pv 5) pa_nil)))))
  (pss_cons (ps_for PassesOwn.never rfl (pi_range2 rfl B.range (pa_cons (pv 6) (pa_cons (pe_op op_add (pv 6) (pe_callB (call_lenN O_Round___len__ (hr.mono (by decide))) (by rfl) B.len PySem.boot_len (pa_cons (pv 3) pa_nil))) pa_nil))) (pg_name (i := 7) scShortAt.nd rfl (Or.inl rfl))
  (pss_one (ps_if (pt_val (pe_dn D_falls_short (hr.mono (by decide)) (by rfl) pass0 (pa_cons (pv 0) (pa_cons (pv 1) (pa_cons (pv 2) (pa_cons (pv 3) (pa_cons (pv 4) (pa_cons (pv 5) (pa_cons (pv 7) pa_nil))))))))) (pss_one (ps_ret (pv 7)))
  pss_nil)))
  (pss_one (ps_ret pe_non))))), ?_⟩
    have h1 := S.len
    have h4 := S.p9
    have h5 := S.np
    have h6 := S.n1
    have l1 := S.ok.l1
    have l2 := S.ok.l2
    have hm : mIn p late ≤ 5000 ∧ 0 ≤ mIn p late := by unfold mIn; split <;> omega
    have hf : 0 ≤ fst1 l (mIn p late) ∧ fst1 l (mIn p late) ≤ 5000 := by unfold fst1; split <;> omega
    refine ⟨_, rfl, _, rfl, _, rfl, _, rfl, _, rfl, l, p, n, r, bs, ph, rfl, S, hR, ?_⟩
    refine ⟨_, rfl, _, rfl, _, rfl, l, p, late, rfl, S.w, by omega, ?_⟩
    have hR0 := hR
    obtain ⟨dx, t0, hr1, hr2⟩ := hR0
    obtain ⟨F0, eF⟩ : ∃ F0 : Nat, fst1 l (mIn p late) = (F0 : Nat) := ⟨_, (Int.toNat_of_nonneg hf.1).symm⟩
    walk_at "rd"
    refine ⟨r, dx, _, rfl, hr1, r, bs, rfl, hR, bs.length, rfl, by omega, ?_⟩
    walk_at "rd"
    rw [eF]
    refine ⟨by omega, ?_⟩
    refine for_range (lo := (F0 : Nat)) (fun i σ H' => ∃ x : Option V, σ = [some (.str (tx l)), some (.int p), some (.int n), some (.ref r), some (.int ph), some (.bl late), some (.int (F0 : Nat)), x] ∧ Same H H' ∧ ∀ s, s < F0 + i → ¬ Sht l (mIn p late) n bs ph s) ⟨_, rfl, Same.refl _, fun s hs z => by have := z.1; omega⟩ ?_ ?_
    · rintro i σ H1 hi ⟨x, rfl, S1, hn⟩
      refine ⟨_, rfl, _, rfl, _, rfl, _, rfl, _, rfl, _, rfl, _, rfl, l, p, n, r, bs, ph, late, F0 + i, by rw [Int.natCast_add]; rfl, S, hR.same S1, by omega, fun x H2 S2 hx => ⟨_, rfl, ?_⟩⟩
      cases x with
      | true =>
        refine iteT ?_
        refine ⟨_, rfl, ?_⟩
        have := k (some (F0 + i)) H2 (S1.trans S2) ⟨hx.mp rfl, hn⟩
        rw [show ((F0 : Nat) : Int) + ((i : Nat) : Int) = ((F0 + i : Nat) : Int) by omega]
        exact this
      | false =>
        refine iteF ?_
        refine ⟨_, rfl, S1.trans S2, fun s hs => ?_⟩
        rcases Nat.lt_succ_iff_lt_or_eq.mp (show s < (F0 + i) + 1 by omega) with q | rfl
        · exact hn s q
        · exact fun z => (nomatch hx.mpr z)
    · rintro σ H1 ⟨x, rfl, S1, hn⟩
      exact k none H1 S1 (sht_far S.ok eF (by omega) hn)
/-- the life of a standing -/
def LifeIs (l : List Bool) (p n : Int) (bs : List Int) (ph : Int) (late : Bool) (o : Option Nat) : Prop :=
  if late = true ∧ (l.length : Int) = p then o = some 0 else ∃ T, Fst (fun t => Blk l (mIn p late) n bs ph t ∨ Sht l (mIn p late) n bs ph t) T ∧ o = T.map fun t => if late = true then t + 1 else t
theorem fst_or {p q : Nat → Prop} {a b : Option Nat} (ha : Fst p a) (hb : Fst q b) : Fst (fun t => p t ∨ q t) (match a, b with
    | some x, some y => some (if y < x then y else x)
    | some x, none => some x
    | none, b => b) := by
  cases a with
  | none =>
    cases b with
    | none => exact fun s => fun z => z.elim (ha s) (hb s)
    | some y => exact ⟨.inr hb.1, fun s hs z => z.elim (ha s) (hb.2 s hs)⟩
  | some x =>
    cases b with
    | none => exact ⟨.inl ha.1, fun s hs z => z.elim (ha.2 s hs) (hb s)⟩
    | some y =>
      show Fst _ (some (if y < x then y else x))
      split
      · exact ⟨.inr hb.1, fun s hs z => z.elim (ha.2 s (by omega)) (hb.2 s hs)⟩
      · exact ⟨.inl ha.1, fun s hs z => z.elim (ha.2 s hs) (hb.2 s (by omega))⟩
def spLife (C : Addr) : Sp := fun vs H Q _ => ∃ (l : List Bool) (p n : Int) (r : Addr) (bs : List Int) (ph : Int) (late : Bool), vs = [.str (tx l), .int p, .int n, .ref r, .int ph, .bl late] ∧ Std l p n bs ph ∧ RoundAt C H r bs ∧
  ∀ (o : Option Nat) (H' : Hp), Same H H' → LifeIs l p n bs ph late o → Q (optV o) H'
theorem scLife : FnScope ["word", "places", "limit", "budgets", "phase", "late", "blocked", "short", "found", "t"] ["word", "places", "limit", "budgets", "phase", "late"] (defScope sLife) := ⟨rfl, rfl, rfl, by decide +kernel, rfl, by decide +kernel, by decide +kernel⟩
theorem ok_life {f : Addr} {fd : FuncData} (F : FunD K "life" "life" (defArgs sLife) (defBody sLife) (defScope sLife) [.int 0] [("late", .bl false)] f fd) (B : Bi mg) (D_check_standing : Dn P w K mg base "check_standing" 6 ["word", "places", "limit", "budgets", "phase"] (spStd C))
    (K_blocked_at_late : Dk P w K mg base "blocked_at" 7 ["word", "places", "limit", "budgets", "phase", "late"] (spAtO C Blk) 5 ["late"] (fun vs zs => vs ++ zs)) (K_short_at_late : Dk P w K mg base "short_at" 7 ["word", "places", "limit", "budgets", "phase", "late"] (spAtO C Sht) 5 ["late"] (fun vs zs => vs ++ zs)) :
    FnOk P w K mg base CX0 8 f fd ["word", "places", "limit", "budgets", "phase", "late"] (spLife C) := by
  refine F.okN scLife (fun vs H Q E h => ?_) (fun cdv A outer s H vs Q E hr h => ?_)
  · obtain ⟨l, p, n, r, bs, ph, late, rfl, _⟩ := h
    rfl
  · obtain ⟨l, p, n, r, bs, ph, late, rfl, S, hR, k⟩ := h
    refine ⟨_, (pss_cons (ps_expr (pe_dn D_check_standing (hr.mono (by decide)) (by rfl) pass0 (pa_cons (pv 0) (pa_cons (pv 1) (pa_cons (pv 2) (pa_cons (pv 3) (pa_cons (pv 4) pa_nil)))))))
  (C8.pss_cut (ps_if (PW.pt (pw_and (pt_val (pv 5)) (pw_and1 (pt_cmpR op_eq (pe_callB call_len_str (by rfl) B.len PySem.boot_len (pa_cons (pv 0) pa_nil)) (pv 1) (nomark _))))) (pss_one (ps_ret pe_int))
  pss_nil)
  (pss_cons (ps_set (i := 6) scLife.nd rfl (Or.inl rfl) (pe_dk K_blocked_at_late (hr.mono (by decide)) (by rfl) pass0 (pa_cons (pv 0) (pa_cons (pv 1) (pa_cons (pv 2) (pa_cons (pv 3) (pa_cons (pv 4) pa_nil))))) (pk_cons (pv 5) pk_nil)))
  (pss_cons (ps_set (i := 7) scLife.nd rfl (Or.inl rfl) (pe_dk K_short_at_late (hr.mono (by decide)) (by rfl) pass0 (pa_cons (pv 0) (pa_cons (pv 1) (pa_cons (pv 2) (pa_cons (pv 3) (pa_cons (pv 4) pa_nil))))) (pk_cons (pv 5) pk_nil)))
  (pss_cons (ps_setLc (i := 8) (own := [("t", 9)]) (g := gName 9) rfl scLife.nd rfl rfl (sw_true rfl rfl rfl (by decide +kernel)) (pi_list (pe_lst (pa_cons (pv 6) (pa_cons (pv 7) pa_nil)))) (blkOk_by (own := [("t", 9)]) (N := ["word", "places", "limit", "budgets", "phase", "late", "blocked", "short", "found", "t"]) (sc := defScope sLife) (by decide +kernel)) (fun _ _ _ _ _ => (pg_name (i := 9) scLife.nd rfl (Or.inl rfl))) (fun _ _ _ _ _ => (pts_one (pt_cmpR op_notN (pv 9) pe_non (nomark _)))) (fun _ _ _ _ _ => (pv 9)))
  (C8.pss_cut (ps_if (pt_cmpR op_eq (pe_callB call_len_seq (by rfl) B.len PySem.boot_len (pa_cons (pv 8) pa_nil)) pe_int (nomark _)) (pss_one (ps_ret pe_non))
  pss_nil)
  (pss_one (ps_ret (pe_ifExp (pt_val (pv 5)) (pe_op op_add (pe_callB (cr_min rfl) (by rfl) B.min (by decide +kernel) (pa_cons (pv 8) pa_nil)) pe_int) (pe_callB (cr_min rfl) (by rfl) B.min (by decide +kernel) (pa_cons (pv 8) pa_nil))))))))))), ?_⟩
    have h1 := S.len
    have h4 := S.p9
    refine ⟨_, rfl, _, rfl, _, rfl, _, rfl, _, rfl, l, p, n, r, bs, ph, rfl, S, hR, ?_⟩
    refine ⟨fun σ H' => σ = [some (.str (tx l)), some (.int p), some (.int n), some (.ref r), some (.int ph), some (.bl late), none, none, none, none] ∧ H' = H ∧ ¬ (late = true ∧ (l.length : Int) = p), ?_, ?_⟩
    · cases late
      · walk_at "rd"
        exact fun z => nomatch z.1
      · walk_at "rd"
        refine ⟨small_le (by rw [tx_len]; omega), ?_⟩
        walk_at "rd"
        rw [tx_len]
        refine iti (fun e => ?_) (fun e => ?_)
        · walk_at "rd"
          exact k (some 0) H (Same.refl _) (by unfold LifeIs; rw [if_pos ⟨rfl, e⟩])
        · exact ⟨rfl, rfl, fun z => e z.2⟩
    rintro σ H1 ⟨rfl, rfl, hno⟩
    refine ⟨_, rfl, _, rfl, _, rfl, _, rfl, _, rfl, _, rfl, rfl, rfl, l, p, n, r, bs, ph, late, rfl, S, hR, fun ob H2 S2 hob => ?_⟩
    refine ⟨_, rfl, _, rfl, _, rfl, _, rfl, _, rfl, _, rfl, rfl, rfl, l, p, n, r, bs, ph, late, rfl, S, hR.same S2, fun os H3 S3 hos => ?_⟩
    have hT := fst_or hob hos
    walk_at "rd"
    refine ⟨by show 2 ≤ sizeLine; decide, fun z hz => ?_⟩
    refine ⟨z, rfl, ⟨_, SqL.of upd_same⟩, fun D hD => ?_⟩
    refine lc_filtW (walk_list (xs := [optV ob, optV os])) (fun i => if i = 0 then optV ob else optV os) (fun i => if i = 0 then ob.isSome else os.isSome) hD (show 2 < 10000 by decide) (fun G hS => Same.seq hS (SqL.of upd_same)) ?_ (fun H4 S4 hL4 => ?_)
    · rintro i x G1 G2 R R0 hi hS ⟨rfl, hx⟩ g1 g0
      have hi2 : i < 2 := hi
      rcases (show i = 0 ∨ i = 1 by omega) with rfl | rfl
      · cases hx
        cases ob with
        | none => exact ⟨rfl, _, rfl, rfl, _, rfl, iteF (g0 rfl _ (Same.refl _))⟩
        | some b => exact ⟨rfl, _, rfl, rfl, _, rfl, iteT ⟨_, rfl, g1 rfl _ (Same.refl _)⟩⟩
      · cases hx
        cases os with
        | none => exact ⟨rfl, _, rfl, rfl, _, rfl, iteF (g0 rfl _ (Same.refl _))⟩
        | some b => exact ⟨rfl, _, rfl, rfl, _, rfl, iteT ⟨_, rfl, g1 rfl _ (Same.refl _)⟩⟩
    · have S5 : Same H1 H4 := ((S2.trans S3).trans (Same.upd hz)).trans S4
      have fin : ∀ T, Fst (fun t => Blk l (mIn p late) n bs ph t ∨ Sht l (mIn p late) n bs ph t) T → Q (optV (T.map fun t => if late = true then t + 1 else t)) H4 := fun T h => k _ H4 S5 (by unfold LifeIs; rw [if_neg hno]; exact ⟨T, h, rfl⟩)
      have hts : ∃ ts : List Nat, H4 D = some (.lst (ts.map fun (t : Nat) => V.int (t : Nat))) ∧ ts.length ≤ 2 ∧ ((ts = [] ∧ Fst (fun t => Blk l (mIn p late) n bs ph t ∨ Sht l (mIn p late) n bs ph t) none) ∨
          (1 ≤ ts.length ∧ ∃ x, x ∈ ts ∧ (∀ y, y ∈ ts → x ≤ y) ∧ Fst (fun t => Blk l (mIn p late) n bs ph t ∨ Sht l (mIn p late) n bs ph t) (some x))) := by
        cases ob with
        | none =>
          cases os with
          | none => exact ⟨[], hL4, by decide, .inl ⟨rfl, hT⟩⟩
          | some y => exact ⟨[y], hL4, by simp, .inr ⟨by simp, y, by simp, by simp, hT⟩⟩
        | some x =>
          cases os with
          | none => exact ⟨[x], hL4, by simp, .inr ⟨by simp, x, by simp, by simp, hT⟩⟩
          | some y =>
            refine ⟨[x, y], hL4, by simp, .inr ⟨by simp, if y < x then y else x, ?_, fun z hz => ?_, hT⟩⟩
            · split <;> simp
            · rcases List.mem_cons.mp hz with rfl | hz
              · split <;> omega
              · rw [List.mem_singleton.mp hz]; split <;> omega
      obtain ⟨ts, hD4, tl, hc⟩ := hts
      clear hL4
      refine ⟨fun σ H' => σ = [some (.str (tx l)), some (.int p), some (.int n), some (.ref r), some (.int ph), some (.bl late), some (optV ob), some (optV os), some (.ref D), none] ∧ H' = H4 ∧ 1 ≤ ts.length, ?_, ?_⟩
      · walk_at "rd"
        refine ⟨D, _, rfl, .inl (SqL.of hD4), ?_⟩
        rw [List.length_map]
        walk_at "rd"
        refine iti (fun e => ?_) (fun e => ?_)
        · walk_at "rd"
          rcases hc with ⟨_, h0⟩ | ⟨h1, _⟩
          · exact fin none h0
          · omega
        · exact ⟨rfl, rfl, by omega⟩
      rintro σ H5 ⟨rfl, rfl, t1⟩
      rcases hc with ⟨h0, _⟩ | ⟨_, x, hx, hle, hF⟩
      · rw [h0] at t1; cases t1
      have key := fin (some x) hF
      have hD5 : H5 D = some (.lst ((ts.map fun (t : Nat) => ((t : Nat) : Int)).map V.int)) := by rw [hD4, List.map_map]; rfl
      have uniq : ∀ m : Int, m ∈ (ts.map fun (t : Nat) => ((t : Nat) : Int)) → (∀ y, y ∈ (ts.map fun (t : Nat) => ((t : Nat) : Int)) → m ≤ y) → m = (x : Nat) := fun m hm hle2 => by
        obtain ⟨y, hy, rfl⟩ := List.mem_map.mp hm
        have q1 := hle y hy
        have q2 := hle2 _ (List.mem_map.mpr ⟨x, hx, rfl⟩)
        omega
      cases late
      · refine ⟨_, rfl, _, rfl, iteF ?_⟩
        refine ⟨_, rfl, D, _, rfl, SqL.of hD5, by rw [List.length_map]; exact t1, fun m hm hle2 => ?_⟩
        rw [uniq m hm hle2]
        exact key
      · refine ⟨_, rfl, _, rfl, iteT ?_⟩
        refine ⟨_, rfl, D, _, rfl, SqL.of hD5, by rw [List.length_map]; exact t1, fun m hm hle2 => ?_⟩
        rw [uniq m hm hle2]
        walk_at "rd"
        exact key
end
end Cl

/-! ### the newest play from any standing, and its life -/
namespace Cl
theorem one_count : ∀ u : List Bool, one u = u.count true
  | [] => rfl
  | true :: u => by rw [List.count_cons_self, ← one_count u]; rfl
  | false :: u => by rw [List.count_cons_of_ne (by decide), ← one_count u]; rfl
theorem trim_nrm : ∀ u : List Bool, trim u = nrm u
  | [] => rfl
  | true :: u => rfl
  | false :: u => trim_nrm u
theorem hd_wd {u : List Bool} : Hd u ↔ Wd u := by
  cases u with
  | nil => exact ⟨fun _ => .inl rfl, fun _ => trivial⟩
  | cons b r =>
    constructor
    · intro h
      have h : b = true := h
      exact .inr ⟨r, by rw [h]⟩
    · rintro (h | ⟨r', h⟩)
      · cases h
      · cases h; rfl
/-- what stands from the one with the index k on -/
def sfx : Nat → List Bool → List Bool
  | _, [] => []
  | k, false :: u => sfx k u
  | 0, true :: u => true :: u
  | k + 1, true :: u => sfx k u
theorem sfx0 : ∀ u : List Bool, sfx 0 u = trim u
  | [] => rfl
  | true :: u => rfl
  | false :: u => sfx0 u
theorem one_sfx : ∀ (k : Nat) (u : List Bool), one (sfx k u) = one u - k
  | _, [] => by simp [sfx, one]
  | k, false :: u => one_sfx k u
  | 0, true :: u => rfl
  | k + 1, true :: u => by
    have := one_sfx k u
    show one (sfx k u) = one u + 1 - (k + 1)
    omega
theorem sfx_next : ∀ {k : Nat} {u : List Bool}, k < one u → ∃ r, sfx k u = true :: r ∧ trim r = sfx (k + 1) u
  | _, [], h => by simp [one] at h
  | k, false :: u, h => sfx_next (k := k) (u := u) h
  | 0, true :: u, _ => ⟨u, rfl, (sfx0 u).symm⟩
  | k + 1, true :: u, h => sfx_next (k := k) (u := u) (by have : k + 1 < one u + 1 := h; omega)
theorem sfx_len : ∀ {k : Nat} {u : List Bool}, k < one u → ((sfx k u).length : Int) = (dps u).getD k 0
  | _, [], h => by simp [one] at h
  | k, false :: u, h => by
    rw [dps_cons, if_neg Bool.false_ne_true, List.nil_append]
    exact sfx_len (k := k) (u := u) h
  | 0, true :: u, _ => by
    rw [dps_cons, if_pos rfl]
    show ((u.length + 1 : Nat) : Int) = _
    simp
  | k + 1, true :: u, h => by
    rw [dps_cons, if_pos rfl]
    exact sfx_len (k := k) (u := u) (by have : k + 1 < one u + 1 := h; omega)
theorem carry_sfx {k : Nat} {u x : List Bool} (h : k + 1 < one u) : carry (sfx k u ++ x) = sfx (k + 1) u ++ (x ++ [true]) := by
  obtain ⟨r, e1, e2⟩ := sfx_next (k := k) (u := u) (by omega)
  have hr : one r = one u - (k + 1) := by rw [← one_trim, e2, one_sfx]
  unfold carry
  rw [e1]
  show trim ((r ++ x) ++ [true]) = _
  rw [List.append_assoc, trim_app_one _ _ (by omega), e2]
theorem carries_sfx {k : Nat} {u x : List Bool} : ∀ {c : Nat}, k + c < one u → carries c (sfx k u ++ x) = sfx (k + c) u ++ (x ++ ones c)
  | 0, _ => by
    show sfx k u ++ x = sfx k u ++ (x ++ [])
    rw [List.append_nil]
  | c + 1, h => by
    show carry (carries c (sfx k u ++ x)) = _
    rw [carries_sfx (by omega), carry_sfx (by omega), List.append_assoc, ← ones_succ]; rfl
theorem O_ge {j : Nat} {x : List Bool} (h : zer x ≤ j) : ∀ v : List Bool, one x ≤ O j (v ++ x)
  | [] => by rw [List.nil_append, O_all h]; exact Nat.le_refl _
  | b :: v => by
    have ih := O_ge h v
    show one x ≤ (if zer (b :: (v ++ x)) ≤ j then one (b :: (v ++ x)) else O j (v ++ x))
    split
    · have e : one (b :: (v ++ x)) = one [b] + (one v + one x) := by
        rw [show b :: (v ++ x) = [b] ++ (v ++ x) by rfl, one_app, one_app]
      omega
    · exact ih
/-- the words from which records are carried, put after put -/
def R (K : Nat) (b : Nat → Nat) (u0 : List Bool) : Nat → List Bool
  | 0 => u0
  | t + 1 => U K (V' (b t) (R K b u0 t) ++ [true])
section
variable {K n : Nat} {b : Nat → Nat} {u0 : List Bool}
theorem U_step {y : List Bool} (hy : Hd y) : U K (y ++ [true]) = trim (y ++ [if K ≤ one y + 1 then false else true]) := by
  unfold U
  have e : one (y ++ [true]) = one y + 1 := by rw [one_app]; rfl
  rw [e, List.dropLast_concat]
  split
  · rfl
  · rw [trim_hd]
    cases y with
    | nil => rfl
    | cons c r => exact hy
theorem R_one (hK : 1 ≤ K) (h0 : Hd u0) (h1 : one u0 + 1 ≤ K) : ∀ t, Hd (R K b u0 t) ∧ one (R K b u0 t) = min (one u0 + t) (K - 1)
  | 0 => ⟨h0, by show one u0 = _; omega⟩
  | t + 1 => by
    obtain ⟨a, c⟩ := R_one hK h0 h1 t
    obtain ⟨d1, d2, d3, d4⟩ := V_dat (c := b t) a
    show Hd (U K (V' (b t) (R K b u0 t) ++ [true])) ∧ one (U K (V' (b t) (R K b u0 t) ++ [true])) = _
    rw [U_step d1]
    refine ⟨hd_trim _, ?_⟩
    rw [one_trim, one_app, d2, c]
    split
    · show _ + 0 = _; omega
    · show _ + 1 = _; omega
/-- f: the first moment at which all keys but one stand -/
theorem R_form (hK : 1 ≤ K) (h0 : Hd u0) (h1 : one u0 + 1 ≤ K) {f : Nat} (hf : ∀ t, t + 1 < f → one u0 + t + 1 < K) : ∀ t,
    (S b 0 t < one u0 → ∃ x, R K b u0 t = sfx (S b 0 t) u0 ++ x ∧ x.length = S b 0 t + t ∧ zer x ≤ t + 1 - f) ∧ (one u0 ≤ S b 0 t → zer (R K b u0 t) ≤ t + 1 - f)
  | 0 => by
    refine ⟨fun _ => ⟨[], ?_, rfl, Nat.zero_le _⟩, fun h => ?_⟩
    · show u0 = sfx 0 u0 ++ []
      rw [sfx0, trim_hd h0, List.append_nil]
    · have : u0 = [] := by
        cases u0 with
        | nil => rfl
        | cons c r =>
          have hc : c = true := h0
          have e : one (true :: r) ≤ 0 := by rw [hc] at h; exact h
          simp only [one] at e
          omega
      show zer u0 ≤ _
      rw [this]; exact Nat.zero_le _
  | t + 1 => by
    obtain ⟨iA, iB⟩ := R_form hK h0 h1 hf t
    obtain ⟨a, c⟩ := R_one (b := b) hK h0 h1 t
    obtain ⟨d1, d2, d3, d4⟩ := V_dat (c := b t) a
    have eS : S b 0 (t + 1) = S b 0 t + b t := by show S b 0 t + b (0 + t) = _; rw [Nat.zero_add]
    have eR : R K b u0 (t + 1) = trim (V' (b t) (R K b u0 t) ++ [if K ≤ one (V' (b t) (R K b u0 t)) + 1 then false else true]) := U_step d1
    have zl : zer [if K ≤ one (V' (b t) (R K b u0 t)) + 1 then false else true] + (t + 1 - f) ≤ t + 1 + 1 - f := by
      split
      · rename_i q
        rw [d2, c] at q
        have : zer [false] = 1 := rfl
        have : ¬ (t + 1 < f) := fun z => by have := hf t z; omega
        omega
      · have : zer [true] = 0 := rfl
        omega
    rw [eR, eS]
    refine ⟨fun h => ?_, fun h => ?_⟩
    · obtain ⟨x, e1, e2, e3⟩ := iA (by omega)
      have o1 : one (R K b u0 t) = (one u0 - S b 0 t) + one x := by rw [e1, one_app, one_sfx]
      have hc : min (one (R K b u0 t)) (b t) = b t := by omega
      have ev : V' (b t) (R K b u0 t) = sfx (S b 0 t + b t) u0 ++ (x ++ ones (b t)) := by
        unfold V'
        rw [hc, e1, carries_sfx h]
      refine ⟨x ++ ones (b t) ++ [if K ≤ one (V' (b t) (R K b u0 t)) + 1 then false else true], ?_, ?_, ?_⟩
      · generalize (if K ≤ one (V' (b t) (R K b u0 t)) + 1 then false else true) = z
        rw [ev, List.append_assoc]
        obtain ⟨r, q, _⟩ := sfx_next h
        rw [q]; rfl
      · rw [List.length_append, List.length_append, ones_len, List.length_singleton, e2]; omega
      · have zo : zer (ones (b t)) = 0 := by have := wlen (ones (b t)); rw [ones_len, one_ones] at this; omega
        rw [zer_app, zer_app, zo]; omega
    · have zt := zer_trim (V' (b t) (R K b u0 t) ++ [if K ≤ one (V' (b t) (R K b u0 t)) + 1 then false else true])
      rw [zer_app] at zt
      rcases Nat.lt_or_ge (S b 0 t) (one u0) with q | q
      · obtain ⟨x, e1, e2, e3⟩ := iA q
        have o1 : one (R K b u0 t) = (one u0 - S b 0 t) + one x := by rw [e1, one_app, one_sfx]
        have oge := O_ge (Nat.le_refl (zer x)) (sfx (S b 0 t) u0)
        rw [← e1] at oge
        have o4 := d4 (zer x)
        have := O_few (j := zer x) d1 (by omega)
        omega
      · have := iB q
        omega
/-- from a moment at which all keys but one stand, what was carried since stands behind the last unneeded records -/
theorem O_R (hK : 1 ≤ K) (h0 : Hd u0) (h1 : one u0 + 1 ≤ K) {s : Nat} (hs : K ≤ one u0 + s + 1) (hO : O 0 (R K b u0 s) = 0) : ∀ j, O j (R K b u0 (s + j)) = min (K - 1) (S b s j)
  | 0 => by rw [Nat.add_zero, hO]; show 0 = min _ 0; omega
  | j + 1 => by
    have ih := O_R hK h0 h1 hs hO j
    obtain ⟨a, c⟩ := R_one (b := b) hK h0 h1 (s + j)
    obtain ⟨d1, d2, d3, d4⟩ := V_dat (c := b (s + j)) a
    have eR : R K b u0 (s + j + 1) = trim (V' (b (s + j)) (R K b u0 (s + j)) ++ [if K ≤ one (V' (b (s + j)) (R K b u0 (s + j))) + 1 then false else true]) := U_step d1
    rw [if_pos (by rw [d2, c]; omega)] at eR
    rw [show s + (j + 1) = s + j + 1 by omega, eR, O_trim, O_zero, d4, ih, c]
    show _ = min (K - 1) (S b s j + b (s + j))
    omega
theorem O_full (hK : 1 ≤ K) (h0 : Hd u0) (h1 : one u0 + 1 ≤ K) {s : Nat} (hs : K ≤ one u0 + s + 1) : O 0 (R K b u0 (s + 1)) = 0 := by
  obtain ⟨a, c⟩ := R_one (b := b) hK h0 h1 s
  obtain ⟨d1, d2, d3, d4⟩ := V_dat (c := b s) a
  have eR : R K b u0 (s + 1) = trim (V' (b s) (R K b u0 s) ++ [if K ≤ one (V' (b s) (R K b u0 s)) + 1 then false else true]) := U_step d1
  rw [if_pos (by rw [d2, c]; omega)] at eR
  rw [eR, O_trim]
  exact O_last
end
end Cl

/-! ### the formula of a life -/
namespace Cl
theorem O_tail {u : List Bool} (h : ∀ d ∈ dps u, 2 ≤ d) : O 0 u = 0 := by
  rcases List.eq_nil_or_concat u with rfl | ⟨v, c, rfl⟩
  · rfl
  · rw [List.concat_eq_append] at h ⊢
    cases c with
    | false => exact O_last
    | true =>
      have := h 1 (by rw [dps_snoc]; simp)
      omega
/-- the word from which the first put carries: the newest record is released where all keys live -/
def start (l : List Bool) (n : Int) : List Bool := if ((l.count true : Nat) : Int) = n then wout l (some (l.count true - 1)) else l
theorem start_dat {l : List Bool} {n : Int} (w : Wd l) (n1 : 1 ≤ n) (hc : ((l.count true : Nat) : Int) ≤ n) :
    Hd (start l n) ∧ one (start l n) = min (l.count true) (n.toNat - 1) ∧ (∀ k, k < one (start l n) → (dps (start l n)).getD k 0 = (dps l).getD k 0) ∧ (((l.count true : Nat) : Int) = n → O 0 (start l n) = 0) ∧ (start l n).length ≤ l.length := by
  by_cases e : ((l.count true : Nat) : Int) = n
  · have hk : l.count true - 1 < l.count true := by omega
    have es : start l n = wout l (some (l.count true - 1)) := if_pos e
    have ed := dps_wout hk
    have hl : (dps l).length = l.count true := dps_len l
    rw [es]
    have on : one (wout l (some (l.count true - 1))) = l.count true - 1 := by rw [one_count, ← dps_len, ed, erase_len (by omega), hl]
    refine ⟨hd_wd.mpr (wout_wd w _), by omega, fun k h => ?_, fun _ => O_tail fun d hd => ?_, wout_len _⟩
    · rw [ed, getD_erase, if_pos (by omega)]
    · rw [ed] at hd
      obtain ⟨i, hi, hd⟩ := List.getElem_of_mem hd
      rw [erase_len (by omega)] at hi
      have F := fall_dps l
      have e2 : ((dps l).eraseIdx (l.count true - 1)).getD i 0 = d := by
        rw [List.getD_eq_getElem?_getD, List.getElem?_eq_getElem (by rw [erase_len (by omega)]; exact hi), hd]; rfl
      rw [getD_erase, if_pos (by omega)] at e2
      have := F.lt i (by omega)
      have := F.ge (i + 1) (by omega)
      omega
  · have es : start l n = l := if_neg e
    rw [es]
    exact ⟨hd_wd.mpr w, by rw [one_count]; omega, fun _ _ => rfl, fun z => absurd z e, Nat.le_refl _⟩
theorem stall_iff {l : List Bool} {m n : Int} {bs : List Int} {ph : Int} (w : Wd l) (n1 : 1 ≤ n) (hc : ((l.count true : Nat) : Int) ≤ n) (m0 : 0 ≤ m) (nm : n ≤ m + 1) (ok : Okb bs) (t : Nat) :
    (m ≤ ((R n.toNat (bud bs ph) (start l n) t).length : Int)) ↔ (Blk l m n bs ph t ∨ Sht l m n bs ph t) := by
  obtain ⟨K, rfl⟩ : ∃ K : Nat, n = (K : Nat) := ⟨n.toNat, (Int.toNat_of_nonneg (by omega)).symm⟩
  obtain ⟨M, rfl⟩ : ∃ M : Nat, m = (M : Nat) := ⟨m.toNat, (Int.toNat_of_nonneg m0).symm⟩
  rw [Int.toNat_natCast]
  obtain ⟨s1, s2, s3, s4, s5⟩ := start_dat w n1 hc
  rw [Int.toNat_natCast] at s2
  generalize hu : start l ((K : Nat) : Int) = u0 at *
  obtain ⟨c, ec⟩ : ∃ c, l.count true = c := ⟨_, rfl⟩
  rw [ec] at s2 s4 hc
  have hK : 1 ≤ K := by omega
  have h1 : one u0 + 1 ≤ K := by omega
  have St : ((S (bud bs ph) 0 t : Nat) : Int) = tot bs ph (t : Nat) := by
    have := S_tot (ph := ph) ok 0 t
    rw [this]; congr 1; omega
  have hf : ∀ t', t' + 1 < K - c → one u0 + t' + 1 < K := fun t' h => by omega
  obtain ⟨fA, fB⟩ := R_form (b := bud bs ph) hK s1 h1 hf t
  obtain ⟨r1, r2⟩ := R_one (b := bud bs ph) hK s1 h1 t
  unfold Blk Sht fst1
  rw [ec]
  rcases Nat.lt_or_ge (S (bud bs ph) 0 t) (one u0) with q | q
  · obtain ⟨x, e1, e2, e3⟩ := fA q
    clear fA fB
    have el : ((R K (bud bs ph) u0 t).length : Int) = (dps l).getD (S (bud bs ph) 0 t) 0 + (S (bud bs ph) 0 t : Nat) + (t : Nat) := by
      rw [e1, List.length_append, e2, ← s3 _ q, ← sfx_len q]; omega
    have ql : S (bud bs ph) 0 t < one l := by rw [one_count, ec]; omega
    have dl := sfx_len ql
    have dl2 := wlen (sfx (S (bud bs ph) 0 t) l)
    rw [one_sfx, one_count, ec] at dl2
    rw [← St, Int.toNat_natCast]
    constructor
    · intro h
      exact .inl ⟨by split <;> omega, by omega⟩
    · rintro (h | h)
      · have := h.2; omega
      · have := h.1; split at this <;> omega
  · have zB := fB q
    clear fA fB
    have wl := wlen (R K (bud bs ph) u0 t)
    have nb : ¬ ((tot bs ph (t : Nat) < if ((K : Nat) : Int) - 1 < ((c : Nat) : Int) then ((K : Nat) : Int) - 1 else ((c : Nat) : Int)) ∧ ((M : Nat) : Int) ≤ (dps l).getD (tot bs ph (t : Nat)).toNat 0 + tot bs ph (t : Nat) + (t : Nat)) := fun z => by
      have := z.1
      split at this <;> omega
    rw [or_iff_right nb]
    by_cases ht : t < K - c
    · constructor
      · intro h
        exact ⟨by split <;> omega, .inl (by omega)⟩
      · intro h
        have := h.1
        split at this <;> omega
    · by_cases hM : M < K
      · constructor
        · intro _
          exact ⟨by split <;> omega, .inl (by omega)⟩
        · intro _; omega
      · by_cases h2 : ((t : Nat) : Int) < ((M : Nat) : Int) - ((c : Nat) : Int)
        · constructor
          · intro h; omega
          · intro h
            have := h.1
            rw [if_pos (by omega)] at this
            omega
        · obtain ⟨j, ej⟩ : ∃ j : Nat, M = K + j := ⟨M - K, by omega⟩
          obtain ⟨s, es⟩ : ∃ s : Nat, t = s + j := ⟨t - j, by omega⟩
          have hO : O 0 (R K (bud bs ph) u0 s) = 0 := by
            cases s with
            | zero => exact s4 (by omega)
            | succ s' => exact O_full hK s1 h1 (by omega)
          have key := O_R (b := bud bs ph) hK s1 h1 (s := s) (by omega) hO j
          rw [← es] at key
          have Ss := S_tot (ph := ph) ok s j
          have ea : ph + ((t : Nat) : Int) - (((M : Nat) : Int) - ((K : Nat) : Int)) = ph + ((s : Nat) : Int) := by omega
          have eb : ((M : Nat) : Int) - ((K : Nat) : Int) = ((j : Nat) : Int) := by omega
          rw [ea, eb, ← Ss]
          constructor
          · intro h
            refine ⟨by split <;> omega, .inr ?_⟩
            refine Classical.byContradiction fun z => ?_
            have := O_few (j := j) r1 (by omega)
            omega
          · rintro ⟨_, h | h⟩
            · omega
            · refine Classical.byContradiction fun z => ?_
              have := O_all (j := j) (u := R K (bud bs ph) u0 t) (by omega)
              omega
end Cl

/-! ### the play put by put -/
namespace Cl
/-- the newest play's key -/
def newIx (w : List Bool) (n : Int) : Option Nat := if ((w.count true : Nat) : Int) = n then some (w.count true - 1) else none
theorem newIx_ok {w : List Bool} {n : Int} (n1 : 1 ≤ n) : ∀ k, newIx w n = some k → k < w.count true := fun k h => by
  unfold newIx at h
  split at h
  · cases h; omega
  · cases h
theorem wout_new (w : List Bool) (n : Int) : wout w (newIx w n) = start w n := by
  unfold newIx start
  split <;> rfl
/-- the words after the puts of the newest play -/
def ply (p n : Int) (b : Nat → Nat) (late : Bool) (l : List Bool) : Nat → Option (List Bool)
  | 0 => some l
  | t + 1 => match ply p n b late l t with
    | none => none
    | some w => stepR w (newIx w n) (b t : Nat) p late
theorem mvd_carries {p : Int} {X : List Bool} (w : Hd X) (h : (X.length : Int) < p) : ∀ {N : Nat}, N ≤ one X → mvd p N X = carries N X
  | 0, _ => rfl
  | N + 1, hN => by
    have ih := mvd_carries w h (N := N) (by omega)
    have ml := mvd_len (p := p) (l := X) N
    obtain ⟨a, b, c, d⟩ := carries_dat w (n := N) (.inr (by omega))
    have ne : carries N X ≠ [] := ne_of_one (by omega)
    show mv1 p (mvd p N X) = carry (carries N X)
    rw [ih] at ml ⊢
    unfold mv1 carry
    rw [if_neg (by rintro (z | z)
                   · exact ne z
                   · omega), trim_nrm, List.drop_one]
theorem early_step {w : List Bool} {n p : Int} {c : Nat} (ww : Wd w) (n1 : 1 ≤ n) (hc : ((w.count true : Nat) : Int) ≤ n) (hp : (w.length : Int) ≤ p) :
    stepR w (newIx w n) (c : Nat) p false = if p ≤ ((start w n).length : Int) then none else some (V' c (start w n) ++ [true]) := by
  obtain ⟨s1, s2, s3, s4, s5⟩ := start_dat ww n1 hc
  unfold stepR
  rw [if_neg Bool.false_ne_true, wout_new]
  generalize start w n = X at *
  have wx := hd_wd.mp s1
  by_cases h : p ≤ (X.length : Int)
  · have hf : (X.length : Int) = p := by omega
    have st : ∀ N, mvd p N X = X := fun N => mvd_stuck (n := 0) (.inr hf) N (Nat.zero_le _)
    rw [st, if_pos hf, if_pos h]
  · have hlt : (X.length : Int) < p := by omega
    have eN : (if ((X.count true : Nat) : Int) < ((c : Nat) : Int) then ((X.count true : Nat) : Int) else ((c : Nat) : Int)).toNat = min (one X) c := by
      rw [one_count]
      split <;> omega
    rw [eN]
    have ml := mvd_len (p := p) (l := X) (min (one X) c)
    have wm := mvd_wd (p := p) wx (min (one X) c)
    have e := mvd_carries (p := p) s1 hlt (N := min (one X) c) (by omega)
    rw [if_neg (by omega), if_neg h, nrm_wd (wdp wm), e]
    rfl
theorem start_next {y : List Bool} {n : Int} (hy : Hd y) (n1 : 1 ≤ n) (h : ((one y : Nat) : Int) + 1 ≤ n) : start (y ++ [true]) n = U n.toNat (y ++ [true]) := by
  have e1 : (y ++ [true]).count true = y.count true + 1 := by rw [List.count_append]; rfl
  have e2 : one (y ++ [true]) = one y + 1 := by rw [one_app]; rfl
  have e3 := one_count y
  unfold start U
  rw [e1, e2]
  by_cases q : ((y.count true + 1 : Nat) : Int) = n
  · rw [if_pos q, if_pos (by omega), Nat.add_sub_cancel, List.dropLast_concat]
    have e4 : (onesAt (y ++ [true]))[y.count true]? = some y.length := by rw [ones_push, List.getElem?_append_right (by rw [ones_count]; exact Nat.le_refl _), ones_count, Nat.sub_self]; rfl
    show (match (onesAt (y ++ [true]))[y.count true]? with | some a => nrm ((y ++ [true]).set a false) | none => y ++ [true]) = _
    rw [e4]
    show nrm ((y ++ [true]).set y.length false) = _
    rw [List.set_append_right _ _ (Nat.le_refl _), Nat.sub_self, trim_nrm]; rfl
  · rw [if_neg q, if_neg (by omega)]
section
variable {l : List Bool} {p n : Int} {b : Nat → Nat}
/-- as long as nothing stalls the play goes on -/
theorem ply_early (w : Wd l) (n1 : 1 ≤ n) (hc : ((l.count true : Nat) : Int) ≤ n) (hp : (l.length : Int) ≤ p) : ∀ t, (∀ s, s < t → ¬ p ≤ ((R n.toNat b (start l n) s).length : Int)) →
    ∃ v, ply p n b false l t = some v ∧ Wd v ∧ ((v.count true : Nat) : Int) ≤ n ∧ (v.length : Int) ≤ p ∧ start v n = R n.toNat b (start l n) t
  | 0, _ => ⟨l, rfl, w, hc, hp, rfl⟩
  | t + 1, h => by
    obtain ⟨v, e, wv, cv, lv, sv⟩ := ply_early w n1 hc hp t fun s hs => h s (by omega)
    obtain ⟨s1, s2, s3, s4, s5⟩ := start_dat wv n1 cv
    have es := early_step (c := b t) wv n1 cv lv
    rw [sv] at es s1 s2
    rw [if_neg (h t (by omega))] at es
    obtain ⟨d1, d2, d3, d4⟩ := V_dat (c := b t) s1
    have ht := h t (by omega)
    refine ⟨V' (b t) (R n.toNat b (start l n) t) ++ [true], ?_, wdp (hd_wd.mp d1), ?_, ?_, ?_⟩
    · show (match ply p n b false l t with | none => none | some w => stepR w (newIx w n) (b t : Nat) p false) = _
      rw [e]; exact es
    · rw [List.count_append, ← one_count, d2]
      show ((_ + 1 : Nat) : Int) ≤ n
      omega
    · rw [List.length_append, List.length_singleton, wlen]
      rw [wlen] at ht
      omega
    · rw [start_next d1 n1 (by omega)]; rfl
theorem ply_early_stop (w : Wd l) (n1 : 1 ≤ n) (hc : ((l.count true : Nat) : Int) ≤ n) (hp : (l.length : Int) ≤ p) {t : Nat} (h : ∀ s, s < t → ¬ p ≤ ((R n.toNat b (start l n) s).length : Int)) (ht : p ≤ ((R n.toNat b (start l n) t).length : Int)) :
    ply p n b false l (t + 1) = none := by
  obtain ⟨v, e, wv, cv, lv, sv⟩ := ply_early w n1 hc hp t h
  have es := early_step (c := b t) wv n1 cv lv
  rw [sv, if_pos ht] at es
  show (match ply p n b false l t with | none => none | some w => stepR w (newIx w n) (b t : Nat) p false) = _
  rw [e]; exact es
/-- the late play in one place more goes the same way -/
theorem ply_late (w : Wd l) (n1 : 1 ≤ n) (hc : ((l.count true : Nat) : Int) ≤ n) (hp : (l.length : Int) ≤ p) : ∀ t, (∀ s, s < t → ¬ p ≤ ((R n.toNat b (start l n) s).length : Int)) → ply (p + 1) n b true l t = ply p n b false l t
  | 0, _ => rfl
  | t + 1, h => by
    have ih := ply_late w n1 hc hp t fun s hs => h s (by omega)
    obtain ⟨v, e, wv, cv, lv, sv⟩ := ply_early (b := b) w n1 hc hp t fun s hs => h s (by omega)
    have es := early_step (c := b t) wv n1 cv lv
    rw [sv, if_neg (h t (by omega))] at es
    obtain ⟨r, er, e1, e2⟩ := twin_steps (c := ((b t : Nat) : Int)) wv (newIx_ok (w := v) n1) (by omega) lv
    have := e2 _ es
    show (match ply (p + 1) n b true l t with | none => none | some w => stepR w (newIx w n) (b t : Nat) (p + 1) true) = (match ply p n b false l t with | none => none | some w => stepR w (newIx w n) (b t : Nat) p false)
    rw [ih, e]
    show stepR v (newIx v n) (b t : Nat) (p + 1) true = stepR v (newIx v n) (b t : Nat) p false
    rw [er, es, this]
theorem ply_late_stop (w : Wd l) (n1 : 1 ≤ n) (hc : ((l.count true : Nat) : Int) ≤ n) (hp : (l.length : Int) ≤ p) {t : Nat} (h : ∀ s, s < t → ¬ p ≤ ((R n.toNat b (start l n) s).length : Int)) (ht : p ≤ ((R n.toNat b (start l n) t).length : Int)) :
    (∃ r, ply (p + 1) n b true l (t + 1) = some r) ∧ ply (p + 1) n b true l (t + 2) = none := by
  obtain ⟨v, e, wv, cv, lv, sv⟩ := ply_early w n1 hc hp t h
  have es := early_step (c := b t) wv n1 cv lv
  rw [sv, if_pos ht] at es
  obtain ⟨r, er, e1, e2⟩ := twin_steps (c := ((b t : Nat) : Int)) wv (newIx_ok (w := v) n1) (by omega) lv
  have hr := e1 es
  have e3 : ply (p + 1) n b true l (t + 1) = some r := by
    show (match ply (p + 1) n b true l t with | none => none | some w => stepR w (newIx w n) (b t : Nat) (p + 1) true) = _
    rw [ply_late w n1 hc hp t h, e]; exact er
  refine ⟨⟨r, e3⟩, ?_⟩
  show (match ply (p + 1) n b true l (t + 1) with | none => none | some w => stepR w (newIx w n) (b (t + 1) : Nat) (p + 1) true) = _
  rw [e3]
  show stepR r (newIx r n) (b (t + 1) : Nat) (p + 1) true = none
  unfold stepR
  rw [if_pos rfl, if_pos hr]
theorem ply_none {late : Bool} : ∀ {t s : Nat}, t ≤ s → ply p n b late l t = none → ply p n b late l s = none
  | t, 0, h, e => by rw [show t = 0 by omega] at e; exact e
  | t, s + 1, h, e => by
    rcases Nat.lt_or_ge t (s + 1) with q | q
    · have := ply_none (t := t) (s := s) (by omega) e
      show (match ply p n b late l s with | none => none | some w => stepR w (newIx w n) (b s : Nat) p late) = _
      rw [this]
    · rw [show s + 1 = t by omega]; exact e
end
/-- a standing's life is the number of puts that the play completes, and it is below a bound if it is a number -/
theorem life_play {l : List Bool} {p n : Int} {bs : List Int} {ph : Int} {late : Bool} {o : Option Nat} (S : Std l p n bs ph) (h : LifeIs l p n bs ph late o) :
    (∀ t, (ply p n (bud bs ph) late l t ≠ none ↔ ∀ g, o = some g → t ≤ g)) ∧ ∀ g, o = some g → (g : Int) < p + bs.length + 1 := by
  have w := S.w
  have n1 := S.n1
  have hc := S.cnt
  have hp := S.len
  have np := S.np
  have l1 := S.ok.l1
  have fin : ∀ g : Nat, (∃ r, ply p n (bud bs ph) late l g = some r) → ply p n (bud bs ph) late l (g + 1) = none → ∀ t, (ply p n (bud bs ph) late l t ≠ none ↔ ∀ g', some g = some g' → t ≤ g') := fun g h1 h2 t => by
    obtain ⟨r, h1⟩ := h1
    constructor
    · intro a g' e
      cases e
      refine Classical.byContradiction fun z => a (ply_none (t := g + 1) (by omega) h2)
    · intro a z
      have := ply_none (s := g) (a g rfl) z
      rw [h1] at this; cases this
  unfold LifeIs at h
  split at h
  · rename_i q
    subst h
    obtain ⟨rfl, q⟩ := q
    refine ⟨fin 0 ⟨l, rfl⟩ ?_, fun g e => by cases e; omega⟩
    show stepR l (newIx l n) (bud bs ph 0 : Nat) p true = none
    unfold stepR
    rw [if_pos rfl, if_pos q]
  · rename_i q
    obtain ⟨T, hT, rfl⟩ := h
    have m0 : 0 ≤ mIn p late := by unfold mIn; split <;> omega
    have nm : n ≤ mIn p late + 1 := by unfold mIn; split <;> omega
    have lm : (l.length : Int) ≤ mIn p late := by
      unfold mIn
      split
      · rename_i e
        have : ¬ (l.length : Int) = p := fun z => q ⟨e, z⟩
        omega
      · exact hp
    have key := fun t => stall_iff (m := mIn p late) (ph := ph) w n1 hc m0 nm S.ok t
    have far : ∀ t, Fst (fun t => Blk l (mIn p late) n bs ph t ∨ Sht l (mIn p late) n bs ph t) (some t) → (t : Int) < mIn p late + bs.length + 1 := fun t ht => by
      refine Classical.byContradiction fun z => ?_
      have F0 : 0 ≤ fst1 l (mIn p late) ∧ fst1 l (mIn p late) ≤ mIn p late := by unfold fst1; split <;> omega
      rcases ht.1 with a | a
      · refine blk_far (N := (mIn p late).toNat + 1) S.ok m0 (by omega) (fun s hs b => ht.2 s (by omega) (.inl b)) t a
      · refine sht_far (F0 := (fst1 l (mIn p late)).toNat) (N := bs.length) S.ok (by omega) (Nat.le_refl _) (fun s hs b => ht.2 s (by omega) (.inr b)) t a
    cases T with
    | none =>
      refine ⟨fun t => ⟨fun _ g e => (nomatch e), fun _ => ?_⟩, fun g e => nomatch e⟩
      have nst : ∀ s, s < t → ¬ mIn p late ≤ ((R n.toNat (bud bs ph) (start l n) s).length : Int) := fun s _ z => hT s ((key s).mp z)
      obtain ⟨v, e, _⟩ := ply_early w n1 hc lm t nst
      cases late
      · rw [show mIn p false = p by rfl] at e
        rw [e]; exact fun z => nomatch z
      · have e2 := ply_late w n1 hc lm t nst
        rw [show mIn p true + 1 = p by unfold mIn; rw [if_pos rfl]; omega] at e2
        rw [e2, e]; exact fun z => nomatch z
    | some T =>
      have nst : ∀ s, s < T → ¬ mIn p late ≤ ((R n.toNat (bud bs ph) (start l n) s).length : Int) := fun s hs z => hT.2 s hs ((key s).mp z)
      have st := (key T).mpr hT.1
      have fr := far T hT
      cases late
      · obtain ⟨v, e, _⟩ := ply_early w n1 hc lm T nst
        have e2 := ply_early_stop w n1 hc lm nst st
        rw [show mIn p false = p by rfl] at e e2 fr
        exact ⟨fin T ⟨v, e⟩ e2, fun g z => by cases z; exact fr⟩
      · obtain ⟨e, e2⟩ := ply_late_stop w n1 hc lm nst st
        rw [show mIn p true + 1 = p by unfold mIn; rw [if_pos rfl]; omega] at e e2
        have : mIn p true = p - 1 := if_pos rfl
        refine ⟨fin (T + 1) e e2, fun g z => ?_⟩
        have : T + 1 = g := by simpa using z
        omega
end Cl

/-! ### better words live longer -/
namespace Cl
theorem bdom {l m : List Bool} {i1 i2 : Option Nat} {lim : Int} (d : Dom l m = true) (h1 : ∀ k, i1 = some k → k < l.count true) (hn : i1 = none → ((l.count true : Nat) : Int) < lim) (h2 : (i2 = none ∧ ((m.count true : Nat) : Int) < lim) ∨ (i2 = some (m.count true - 1) ∧ lim ≤ ((m.count true : Nat) : Int))) : Dom (wout l i1) (wout m i2) = true := by
  cases i1 with
  | some k =>
    have hk := h1 k rfl
    rcases h2 with ⟨rfl, _⟩ | ⟨rfl, _⟩
    · exact dom_trans (dom_out hk) d
    · exact dom_out2 hk d
  | none =>
    have hn' := hn rfl
    rcases h2 with ⟨rfl, _⟩ | ⟨rfl, q⟩
    · exact d
    · show Dom l (wout m (some (m.count true - 1))) = true
      exact dom_less2 (by omega) d
theorem newIx_two (m : List Bool) {n : Int} (h : ((m.count true : Nat) : Int) ≤ n) : (newIx m n = none ∧ ((m.count true : Nat) : Int) < n) ∨ (newIx m n = some (m.count true - 1) ∧ n ≤ ((m.count true : Nat) : Int)) := by
  unfold newIx
  split
  · exact .inr ⟨rfl, by omega⟩
  · exact .inl ⟨rfl, by omega⟩
theorem mvd_far {p p' : Int} {X : List Bool} (h : (X.length : Int) < p) (hp : p ≤ p') : ∀ N, mvd p' N X = mvd p N X
  | 0 => rfl
  | N + 1 => by
    have ih := mvd_far h hp N
    have ml := mvd_len (p := p) (l := X) N
    show mv1 p' (mvd p' N X) = mv1 p (mvd p N X)
    rw [ih]
    unfold mv1
    by_cases e : mvd p N X = []
    · rw [if_pos (.inl e), if_pos (.inl e)]
    · rw [if_neg (fun z => z.elim e fun q => by omega), if_neg (fun z => z.elim e fun q => by omega)]
theorem step_places {v r : List Bool} {i : Option Nat} {c p p' : Int} {late : Bool} (W : Wd v) (hi : Ix v i) (hc : 0 ≤ c) (hl : (v.length : Int) ≤ p) (hp : p ≤ p') (h : stepR v i c p late = some r) : ∃ r1, stepR v i c p' late = some r1 ∧ Dom r1 r = true := by
  have wx := wout_wd W i
  have lx := wout_len (l := v) i
  cases late
  · rw [stepR_early W hc] at h ⊢
    split at h
    · cases h
    · rename_i q
      cases h
      have hx : ¬ ((wout v i).length : Int) = p := fun z => q ((mvd_full (by omega)).mpr z)
      have ml := mvd_len (p := p) (l := wout v i) c.toNat
      rw [mvd_far (by omega) hp, if_neg (by omega)]
      exact ⟨_, rfl, dom_refl _⟩
  · rw [stepR_late W hi hc] at h ⊢
    split at h
    · cases h
    · rename_i q
      cases h
      rw [if_neg (by omega)]
      refine ⟨_, rfl, ?_⟩
      have lz : ((wout v i ++ [true]).length : Int) ≤ p := by rw [List.length_append, List.length_singleton]; omega
      by_cases e : ((wout v i ++ [true]).length : Int) < p
      · rw [mvd_far e hp]; exact dom_refl _
      · rw [show mvd p c.toNat (wout v i ++ [true]) = wout v i ++ [true] from mvd_stuck (n := 0) (.inr (by show ((wout v i ++ [true]).length : Int) = p; omega)) c.toNat (Nat.zero_le _)]
        exact dom_more (wdpush wx) (b := 0) c.toNat (Nat.zero_le _)
theorem ply_dom {l l' : List Bool} {p p' n n' : Int} {b b' : Nat → Nat} {late : Bool} (Wl : Wd l) (Wl' : Wd l') (n1 : 1 ≤ n') (hn : n' ≤ n) (hp : p ≤ p') (hb : ∀ t, b t ≤ b' t) (cl : ((l.count true : Nat) : Int) ≤ n) (cl' : ((l'.count true : Nat) : Int) ≤ n') (ll : (l.length : Int) ≤ p) (d : Dom l' l = true) :
    ∀ t v, ply p n b late l t = some v → ∃ v', ply p' n' b' late l' t = some v' ∧ Wd v ∧ Wd v' ∧ ((v.count true : Nat) : Int) ≤ n ∧ ((v'.count true : Nat) : Int) ≤ n' ∧ (v.length : Int) ≤ p ∧ Dom v' v = true
  | 0, v, h => by
    cases h
    exact ⟨l', rfl, Wl, Wl', cl, cl', ll, d⟩
  | t + 1, r, h => by
    have h : (match ply p n b late l t with | none => none | some w => stepR w (newIx w n) (b t : Nat) p late) = some r := h
    cases hv : ply p n b late l t with
    | none => rw [hv] at h; cases h
    | some v =>
      rw [hv] at h
      have h : stepR v (newIx v n) (b t : Nat) p late = some r := h
      obtain ⟨v', hv', wv, wv', cv, cv', lv, dv⟩ := ply_dom Wl Wl' n1 hn hp hb cl cl' ll d t v hv
      have ix1 : Ix v' (newIx v' n') := newIx_ok n1
      have ix2 : Ix v (newIx v n) := newIx_ok (by omega)
      obtain ⟨r1, e1, d1⟩ := step_places wv ix2 (by omega) lv hp h
      have bt := hb t
      have two := newIx_two v' cv'
      have hx : Dom (wout v' (newIx v' n')) (wout v (newIx v n)) = true := bdom dv ix1 (fun e => by
        rcases two with ⟨_, q⟩ | ⟨q, _⟩
        · omega
        · rw [q] at e; cases e) (newIx_two v cv)
      obtain ⟨r2, e2, d2⟩ := step_dom (c1 := ((b' t : Nat) : Int)) wv' wv ix1 ix2 (by omega) (by omega) (by omega) dv hx e1
      have lv' := dom_len wv' wv dv
      obtain ⟨a1, a2, a3⟩ := step_word wv ix2 (by omega) lv h
      obtain ⟨c1, c2, c3⟩ := step_word wv' ix1 (by omega) (by omega) e2
      refine ⟨r2, ?_, a1, c1, ?_, ?_, a3, dom_trans d2 d1⟩
      · show (match ply p' n' b' late l' t with | none => none | some w => stepR w (newIx w n') (b' t : Nat) p' late) = _
        rw [hv']; exact e2
      · rw [a2]
        rcases newIx_two v cv with ⟨q, _⟩ | ⟨q, _⟩ <;> rw [q] <;> simp <;> omega
      · rw [c2]
        rcases two with ⟨q, _⟩ | ⟨q, _⟩ <;> rw [q] <;> simp <;> omega
/-- from the second put on it is the play from the next word -/
theorem ply_shift {l v : List Bool} {p n : Int} {b : Nat → Nat} {late : Bool} (h : stepR l (newIx l n) (b 0 : Nat) p late = some v) : ∀ t, ply p n b late l (t + 1) = ply p n (fun s => b (s + 1)) late v t
  | 0 => h
  | t + 1 => by
    have ih := ply_shift h t
    show (match ply p n b late l (t + 1) with | none => none | some w => stepR w (newIx w n) (b (t + 1) : Nat) p late) = (match ply p n (fun s => b (s + 1)) late v t with | none => none | some w => stepR w (newIx w n) (b (t + 1) : Nat) p late)
    rw [ih]
theorem bud_shift (bs : List Int) (ph : Int) : (fun s => bud bs ph (s + 1)) = bud bs (ph + 1) := by
  funext s
  unfold bud
  rw [show ph + ((s + 1 : Nat) : Int) = ph + 1 + (s : Nat) by omega]
/-- a better standing lives at least as long -/
theorem life_mono {l l' : List Bool} {p p' n n' : Int} {bs bs' : List Int} {ph ph' : Int} {late : Bool} {o o' : Option Nat} (S : Std l p n bs ph) (S' : Std l' p' n' bs' ph') (h : LifeIs l p n bs ph late o) (h' : LifeIs l' p' n' bs' ph' late o') (hn : n' ≤ n) (hp : p ≤ p') (hb : ∀ t, bud bs ph t ≤ bud bs' ph' t) (d : Dom l' l = true) :
    ∀ g', o' = some g' → ∃ g, o = some g ∧ g ≤ g' := fun g' e => by
  have k := (life_play S h).1 (g' + 1)
  have k' := (life_play S' h').1 (g' + 1)
  have z' : ply p' n' (bud bs' ph') late l' (g' + 1) = none := Classical.byContradiction fun z => by
    have := k'.mp z g' e; omega
  have z : ply p n (bud bs ph) late l (g' + 1) = none := by
    cases hv : ply p n (bud bs ph) late l (g' + 1) with
    | none => rfl
    | some v =>
      obtain ⟨v', hv', _⟩ := ply_dom S.w S'.w S'.n1 hn hp hb S.cnt S'.cnt S.len d (g' + 1) v hv
      rw [z'] at hv'; cases hv'
  cases o with
  | none => exact absurd z (k.mpr fun g e => nomatch e)
  | some g =>
    refine ⟨g, rfl, Classical.byContradiction fun q => ?_⟩
    exact absurd z (k.mpr fun g2 e => by cases e; omega)
/-- after a deed that leads to a word no worse than the newest put does, the life is smaller by one at most -/
theorem life_deed {l v l' : List Bool} {p n : Int} {bs : List Int} {ph : Int} {late : Bool} {o o' : Option Nat} (S : Std l p n bs ph) (hv : stepR l (newIx l n) (bud bs ph 0 : Nat) p late = some v) (S' : Std l' p n bs (ph + 1)) (h : LifeIs l p n bs ph late o) (h' : LifeIs l' p n bs (ph + 1) late o') (d : Dom l' v = true) :
    ∀ g', o' = some g' → ∃ g, o = some g ∧ g ≤ g' + 1 := fun g' e => by
  obtain ⟨a1, a2, a3⟩ := step_word S.w (newIx_ok S.n1) (by omega) S.len hv
  have cv : ((v.count true : Nat) : Int) ≤ n := by
    rw [a2]
    have := S.cnt
    rcases newIx_two l S.cnt with ⟨q, _⟩ | ⟨q, _⟩ <;> rw [q] <;> simp <;> omega
  have k := (life_play S h).1 (g' + 1 + 1)
  have k' := (life_play S' h').1 (g' + 1)
  have z' : ply p n (bud bs (ph + 1)) late l' (g' + 1) = none := Classical.byContradiction fun z => by
    have := k'.mp z g' e; omega
  have z : ply p n (bud bs ph) late l (g' + 1 + 1) = none := by
    rw [ply_shift hv, bud_shift]
    cases hw : ply p n (bud bs (ph + 1)) late v (g' + 1) with
    | none => rfl
    | some w =>
      obtain ⟨v', hv', _⟩ := ply_dom a1 S'.w S.n1 (Int.le_refl _) (Int.le_refl _) (fun _ => Nat.le_refl _) cv S'.cnt a3 d (g' + 1) w hw
      rw [z'] at hv'; cases hv'
  cases o with
  | none => exact absurd z (k.mpr fun g e => nomatch e)
  | some g =>
    refine ⟨g, rfl, Classical.byContradiction fun q => ?_⟩
    exact absurd z (k.mpr fun g2 e => by cases e; omega)
end Cl

/-! ### what the laws of lives and of ranks share: the bag, words, depths -/
namespace Cl
open PySem PySem.Spec PyProof.Rows L2 StX ClX PySem.Builtin PySem.Builtin.Str
/-- a bag of cells stands at a: drawn from, it stays one -/
def SackAt (H : Hp) (a : Addr) : Prop := ∃ (x0 x1 x2 : Int) (cs : List Int), 1 ≤ cs.length ∧ cs.length ≤ 100 ∧ H a = some (.lst (.int x0 :: .int x1 :: .int x2 :: cs.map V.int))
theorem sck0 {x0 : V} {r : List V} : atI (x0 :: r) 0 = some x0 := atI_nat (j := 0) rfl
theorem sck1 {x0 x1 : V} {r : List V} : atI (x0 :: x1 :: r) 1 = some x1 := atI_nat (j := 1) rfl
theorem sck2 {x0 x1 x2 : V} {r : List V} : atI (x0 :: x1 :: x2 :: r) 2 = some x2 := atI_nat (j := 2) rfl
theorem ixn_lt {n j : Nat} {k : Int} (h : j < n) (e : k = (j : Int)) : ixN n k = some j := by
  subst e
  unfold ixN
  rw [if_pos (by omega), if_pos (by omega)]; rfl
theorem SackAt.same {H H' : Hp} {a : Addr} (h : SackAt H a) (x : Same H H') : SackAt H' a := by
  obtain ⟨x0, x1, x2, cs, c1, c2, e⟩ := h
  exact ⟨x0, x1, x2, cs, c1, c2, x _ _ e⟩
theorem SackAt.ne {H : Hp} {a p : Addr} (h : SackAt H a) (hp : H p = none) : p ≠ a := fun z => by
  obtain ⟨x0, x1, x2, cs, c1, c2, e⟩ := h
  rw [z, e] at hp; cases hp
theorem SackAt.put {H : Hp} {a p : Addr} {o : HO} (h : SackAt H a) (n : p ≠ a) : SackAt (upd H p o) a := by
  obtain ⟨x0, x1, x2, cs, c1, c2, e⟩ := h
  exact ⟨x0, x1, x2, cs, c1, c2, by rw [upd_ne n.symm]; exact e⟩
theorem But.none2 {a p : Addr} {H H1 : Hp} (x : But a H H1) (n : p ≠ a) (h : H1 p = Option.none) : H p = Option.none := by
  cases q : H p with
  | none => rfl
  | some o => rw [x p o n q] at h; cases h
/-- a comprehension whose element draws: St holds of the heap all the while -/
theorem lc_drawW {J : It} {n : Nat} {G : Hp → Prop} {Y : Nat → Hp → V → Hp → Prop} (w : Walk J n G Y) {g : TG} {te : TE} {vs : List Nat} {σ : L2.St} {H1 : Hp} {D : Addr} {Qd : Hp → Prop} (St : Hp → Prop) (Pr : Nat → Int → Prop) (hlen : n < 10000) (stU : ∀ H o, St H → St (upd H D o)) (h0 : St H1) (hG : ∀ H, St H → G H)
    (hs : ∀ (i : Nat) (x : V) (H H' : Hp) (R : V → Hp → Prop), i < n → St H → Y i H x H' → (∀ d H2, Pr i d → St H2 → (∀ o, H D = some o → H2 D = some o) → R (.int d) H2) → g x (wipe σ vs) H' fun σ2 H2 => wipe σ2 vs = wipe σ vs ∧ te σ2 H2 R)
    (hd : ∀ (ls : List Int) (H : Hp), H D = some (.lst (ls.map V.int)) → ls.length = n → (∀ i x, ls[i]? = some x → Pr i x) → St H → Qd H) :
    ∃ W : Nat → Nat → Hp → Prop, (∃ m, W 0 m (upd H1 D (.lst []))) ∧ ∀ i m H, W i m H →
      (J.stop i H ∧ Qd H) ∨ (J.go i H ∧ ∃ Nx : Hp → Prop, (∀ H', Nx H' → ∃ m', m' < m ∧ W (i + 1) m' H') ∧ ∀ x H', J.yld i H x H' → g x (wipe σ vs) H' fun σ2 H2 => wipe σ2 vs = wipe σ vs ∧ tYes σ2 H2 fun b H3 =>
        if b = true then te σ2 H3 fun y H4 => ∃ acc, H4 D = some (.lst acc) ∧ acc.length < sizeLine ∧ Nx (upd H4 D (.lst (acc ++ [y]))) else Nx H3) := by
  refine lc_it w (fun i H => ∃ ls : List Int, H D = some (.lst (ls.map V.int)) ∧ ls.length = i ∧ (∀ j x, ls[j]? = some x → Pr j x) ∧ St H) ⟨[], upd_same, rfl, fun j x hx => (by cases hx), stU _ _ h0⟩ (fun i H _ h => by obtain ⟨_, _, _, _, h⟩ := h; exact hG H h) ?_ (fun H ⟨ls, h1, h2, h3, h4⟩ => hd ls H h1 h2 h3 h4)
  rintro i x H H' hi ⟨ls, h1, h2, h3, h4⟩ y
  have key := hs i x H H' (fun y H4 => ∃ acc, H4 D = some (.lst acc) ∧ acc.length < sizeLine ∧ ∃ ls : List Int, upd H4 D (.lst (acc ++ [y])) D = some (.lst (ls.map V.int)) ∧ ls.length = i + 1 ∧ (∀ j x, ls[j]? = some x → Pr j x) ∧ St (upd H4 D (.lst (acc ++ [y])))) hi h4 y
    fun d H2 hP hS hk => ⟨ls.map V.int, hk _ h1, ?_, ls ++ [d], by rw [upd_same, List.map_append]; rfl, by rw [List.length_append, h2]; rfl, fun j x hx => ?_, stU _ _ hS⟩
  · exact key
  · rw [List.length_map]
    have : (10000 : Nat) ≤ sizeLine := by decide
    omega
  · rcases Nat.lt_or_ge j ls.length with q | q
    · rw [List.getElem?_append_left q] at hx
      exact h3 j x hx
    · rw [List.getElem?_append_right q] at hx
      have hj : j = ls.length := by
        rcases Nat.lt_or_ge ls.length j with q2 | q2
        · rw [List.getElem?_eq_none (by simp; omega)] at hx; cases hx
        · omega
      subst hj
      rw [Nat.sub_self] at hx
      cases hx
      rw [h2]; exact hP
theorem int_of_map2 {ns : List Int} {i : Nat} {y : V} (h : (ns.map V.int)[i]? = some y) : ∃ z, ns[i]? = some z ∧ y = V.int z := by
  rw [List.getElem?_map] at h
  obtain ⟨z, hz, rfl⟩ := Option.map_eq_some_iff.mp h
  exact ⟨z, hz, rfl⟩
/-- the word with these gaps behind its ones -/
def gapW (gs : List Int) : List Bool := (gs.map fun g => true :: List.replicate g.toNat false).flatten
theorem gapW_cons (g : Int) (gs : List Int) : gapW (g :: gs) = true :: (List.replicate g.toNat false ++ gapW gs) := by unfold gapW; rw [List.map_cons, List.flatten_cons]; rfl
theorem gapW_wd (gs : List Int) : Wd (gapW gs) := by
  cases gs with
  | nil => exact .inl rfl
  | cons g gs => rw [gapW_cons]; exact .inr ⟨_, rfl⟩
theorem gapW_count : ∀ gs : List Int, (gapW gs).count true = gs.length
  | [] => rfl
  | g :: gs => by
    rw [gapW_cons, List.count_cons_self, List.count_append, gapW_count gs, List.count_replicate, List.length_cons]
    simp
theorem gapW_len : ∀ {gs : List Int}, (∀ g ∈ gs, 0 ≤ g) → ((gapW gs).length : Int) = gs.length + gs.sum
  | [], _ => rfl
  | g :: gs, h => by
    have ih := gapW_len (gs := gs) fun x hx => h x (List.mem_cons_of_mem _ hx)
    have h0 := h g List.mem_cons_self
    rw [gapW_cons, List.length_cons, List.length_append, List.length_replicate, List.length_cons, List.sum_cons]
    omega
theorem joinW : ∀ gs : List Int, Txt.join (tx []) (gs.map fun g => tx (true :: List.replicate g.toNat false)) = tx (gapW gs) := by
  intro gs
  show glued (tx []) _ = _
  rw [StrLaws.glued_eq_join]
  induction gs with
  | nil => rfl
  | cons b r ih =>
    cases r with
    | nil => rw [gapW_cons]; show tx _ = _; rw [show gapW [] = [] by rfl, List.append_nil]
    | cons c r =>
      show tx (true :: List.replicate b.toNat false) ++ tx [] ++ Str.join (tx []) ((c :: r).map fun g => tx (true :: List.replicate g.toNat false)) = _
      rw [ih, tx_app, tx_app, gapW_cons b, List.append_nil]; rfl
theorem sumW : ∀ gs : List Int, ((gs.map fun g => tx (true :: List.replicate g.toNat false)).map (·.length)).sum = (gapW gs).length
  | [] => rfl
  | g :: gs => by
    rw [List.map_cons, List.map_cons, List.sum_cons, sumW gs, gapW_cons, tx_len, List.length_cons, List.length_cons, List.length_append]
    omega
theorem sum_set {gs : List Int} {v : Int} : ∀ {i : Nat} {x : Int}, gs[i]? = some x → (gs.set i v).sum = gs.sum - x + v := by
  induction gs with
  | nil => intro i x h; cases h
  | cons g gs ih =>
    intro i x h
    cases i with
    | zero =>
      have : g = x := by simpa using h
      subst this
      show (v :: gs).sum = _
      rw [List.sum_cons, List.sum_cons]; omega
    | succ i =>
      have h : gs[i]? = some x := by simpa using h
      show (g :: gs.set i v).sum = _
      rw [List.sum_cons, List.sum_cons, ih h]; omega
theorem sum_nn : ∀ {gs : List Int}, (∀ x ∈ gs, 0 ≤ x) → 0 ≤ gs.sum
  | [], _ => Int.le_refl _
  | g :: gs, h => by
    have := sum_nn (gs := gs) fun x hx => h x (List.mem_cons_of_mem _ hx)
    have := h g List.mem_cons_self
    rw [List.sum_cons]; omega
section
variable {P : Program} {w : World} {K : PySem.W.Frag} {mg : Str → Option Value} {base : Heap} {C : Addr}
def spTakeS : Sp := fun vs H Q _ => ∃ (a : Addr) (z : Int), vs = [.ref a, .int z] ∧ SackAt H a ∧ 1 ≤ z ∧ z ≤ 100000000000000000000000000000000000000000000000000000000000000 ∧ ∀ (d : Int) (H' : Hp), 0 ≤ d → d < z → SackAt H' a → But a H H' → Q (.int d) H'
def spBagS (K : PySem.W.Frag) : Sp := fun vs H Q _ => ∃ (s : Addr) (ns : List Int), vs = [.ref s] ∧ SqL K H s (ns.map V.int) ∧ ns.length ≤ 63 ∧ ∀ (p : Addr) (H' : Hp), H p = none → SackAt H' p → Same H H' → Q (.ref p) H'
def spWordS : Sp := fun vs H Q _ => ∃ (a : Addr) (p n : Int), vs = [.ref a, .int p, .int n] ∧ SackAt H a ∧ 0 ≤ n ∧ n ≤ p ∧ p ≤ 64 ∧ ∀ (l : List Bool) (H' : Hp), Wd l → (l.length : Int) ≤ p → ((l.count true : Nat) : Int) ≤ n → SackAt H' a → But a H H' → Q (.str (tx l)) H'
def spDepthsL : Sp := fun vs H Q _ => ∃ l : List Bool, vs = [.str (tx l)] ∧ l.length ≤ 9000 ∧ ∀ (p : Addr) (H' : Hp), H p = none → Same H H' → H' p = some (.lst ((dps l).map V.int)) → Q (.ref p) H'
end
end Cl

/-! ### what the laws of lives share: the bag, the budgets, the Round -/
namespace Cl
open PySem L2 StX ClX
theorem RoundAt.but2 {C a r : Addr} {H H' : Hp} {bs : List Int} (h : RoundAt C H r bs) (x : But a H H') (b : SackAt H a) : RoundAt C H' r bs := by
  obtain ⟨dx, t, h1, h2⟩ := h
  obtain ⟨x0, x1, x2, cs, c1, c2, e⟩ := b
  exact ⟨dx, t, x _ _ (ne_of h1 e (by intro q; cases q)) h1, x _ _ (ne_of h2 e (by intro q; cases q)) h2⟩
theorem made_same {H H1 : Hp} {x dx C : Addr} {fs : List (Str × V)} (hx : H x = none) (hdx : H dx = none) (h3 : ∀ b o, b ≠ x → upd (upd H dx (.own x)) x (.ins C dx fs) b = some o → H1 b = some o) : Same H H1 := fun b o e => by
  refine h3 b o (ne_of_none e hx) ?_
  rw [upd_ne (ne_of_none e hx), upd_ne (ne_of_none e hdx)]
  exact e
section
variable {P : Program} {w : World} {K : PySem.W.Frag} {mg : Str → Option Value} {base : Heap} {C : Addr}
def spBudgetsL : Sp := fun vs H Q _ => ∃ (a : Addr), vs = [.ref a] ∧ SackAt H a ∧ ∀ (q : Addr) (bs : List Int) (H' : Hp), H q = none → H' q = some (.lst (bs.map V.int)) → Okb bs → (∀ b, b ∈ bs → b ≤ 1000000000000000000000000000000) → SackAt H' a → But a H H' → Q (.ref q) H'
def spRoundL (C : Addr) : Sp := fun vs H Q _ => ∃ (p : Addr) (bs : List Int), vs = [.ref p] ∧ H p = some (.lst (bs.map V.int)) ∧ Okb bs ∧ ∀ (x : Addr) (H' : Hp), RoundAt C H' x bs → Same H H' → Q (.ref x) H'
end
end Cl

/-! ### what the laws of lives share: enough budgets, terms, words -/
namespace Cl
open PySem PySem.Spec PyProof.Rows L2 StX ClX PySem.Builtin PySem.Builtin.Str
/-- so many budgets are enough for the need, wherever they begin -/
structure Enough (bs : List Int) (need : Int) (r : Nat) : Prop where
  le : r ≤ 70
  low : ∀ s, s < r → ∃ k, k < bs.length ∧ tot bs (k : Nat) (s : Nat) < need
  up : r < 70 → ∀ k, k < bs.length → need ≤ tot bs (k : Nat) (r : Nat)
theorem tot0 {bs : List Int} {s : Int} : tot bs s 0 = 0 := by unfold tot; simp
section
variable {P : Program} {w : World} {K : PySem.W.Frag} {mg : Str → Option Value} {base : Heap} {C : Addr}
def spEnough (K : PySem.W.Frag) : Sp := fun vs H Q _ => ∃ (p : Addr) (bs : List Int) (need : Int), vs = [.ref p, .int need] ∧ H p = some (.lst (bs.map V.int)) ∧ Okb bs ∧ ∀ (r : Nat) (H' : Hp), Same H H' → Enough bs need r → Q (.int (r : Nat)) H'
def spTermsL : Sp := fun vs H Q _ => ∃ (a : Addr) (wd : Int), vs = [.ref a, .int wd] ∧ SackAt H a ∧ 1 ≤ wd ∧ wd ≤ 60 ∧ ∀ (t q : Addr) (bs : List Int) (n p : Int) (H' : Hp), H q = none → H t = none → H' q = some (.lst (bs.map V.int)) → H' t = some (.tup [.ref q, .int n, .int p]) → Okb bs → (∀ b, b ∈ bs → b ≤ 1000000000000000000000000000000) → 1 ≤ n → n ≤ 60 → n ≤ p → p ≤ 64 → SackAt H' a → But a H H' → Q (.ref t) H'
end
end Cl

/-! ### what the laws of lives share: the puts of a plain word, the play -/
namespace Cl
open PySem L2 StX ClX
/-- the words that the play lists -/
structure Played (p n : Int) (b : Nat → Nat) (late : Bool) (l : List Bool) (most : Nat) (ws : List (List Bool)) : Prop where
  le : ws.length ≤ most
  at_ : ∀ i w, ws[i]? = some w → ply p n b late l (i + 1) = some w
  stop : ws.length < most → ply p n b late l (ws.length + 1) = none
theorem mv1_ge {p : Int} {l : List Bool} (h : (l.length : Int) ≤ p) : mv1 p l = if l = [] ∨ p ≤ (l.length : Int) then l else nrm (l.drop 1 ++ [true]) := by
  unfold mv1
  by_cases e : l = [] ∨ (l.length : Int) = p
  · rw [if_pos e, if_pos (e.imp id fun z => by omega)]
  · rw [if_neg e, if_neg fun z => e (z.imp id fun z => by omega)]
theorem mvd_count1 {p : Int} {l : List Bool} (W : Wd l) : ∀ n, (mvd p n l).count true = l.count true
  | 0 => rfl
  | n + 1 => by
    have ih := mvd_count1 (p := p) W n
    have wm := mvd_wd (p := p) W n
    show (mv1 p (mvd p n l)).count true = _
    unfold mv1
    split
    · exact ih
    · rename_i h
      rw [nrm_count, List.count_append, ← ih]
      rcases wm with e | ⟨r, e⟩
      · exact absurd (.inl e) h
      · rw [e]; simp
theorem wout_count1 {l : List Bool} {i : Option Nat} (hi : ∀ k, i = some k → k < l.count true) : (wout l i).count true + 1 = l.count true + (if i = none then 1 else 0) := by
  cases i with
  | none => rfl
  | some k =>
    have hk := hi k rfl
    rw [← dps_len, dps_wout hk, erase_len (by rw [dps_len]; exact hk), dps_len]
    simp; omega
theorem stepR_word {l r : List Bool} {i : Option Nat} {c p : Int} {late : Bool} (W : Wd l) (hi : ∀ k, i = some k → k < l.count true) (hc : 0 ≤ c) (hl : (l.length : Int) ≤ p) (h : stepR l i c p late = some r) :
    Wd r ∧ r.count true = l.count true + (if i = none then 1 else 0) ∧ (r.length : Int) ≤ p := by
  have wx := wout_wd W i
  have lx := wout_len (l := l) i
  have cx := wout_count1 hi
  unfold stepR at h
  cases late
  · rw [if_neg Bool.false_ne_true] at h
    generalize (if (((wout l i).count true : Nat) : Int) < c then (((wout l i).count true : Nat) : Int) else c).toNat = N at h
    split at h
    · cases h
    · rename_i q
      cases h
      have ml := mvd_len (p := p) (l := wout l i) N
      have wm := mvd_wd (p := p) wx N
      have cm := mvd_count1 (p := p) wx N
      refine ⟨nrm_is _, ?_, ?_⟩
      · rw [nrm_count, List.count_append, cm]; exact cx
      · rw [nrm_wd (wdp wm), List.length_append, List.length_singleton]; omega
  · rw [if_pos rfl] at h
    rw [nrm_wd (wdp W), wout_push1 hi] at h
    have wx2 := wdp wx
    generalize (if (((wout l i ++ [true]).count true : Nat) : Int) - 1 < c then (((wout l i ++ [true]).count true : Nat) : Int) - 1 else c).toNat = N at h
    split at h
    · cases h
    · rename_i q
      cases h
      have ml := mvd_len (p := p) (l := wout l i ++ [true]) N
      refine ⟨mvd_wd wx2 _, ?_, ?_⟩
      · rw [mvd_count1 wx2, List.count_append]; exact cx
      · rw [List.length_append, List.length_singleton] at ml; omega
section
variable {P : Program} {w : World} {K : PySem.W.Frag} {mg : Str → Option Value} {base : Heap} {C : Addr}
def spCarriedL : Sp := fun vs H Q _ => ∃ (l : List Bool) (p : Int), vs = [.str (tx l), .int p] ∧ l.length ≤ 9000 ∧ (l.length : Int) ≤ p ∧ Q (.str (tx (mv1 p l))) H
def spReleasedL : Sp := fun vs H Q _ => ∃ (l : List Bool) (k : Nat), vs = [.str (tx l), .int (k : Nat)] ∧ l.length ≤ 9000 ∧ k < l.count true ∧ ∀ H', Same H H' → Q (.str (tx (wout l (some k)))) H'
def spNewestL : Sp := fun vs H Q _ => ∃ (l : List Bool) (n : Int), vs = [.str (tx l), .int n] ∧ l.length ≤ 9000 ∧ 1 ≤ n ∧ Q (ixV (newIx l n)) H
def spPutL : Sp := fun vs H Q _ => ∃ (l : List Bool) (i : Option Nat) (c p : Int) (late : Bool), vs = [.str (tx l), ixV i, .int c, .int p, .bl late] ∧ Wd l ∧ l.length ≤ 4000 ∧ (l.length : Int) ≤ p ∧ (∀ k, i = some k → k < l.count true) ∧ 0 ≤ c ∧
  ∀ H', Same H H' → (stepR l i c p late = none → Q .non H') ∧ ∀ r, stepR l i c p late = some r → Q (.str (tx r)) H'
def spPlayL : Sp := fun vs H Q _ => ∃ (l : List Bool) (ph : Int) (t q : Addr) (bs : List Int) (n p : Int) (late : Bool) (most : Int), vs = [.str (tx l), .int ph, .ref t, .bl late, .int most] ∧ H t = some (.tup [.ref q, .int n, .int p]) ∧ H q = some (.lst (bs.map V.int)) ∧ Std l p n bs ph ∧ p ≤ 64 ∧ 0 ≤ most ∧ most ≤ 5000 ∧
  ∀ (g : Addr) (ws : List (List Bool)) (H' : Hp), H g = none → Same H H' → H' g = some (.lst (ws.map fun w => .str (tx w))) → Played p n (bud bs ph) late l most.toNat ws → Q (.ref g) H'
def spIsL : Sp := fun vs H Q _ => ∃ o : Option Nat, vs = [optV o, optV o] ∧ Q (.bl true) H
end
end Cl

/-! ### defs with a positional and a keyword-only default -/
namespace Cl
open PySem L2
structure AtTopB (K : PySem.W.Frag) (x qual : Str) (st : Stmt) (dvs : List V) (kws : List (Str × V)) : Prop where
  ex : ∃ (f : Addr) (fd : FuncData), PySem.W.nsIn K mainGlobals x = some (some (.ref f)) ∧ FunD K x qual (defArgs st) (defBody st) (defScope st) dvs kws f fd
section
variable {P : Program} {w : World} {K : PySem.W.Frag} {mg : Str → Option Value} {base : Heap} {x qual : Str} {st : Stmt} {ps : List Str} {k : Nat} {sp : Sp} {dvs : List V} {kws : List (Str × V)} {h : Heap}
theorem atTopB11 {f T D : Addr} {oc toc : Value} {od an tod : Option Addr} {osl tsl : Array (Option Value)} {doc pm cdv ct u u1 : Value} {n : Nat} {nm : Str} {v v1 : V} (a : PySem.W.nsIn K mainGlobals x = some (some (.ref f)))
    (l : K.lookup f = some ⟨oc, od, .func (PySem.W.fnOf x qual (defArgs st) (defBody st) (defScope st) (.ref T) (.ref D) doc pm an cdv ct), osl⟩) (c : PySem.W.codeIn K cdv qual = true) (p : PySem.W.keepIn K (.ref f) = true)
    (lt : K.lookup T = some ⟨toc, tod, .seq #[u] n, tsl⟩) (r : RelV v u) (hk : PySem.W.nsIn K D nm = some (some u1)) (r1 : RelV v1 u1) : AtTopB K x qual st [v] [(nm, v1)] :=
  ⟨f, _, a, ⟨oc, od, .ref T, .ref D, doc, pm, an, cdv, ct, osl, rfl, l, c, .inr ⟨by simp, T, _, [u], n, rfl, lt, rfl, .cons r .nil⟩, .inr ⟨D, rfl, fun q hq => by
    rcases List.mem_cons.mp hq with rfl | hq
    · exact ⟨u1, hk, r1⟩
    · cases hq⟩⟩, p⟩
theorem AtTopB.dk (t : AtTopB K x qual st dvs kws) (X : K.In h) (G : h.Ns mainGlobals mg) (n : Nat) (ks : List Str) (hd : dvs ≠ []) (hk : kws ≠ [])
    (hb : ∀ (T D : Addr) (doc pm : Value) (an : Option Addr) (cdv ct : Value) (us its ws : List Value), us.length = n → its.length = dvs.length → ws.length = ks.length →
      ∃ k, bindArgs (PySem.W.fnOf x qual (defArgs st) (defBody st) (defScope st) (.ref T) (.ref D) doc pm an cdv ct) ⟨us, ks.zip ws⟩ = seqItems? (.ref T) >>= k ∧ k (some its.toArray) = pure (ps.zip (us ++ ws)))
    (ok : ∀ (f : Addr) (fd : FuncData), FunD K x qual (defArgs st) (defBody st) (defScope st) dvs kws f fd → FnOk P w K mg base CX0 k f fd ps sp) : Dk P w K mg base x k ps sp n ks (fun vs zs => vs ++ zs) := by
  obtain ⟨f, fd, a, FD⟩ := t.ex
  obtain ⟨its, mv, b⟩ := FD.kbinds (ps := ps) n ks [] (fun us _ _ ws => us ++ ws) hd hk (fun q hq => by cases hq) (fun r1 _ _ r4 => r1.append r4) (fun T D doc pm an cdv ct us its mv ws l1 l2 l3 l4 => by
    cases mv with
    | nil => exact hb T D doc pm an cdv ct us its ws l1 l2 l4
    | cons _ _ => cases l3)
  exact ⟨f, fd, _, ok f fd FD, PySem.W.mg_of X G a, FD.kp, b⟩
end
end Cl

/-! ### defs with a positional and keyword-only defaults, called with no keyword -/
namespace Cl
open PySem L2
section
variable {P : Program} {w : World} {K : PySem.W.Frag} {mg : Str → Option Value} {base : Heap} {x qual : Str} {st : Stmt} {ps : List Str} {k : Nat} {dvs : List V} {kws : List (Str × V)} {h : Heap}
theorem AtTopB.dn {sp : Sp} (t : AtTopB K x qual st dvs kws) (X : K.In h) (G : h.Ns mainGlobals mg) (n j : Nat) (hd : dvs ≠ []) (hk : kws ≠ []) (hn : n + ((dvs.length - j) + kws.length) = ps.length)
    (hb : ∀ (T D : Addr) (doc pm : Value) (an : Option Addr) (cdv ct : Value) (us its ks : List Value), us.length = n → its.length = dvs.length → ks.length = kws.length →
      ∃ k, bindArgs (PySem.W.fnOf x qual (defArgs st) (defBody st) (defScope st) (.ref T) (.ref D) doc pm an cdv ct) ⟨us, []⟩ = seqItems? (.ref T) >>= k ∧ KwChain D ((kws.map (·.1)).zip ks) (k (some its.toArray)) (ps.zip (us ++ (its.drop j ++ ks))))
    (ok : ∀ (f : Addr) (fd : FuncData), FunD K x qual (defArgs st) (defBody st) (defScope st) dvs kws f fd → FnOk P w K mg base CX0 k f fd ps sp) : Dn P w K mg base x k ps sp (dvs.drop j ++ kws.map (·.2)) := by
  obtain ⟨f, fd, a, FD⟩ := t.ex
  obtain ⟨ds, v, b⟩ := FD.binds n j hd hn hb hk
  exact ⟨f, fd, ds, ok f fd FD, PySem.W.mg_of X G a, FD.kp, b, v⟩
theorem AtTopB.dx {sp : Sp} (t : AtTopB K x qual st dvs kws) (X : K.In h) (G : h.Ns mainGlobals mg) (n j : Nat) (hd : dvs ≠ []) (hk : kws ≠ []) (hn : n + ((dvs.length - j) + kws.length) = ps.length)
    (hb : ∀ (T D : Addr) (doc pm : Value) (an : Option Addr) (cdv ct : Value) (us its ks : List Value), us.length = n → its.length = dvs.length → ks.length = kws.length →
      ∃ k, bindArgs (PySem.W.fnOf x qual (defArgs st) (defBody st) (defScope st) (.ref T) (.ref D) doc pm an cdv ct) ⟨us, []⟩ = seqItems? (.ref T) >>= k ∧ KwChain D ((kws.map (·.1)).zip ks) (k (some its.toArray)) (ps.zip (us ++ (its.drop j ++ ks))))
    (ok : ∀ (f : Addr) (fd : FuncData), FunD K x qual (defArgs st) (defBody st) (defScope st) dvs kws f fd → FnOk P w K mg base (L2.CX P w) k f fd ps sp) : Dx P w K mg base x k ps sp (dvs.drop j ++ kws.map (·.2)) := by
  obtain ⟨f, fd, a, FD⟩ := t.ex
  obtain ⟨ds, v, b⟩ := FD.binds n j hd hn hb hk
  exact ⟨f, fd, ds, ok f fd FD, PySem.W.mg_of X G a, FD.kp, b, v⟩
end
end Cl

/-! ### the first of a kind -/
namespace Cl
open PySem L2
theorem Fst.one {p : Nat → Prop} {a b : Option Nat} (ha : Fst p a) (hb : Fst p b) : a = b := by
  cases a with
  | none =>
    cases b with
    | none => rfl
    | some y => exact absurd hb.1 (ha y)
  | some x =>
    cases b with
    | none => exact absurd ha.1 (hb x)
    | some y =>
      rcases Nat.lt_trichotomy x y with q | q | q
      · exact absurd ha.1 (hb.2 x q)
      · rw [q]
      · exact absurd hb.1 (ha.2 y q)
theorem fst_ex (p : Nat → Prop) : ∃ o, Fst p o := by
  have key : ∀ n, (∀ s, s < n → ¬ p s) ∨ ∃ t, p t ∧ ∀ s, s < t → ¬ p s := by
    intro n
    induction n with
    | zero => exact .inl fun s hs => absurd hs (Nat.not_lt_zero _)
    | succ n ih =>
      rcases ih with h | h
      · by_cases hp : p n
        · exact .inr ⟨n, hp, h⟩
        · exact .inl fun s hs => by
            rcases Nat.lt_succ_iff_lt_or_eq.mp hs with q | rfl
            · exact h s q
            · exact hp
      · exact .inr h
  by_cases h : ∃ t, p t ∧ ∀ s, s < t → ¬ p s
  · obtain ⟨t, h1, h2⟩ := h
    exact ⟨some t, h1, h2⟩
  · exact ⟨none, fun s hs => ((key (s + 1)).resolve_right h) s (Nat.lt_succ_self s) hs⟩
end Cl

/-! ### the smallest sums, and how many budgets reach a need -/
namespace Cl
open StX ClX
def lo : List Int → Int
  | [] => 0
  | [a] => a
  | a :: b :: r => if a ≤ lo (b :: r) then a else lo (b :: r)
theorem lo_spec : ∀ {l : List Int}, l ≠ [] → lo l ∈ l ∧ ∀ y, y ∈ l → lo l ≤ y
  | [], h => absurd rfl h
  | [a], _ => by simp [lo]
  | a :: b :: r, _ => by
    have ih := lo_spec (l := b :: r) (by simp)
    unfold lo
    split
    · refine ⟨List.mem_cons_self, fun y hy => ?_⟩
      rcases List.mem_cons.mp hy with rfl | hy
      · exact Int.le_refl _
      · have := ih.2 y hy; omega
    · refine ⟨List.mem_cons_of_mem _ ih.1, fun y hy => ?_⟩
      rcases List.mem_cons.mp hy with rfl | hy
      · omega
      · exact ih.2 y hy
theorem lo_uniq {l : List Int} {m : Int} (h1 : m ∈ l) (h2 : ∀ y, y ∈ l → m ≤ y) : m = lo l := by
  have ne : l ≠ [] := fun e => by rw [e] at h1; cases h1
  obtain ⟨a, b⟩ := lo_spec ne
  have := b m h1
  have := h2 _ a
  omega
theorem lo_add {l : List Int} (k : Int) (ne : l ≠ []) : lo (l.map (k + ·)) = k + lo l := by
  obtain ⟨a, b⟩ := lo_spec ne
  refine (lo_uniq (List.mem_map.mpr ⟨_, a, rfl⟩) fun y hy => ?_).symm
  obtain ⟨z, hz, rfl⟩ := List.mem_map.mp hy
  have := b z hz
  show k + lo l ≤ k + z
  omega
def totals (bs : List Int) (c : Int) : List Int := (List.range bs.length).map fun (i : Nat) => tot bs (i : Int) c
def lv (bs : List Int) (c : Int) : Int := lo (totals bs c)
theorem totals_len {bs : List Int} {c : Int} : (totals bs c).length = bs.length := by unfold totals; rw [List.length_map, List.length_range]
theorem totals_ne {bs : List Int} {c : Int} (h : 1 ≤ bs.length) : totals bs c ≠ [] := fun e => by
  have := totals_len (bs := bs) (c := c)
  rw [e] at this
  simp at this; omega
theorem lv_more {bs : List Int} {c w : Int} (h : 1 ≤ bs.length) : lv bs (w * bs.length + c) = w * bs.sum + lv bs c := by
  unfold lv
  have e : totals bs (w * bs.length + c) = (totals bs c).map (w * bs.sum + ·) := by
    unfold totals
    rw [List.map_map]
    refine List.map_congr_left fun i _ => ?_
    exact tot_more h
  rw [e, lo_add _ (totals_ne h)]
theorem lv_const {bs : List Int} {c k : Int} (h : 1 ≤ bs.length) (hk : ∀ s, tot bs s c = k) : lv bs c = k := by
  refine (lo_uniq (List.mem_map.mpr ⟨0, List.mem_range.mpr (by omega), hk _⟩) fun y hy => ?_).symm
  obtain ⟨i, _, rfl⟩ := List.mem_map.mp hy
  rw [hk]; exact Int.le_refl _
theorem lv_zero {bs : List Int} (h : 1 ≤ bs.length) : lv bs 0 = 0 := lv_const h fun s => by
  unfold tot; simp
theorem lv_full {bs : List Int} (h : 1 ≤ bs.length) : lv bs bs.length = bs.sum := lv_const h fun s => by
  unfold tot
  rw [Int.ediv_self (by omega), Int.emod_self]; simp
/-- j is the first place of m -/
def FirstAt (l : List Int) (m : Int) (j : Nat) : Prop := l[j]? = some m ∧ ∀ i z, i < j → l[i]? = some z → z ≠ m
theorem first_ex : ∀ {l : List Int} {m : Int}, m ∈ l → ∃ j, FirstAt l m j
  | a :: r, m, h => by
    by_cases e : a = m
    · exact ⟨0, by simp [e], fun i z hi _ => by omega⟩
    · obtain ⟨j, h1, h2⟩ := first_ex (l := r) (m := m) (by simpa [Ne.symm e] using h)
      refine ⟨j + 1, by simpa using h1, fun i z hi hz => ?_⟩
      cases i with
      | zero => simp at hz; subst hz; exact e
      | succ i => exact h2 i z (by omega) (by simpa using hz)
theorem first_uniq {l : List Int} {m : Int} {i j : Nat} (a : FirstAt l m i) (b : FirstAt l m j) : i = j := by
  rcases Nat.lt_trichotomy i j with h | h | h
  · exact absurd rfl (b.2 i m h a.1)
  · exact h
  · exact absurd rfl (a.2 j m h b.1)
/-- what reach says -/
def ReachOk (bs : List Int) (need : Int) (v : V) : Prop :=
  (need ≤ 0 ∧ v = .int 0) ∨ (0 < need ∧ bs.sum = 0 ∧ v = .non) ∨ (0 < need ∧ bs.sum ≠ 0 ∧ ∃ r : Int, v = .int r ∧ 1 ≤ r ∧ r ≤ 13 * need + 13 ∧ need ≤ lv bs r ∧ lv bs (r - 1) < need)
theorem reach_math {bs : List Int} {need : Int} (ok : Okb bs) (hn : 0 < need) (hs : bs.sum ≠ 0) (cs : List Nat)
    (hc : cs = (List.range bs.length).filter fun i => decide (need - (need - 1) / bs.sum * bs.sum ≤ lv bs (1 + (i : Nat)))) :
    ∃ e r, cs = e :: r ∧ e < bs.length ∧ 0 ≤ (need - 1) / bs.sum ∧ (need - 1) / bs.sum ≤ need ∧ need ≤ lv bs ((need - 1) / bs.sum * bs.length + (1 + (e : Nat))) ∧ lv bs ((need - 1) / bs.sum * bs.length + (1 + (e : Nat)) - 1) < need := by
  have l1 := ok.l1
  have sb := ok.sum_b
  have sp : 0 < bs.sum := by omega
  have w0 : 0 ≤ (need - 1) / bs.sum := Int.ediv_nonneg (by omega) (by omega)
  have w1 : (need - 1) / bs.sum ≤ need - 1 := Int.ediv_le_self _ (by omega)
  have w2 : (need - 1) / bs.sum * bs.sum ≤ need - 1 := Int.ediv_mul_le _ (by omega)
  have w3 : need - 1 < ((need - 1) / bs.sum + 1) * bs.sum := Int.lt_ediv_add_one_mul_self _ sp
  rw [Int.add_mul, Int.one_mul] at w3
  generalize hw : (need - 1) / bs.sum = w at *
  have last : bs.length - 1 ∈ cs := by
    rw [hc, List.mem_filter, List.mem_range]
    refine ⟨by omega, decide_eq_true ?_⟩
    have e : (1 + ((bs.length - 1 : Nat) : Int)) = bs.length := by omega
    rw [e, lv_full l1]; omega
  cases hcs : cs with
  | nil => rw [hcs] at last; cases last
  | cons e r =>
    refine ⟨e, r, rfl, ?_, w0, by omega, ?_, ?_⟩
    · have : e ∈ cs := by rw [hcs]; exact List.mem_cons_self
      rw [hc, List.mem_filter, List.mem_range] at this
      exact this.1
    · have : e ∈ cs := by rw [hcs]; exact List.mem_cons_self
      rw [hc, List.mem_filter] at this
      have := of_decide_eq_true this.2
      rw [lv_more l1]; omega
    · have e1 : w * bs.length + (1 + (e : Nat)) - 1 = w * bs.length + (e : Nat) := by omega
      rw [e1, lv_more l1]
      cases e with
      | zero =>
        rw [show (((0 : Nat) : Int)) = 0 from rfl, lv_zero l1]; omega
      | succ e' =>
        -- e' is earlier in the range and was not taken
        have hlt : e' + 1 < bs.length := by
          have : e' + 1 ∈ cs := by rw [hcs]; exact List.mem_cons_self
          rw [hc, List.mem_filter, List.mem_range] at this
          exact this.1
        have no : ¬ (need - w * bs.sum ≤ lv bs (1 + (e' : Nat))) := fun h => by
          have hmem : e' ∈ cs := by
            rw [hc, List.mem_filter, List.mem_range]
            exact ⟨by omega, decide_eq_true h⟩
          have sorted : cs.Pairwise (· < ·) := by
            rw [hc]
            exact List.Pairwise.filter _ List.pairwise_lt_range
          rw [hcs] at hmem sorted
          rcases List.mem_cons.mp hmem with h | h
          · omega
          · have := (List.pairwise_cons.mp sorted).1 e' h
            omega
        have e2 : (1 + ((e' : Nat) : Int)) = ((e' + 1 : Nat) : Int) := by omega
        rw [e2] at no
        omega
section
variable {P : Program} {w : World} {K : PySem.W.Frag} {mg : Str → Option Value} {base : Heap} {C : Addr}
def spTotals (C : Addr) : Sp := fun vs H Q _ => ∃ (r : Addr) (bs : List Int) (c : Int), vs = [.ref r, .int c] ∧ RoundAt C H r bs ∧ Okb bs ∧ 0 ≤ c ∧ c ≤ 1000000000000000000000000000000000000000000000000000000000000 ∧ ∀ (p : Addr) (H' : Hp), H p = none → H' p = some (.lst ((totals bs c).map V.int)) → Same H H' → Q (.ref p) H'
theorem scRoundTotals : FnScope ["self", "count", "start"] ["self", "count"] (defScope sRoundTotals) := ⟨rfl, rfl, rfl, by decide +kernel, rfl, by decide +kernel, by decide +kernel⟩
theorem ok_Round_totals {f : Addr} {fd : FuncData} (F : Fun K "_totals" "Round._totals" sRoundTotals f fd) (B : Bi mg) (R_Round : ClsC K mg "Round" C) (N_Round : NoAttr K C "_budgets") (M_Round_total : Mn P w K mg base C "total" 3 ["self", "start", "count"] (spTotal C)) :
    FnOk P w K mg base CX0 4 f fd ["self", "count"] (spTotals C) := by
  refine F.ok scRoundTotals (fun vs H Q E h => ?_) (fun cdv A outer s H vs Q E hr h => ?_)
  · obtain ⟨r, bs, c, rfl, _⟩ := h
    rfl
  · obtain ⟨r, bs, c, rfl, ⟨dx, t, h1, h2⟩, ok, c0, c1, k⟩ := h
    have hl : (bs.map V.int).length = bs.length := List.length_map ..
    have l2 := ok.l2
    refine ⟨_, (pss_one (ps_ret (pe_lc (own := [("start", 2)]) (g := gName 2) rfl scRoundTotals.nd (pi_range1 rfl B.range (pa_cons (pe_callB call_len_seq (by rfl) B.len PySem.boot_len (pa_cons (pe_fld (pv 0) rfl) pa_nil)) pa_nil)) (blkOk_by (own := [("start", 2)]) (N := ["self", "count", "start"]) (sc := defScope sRoundTotals) (by decide +kernel)) (fun _ _ _ _ _ => (pg_name (i := 2) scRoundTotals.nd rfl (Or.inl rfl))) (fun _ _ _ _ _ => pts_nil) (fun _ _ _ _ _ => (pe_mn M_Round_total R_Round.cl (hr.mono (by decide)) pass0 (pv 0) (pa_cons (pv 2) (pa_cons (pv 1) pa_nil))))))), ?_⟩
    refine ⟨_, rfl, r, C, dx, _, _, rfl, h1, R_Round.cl, N_Round, rfl, t, _, rfl, .inr (SqT.of h2), _, rfl, by omega, by omega, fun D hD => ?_⟩
    rw [hl, Int.toNat_natCast]
    refine lc_growR (fun i => V.int (tot bs (i : Int) c)) hD (by omega) (fun i H1 R hi hS hR => ?_) (fun H1 hS hL => k D H1 hD (by rw [hL]; unfold totals; rw [List.map_map]; rfl) hS)
    refine ⟨rfl, _, rfl, r, dx, _, rfl, hS _ _ h1, no_ _ (by decide +kernel) _, _, rfl, _, rfl, r, bs, (i : Int), c, by rw [Int.zero_add]; rfl, ⟨dx, t, hS _ _ h1, hS _ _ h2⟩, ok, by omega, c0, c1, fun H2 e2 => hR H2 e2⟩
def spLeast (C : Addr) : Sp := fun vs H Q _ => ∃ (r : Addr) (bs : List Int) (c : Int), vs = [.ref r, .int c] ∧ RoundAt C H r bs ∧ Okb bs ∧ 0 ≤ c ∧ c ≤ 1000000000000000000000000000000000000000000000000000000000000 ∧ ∀ (H' : Hp), Same H H' → Q (.int (lv bs c)) H'
theorem scRoundLeast : FnScope ["self", "count"] ["self", "count"] (defScope sRoundLeast) := ⟨rfl, rfl, rfl, by decide +kernel, rfl, by decide +kernel, by decide +kernel⟩
theorem ok_Round_least {f : Addr} {fd : FuncData} (F : Fun K "least" "Round.least" sRoundLeast f fd) (B : Bi mg) (R_Round : ClsC K mg "Round" C) (D_check_least : Dn P w K mg base "check_least" 2 ["value", "least", "field"] spCheckLeast) (M_Round__totals : Mn P w K mg base C "_totals" 4 ["self", "count"] (spTotals C)) :
    FnOk P w K mg base CX0 5 f fd ["self", "count"] (spLeast C) := by
  refine F.ok scRoundLeast (fun vs H Q E h => ?_) (fun cdv A outer s H vs Q E hr h => ?_)
  · obtain ⟨r, bs, c, rfl, _⟩ := h
    rfl
  · obtain ⟨r, bs, c, rfl, ⟨dx, t, h1, h2⟩, ok, c0, c1, k⟩ := h
    refine ⟨_, (pss_cons (ps_expr (pe_dn D_check_least (hr.mono (by decide)) (by rfl) pass0 (pa_cons (pv 1) (pa_cons pe_int (pa_cons pe_str pa_nil)))))
  (pss_one (ps_ret (pe_callB (cr_min rfl) (by rfl) B.min (by decide +kernel) (pa_cons (pe_mn M_Round__totals R_Round.cl (hr.mono (by decide)) pass0 (pv 0) (pa_cons (pv 1) pa_nil)) pa_nil))))), ?_⟩
    walk_at "rd"
    refine ⟨c0, ?_⟩
    refine ⟨_, rfl, r, dx, _, rfl, h1, no_ _ (by decide +kernel) _, _, rfl, r, bs, c, rfl, ⟨dx, t, h1, h2⟩, ok, c0, c1, fun p H1 _ hp e1 => ?_⟩
    refine ⟨p, totals bs c, rfl, SqL.of hp, by rw [totals_len]; exact ok.l1, fun m hm hle => ?_⟩
    rw [lo_uniq hm hle]
    exact k H1 e1
def spReach (C : Addr) : Sp := fun vs H Q _ => ∃ (r : Addr) (bs : List Int) (need : Int), vs = [.ref r, .int need] ∧ RoundAt C H r bs ∧ Okb bs ∧ -10000000000000000000000000000000000000000000000000000000000000 ≤ need ∧ need ≤ 10000000000000000000000000000000000000000000000000000000000000 ∧ ∀ (v : V) (H' : Hp), ReachOk bs need v → Same H H' → Q v H'
end
/-- reach's answer, said once more -/
def Rch (bs : List Int) (need : Int) (v : V) : Prop :=
  (0 < need ∧ bs.sum = 0 ∧ v = .non) ∨ ((need ≤ 0 ∨ bs.sum ≠ 0) ∧ ∃ x : Int, v = .int x ∧ 0 ≤ x ∧ x ≤ 13 * need + 13 ∧ need ≤ lv bs x ∧ (x = 0 ∨ lv bs (x - 1) < need))
theorem Rch.of {bs : List Int} {need : Int} {v : V} (ok : Okb bs) (h0 : 0 ≤ need) (h : ReachOk bs need v) : Rch bs need v := by
  rcases h with ⟨hn, rfl⟩ | ⟨hn, hs, rfl⟩ | ⟨hn, hs, x, rfl, x0, x1, x2, x3⟩
  · exact .inr ⟨.inl hn, 0, rfl, by omega, by omega, by rw [lv_zero ok.l1]; exact hn, .inl rfl⟩
  · exact .inl ⟨hn, hs, rfl⟩
  · exact .inr ⟨.inr hs, x, rfl, by omega, x1, x2, .inr x3⟩
section
variable {P : Program} {w : World} {K : PySem.W.Frag} {mg : Str → Option Value} {base : Heap} {C : Addr}
def spFree (C : Addr) : Sp := fun vs H Q _ => ∃ (limit : Int) (r : Addr) (bs : List Int), vs = [.int limit, .ref r] ∧ 1 ≤ limit ∧ limit ≤ 10000000000000000000000000000000 ∧ RoundAt C H r bs ∧ Okb bs ∧ ∀ v H', Rch bs (limit - 1) v → Same H H' → Q v H'
end
end Cl

/-! ### ring_goes_on -/
namespace Cl
open StX ClX
def lost (late : Bool) (tears : Int) : Int := if late then 1 + tears else 0
/-- what the order allows -/
structure Ord (late : Bool) (tears readers : Int) : Prop where
  t0 : 0 ≤ tears
  r0 : 0 ≤ readers
  t1 : tears ≤ 1000000000000000000000000000000
  r1 : readers ≤ 1000000000000000000000000000000
  e : late = false → tears = 0
  l : late = true → readers = 0
theorem Ord.lost_b {late : Bool} {tears readers : Int} (o : Ord late tears readers) : 0 ≤ lost late tears ∧ lost late tears ≤ 1000000000000000000000000000000 + 1 := by
  have := o.t0
  have := o.t1
  unfold lost
  split <;> omega
def rgoes (bs : List Int) (m n : Int) : Bool := decide (n ≤ m) && decide (n - 1 ≤ lv bs (m - n))
theorem rgoes_t {bs : List Int} {m n : Int} (h1 : n ≤ m) (h2 : n - 1 ≤ lv bs (m - n)) : rgoes bs m n = true := by
  unfold rgoes
  rw [decide_eq_true h1, decide_eq_true h2]; rfl
theorem rgoes_f {bs : List Int} {m n : Int} (h : n ≤ m → lv bs (m - n) < n - 1) : rgoes bs m n = false := by
  unfold rgoes
  by_cases h1 : n ≤ m
  · rw [decide_eq_true h1, decide_eq_false (by have := h h1; omega)]; rfl
  · rw [decide_eq_false h1]; rfl
section
variable {P : Program} {w : World} {K : PySem.W.Frag} {mg : Str → Option Value} {base : Heap} {C : Addr}
def spOrd : Sp := fun vs H Q _ => ∃ (late : Bool) (tears readers : Int), vs = [.bl late, .int tears, .int readers] ∧ Ord late tears readers ∧ Q .non H
def spLost : Sp := fun vs H Q _ => ∃ (late : Bool) (tears : Int), vs = [.bl late, .int tears] ∧ Q (.int (lost late tears)) H
/-- the terms of a ring -/
structure Tm (places limit : Int) (late : Bool) (tears readers : Int) : Prop where
  p0 : 1 ≤ places
  p1 : places ≤ 1000000000000000000000000000000000
  n0 : 1 ≤ limit
  n1 : limit ≤ 1000000000000000000000000000000000
  o : Ord late tears readers
  k1 : limit * (readers + 1) ≤ 1000000000000000000000000000000000
theorem keys_pos {limit readers : Int} (h : 1 ≤ limit) (h2 : 0 ≤ readers) : 1 ≤ limit * (readers + 1) := by
  have : 0 ≤ limit * readers := Int.mul_nonneg (by omega) h2
  rw [Int.mul_add]; omega
def spEff : Sp := fun vs H Q _ => ∃ (places limit : Int) (late : Bool) (tears readers : Int), vs = [.int places, .int limit, .bl late, .int tears, .int readers] ∧ Tm places limit late tears readers ∧
  ∀ p, H p = none → Q (.ref p) (upd H p (.tup [.int (places - lost late tears), .int (limit * (readers + 1))]))
def spGoes (C : Addr) : Sp := fun vs H Q _ => ∃ (places limit : Int) (r : Addr) (bs : List Int) (late : Bool) (tears readers : Int), vs = [.int places, .int limit, .ref r, .bl late, .int tears, .int readers] ∧ Tm places limit late tears readers ∧ RoundAt C H r bs ∧ Okb bs ∧
  ∀ H', Same H H' → Q (.bl (rgoes bs (places - lost late tears) (limit * (readers + 1)))) H'
end
end Cl

/-! ### law k24: free places that are enough -/
namespace Cl
open PySem L2 StX ClX
theorem tot_z {bs : List Int} {s : Int} : tot bs s 0 = 0 := by unfold tot; simp
theorem lv_low {bs : List Int} {c : Int} (ok : Okb bs) : (∀ k, k < bs.length → lv bs c ≤ tot bs (k : Nat) c) ∧ ∃ k, k < bs.length ∧ lv bs c = tot bs (k : Nat) c := by
  obtain ⟨h1, h2⟩ := lo_spec (totals_ne (c := c) ok.l1)
  refine ⟨fun k hk => h2 _ (List.mem_map.mpr ⟨k, List.mem_range.mpr hk, rfl⟩), ?_⟩
  obtain ⟨i, hi, e⟩ := List.mem_map.mp h1
  exact ⟨i, List.mem_range.mp hi, e.symm⟩
/-- the least number that reaches the need is what the law found -/
theorem rch_is {bs : List Int} {need : Int} {r : Nat} {v : V} (ok : Okb bs) (e : Enough bs need r) (r70 : r < 70) (h : Rch bs need v) : v = optV (some r) := by
  have up := e.up r70
  have l1 := ok.l1
  rcases h with ⟨hn, hs, rfl⟩ | ⟨hs, x, rfl, x0, x1, hx, hm⟩
  · have h1 := up 0 l1
    have h2 := tot_mono (ph := ((0 : Nat) : Int)) ok (a := r) (b := r * bs.length) (Nat.le_mul_of_pos_right r l1)
    have h3 := tot_more (bs := bs) (s := ((0 : Nat) : Int)) (c := 0) (w := (r : Nat)) l1
    rw [hs, tot_z, Int.mul_zero, Int.add_zero, Int.add_zero] at h3
    rw [Int.natCast_mul, h3] at h2
    omega
  · obtain ⟨y, rfl⟩ : ∃ y : Nat, x = (y : Nat) := ⟨x.toNat, (Int.toNat_of_nonneg x0).symm⟩
    obtain ⟨a1, a2⟩ := lv_low (c := ((y : Nat) : Int)) ok
    have : y = r := by
      rcases Nat.lt_trichotomy y r with q | q | q
      · obtain ⟨k, hk, hlt⟩ := e.low y q
        have := a1 k hk
        omega
      · exact q
      · rcases hm with z | z
        · omega
        · obtain ⟨_, k, hk, hlv⟩ := lv_low (c := ((y : Nat) : Int) - 1) ok
          have h1 := up k hk
          have h2 := tot_mono (ph := ((k : Nat) : Int)) ok (a := r) (b := y - 1) (by omega)
          rw [show (((y - 1 : Nat)) : Int) = (y : Nat) - 1 by omega] at h2
          omega
    rw [this]; rfl
theorem all_up {bs : List Int} {need : Int} {r : Nat} (ok : Okb bs) (e : Enough bs need r) (r70 : r < 70) (s : Int) : need ≤ tot bs s (r : Nat) := by
  have l1 := ok.l1
  have m0 := Int.emod_nonneg s (show (bs.length : Int) ≠ 0 by omega)
  have m1 := Int.emod_lt_of_pos s (show (0 : Int) < (bs.length : Int) by omega)
  have := e.up r70 (s % bs.length).toNat (by omega)
  rw [Int.toNat_of_nonneg m0] at this
  rw [tot_per (u := s % bs.length) (by rw [Int.emod_emod_of_dvd _ ⟨1, by omega⟩])]
  exact this
theorem dps_drop (l : List Bool) : ∀ j, j < l.count true → (dps l).getD j 0 + (j : Nat) ≤ l.length
  | 0, h => by
    have := (dps_le (List.mem_of_getElem? (getD_at (xs := dps l) (i := 0) (by rw [dps_len]; exact h)))).2
    omega
  | j + 1, h => by
    have ih := dps_drop l j (by omega)
    have := (fall_dps l).lt j (by rw [dps_len]; exact h)
    omega
section
variable {l : List Bool} {p n : Int} {bs : List Int} {ph : Int} {late : Bool} {r : Nat}
/-- no put is ever short -/
theorem never_short (S : Std l p n bs ph) (e : Enough bs (n - 1) r) (r70 : r < 70) (hr : n + (r : Nat) + (if late = true then 1 else 0) ≤ p) (t : Nat) : ¬ Sht l (mIn p late) n bs ph t := by
  rintro ⟨_, h⟩
  have hm : n + (r : Nat) ≤ mIn p late := by
    unfold mIn
    cases late
    · rw [if_neg Bool.false_ne_true] at hr ⊢; omega
    · rw [if_pos rfl] at hr ⊢; omega
  rcases h with h | h
  · omega
  · have h1 := all_up S.ok e r70 (ph + (t : Nat) - (mIn p late - n))
    obtain ⟨c, ec⟩ : ∃ c : Nat, mIn p late - n = (c : Nat) := ⟨(mIn p late - n).toNat, by omega⟩
    have h2 := tot_mono (ph := ph + (t : Nat) - (mIn p late - n)) S.ok (a := r) (b := c) (by omega)
    rw [ec] at h h1 h2
    omega
theorem free_none {o : Option Nat} (S : Std l p n bs ph) (e : Enough bs (n - 1) r) (r70 : r < 70) (hl : (l.length : Int) + (r : Nat) + (if late = true then 1 else 0) ≤ p) (hr : n + (r : Nat) + (if late = true then 1 else 0) ≤ p) (h : LifeIs l p n bs ph late o) : o = none := by
  have ns := never_short (late := late) S e r70 hr
  have nb : ∀ t, ¬ Blk l (mIn p late) n bs ph t := fun t ⟨h1, h2⟩ => by
    have t0 := tot_nn (s := ph) (c := ((t : Nat) : Int)) S.ok (by omega)
    have htr : t < r := Nat.lt_of_not_le fun q => by
      have h3 := all_up S.ok e r70 ph
      have h4 := tot_mono (ph := ph) S.ok (a := r) (b := t) q
      split at h1 <;> omega
    have hj : (tot bs ph (t : Nat)).toNat < l.count true := by split at h1 <;> omega
    have hd := dps_drop l _ hj
    unfold mIn at h2
    cases late
    · rw [if_neg Bool.false_ne_true] at hl h2; omega
    · rw [if_pos rfl] at hl h2; omega
  unfold LifeIs at h
  split at h
  · rename_i q
    rw [if_pos q.1] at hl
    have := q.2
    omega
  · obtain ⟨T, hT, rfl⟩ := h
    cases T with
    | none => rfl
    | some t => exact absurd hT.1 fun z => z.elim (nb t) (ns t)
/-- ones with zeros behind them -/
def wl (a z : Nat) : List Bool := List.replicate a true ++ List.replicate z false
theorem wl_at (z : Nat) : ∀ (a j : Nat), j < a → (dps (wl a z)).getD j 0 = (a : Nat) + (z : Nat) - (j : Nat)
  | a + 1, 0, _ => by
    show (dps (true :: wl a z)).getD 0 0 = _
    rw [dps_cons, if_pos rfl]
    show ((wl a z).length : Int) + 1 = _
    unfold wl
    rw [List.length_append, List.length_replicate, List.length_replicate]; omega
  | a + 1, j + 1, h => by
    show (dps (true :: wl a z)).getD (j + 1) 0 = _
    rw [dps_cons, if_pos rfl]
    show (dps (wl a z)).getD j 0 = _
    rw [wl_at z a j (by omega)]; omega
theorem wl_count (a z : Nat) : (wl a z).count true = a := by unfold wl; rw [List.count_append, List.count_replicate, List.count_replicate]; simp
theorem wl_len (a z : Nat) : (wl a z).length = a + z := by unfold wl; rw [List.length_append, List.length_replicate, List.length_replicate]
theorem wl_wd {a : Nat} (z : Nat) (h : 1 ≤ a) : Wd (wl a z) := by
  obtain ⟨b, rfl⟩ : ∃ b, a = b + 1 := ⟨a - 1, by omega⟩
  exact .inr ⟨_, rfl⟩
/-- the word that fills one place too many lives as the budgets of one put fewer say -/
theorem worst_life {o : Option Nat} {a z : Nat} (S : Std (wl a z) p n bs ph) (ea : n = (a : Nat)) (a2 : 2 ≤ a) (e : Enough bs (n - 1) r) (r70 : r < 70) (hl : ((a : Nat) : Int) + (z : Nat) + (r : Nat) + (if late = true then 1 else 0) = p + 1) (hr : n + (r : Nat) + (if late = true then 1 else 0) ≤ p) (h : LifeIs (wl a z) p n bs ph late o) :
    o = if tot bs ph ((r : Nat) - 1) < n - 1 then some (r - 1 + if late = true then 1 else 0) else none := by
  have ns := never_short (late := late) S e r70 hr
  have r1 : 1 ≤ r := Nat.lt_of_not_le fun q => by
    have h3 := all_up S.ok e r70 ph
    rw [show r = 0 by omega] at h3
    have : tot bs ph ((0 : Nat) : Int) = 0 := tot_z
    omega
  have er : ((r : Nat) : Int) - 1 = ((r - 1 : Nat) : Int) := by omega
  have kb : ∀ t, Blk (wl a z) (mIn p late) n bs ph t ↔ (tot bs ph (t : Nat) < n - 1 ∧ r - 1 ≤ t) := fun t => by
    have t0 := tot_nn (s := ph) (c := ((t : Nat) : Int)) S.ok (by omega)
    unfold Blk
    rw [wl_count]
    have hmin : (if n - 1 < ((a : Nat) : Int) then n - 1 else ((a : Nat) : Int)) = n - 1 := if_pos (by omega)
    rw [hmin]
    have hm : mIn p late = ((a : Nat) : Int) + (z : Nat) + (r : Nat) - 1 := by
      unfold mIn
      cases late
      · rw [if_neg Bool.false_ne_true] at hl ⊢; omega
      · rw [if_pos rfl] at hl ⊢; omega
    constructor
    · rintro ⟨h1, h2⟩
      rw [wl_at z a _ (by omega)] at h2
      exact ⟨h1, by omega⟩
    · rintro ⟨h1, h2⟩
      refine ⟨h1, ?_⟩
      rw [wl_at z a _ (by omega)]
      omega
  unfold LifeIs at h
  split at h
  · rename_i q
    rw [if_pos q.1] at hl
    have := q.2
    rw [wl_len] at this
    omega
  · obtain ⟨T, hT, rfl⟩ := h
    rw [er]
    by_cases hc : tot bs ph ((r - 1 : Nat) : Int) < n - 1
    · rw [if_pos hc]
      have hb := (kb (r - 1)).mpr ⟨hc, Nat.le_refl _⟩
      cases T with
      | none => exact absurd (.inl hb) (hT (r - 1))
      | some t =>
        have h1 : ¬ r - 1 < t := fun q => hT.2 _ q (.inl hb)
        have h2 := hT.1.elim (fun b => ((kb t).mp b).2) (fun s => absurd s (ns t))
        have : t = r - 1 := by omega
        rw [this]
        cases late <;> rfl
    · rw [if_neg hc]
      cases T with
      | none => rfl
      | some t =>
        obtain ⟨h1, h2⟩ := hT.1.elim (fun b => (kb t).mp b) (fun s => absurd s (ns t))
        have := tot_mono (ph := ph) S.ok h2
        omega
end
end Cl

/-! ### safe -/
namespace Cl
open PySem PySem.Spec PyProof.Rows L2 StX ClX
section
variable {P : Program} {w : World} {K : PySem.W.Frag} {mg : Str → Option Value} {base : Heap} {C : Addr}
def spSafe (C : Addr) : Sp := fun vs H Q _ => ∃ (l : List Bool) (p n : Int) (r : Addr) (bs : List Int) (ph : Int) (late : Bool), vs = stdV l p n r ph late ∧ Std l p n bs ph ∧ RoundAt C H r bs ∧
  ∀ (o : Option Nat) (H' : Hp), Same H H' → LifeIs l p n bs ph late o → Q (.bl (decide (o = none))) H'
theorem scSafe : FnScope ["word", "places", "limit", "budgets", "phase", "late"] ["word", "places", "limit", "budgets", "phase", "late"] (defScope sSafe) := ⟨rfl, rfl, rfl, by decide +kernel, rfl, by decide +kernel, by decide +kernel⟩
theorem ok_safe {f : Addr} {fd : FuncData} (F : FunD K "safe" "safe" (defArgs sSafe) (defBody sSafe) (defScope sSafe) [.int 0] [("late", .bl false)] f fd) (K_life_late : Dk P w K mg base "life" 8 ["word", "places", "limit", "budgets", "phase", "late"] (spLife C) 5 ["late"] (fun vs zs => vs ++ zs)) :
    FnOk P w K mg base CX0 9 f fd ["word", "places", "limit", "budgets", "phase", "late"] (spSafe C) := by
  refine F.okN scSafe (fun vs H Q E h => ?_) (fun cdv A outer s H vs Q E hr h => ?_)
  · obtain ⟨l, p, n, r, bs, ph, late, rfl, _⟩ := h
    rfl
  · obtain ⟨l, p, n, r, bs, ph, late, rfl, S, hR, k⟩ := h
    refine ⟨_, (pss_one (ps_ret (pe_cmpR op_isN (pe_dk K_life_late (hr.mono (by decide)) (by rfl) pass0 (pa_cons (pv 0) (pa_cons (pv 1) (pa_cons (pv 2) (pa_cons (pv 3) (pa_cons (pv 4) pa_nil))))) (pk_cons (pv 5) pk_nil)) pe_non (nomark _)))), ?_⟩
    walk_at "rd"
    refine ⟨l, p, n, r, bs, ph, late, rfl, S, hR, fun o H' S' ho => ?_⟩
    have := k o H' S' ho
    refine ⟨rfl, ?_⟩
    cases o with
    | none => exact this
    | some v => exact this
end
end Cl

/-! ### what the laws of keepers share: the box that is drawn from beside the script -/
namespace Cl
open PySem PySem.Spec PyProof.Rows L2 StX ClX PySem.Builtin PySem.Builtin.Str
/-- a box stands at b, made behind the heap H0: drawn from, it stays one -/
def BoxS (H0 H : Hp) (b : Addr) : Prop := H0 b = none ∧ Same H0 H ∧ ∃ (c0 c1 c2 : Int) (c3 : Nat), H b = some (.lst [.int c0, .int c1, .int c2, .int (c3 : Nat)])
theorem BoxS.seq {K : PySem.W.Frag} {H0 H : Hp} {b a : Addr} {xs : List V} (h : BoxS H0 H b) (s : SqL K H0 a xs) : SqL K H a xs := h.2.1.seq s
theorem BoxS.same {H0 H H' : Hp} {b : Addr} (h : BoxS H0 H b) (x : Same H H') : BoxS H0 H' b := by
  obtain ⟨h0, h1, c0, c1, c2, c3, e⟩ := h
  exact ⟨h0, h1.trans x, c0, c1, c2, c3, x _ _ e⟩
theorem BoxS.ne {H0 H : Hp} {b p : Addr} (h : BoxS H0 H b) (hp : H p = none) : p ≠ b := fun z => by
  obtain ⟨h0, h1, c0, c1, c2, c3, e⟩ := h
  rw [z, e] at hp; cases hp
theorem BoxS.put {H0 H : Hp} {b p : Addr} {o : HO} (h : BoxS H0 H b) (hp : H p = none) : BoxS H0 (upd H p o) b := h.same (Same.upd hp)
/-- the other box stands while one is drawn from -/
theorem BoxS.but {H0 H H' : Hp} {a b : Addr} (h : BoxS H0 H b) (n : b ≠ a) (h0 : H0 a = none) (x : But a H H') : BoxS H0 H' b := by
  obtain ⟨h1, h2, c0, c1, c2, c3, e⟩ := h
  exact ⟨h1, fun c o hc => x c o (ne_of_none hc h0) (h2 c o hc), c0, c1, c2, c3, x _ _ n e⟩
theorem BoxS.set {H0 H : Hp} {b D : Addr} {o : HO} (h : BoxS H0 H b) (n : D ≠ b) (h0 : H0 D = none) : BoxS H0 (upd H D o) b := by
  obtain ⟨a1, a2, c0, c1, c2, c3, e⟩ := h
  exact ⟨a1, fun c u hc => by rw [upd_ne (ne_of_none hc h0)]; exact a2 c u hc, c0, c1, c2, c3, by rw [upd_ne n.symm]; exact e⟩
theorem But.grow {a D : Addr} {H G : Hp} {o : HO} (h : But a H G) (hD : H D = none) : But a H (L2.upd G D o) := fun c u n e => by
  rw [upd_ne (ne_of_none e hD)]; exact h c u n e
theorem BoxS.neL {H0 H : Hp} {b p : Addr} {xs : List V} (h : BoxS H0 H b) (hp : H p = some (.lst xs)) (hx : xs.length ≠ 4) : p ≠ b := fun z => by
  obtain ⟨h0, h1, c0, c1, c2, c3, e⟩ := h
  rw [z, e] at hp
  cases hp
  exact hx rfl
theorem BoxS.neI {H0 H : Hp} {b p C dx : Addr} {fs : List (Str × V)} (h : BoxS H0 H b) (hp : H p = some (.ins C dx fs)) : p ≠ b := fun z => by
  obtain ⟨h0, h1, c0, c1, c2, c3, e⟩ := h
  rw [z, e] at hp
  cases hp
theorem BoxS.neT {H0 H : Hp} {b p : Addr} {xs : List V} (h : BoxS H0 H b) (hp : H p = some (.tup xs)) : p ≠ b := fun z => by
  obtain ⟨h0, h1, c0, c1, c2, c3, e⟩ := h
  rw [z, e] at hp
  cases hp
theorem RoundAt.butS {C a r : Addr} {H0 H H' : Hp} {bs : List Int} (h : RoundAt C H r bs) (x : But a H H') (b : BoxS H0 H a) : RoundAt C H' r bs := by
  obtain ⟨dx, t, h1, h2⟩ := h
  exact ⟨dx, t, x _ _ (b.neI h1) h1, x _ _ (b.neT h2) h2⟩
section
variable {P : Program} {w : World} {K : PySem.W.Frag} {mg : Str → Option Value} {base : Heap} {C : Addr}
def spBoxS (K : PySem.W.Frag) : Sp := fun vs H Q _ => ∃ (sa : Addr) (ns : List Int) (i : Nat) (H0 : Hp), vs = [.ref sa, .int (i : Nat)] ∧ SqL K H0 sa (ns.map V.int) ∧ Same H0 H ∧ ns.length ≤ 63 ∧ ∀ (b : Addr) (H' : Hp), H b = none → BoxS H0 H' b → Same H H' → Q (.ref b) H'
theorem scLawBox : FnScope ["script", "at", "seed", "cell"] ["script", "at"] (defScope sLawBox) := ⟨rfl, rfl, rfl, by decide +kernel, rfl, by decide +kernel, by decide +kernel⟩
theorem ok__law_box {f : Addr} {fd : FuncData} (F : Fun K "_law_box" "_law_box" sLawBox f fd) (B : Bi mg) : FnOk P w K mg base CX0 1 f fd ["script", "at"] (spBoxS K) := by
  refine F.ok scLawBox (fun vs H Q E h => ?_) (fun cdv A outer s H vs Q E hr h => ?_)
  · obtain ⟨a, ns, i, H0, rfl, _⟩ := h
    rfl
  · obtain ⟨sa, ns, i, H0, rfl, hs0, hS0, hn, k⟩ := h
    refine ⟨_, (pss_cons (ps_set (i := 2) scLawBox.nd rfl (Or.inl rfl) (pe_callB (cr_sum rfl) (by rfl) B.sum (by decide +kernel) (pa_cons (pe_lc (own := [("cell", 3)]) (g := gName 3) rfl scLawBox.nd (pi_list (pe_slice sl_list (pv 0) po_none (po_some pe_int))) (blkOk_by (own := [("cell", 3)]) (N := ["script", "at", "seed", "cell"]) (sc := defScope sLawBox) (by decide +kernel)) (fun _ _ _ _ _ => (pg_name (i := 3) scLawBox.nd rfl (Or.inl rfl))) (fun _ _ _ _ _ => pts_nil) (fun _ _ _ _ _ => (pe_op op_mod (pe_callTy call_int1 (by rfl) B.intT (by decide +kernel) (pa_cons (pv 3) pa_nil)) pe_int))) pa_nil)))
  (pss_one (ps_ret (pe_lst (pa_cons pe_int (pa_cons (pe_op op_mod (pe_callTy call_int1 (by rfl) B.intT (by decide +kernel) (pa_cons (pe_op op_add (pe_op op_add (pv 2) (pe_op op_mul pe_int (pv 1))) pe_int) pa_nil)) pe_int) (pa_cons pe_int (pa_cons (pv 1) pa_nil)))))))), ?_⟩
    have hs := hS0.seq hs0
    walk_at "rd"
    refine ⟨sa, _, rfl, hs, fun u hu => ?_⟩
    rw [show cutV (ns.map V.int) none (some (63 : Int)) = (ns.take 63).map V.int from (tcut_to (f := 63)).trans (List.map_take ..).symm]
    rw [List.take_of_length_le hn]
    refine ⟨u, rfl, ⟨_, SqL.of upd_same⟩, fun D hD => ?_⟩
    refine lc_growL (fun x => match x with | .int i => .int (i % 1000003) | v => v) (SqL.of upd_same) hD (by rw [List.length_map]; omega) ?_ ?_
    · intro x H2 R hx hS2 h
      obtain ⟨e, he, rfl⟩ := List.mem_map.mp hx
      refine ⟨rfl, ?_⟩
      walk_at "rd"
      exact h _ (Same.refl _)
    · intro H2 hS2 hD2
      rw [List.map_map] at hD2
      walk_at "rd"
      refine ⟨D, ns.map (fun e => e % 1000003), rfl, SqL.of (by rw [hD2, List.map_map]; rfl), ?_⟩
      walk_at "rd"
      refine ⟨by show 4 ≤ sizeLine; decide, fun b hb => ?_⟩
      have S2 := (Same.upd (o := .lst (ns.map V.int)) hu).trans hS2
      exact k b _ (S2.free hb) ⟨(hS0.trans S2).free hb, (hS0.trans S2).trans (Same.upd hb), _, _, _, i, upd_same⟩ (S2.trans (Same.upd hb))
def spTakeX (K : PySem.W.Frag) : Sp := fun vs H Q _ => ∃ (sa b : Addr) (z : Int) (ns : List Int) (H0 : Hp), vs = [.ref sa, .ref b, .int z] ∧ SqL K H0 sa (ns.map V.int) ∧ BoxS H0 H b ∧ 1 ≤ z ∧ z ≤ 100000000000000000000000000000000000000000000000000000000000000 ∧ ∀ (d : Int) (H' : Hp), 0 ≤ d → d < z → BoxS H0 H' b → But b H H' → Q (.int d) H'
theorem scLawTake : FnScope ["script", "box", "many", "cell", "digit"] ["script", "box", "many"] (defScope sLawTake) := ⟨rfl, rfl, rfl, by decide +kernel, rfl, by decide +kernel, by decide +kernel⟩
set_option maxHeartbeats 0 in
theorem ok__law_take {f : Addr} {fd : FuncData} (F : Fun K "_law_take" "_law_take" sLawTake f fd) (B : Bi mg) : FnOk P w K mg base CX0 1 f fd ["script", "box", "many"] (spTakeX K) := by
  refine F.ok scLawTake (fun vs H Q E h => ?_) (fun cdv A outer s H vs Q E hr h => ?_)
  · obtain ⟨sa, b, z, ns, H0, rfl, _⟩ := h
    rfl
  · obtain ⟨sa, b, z, ns, H0, rfl, hs, ⟨hb0, hS0, c0, c1, c2, c3, hb⟩, z1, z2, k⟩ := h
    refine ⟨_, (C8.pss_cut (ps_if (PW.pt (pw_and (pt_cmpR op_eq (pe_ix ix_list (pv 1) pe_int (fun _ _ => rfl)) pe_int (nomark _)) (pw_and1 (pt_cmpR op_lt (pe_ix ix_list (pv 1) pe_int (fun _ _ => rfl)) (pe_callB (call_min2 rfl) (by rfl) B.min (by decide +kernel) (pa_cons pe_int (pa_cons (pe_callB call_len_seq (by rfl) B.len PySem.boot_len (pa_cons (pv 0) pa_nil)) pa_nil))) (nomark _))))) (pss_cons (ps_set (i := 3) scLawTake.nd rfl (Or.inl rfl) (pe_callTy call_int1 (by rfl) B.intT (by decide +kernel) (pa_cons (pe_ix ix_list (pv 0) (pe_ix ix_list (pv 1) pe_int (fun _ _ => rfl)) (fun _ _ => rfl)) pa_nil)))
  (pss_cons (ps_asg (pe_op op_add (pe_ix ix_list (pv 1) pe_int (fun _ _ => rfl)) pe_int) (pg_sub (pv 1) pe_int set_list))
  (pss_cons (ps_asg (pe_op op_mod (pe_callTy call_int1 (by rfl) B.intT (by decide +kernel) (pa_cons (pe_op op_add (pe_op op_add (pe_op op_mul (pe_ix ix_list (pv 1) pe_int (fun _ _ => rfl)) pe_int) (pv 3)) pe_int) pa_nil)) pe_int) (pg_sub (pv 1) pe_int set_list))
  (pss_one (ps_if (pt_cmpR op_ge (pe_callB call_abs (by rfl) B.abs (by decide +kernel) (pa_cons (pv 3) pa_nil)) (pe_op op_pow pe_int pe_int) (nomark _)) (pss_one (ps_asg (pe_callB call_abs (by rfl) B.abs (by decide +kernel) (pa_cons (pv 3) pa_nil)) (pg_sub (pv 1) pe_int set_list)))
  pss_nil)))))
  pss_nil)
  (pss_cons (ps_if (pt_cmpR op_gt (pe_ix ix_list (pv 1) pe_int (fun _ _ => rfl)) pe_int (nomark _)) (pss_cons (ps_set (i := 4) scLawTake.nd rfl (Or.inl rfl) (pe_op op_mod (pe_callTy call_int1 (by rfl) B.intT (by decide +kernel) (pa_cons (pe_ix ix_list (pv 1) pe_int (fun _ _ => rfl)) pa_nil)) (pv 2)))
  (pss_cons (ps_asg (pe_op op_fdivW (pe_ix ix_list (pv 1) pe_int (fun _ _ => rfl)) (pv 2)) (pg_sub (pv 1) pe_int set_list))
  (pss_one (ps_ret (pv 4)))))
  pss_nil)
  (pss_cons (ps_asg (pe_op op_add (pe_ix ix_list (pv 1) pe_int (fun _ _ => rfl)) pe_int) (pg_sub (pv 1) pe_int set_list))
  (pss_cons (ps_asg (pe_op op_mod (pe_callTy call_int1 (by rfl) B.intT (by decide +kernel) (pa_cons (pe_op op_add (pe_op op_add (pe_op op_mul (pe_ix ix_list (pv 1) pe_int (fun _ _ => rfl)) pe_int) (pe_op op_mul (pe_ix ix_list (pv 1) pe_int (fun _ _ => rfl)) pe_int)) pe_int) pa_nil)) pe_int) (pg_sub (pv 1) pe_int set_list))
  (pss_one (ps_ret (pe_op op_mod (pe_op op_fdiv (pe_op op_mod (pe_callTy call_int1 (by rfl) B.intT (by decide +kernel) (pa_cons (pe_op op_add (pe_op op_mul (pe_op op_fdiv (pe_ix ix_list (pv 1) pe_int (fun _ _ => rfl)) pe_int) pe_int) (pe_op op_mul (pe_ix ix_list (pv 1) pe_int (fun _ _ => rfl)) pe_int)) pa_nil)) pe_int) pe_int) (pv 2)))))))), ?_⟩
    have go : ∀ H1 : Hp, But b H H1 → Same H0 H1 := fun H1 x c o hc => x c o (ne_of_none hc hb0) (hS0 c o hc)
    refine ⟨fun σ H1 => ∃ (x : Option V) (c0 c1 c2 : Int) (c3 : Nat), σ = [some (.ref sa), some (.ref b), some (.int z), x, none] ∧ H1 b = some (.lst [.int c0, .int c1, .int c2, .int (c3 : Nat)]) ∧ But b H H1, ?_, ?_⟩
    · walk_at "rd"
      refine ⟨b, _, _, _, rfl, rfl, SqL.of hb, rfl, ?_⟩
      walk_at "rd"
      refine iti (fun e0 => ?_) (fun e0 => ?_)
      · walk_at "rd"
        refine ⟨b, _, _, _, rfl, rfl, SqL.of hb, rfl, ?_⟩
        walk_at "rd"
        refine ⟨sa, _, rfl, .inl (hS0.seq hs), ?_⟩
        walk_at "rd"
        rw [List.length_map]
        refine itd (fun e1 => ?_) (fun e1 => ?_)
        · have hc : c3 < ns.length := by
            split at e1 <;> omega
          walk_at "rd"
          refine ⟨b, _, _, _, rfl, rfl, SqL.of hb, rfl, ?_⟩
          have hat : (ns.map V.int)[c3]? = some (V.int ns[c3]) := by rw [List.getElem?_map, List.getElem?_eq_getElem hc]; rfl
          refine ⟨sa, _, _, _, rfl, rfl, hS0.seq hs, atI_nat hat, ?_⟩
          generalize ns[c3] = cell
          walk_at "rd"
          refine ⟨b, _, _, _, rfl, rfl, SqL.of hb, rfl, ?_⟩
          walk_at "rd"
          refine ⟨b, _, _, 3, rfl, rfl, hb, rfl, ?_⟩
          have hb1 : upd H b (.lst [V.int c0, .int c1, .int c2, .int ((c3 : Nat) + 5)]) b = some (.lst [.int c0, .int c1, .int c2, .int ((c3 + 5 : Nat) : Int)]) := by rw [upd_same]; rfl
          have b1 : But b H (upd H b (.lst [V.int c0, .int c1, .int c2, .int ((c3 : Nat) + 5)])) := But.upd
          walk_at "rd"
          refine ⟨b, _, _, _, rfl, rfl, SqL.of hb1, rfl, ?_⟩
          walk_at "rd"
          refine ⟨b, _, _, 1, rfl, rfl, hb1, rfl, ?_⟩
          have hb2 : ∀ y : Int, upd (upd H b (.lst [V.int c0, .int c1, .int c2, .int ((c3 : Nat) + 5)])) b (.lst [V.int c0, .int y, .int c2, .int ((c3 + 5 : Nat) : Int)]) b = some (.lst [.int c0, .int y, .int c2, .int ((c3 + 5 : Nat) : Int)]) := fun y => upd_same
          walk_at "rd"
          refine itd (fun e2 => ?_) (fun e2 => ?_)
          · walk_at "rd"
            refine ⟨b, _, _, 0, rfl, rfl, hb2 _, rfl, ?_⟩
            exact ⟨_, _, _, _, c3 + 5, rfl, upd_same, (b1.trans But.upd).trans But.upd⟩
          · exact ⟨_, _, _, _, c3 + 5, rfl, hb2 _, b1.trans But.upd⟩
        · exact ⟨_, _, _, _, _, rfl, hb, But.refl _ _⟩
      · exact ⟨_, _, _, _, _, rfl, hb, But.refl _ _⟩
    · rintro σ H1 ⟨x, c0, c1, c2, c3, rfl, hb, hB⟩
      walk_at "rd"
      refine ⟨b, _, _, _, rfl, rfl, SqL.of hb, rfl, ?_⟩
      walk_at "rd"
      refine itd (fun e => ?_) (fun e => ?_)
      · walk_at "rd"
        refine ⟨b, _, _, _, rfl, rfl, SqL.of hb, rfl, ?_⟩
        walk_at "rd"
        refine ⟨by show (0 : Int) < z; omega, ?_⟩
        walk_at "rd"
        refine ⟨b, _, _, _, rfl, rfl, SqL.of hb, rfl, ?_⟩
        walk_at "rd"
        refine ⟨divB (by omega) z2, ?_⟩
        walk_at "rd"
        refine ⟨b, _, _, 0, rfl, rfl, hb, rfl, ?_⟩
        walk_at "rd"
        exact k _ _ (Int.emod_nonneg _ (by omega)) (Int.emod_lt_of_pos _ (by omega)) ⟨hb0, go _ (hB.trans But.upd), _, _, _, c3, upd_same⟩ (hB.trans But.upd)
      · walk_at "rd"
        refine ⟨b, _, _, _, rfl, rfl, SqL.of hb, rfl, ?_⟩
        walk_at "rd"
        refine ⟨b, _, _, 2, rfl, rfl, hb, rfl, ?_⟩
        have hb1 : upd H1 b (.lst [V.int c0, .int c1, .int (c2 + 1), .int ((c3 : Nat))]) b = some (.lst [.int c0, .int c1, .int (c2 + 1), .int ((c3 : Nat) : Int)]) := upd_same
        walk_at "rd"
        refine ⟨b, _, _, _, rfl, rfl, SqL.of hb1, rfl, ?_⟩
        walk_at "rd"
        refine ⟨b, _, _, _, rfl, rfl, SqL.of hb1, rfl, ?_⟩
        walk_at "rd"
        refine ⟨b, _, _, 1, rfl, rfl, hb1, rfl, ?_⟩
        have hb2 : ∀ y : Int, upd (upd H1 b (.lst [V.int c0, .int c1, .int (c2 + 1), .int ((c3 : Nat))])) b (.lst [V.int c0, .int y, .int (c2 + 1), .int (c3 : Nat)]) b = some (.lst [.int c0, .int y, .int (c2 + 1), .int (c3 : Nat)]) := fun y => upd_same
        walk_at "rd"
        refine ⟨b, _, _, _, rfl, rfl, SqL.of (hb2 _), rfl, ?_⟩
        walk_at "rd"
        refine ⟨b, _, _, _, rfl, rfl, SqL.of (hb2 _), rfl, ?_⟩
        walk_at "rd"
        refine ⟨by show (0 : Int) < z; omega, ?_⟩
        have bb := fun (o : HO) => hB.trans ((But.upd (a := b) (o := .lst [V.int c0, .int c1, .int (c2 + 1), .int ((c3 : Nat))])).trans (But.upd (o := o)))
        exact k _ _ (Int.emod_nonneg _ (by omega)) (Int.emod_lt_of_pos _ (by omega)) ⟨hb0, go _ (bb _), _, _, _, c3, hb2 _⟩ (bb _)
end
end Cl

/-! ### keepers: the fewest carries after which the append is safe -/
namespace Cl
open PySem PySem.Spec PyProof.Rows L2 StX ClX PySem.Builtin PySem.Builtin.Str
theorem LifeIs.one {l : List Bool} {p n : Int} {bs : List Int} {ph : Int} {late : Bool} {o o' : Option Nat} (h : LifeIs l p n bs ph late o) (h' : LifeIs l p n bs ph late o') : o = o' := by
  unfold LifeIs at h h'
  split at h
  · rename_i c
    rw [if_pos c] at h'
    rw [h, h']
  · rename_i c
    rw [if_neg c] at h'
    obtain ⟨T, hT, e⟩ := h
    obtain ⟨T', hT', e'⟩ := h'
    rw [e, e', hT.one hT']
theorem life_exk (l : List Bool) (p n : Int) (bs : List Int) (ph : Int) (late : Bool) : ∃ o, LifeIs l p n bs ph late o := by
  unfold LifeIs
  split
  · exact ⟨_, rfl⟩
  · obtain ⟨T, hT⟩ := fst_ex (fun t => Blk l (mIn p late) n bs ph t ∨ Sht l (mIn p late) n bs ph t)
    exact ⟨_, T, hT, rfl⟩
/-- the standing lasts forever, early -/
def SafeA (l : List Bool) (p n : Int) (bs : List Int) (ph : Int) : Prop := LifeIs l p n bs ph false none
/-- .. after the append -/
def SafeT (l : List Bool) (p n : Int) (bs : List Int) (ph : Int) (b : Bool) (k : Nat) : Prop :=
  n ≤ p ∧ (((nrm (mvd p k l ++ [b])).count true : Nat) : Int) ≤ n ∧ SafeA (nrm (mvd p k l ++ [b])) p n bs (ph + 1)
def mostN (l : List Bool) (p : Int) (bs : List Int) (ph : Int) : Nat := if (l.length : Int) = p then 0 else min (bud bs ph 0) (l.count true)
/-- the fewest carries -/
structure Few (l : List Bool) (p n : Int) (bs : List Int) (ph : Int) (b : Bool) (m : Nat) : Prop where
  le : m ≤ mostN l p bs ph
  ok : m < mostN l p bs ph → SafeT l p n bs ph b m
  lo : ∀ j, j < m → ¬ SafeT l p n bs ph b j
theorem Few.one {l : List Bool} {p n : Int} {bs : List Int} {ph : Int} {b : Bool} {m m' : Nat} (h : Few l p n bs ph b m) (h' : Few l p n bs ph b m') : m = m' := by
  rcases Nat.lt_trichotomy m m' with q | q | q
  · exact absurd (h.ok (Nat.lt_of_lt_of_le q h'.le)) (h'.lo m q)
  · exact q
  · exact absurd (h'.ok (Nat.lt_of_lt_of_le q h.le)) (h.lo m' q)
section
variable {P : Program} {w : World} {K : PySem.W.Frag} {mg : Str → Option Value} {base : Heap} {C C_NoPlace : Addr}
def spMoment (C : Addr) : Sp := fun vs H Q _ => ∃ (l : List Bool) (p : Int) (r : Addr) (bs : List Int) (ph : Int), vs = [.str (tx l), .int p, .ref r, .int ph] ∧ Wd l ∧ l.length ≤ 9000 ∧ (l.length : Int) ≤ p ∧ 1 ≤ p ∧ RoundAt C H r bs ∧ 0 ≤ ph ∧ Q .non H
theorem scCheckMoment : FnScope ["word", "places", "budgets", "phase"] ["word", "places", "budgets", "phase"] (defScope sCheckMoment) := ⟨rfl, rfl, rfl, by decide +kernel, rfl, by decide +kernel, by decide +kernel⟩
theorem ok__check_moment {f : Addr} {fd : FuncData} (F : Fun K "_check_moment" "_check_moment" sCheckMoment f fd) (B : Bi mg) (D_check_word : Dn P w K mg base "check_word" 3 ["word", "field"] spCheckWord) (D_check_least : Dn P w K mg base "check_least" 2 ["value", "least", "field"] spCheckLeast) (D_check_round : Dn P w K mg base "check_round" 1 ["budgets"] (spCkRound C)) :
    FnOk P w K mg base CX0 4 f fd ["word", "places", "budgets", "phase"] (spMoment C) := by
  refine F.ok scCheckMoment (fun vs H Q E h => ?_) (fun cdv A outer s H vs Q E hr h => ?_)
  · obtain ⟨l, p, r, bs, ph, rfl, _⟩ := h
    rfl
  · obtain ⟨l, p, r, bs, ph, rfl, W, l9, lp, p1, hR, ph0, k⟩ := h
    refine ⟨_, (pss_cons (ps_expr (pe_dn D_check_word (hr.mono (by decide)) (by rfl) pass0 (pa_cons (pv 0) (pa_cons pe_str pa_nil))))
  (pss_cons (ps_expr (pe_dn D_check_least (hr.mono (by decide)) (by rfl) pass0 (pa_cons (pv 1) (pa_cons pe_int (pa_cons pe_str pa_nil)))))
  (pss_cons (ps_expr (pe_dn D_check_round (hr.mono (by decide)) (by rfl) pass0 (pa_cons (pv 2) pa_nil)))
  (pss_cons (ps_expr (pe_dn D_check_least (hr.mono (by decide)) (by rfl) pass0 (pa_cons (pv 3) (pa_cons pe_int (pa_cons pe_str pa_nil)))))
  (pss_one (ps_if (pt_cmpR op_gt (pe_callB call_len_str (by rfl) B.len PySem.boot_len (pa_cons (pv 0) pa_nil)) (pv 1) (nomark _)) (pss_one ps_never)
  pss_nil)))))), ?_⟩
    walk_at "rd"
    refine ⟨by omega, W, ?_⟩
    walk_at "rd"
    refine ⟨p1, ?_⟩
    walk_at "rd"
    refine ⟨r, bs, rfl, hR, ?_⟩
    walk_at "rd"
    refine ⟨ph0, ?_⟩
    walk_at "rd"
    refine ⟨small_le (by rw [tx_len]; have : (20000 : Nat) ≤ sizeLine := by decide
                         omega), ?_⟩
    walk_at "rd"
    rw [tx_len, decide_eq_false (by omega)]
    exact iteF k
def spMost (C : Addr) : Sp := fun vs H Q _ => ∃ (l : List Bool) (p : Int) (r : Addr) (bs : List Int) (ph : Int), vs = [.str (tx l), .int p, .ref r, .int ph] ∧ Wd l ∧ l.length ≤ 9000 ∧ Okb bs ∧ RoundAt C H r bs ∧ 0 ≤ ph ∧ Q (.int (mostN l p bs ph : Nat)) H
theorem scMostCarries : FnScope ["word", "places", "budgets", "phase"] ["word", "places", "budgets", "phase"] (defScope sMostCarries) := ⟨rfl, rfl, rfl, by decide +kernel, rfl, by decide +kernel, by decide +kernel⟩
theorem ok_most_carries {f : Addr} {fd : FuncData} (F : Fun K "most_carries" "most_carries" sMostCarries f fd) (B : Bi mg) (R_Round : ClsC K mg "Round" C) (M_Round_at : Mn P w K mg base C "at" 3 ["self", "t"] (spAt C)) (D_living : Dn P w K mg base "living" 4 ["word"] spLiving) :
    FnOk P w K mg base CX0 5 f fd ["word", "places", "budgets", "phase"] (spMost C) := by
  refine F.ok scMostCarries (fun vs H Q E h => ?_) (fun cdv A outer s H vs Q E hr h => ?_)
  · obtain ⟨l, p, r, bs, ph, rfl, _⟩ := h
    rfl
  · obtain ⟨l, p, r, bs, ph, rfl, W, l9, ok, hR, ph0, k⟩ := h
    refine ⟨_, (pss_cons (ps_if (pt_cmpR op_eq (pe_callB call_len_str (by rfl) B.len PySem.boot_len (pa_cons (pv 0) pa_nil)) (pv 1) (nomark _)) (pss_one (ps_ret pe_int))
  pss_nil)
  (pss_one (ps_ret (pe_callB (call_min2 rfl) (by rfl) B.min (by decide +kernel) (pa_cons (pe_mn M_Round_at R_Round.cl (hr.mono (by decide)) pass0 (pv 2) (pa_cons (pv 3) pa_nil)) (pa_cons (pe_dn D_living (hr.mono (by decide)) (by rfl) pass0 (pa_cons (pv 0) pa_nil)) pa_nil)))))), ?_⟩
    walk_at "rd"
    refine ⟨small_le (by rw [tx_len]; have : (20000 : Nat) ≤ sizeLine := by decide
                         omega), ?_⟩
    walk_at "rd"
    rw [tx_len]
    unfold mostN at k
    refine iti (fun e => ?_) (fun e => ?_)
    · rw [if_pos e] at k
      walk_at "rd"
      exact k
    · rw [if_neg e] at k
      obtain ⟨dx, t, hr1, hr2⟩ := hR
      have hR : RoundAt C H r bs := ⟨dx, t, hr1, hr2⟩
      obtain ⟨z, hz, z0, ez⟩ := bud_at (ph := ph) ok 0
      rw [show ph + ((0 : Nat) : Int) = ph by omega] at hz
      walk_at "rd"
      refine ⟨r, dx, _, rfl, hr1, no_ "at" (by decide) t, ?_⟩
      walk_at "rd"
      refine ⟨r, bs, ph, z, rfl, hR, ok, ph0, hz, ?_⟩
      walk_at "rd"
      refine ⟨by omega, W, ?_⟩
      walk_at "rd"
      have e2 : (if ((l.count true : Nat) : Int) < z then ((l.count true : Nat) : Int) else z) = ((min (bud bs ph 0) (l.count true) : Nat) : Int) := by
        split <;> omega
      rw [e2]
      exact k
/-- whether the standing after the append is one, and safe -/
def SafeN (l : List Bool) (p n : Int) (bs : List Int) (ph : Int) (b : Bool) : Prop := n ≤ p ∧ (((nrm (l ++ [b])).count true : Nat) : Int) ≤ n ∧ SafeA (nrm (l ++ [b])) p n bs (ph + 1)
def spSafeN (C : Addr) : Sp := fun vs H Q _ => ∃ (l : List Bool) (p n : Int) (r : Addr) (bs : List Int) (ph : Int) (b : Bool), vs = [.str (tx l), .int p, .int n, .ref r, .int ph, .str (tx [b])] ∧ Wd l ∧ (l.length : Int) < p ∧ p ≤ 5000 ∧ 1 ≤ n ∧ Okb bs ∧ RoundAt C H r bs ∧ 0 ≤ ph ∧
  ∀ (x : Bool) (H' : Hp), Same H H' → (x = true ↔ SafeN l p n bs ph b) → Q (.bl x) H'
theorem scIsSafeAfter : FnScope ["word", "places", "limit", "budgets", "phase", "record", "after"] ["word", "places", "limit", "budgets", "phase", "record"] (defScope sIsSafeAfter) := ⟨rfl, rfl, rfl, by decide +kernel, rfl, by decide +kernel, by decide +kernel⟩
theorem ok__is_safe_after {f : Addr} {fd : FuncData} (F : Fun K "_is_safe_after" "_is_safe_after" sIsSafeAfter f fd) (B : Bi mg) (D_append_record : Dx P w K mg base "append_record" 4 ["word", "places", "record"] (spAppRec C_NoPlace)) (D_living : Dn P w K mg base "living" 4 ["word"] spLiving)
    (D_safe_5 : Dn P w K mg base "safe" 9 ["word", "places", "limit", "budgets", "phase", "late"] (spSafe C) [.bl false]) : FnOk P w K mg base CX0 10 f fd ["word", "places", "limit", "budgets", "phase", "record"] (spSafeN C) := by
  refine F.ok scIsSafeAfter (fun vs H Q E h => ?_) (fun cdv A outer s H vs Q E hr h => ?_)
  · obtain ⟨l, p, n, r, bs, ph, b, rfl, _⟩ := h
    rfl
  · obtain ⟨l, p, n, r, bs, ph, b, rfl, W, lp, p5, n1, ok, hR, ph0, k⟩ := h
    refine ⟨_, (pss_cons (ps_set (i := 6) scIsSafeAfter.nd rfl (Or.inl rfl) (pe_dx D_append_record (hr.mono (by decide)) (by rfl) passX0 (pa_cons (pv 0) (pa_cons (pv 1) (pa_cons (pv 5) pa_nil)))))
  (pss_cons (ps_if (PW.pt (pw_or (pt_cmpR op_gt (pv 2) (pv 1) (nomark _)) (pw_or1 (pt_cmpR op_gt (pe_dn D_living (hr.mono (by decide)) (by rfl) pass0 (pa_cons (pv 6) pa_nil)) (pv 2) (nomark _))))) (pss_one (ps_ret pe_bl))
  pss_nil)
  (pss_one (ps_ret (pe_dn D_safe_5 (hr.mono (by decide)) (by rfl) pass0 (pa_cons (pv 6) (pa_cons (pv 1) (pa_cons (pv 2) (pa_cons (pv 3) (pa_cons (pe_op op_add (pv 4) pe_int) pa_nil)))))))))), ?_⟩
    walk_at "rd"
    refine ⟨by omega, W, by omega, by omega, fun _ H1 S1 => ?_, fun e => absurd e (by omega)⟩
    have hR1 := hR.same S1
    have W2 := nrm_is (l ++ [b])
    have len2 := nrm_len (l ++ [b])
    rw [List.length_append, List.length_singleton] at len2
    unfold SafeN at k
    generalize nrm (l ++ [b]) = v at W2 len2 k ⊢
    walk_at "rd"
    refine itd (fun e1 => ?_) (fun e1 => ?_)
    · walk_at "rd"
      exact k false H1 S1 ⟨fun h => (nomatch h), fun h => absurd h.1 (by omega)⟩
    walk_at "rd"
    refine ⟨by omega, W2, ?_⟩
    walk_at "rd"
    refine itd (fun e2 => ?_) (fun e2 => ?_)
    · walk_at "rd"
      exact k false H1 S1 ⟨fun h => (nomatch h), fun h => absurd h.2.1 (by omega)⟩
    walk_at "rd"
    refine ⟨v, p, n, r, bs, ph + 1, false, rfl, ⟨W2, by omega, by omega, n1, by omega, p5, ok, by omega⟩, hR1, fun o H2 S2 ho => ?_⟩
    refine k _ H2 (S1.trans S2) ?_
    rw [decide_eq_true_iff]
    exact ⟨fun h => ⟨by omega, by omega, by unfold SafeA; rw [← h]; exact ho⟩, fun h => ho.one h.2.2⟩
def spFew (C : Addr) : Sp := fun vs H Q _ => ∃ (l : List Bool) (p n : Int) (r : Addr) (bs : List Int) (ph : Int) (b : Bool), vs = [.str (tx l), .int p, .int n, .ref r, .int ph, .str (tx [b])] ∧ Wd l ∧ (l.length : Int) ≤ p ∧ 1 ≤ p ∧ p ≤ 5000 ∧ 1 ≤ n ∧ Okb bs ∧ RoundAt C H r bs ∧ 0 ≤ ph ∧
  ∀ (m : Nat) (H' : Hp), Same H H' → Few l p n bs ph b m → Q (.int (m : Nat)) H'
theorem scFewestCarries : FnScope ["word", "places", "limit", "budgets", "phase", "record", "most", "count"] ["word", "places", "limit", "budgets", "phase", "record"] (defScope sFewestCarries) := ⟨rfl, rfl, rfl, by decide +kernel, rfl, by decide +kernel, by decide +kernel⟩
set_option maxHeartbeats 0 in
theorem ok_fewest_carries {f : Addr} {fd : FuncData} (F : Fun K "fewest_carries" "fewest_carries" sFewestCarries f fd) (B : Bi mg) (D_most_carries : Dn P w K mg base "most_carries" 5 ["word", "places", "budgets", "phase"] (spMost C)) (D__is_safe_after : Dn P w K mg base "_is_safe_after" 10 ["word", "places", "limit", "budgets", "phase", "record"] (spSafeN C))
    (D_carry : Dn P w K mg base "carry" 4 ["word", "places"] spCarry) : FnOk P w K mg base CX0 11 f fd ["word", "places", "limit", "budgets", "phase", "record"] (spFew C) := by
  refine F.ok scFewestCarries (fun vs H Q E h => ?_) (fun cdv A outer s H vs Q E hr h => ?_)
  · obtain ⟨l, p, n, r, bs, ph, b, rfl, _⟩ := h
    rfl
  · obtain ⟨l, p, n, r, bs, ph, b, rfl, W, lp, p1, p5, n1, ok, hR, ph0, k⟩ := h
    refine ⟨_, (pss_cons (ps_set (i := 6) scFewestCarries.nd rfl (Or.inl rfl) (pe_dn D_most_carries (hr.mono (by decide)) (by rfl) pass0 (pa_cons (pv 0) (pa_cons (pv 1) (pa_cons (pv 3) (pa_cons (pv 4) pa_nil))))))
  (pss_cons (ps_for PassesOwn.never rfl (pi_range1 rfl B.range (pa_cons (pv 6) pa_nil)) (pg_name (i := 7) scFewestCarries.nd rfl (Or.inl rfl))
  (pss_cons (ps_if (pt_val (pe_dn D__is_safe_after (hr.mono (by decide)) (by rfl) pass0 (pa_cons (pv 0) (pa_cons (pv 1) (pa_cons (pv 2) (pa_cons (pv 3) (pa_cons (pv 4) (pa_cons (pv 5) pa_nil)))))))) (pss_one (ps_ret (pv 7)))
  pss_nil)
  (pss_one (ps_set (i := 0) scFewestCarries.nd rfl (Or.inl rfl) (pe_dn D_carry (hr.mono (by decide)) (by rfl) pass0 (pa_cons (pv 0) (pa_cons (pv 1) pa_nil)))))))
  (pss_one (ps_ret (pv 6))))), ?_⟩
    walk_at "rd"
    refine ⟨l, p, r, bs, ph, rfl, W, by omega, ok, hR, ph0, ?_⟩
    have mN : mostN l p bs ph ≤ l.length := by
      unfold mostN
      have := List.count_le_length (a := true) (l := l)
      split <;> omega
    have mF : 0 < mostN l p bs ph → (l.length : Int) < p := fun h => by
      unfold mostN at h
      split at h <;> omega
    walk_at "rd"
    refine ⟨by omega, by omega, ?_⟩
    refine for_range (fun i σ H' => ∃ x7, σ = [some (.str (tx (mvd p i l))), some (.int p), some (.int n), some (.ref r), some (.int ph), some (.str (tx [b])), some (.int (mostN l p bs ph : Nat)), x7] ∧ Same H H' ∧ ∀ j, j < i → ¬ SafeT l p n bs ph b j) ⟨_, rfl, Same.refl _, fun j hj => absurd hj (by omega)⟩ ?_ ?_
    · rintro i σ H1 hi ⟨x7, rfl, S1, lo⟩
      have hi : i < mostN l p bs ph := by omega
      have lp2 := mF (by omega)
      have ml := mvd_len (p := p) (l := l) i
      walk_at "rd"
      refine ⟨mvd p i l, p, n, r, bs, ph, b, rfl, mvd_wd W i, by omega, p5, n1, ok, hR.same S1, ph0, fun x H2 S2 hx => ?_⟩
      have hx : x = true ↔ SafeT l p n bs ph b i := hx
      walk_at "rd"
      cases x
      · refine iteF ?_
        walk_at "rd"
        refine ⟨by omega, mvd_wd W i, p1, by omega, ?_⟩
        exact ⟨_, rfl, S1.trans S2, fun j hj => (Nat.lt_succ_iff_lt_or_eq.mp hj).elim (lo j) fun e => by subst e; exact fun z => nomatch hx.mpr z⟩
      · refine iteT ?_
        walk_at "rd"
        rw [Int.zero_add]
        exact k i H2 (S1.trans S2) ⟨by omega, fun _ => hx.mp rfl, lo⟩
    · rintro σ H1 ⟨x7, rfl, S1, lo⟩
      walk_at "rd"
      exact k _ H1 S1 ⟨Nat.le_refl _, fun h => absurd h (by omega), fun j hj => lo j (by omega)⟩
end
end Cl

/-! ### further classes: made by their own __init__, asked by isinstance with another class -/
namespace Cl
open PySem L2 PyProof.Rows StX ClX
structure Ci (P : Program) (w : World) (K : PySem.W.Frag) (mg : Str → Option Value) (base : Heap) (C : Addr) (k : Nat) (ps : List Str) (sp : Sp) (dvs : List V := []) : Prop where
  ex : ∃ (f : Addr) (fd : FuncData) (ds : List Value), Mk K C f ∧ FnOk P w K mg base CX0 k f fd ps sp ∧ Binds K fd ps ds ∧ Vals dvs ds
section
variable {X : Cx} {k : Nat} {C D : Addr} {ps : List Str} {sp : Sp} {dvs : List V} {E : XK} {x : Str} {pn pos : Pos} {e : Expr} {es : List Expr} {t : TA} {b : Bool}
theorem pe_mki (D : Ci X.prog X.w X.K X.mg X.base C k ps sp dvs) (hr : Room (k + 1) X.A) (hg : Gl X x) (hm : X.mg x = some (.ref C)) (hx : Passes CX0 X E) (ha : PA X (e :: es) t) (hdb : (x == ("__debug__" : Str)) = false := by decide)
    (he : starEach (e :: es) X.env = (false, eval e X.env) :: starEach es X.env := by rfl) (hpl : (backTo pos (starEach es X.env)).any (·.1) = false := by rfl) : PE X (.Call (.Name x pn) (e :: es) [] pos) (tMake C sp dvs E t) := by
  obtain ⟨f, fd, ds, M, F, b, v⟩ := D.ex
  exact pe_make M F hr hg hm b v hx ha hdb he hpl
theorem call_isD (c : C8.InsC X.K C) (me : PySem.W.kitOne X.K (.ref C) (.ref D) = some b) : CallR X (.builtin "isinstance") (fun xs H Q => ∃ a dx fs, xs = [.ref a, .ref D] ∧ H a = some (.ins C dx fs) ∧ Q (.bl b) H) := by
  intro pins s σ H xs us Q I r h
  obtain ⟨a, dx, fs, rfl, ha, q⟩ := h
  obtain ⟨u, w', rfl, ru, rw'⟩ := vals2 r
  cases rw'
  exact isinst_ok I ru (TyOf.ins ha c.cl c.ha c.hn c.htk c.hm) me fun tk => ⟨.bl b, H, I.tok _, rfl, q⟩
end
section
variable {P : Program} {w : World} {K : PySem.W.Frag} {mg : Str → Option Value} {base : Heap} {C : Addr} {x qual : Str} {st : Stmt} {ps : List Str} {k : Nat} {sp : Sp} {h : Heap}
theorem AtCls.ci (t : AtCls K C "__init__" qual st) (c : AtC K x C) (hb : Bd "__init__" qual st ps) (ok : ∀ (f : Addr) (fd : FuncData), Fun K "__init__" qual st f fd → FnOk P w K mg base CX0 k f fd ps sp) : Ci P w K mg base C k ps sp := by
  obtain ⟨f, fd, a, i, F⟩ := t.ex
  exact ⟨f, fd, [], ⟨c.made, a, i, c.kp⟩, ok f fd F, F.binds hb, .nil⟩
end
end Cl

/-! ### the keeper Thrifty -/
namespace Cl
open PySem PySem.Spec PyProof.Rows L2 StX ClX PySem.Builtin PySem.Builtin.Str
def ThAt (CT : Addr) (H : Hp) (a : Addr) (n : Int) : Prop := ∃ dx, H a = some (.ins CT dx [("_limit", .int n)])
theorem ThAt.same {CT a : Addr} {H H' : Hp} {n : Int} (h : ThAt CT H a n) (x : Same H H') : ThAt CT H' a n := by
  obtain ⟨dx, e⟩ := h
  exact ⟨dx, x _ _ e⟩
theorem ThAt.butS {CT a b : Addr} {H0 H H' : Hp} {n : Int} (h : ThAt CT H a n) (x : But b H H') (hb : BoxS H0 H b) : ThAt CT H' a n := by
  obtain ⟨dx, e⟩ := h
  exact ⟨dx, x _ _ (hb.neI e) e⟩
section
variable {P : Program} {w : World} {K : PySem.W.Frag} {mg : Str → Option Value} {base : Heap} {C C_Thrifty : Addr}
def spThInit (CT : Addr) : Sp := fun vs H Q _ => ∃ (x dx : Addr) (n : Int), vs = [.ref x, .int n] ∧ H x = some (.ins CT dx []) ∧ 1 ≤ n ∧ ∀ H', H' = upd H x (.ins CT dx [("_limit", .int n)]) → Q .non H'
theorem scThriftyInit : FnScope ["self", "limit"] ["self", "limit"] (defScope sThriftyInit) := ⟨rfl, rfl, rfl, by decide +kernel, rfl, by decide +kernel, by decide +kernel⟩
theorem ok_Thrifty_init {f : Addr} {fd : FuncData} (F : Fun K "__init__" "Thrifty.__init__" sThriftyInit f fd) (B : Bi mg) (R_Thrifty : ClsC K mg "Thrifty" C_Thrifty) (N_Thrifty : NoAttr K C_Thrifty "_limit") (D_check_least : Dn P w K mg base "check_least" 2 ["value", "least", "field"] spCheckLeast) :
    FnOk P w K mg base CX0 3 f fd ["self", "limit"] (spThInit C_Thrifty) := by
  refine F.ok scThriftyInit (fun vs H Q E h => ?_) (fun cdv A outer s H vs Q E hr h => ?_)
  · obtain ⟨x, dx, n, rfl, _⟩ := h
    rfl
  · obtain ⟨x, dx, n, rfl, hx, n1, k⟩ := h
    refine ⟨_, (pss_cons (ps_expr (pe_dn D_check_least (hr.mono (by decide)) (by rfl) pass0 (pa_cons (pv 1) (pa_cons pe_int (pa_cons pe_str pa_nil)))))
  (pss_one (ps_fld (pv 0) (pv 1) rfl))), ?_⟩
    walk_at "rd"
    refine ⟨n1, ?_⟩
    walk_at "rd"
    exact ⟨x, C_Thrifty, dx, _, rfl, hx, R_Thrifty.cl, N_Thrifty, (by show 0 < 1000; decide), k _ rfl⟩
/-- what the making asks -/
theorem mkTh {CT : Addr} {H : Hp} {Q : VK} {E : XK} {n : Int} {vs : List V} (ev : vs = [.int n]) (n1 : 1 ≤ n) (k : ∀ (a : Addr) (H' : Hp), H a = none → ThAt CT H' a n → Same H H' → Q (.ref a) H') :
    ∀ x dx, H x = Option.none → H dx = Option.none → dx ≠ x → spThInit CT (V.ref x :: (vs ++ [])) (upd (upd H dx (.own x)) x (.ins CT dx [])) (fun v H2 => v = .non ∧ Q (.ref x) H2) E := by
  subst ev
  intro x dx hx hdx nd
  refine ⟨x, dx, n, rfl, upd_same, n1, fun H' e => ⟨rfl, k x H' hx ⟨dx, by rw [e, upd_same]⟩ fun b o hb => ?_⟩⟩
  rw [e, upd_ne (ne_of_none hb hx), upd_ne (ne_of_none hb hx), upd_ne (ne_of_none hb hdx)]
  exact hb
def spThChoose (C CT : Addr) : Sp := fun vs H Q _ => ∃ (a : Addr) (l : List Bool) (p n : Int) (r : Addr) (bs : List Int) (ph : Int), vs = [.ref a, .str (tx l), .int p, .ref r, .int ph] ∧ ThAt CT H a n ∧ Wd l ∧ (l.length : Int) ≤ p ∧ 1 ≤ p ∧ p ≤ 5000 ∧ 1 ≤ n ∧ Okb bs ∧ RoundAt C H r bs ∧ 0 ≤ ph ∧
  ∀ (m : Nat) (H' : Hp), Same H H' → Few l p n bs ph true m → Q (.int (m : Nat)) H'
theorem scThriftyChoose : FnScope ["self", "word", "places", "budgets", "phase"] ["self", "word", "places", "budgets", "phase"] (defScope sThriftyChoose) := ⟨rfl, rfl, rfl, by decide +kernel, rfl, by decide +kernel, by decide +kernel⟩
theorem ok_Thrifty_choose {f : Addr} {fd : FuncData} (F : Fun K "choose" "Thrifty.choose" sThriftyChoose f fd) (R_Thrifty : ClsC K mg "Thrifty" C_Thrifty) (N_Thrifty : NoAttr K C_Thrifty "_limit") (D__check_moment : Dn P w K mg base "_check_moment" 4 ["word", "places", "budgets", "phase"] (spMoment C))
    (D_fewest_carries : Dn P w K mg base "fewest_carries" 11 ["word", "places", "limit", "budgets", "phase", "record"] (spFew C)) : FnOk P w K mg base CX0 12 f fd ["self", "word", "places", "budgets", "phase"] (spThChoose C C_Thrifty) := by
  refine F.ok scThriftyChoose (fun vs H Q E h => ?_) (fun cdv A outer s H vs Q E hr h => ?_)
  · obtain ⟨a, l, p, n, r, bs, ph, rfl, _⟩ := h
    rfl
  · obtain ⟨a, l, p, n, r, bs, ph, rfl, ⟨dx, ha⟩, W, lp, p1, p5, n1, ok, hR, ph0, k⟩ := h
    refine ⟨_, (pss_cons (ps_expr (pe_dn D__check_moment (hr.mono (by decide)) (by rfl) pass0 (pa_cons (pv 1) (pa_cons (pv 2) (pa_cons (pv 3) (pa_cons (pv 4) pa_nil))))))
  (pss_one (ps_ret (pe_dn D_fewest_carries (hr.mono (by decide)) (by rfl) pass0 (pa_cons (pv 1) (pa_cons (pv 2) (pa_cons (pe_fld (pv 0) rfl) (pa_cons (pv 3) (pa_cons (pv 4) (pa_cons pe_str pa_nil)))))))))), ?_⟩
    walk_at "rd"
    refine ⟨l, p, r, bs, ph, rfl, W, by omega, lp, p1, hR, ph0, ?_⟩
    walk_at "rd"
    refine ⟨a, C_Thrifty, dx, _, _, rfl, ha, R_Thrifty.cl, N_Thrifty, rfl, ?_⟩
    walk_at "rd"
    rw [t1]
    refine ⟨l, p, n, r, bs, ph, true, rfl, W, lp, p1, p5, n1, ok, hR, ph0, k⟩
end
end Cl

/-! ### trials: moves, a put that may stall, a row played -/
namespace Cl
open PySem PySem.Spec PyProof.Rows L2 StX ClX PySem.Builtin PySem.Builtin.Str
/-- the moves at a word: None if one more may come, then the indexes -/
def movesV (l : List Bool) (n : Int) : List V := (if ((l.count true : Nat) : Int) < n then [V.non] else []) ++ (List.range (l.count true)).map fun (i : Nat) => V.int (i : Nat)
theorem rgV_nat (c : Nat) : rgV 0 (c : Nat) = (List.range c).map fun (i : Nat) => V.int (i : Nat) := by
  unfold rgV
  rw [Int.sub_zero, Int.toNat_natCast]
  apply List.map_congr_left
  intro i _
  rw [Int.zero_add]
theorem movesV_flat (l : List Bool) (n : Int) : (movesV l n).all flatV = true := by
  unfold movesV
  rw [List.all_append, Bool.and_eq_true]
  refine ⟨by split <;> rfl, ?_⟩
  rw [List.all_map, List.all_eq_true]
  intro i _; rfl
theorem movesV_in {l : List Bool} {n : Int} {i : Option Nat} (h0 : i = none → ((l.count true : Nat) : Int) < n) (h1 : ∀ k, i = some k → k < l.count true) : inV (ixV i) (movesV l n) = true := by
  unfold inV movesV
  rw [List.any_append]
  cases i with
  | none =>
    rw [if_pos (h0 rfl)]; rfl
  | some k =>
    rw [Bool.or_eq_true]
    right
    rw [List.any_eq_true]
    refine ⟨V.int (k : Nat), List.mem_map.mpr ⟨k, List.mem_range.mpr (h1 k rfl), rfl⟩, ?_⟩
    show eqV (V.int (k : Nat)) (V.int (k : Nat)) = true
    simp [eqV]
theorem thno_ (m : Str) (h : (m == ("_limit" : Str)) = false) (v : V) : List.lookup m [(("_limit" : Str), v)] = none := by
  rw [List.lookup_cons, h]; rfl
section
variable {P : Program} {w : World} {K : PySem.W.Frag} {mg : Str → Option Value} {base : Heap} {C C_NoPlace C_Thrifty : Addr}
def spMoves : Sp := fun vs H Q _ => ∃ (l : List Bool) (n : Int), vs = [.str (tx l), .int n] ∧ Wd l ∧ l.length ≤ 9000 ∧ ∀ (g : Addr) (H' : Hp), H g = none → Same H H' → H' g = some (.lst (movesV l n)) → Q (.ref g) H'
theorem scRingMoves : FnScope ["word", "limit", "ones", "indexes"] ["word", "limit"] (defScope sRingMoves) := ⟨rfl, rfl, rfl, by decide +kernel, rfl, by decide +kernel, by decide +kernel⟩
theorem ok_ring_moves {f : Addr} {fd : FuncData} (F : Fun K "ring_moves" "ring_moves" sRingMoves f fd) (B : Bi mg) (D_living : Dn P w K mg base "living" 4 ["word"] spLiving) : FnOk P w K mg base CX0 5 f fd ["word", "limit"] spMoves := by
  refine F.ok scRingMoves (fun vs H Q E h => ?_) (fun cdv A outer s H vs Q E hr h => ?_)
  · obtain ⟨l, n, rfl, _⟩ := h
    rfl
  · obtain ⟨l, n, rfl, W, l9, k⟩ := h
    refine ⟨_, (pss_cons (ps_set (i := 2) scRingMoves.nd rfl (Or.inl rfl) (pe_dn D_living (hr.mono (by decide)) (by rfl) pass0 (pa_cons (pv 0) pa_nil)))
  (pss_cons (ps_set (i := 3) scRingMoves.nd rfl (Or.inl rfl) (pe_listRg rfl (by rfl) B.listT (prg_1 (by rfl) B.range (pv 2))))
  (pss_one (ps_ret (pe_ifExp (pt_cmpR op_lt (pv 2) (pv 1) (nomark _)) (pe_op op_cat (pe_lst (pa_cons pe_non pa_nil)) (pv 3)) (pv 3)))))), ?_⟩
    have cl := List.count_le_length (a := true) (l := l)
    walk_at "rd"
    refine ⟨by omega, W, ?_⟩
    walk_at "rd"
    refine ⟨⟨by decide, by decide, by omega, by omega, by omega⟩, fun g hg => ?_⟩
    rw [rgV_nat]
    have S1 := Same.upd (o := .lst ((List.range (l.count true)).map fun (i : Nat) => V.int (i : Nat))) hg
    have hg1 := upd_same (H := H) (a := g) (o := .lst ((List.range (l.count true)).map fun (i : Nat) => V.int (i : Nat)))
    unfold movesV at k
    generalize upd H g (.lst ((List.range (l.count true)).map fun (i : Nat) => V.int (i : Nat))) = H1 at S1 hg1 ⊢
    walk_at "rd"
    refine itd (fun e => ?_) (fun e => ?_)
    · rw [if_pos e] at k
      walk_at "rd"
      refine ⟨by show 1 ≤ sizeLine; decide, fun u hu => ?_⟩
      walk_at "rd"
      refine ⟨u, g, _, _, rfl, rfl, upd_same, Same.upd hu _ _ hg1, ?_, fun v hv => ?_⟩
      · rw [List.length_map, List.length_range]
        have : (20000 : Nat) ≤ sizeLine := by decide
        show 1 + _ ≤ _
        omega
      have S2 := S1.trans (Same.upd (o := .lst [V.non]) hu)
      exact k v _ (S2.free hv) (S2.trans (Same.upd hv)) upd_same
    · rw [if_neg e] at k
      walk_at "rd"
      exact k g H1 hg S1 hg1
def spStepped : Sp := fun vs H Q _ => ∃ (l : List Bool) (i : Option Nat) (c p : Int) (late : Bool), vs = [.str (tx l), ixV i, .int c, .int p, .bl late] ∧ l.length ≤ 8000 ∧ Wd l ∧ (∀ k, i = some k → k < l.count true) ∧ 0 ≤ c ∧ 1 ≤ p ∧ (l.length : Int) ≤ p ∧
  ∀ H', Same H H' → Q (match stepR l i c p late with | some r => .str (tx r) | none => .non) H'
theorem scStepped : FnScope ["word", "index", "count", "places", "late"] ["word", "index", "count", "places", "late"] (defScope sStepped) := ⟨rfl, rfl, rfl, by decide +kernel, rfl, by decide +kernel, by decide +kernel⟩
theorem ok_stepped {f : Addr} {fd : FuncData} (F : Fun K "stepped" "stepped" sStepped f fd) (E_NoPlace : ErrC P K mg "NoPlace" C_NoPlace "length" false) (M_NoPlace_NoPlace : PySem.W.exmOne K (.ref C_NoPlace) (.ref C_NoPlace) = some true)
    (K_step_late : Dkx P w K mg base "step" 4 ["word", "index", "count", "places", "late"] (spStep C_NoPlace) 4 ["late"] (fun vs zs => vs ++ zs)) : FnOk P w K mg base CX0 5 f fd ["word", "index", "count", "places", "late"] spStepped := by
  refine F.ok scStepped (fun vs H Q E h => ?_) (fun cdv A outer s H vs Q E hr h => ?_)
  · obtain ⟨l, i, c, p, late, rfl, _⟩ := h
    rfl
  · obtain ⟨l, i, c, p, late, rfl, l8, W, hi, c0, p1, lp, k⟩ := h
    refine ⟨_, (pss_one (ps_try_only rfl rfl ⟨rfl, by decide, Or.inl E_NoPlace.g⟩ takes0 (fun W pn xe tk _ => (pss_one (ps_ret (pe_dkxT K_step_late (hr.mono (by decide)) (by rfl) tk (pa_cons (pv 0) (pa_cons (pv 1) (pa_cons (pv 2) (pa_cons (pv 3) pa_nil)))) (pk_cons (pv 4) pk_nil)))))
  (fun a_ oe_ cls_ d_ pn_ hz_ hf_ => (pss_one (ps_ret pe_non))))), ?_⟩
    refine ⟨_, rfl, _, rfl, _, rfl, _, rfl, _, rfl, rfl, rfl, l, i, c, p, late, rfl, l8, W, hi, c0, p1, lp, fun r hx H' S' => ?_, fun hn H' S' => ?_⟩
    · have := k H' S'
      rw [hx] at this
      exact this
    · intro d hd
      refine ⟨_, M_NoPlace_NoPlace, fun _ e he => ?_, fun z => nomatch z⟩
      have := k _ (S'.trans (Same.upd (o := .xd [("length", V.int p)]) hd))
      rw [hn] at this
      exact this
def spTermsC (C : Addr) : Sp := fun vs H Q _ => ∃ (p n : Int) (r : Addr) (bs : List Int), vs = [.int p, .int n, .ref r] ∧ 1 ≤ n ∧ n ≤ p ∧ RoundAt C H r bs ∧ Q .non H
theorem scCheckTerms : FnScope ["places", "limit", "budgets"] ["places", "limit", "budgets"] (defScope sCheckTerms) := ⟨rfl, rfl, rfl, by decide +kernel, rfl, by decide +kernel, by decide +kernel⟩
theorem ok_check_terms {f : Addr} {fd : FuncData} (F : Fun K "check_terms" "check_terms" sCheckTerms f fd) (D_check_least : Dn P w K mg base "check_least" 2 ["value", "least", "field"] spCheckLeast) (D_check_round : Dn P w K mg base "check_round" 1 ["budgets"] (spCkRound C))
    (D_check_limit_fits : Dn P w K mg base "check_limit_fits" 1 ["limit", "places"] spCkLimFits) : FnOk P w K mg base CX0 3 f fd ["places", "limit", "budgets"] (spTermsC C) := by
  refine F.ok scCheckTerms (fun vs H Q E h => ?_) (fun cdv A outer s H vs Q E hr h => ?_)
  · obtain ⟨p, n, r, bs, rfl, _⟩ := h
    rfl
  · obtain ⟨p, n, r, bs, rfl, n1, np, hR, k⟩ := h
    refine ⟨_, (pss_cons (ps_expr (pe_dn D_check_least (hr.mono (by decide)) (by rfl) pass0 (pa_cons (pv 0) (pa_cons pe_int (pa_cons pe_str pa_nil)))))
  (pss_cons (ps_expr (pe_dn D_check_least (hr.mono (by decide)) (by rfl) pass0 (pa_cons (pv 1) (pa_cons pe_int (pa_cons pe_str pa_nil)))))
  (pss_cons (ps_expr (pe_dn D_check_round (hr.mono (by decide)) (by rfl) pass0 (pa_cons (pv 2) pa_nil)))
  (pss_one (ps_expr (pe_dn D_check_limit_fits (hr.mono (by decide)) (by rfl) pass0 (pa_cons (pv 1) (pa_cons (pv 0) pa_nil)))))))), ?_⟩
    walk_at "rd"
    refine ⟨by omega, ?_⟩
    walk_at "rd"
    refine ⟨n1, ?_⟩
    walk_at "rd"
    refine ⟨r, bs, rfl, hR, ?_⟩
    walk_at "rd"
    exact ⟨np, k⟩
/-- the standing after the keeper's put -/
def spPlayedT (C CT : Addr) : Sp := fun vs H Q _ => ∃ (ka t : Addr) (l : List Bool) (ph : Int) (i : Option Nat) (p n : Int) (r : Addr) (bs : List Int), vs = [.ref ka, .ref t, ixV i, .int p, .ref r] ∧ H t = some (.tup [.str (tx l), .int ph]) ∧ ThAt CT H ka n ∧ Wd l ∧ (l.length : Int) ≤ p ∧ 1 ≤ p ∧ p ≤ 5000 ∧ 1 ≤ n ∧ (∀ k, i = some k → k < l.count true) ∧ Okb bs ∧ RoundAt C H r bs ∧ 0 ≤ ph ∧
  ∀ m, Few (wout l i) p n bs ph true m → (stepR l i (m : Nat) p false = none → ∀ H', Same H H' → Q .non H') ∧ (∀ v, stepR l i (m : Nat) p false = some v → ∀ (t' : Addr) (H' : Hp), Same H H' → H' t' = some (.tup [.str (tx v), .int ((ph + 1) % (bs.length : Int))]) → Q (.ref t') H')
theorem scPlayed : FnScope ["keeper", "state", "move", "places", "budgets", "word", "phase", "moment", "count", "after"] ["keeper", "state", "move", "places", "budgets"] (defScope sPlayed) := ⟨rfl, rfl, rfl, by decide +kernel, rfl, by decide +kernel, by decide +kernel⟩
theorem ok__played {f : Addr} {fd : FuncData} (F : Fun K "_played" "_played" sPlayed f fd) (B : Bi mg) (R_Thrifty : ClsC K mg "Thrifty" C_Thrifty) (M_Thrifty_choose : Mn P w K mg base C_Thrifty "choose" 12 ["self", "word", "places", "budgets", "phase"] (spThChoose C C_Thrifty)) (D_release : Dn P w K mg base "release" 4 ["word", "index"] spRelease)
    (D_stepped : Dn P w K mg base "stepped" 5 ["word", "index", "count", "places", "late"] spStepped) (O_Round___len__ : On P w K mg base C "__len__" 1 ["self"] (spLen C)) : FnOk P w K mg base CX0 13 f fd ["keeper", "state", "move", "places", "budgets"] (spPlayedT C C_Thrifty) := by
  refine F.ok scPlayed (fun vs H Q E h => ?_) (fun cdv A outer s H vs Q E hr h => ?_)
  · obtain ⟨ka, t, l, ph, i, p, n, r, bs, rfl, _⟩ := h
    rfl
  · obtain ⟨ka, t, l, ph, i, p, n, r, bs, rfl, ht, hT, W, lp, p1, p5, n1, hi, ok, hR, ph0, k⟩ := h
    refine ⟨_, (pss_cons (ps_asg (pv 1) (pg_tup (by rfl) (pgs_cons (pg_name (i := 5) scPlayed.nd rfl (Or.inl rfl)) (pgs_cons (pg_name (i := 6) scPlayed.nd rfl (Or.inl rfl)) pgs_nil))))
  (C8.pss_cut (ps_set (i := 7) scPlayed.nd rfl (Or.inl rfl) (pe_ifExp (pt_cmpR op_isN (pv 2) pe_non (nomark _)) (pv 5) (pe_dn D_release (hr.mono (by decide)) (by rfl) pass0 (pa_cons (pv 5) (pa_cons (pv 2) pa_nil)))))
  (pss_cons (ps_set (i := 8) scPlayed.nd rfl (Or.inl rfl) (pe_mn M_Thrifty_choose R_Thrifty.cl (hr.mono (by decide)) pass0 (pv 0) (pa_cons (pv 7) (pa_cons (pv 3) (pa_cons (pv 4) (pa_cons (pv 6) pa_nil))))))
  (pss_cons (ps_set (i := 9) scPlayed.nd rfl (Or.inl rfl) (pe_dn D_stepped (hr.mono (by decide)) (by rfl) pass0 (pa_cons (pv 5) (pa_cons (pv 2) (pa_cons (pv 8) (pa_cons (pv 3) (pa_cons pe_bl pa_nil)))))))
  (pss_one (ps_ret (pe_ifExp (pt_cmpR op_isN (pv 9) pe_non (nomark _)) pe_non (pe_tup (pa_cons (pv 9) (pa_cons (pe_op op_mod (pe_op op_add (pv 6) pe_int) (pe_callB (call_lenN O_Round___len__ (hr.mono (by decide))) (by rfl) B.len PySem.boot_len (pa_cons (pv 4) pa_nil))) pa_nil)))))))))), ?_⟩
    have l1 := ok.l1
    have l2 := ok.l2
    refine ⟨_, rfl, t, _, rfl, SqT.of ht, rfl, _, _, rfl, _, _, rfl, rfl, ?_⟩
    refine ⟨fun σ H' => σ = [some (.ref ka), some (.ref t), some (ixV i), some (.int p), some (.ref r), some (.str (tx l)), some (.int ph), some (.str (tx (wout l i))), none, none] ∧ Same H H', ?_, ?_⟩
    · walk_at "rd"
      cases i with
      | some j =>
        refine iteF ?_
        walk_at "rd"
        refine ⟨by omega, W, hi j rfl, fun H2 S2 => ?_⟩
        exact ⟨rfl, S2⟩
      | none =>
        refine iteT ?_
        walk_at "rd"
        exact Same.refl _
    rintro σ H2 ⟨rfl, S2⟩
    have wl := wout_len (l := l) i
    have Ww := wout_wd W i
    obtain ⟨dk, hk⟩ := hT.same S2
    walk_at "rd"
    refine ⟨ka, dk, _, rfl, hk, thno_ "choose" (by decide) _, ?_⟩
    walk_at "rd"
    refine ⟨ka, wout l i, p, n, r, bs, ph, rfl, ⟨dk, hk⟩, Ww, by omega, p1, p5, n1, ok, hR.same S2, ph0, fun m H3 S3 hm => ?_⟩
    obtain ⟨k1, k2⟩ := k m hm
    walk_at "rd"
    refine ⟨l, i, (m : Nat), p, false, rfl, by omega, W, hi, by omega, p1, lp, fun H4 S4 => ?_⟩
    have S14 := (S2.trans S3).trans S4
    cases hst : stepR l i (m : Nat) p false with
    | none =>
      walk_at "rd"
      exact k1 hst _ S14
    | some v =>
      obtain ⟨dr, tr, hr1, hr2⟩ := hR.same S14
      walk_at "rd"
      refine ⟨r, dr, _, rfl, hr1, r, bs, rfl, ⟨dr, tr, hr1, hr2⟩, bs.length, rfl, by omega, ?_⟩
      refine ⟨_, _, rfl, rfl, by show (0 : Int) < _; omega, ?_⟩
      walk_at "rd"
      refine ⟨by show 2 ≤ sizeLine; decide, fun t' ht' => ?_⟩
      exact k2 v hst t' _ (S14.trans (Same.upd ht')) upd_same
end
end Cl

/-! ### rows of moves: what a keeper's choices make of them -/
namespace Cl
open PySem L2 StX ClX
/-- the word after k of these words -/
def wAt (ws : List (List Bool)) (k : Nat) : List Bool := ([] :: ws).getD k []
/-- the words along a row of moves, under a rule of choice -/
structure Along (p : Int) (Ch : List Bool → Int → Nat → Prop) (ms : List (Option Nat)) (ws : List (List Bool)) : Prop where
  le : ws.length ≤ ms.length
  go : ∀ k, k < ws.length → ∃ i m, ms[k]? = some i ∧ Ch (wout (wAt ws k) i) (k : Nat) m ∧ stepR (wAt ws k) i (m : Nat) p false = some (wAt ws (k + 1))
/-- .. up to the end or to the put that stalls -/
structure RowIs (p : Int) (Ch : List Bool → Int → Nat → Prop) (ms : List (Option Nat)) (ws : List (List Bool)) : Prop where
  al : Along p Ch ms ws
  stop : ws.length = ms.length ∨ ∃ i m, ms[ws.length]? = some i ∧ Ch (wout (wAt ws ws.length) i) (ws.length : Nat) m ∧ stepR (wAt ws ws.length) i (m : Nat) p false = none
theorem wAt_0 (ws : List (List Bool)) : wAt ws 0 = [] := rfl
theorem wAt_s (ws : List (List Bool)) (k : Nat) : wAt ws (k + 1) = ws.getD k [] := rfl
theorem wAt_app {ws : List (List Bool)} {v : List Bool} {k : Nat} (h : k ≤ ws.length) : wAt (ws ++ [v]) k = wAt ws k := by
  cases k with
  | zero => rfl
  | succ j =>
    rw [wAt_s, wAt_s, List.getD_eq_getElem?_getD, List.getD_eq_getElem?_getD, List.getElem?_append_left (by omega)]
theorem wAt_last {ws : List (List Bool)} {v : List Bool} : wAt (ws ++ [v]) (ws.length + 1) = v := by
  rw [wAt_s, List.getD_eq_getElem?_getD, List.getElem?_append_right (Nat.le_refl _), Nat.sub_self]; rfl
theorem Along.nil {p : Int} {Ch : List Bool → Int → Nat → Prop} {ms : List (Option Nat)} : Along p Ch ms [] := ⟨Nat.zero_le _, fun k h => absurd h (Nat.not_lt_zero k)⟩
theorem Along.snoc {p : Int} {Ch : List Bool → Int → Nat → Prop} {ms : List (Option Nat)} {ws : List (List Bool)} {i : Option Nat} {m : Nat} {v : List Bool} (h : Along p Ch ms ws) (hi : ms[ws.length]? = some i) (hc : Ch (wout (wAt ws ws.length) i) (ws.length : Nat) m)
    (hs : stepR (wAt ws ws.length) i (m : Nat) p false = some v) : Along p Ch ms (ws ++ [v]) := by
  have hl := (List.getElem?_eq_some_iff.mp hi).1
  refine ⟨by rw [List.length_append]; exact hl, fun k hk => ?_⟩
  rw [List.length_append, List.length_singleton] at hk
  rcases Nat.lt_succ_iff_lt_or_eq.mp hk with q | q
  · obtain ⟨i, m, h1, h2, h3⟩ := h.go k q
    rw [wAt_app (by omega), wAt_app (by omega)]
    exact ⟨i, m, h1, h2, h3⟩
  · subst q
    rw [wAt_app (Nat.le_refl _), wAt_last]
    exact ⟨i, m, hi, hc, hs⟩
theorem Along.same {p : Int} {Ch : List Bool → Int → Nat → Prop} (fn : ∀ l t m m', Ch l t m → Ch l t m' → m = m') {ms : List (Option Nat)} {ws ws' : List (List Bool)} (h : Along p Ch ms ws) (h' : Along p Ch ms ws') : ∀ k, k ≤ ws.length → k ≤ ws'.length → wAt ws k = wAt ws' k
  | 0, _, _ => rfl
  | k + 1, h1, h2 => by
    have ih := Along.same fn h h' k (by omega) (by omega)
    obtain ⟨i, m, a1, a2, a3⟩ := h.go k (by omega)
    obtain ⟨i', m', b1, b2, b3⟩ := h'.go k (by omega)
    rw [a1] at b1
    cases b1
    rw [← ih] at b2 b3
    obtain rfl := fn _ _ _ _ a2 b2
    rw [a3] at b3
    exact Option.some.inj b3
theorem RowIs.one {p : Int} {Ch : List Bool → Int → Nat → Prop} (fn : ∀ l t m m', Ch l t m → Ch l t m' → m = m') {ms : List (Option Nat)} {ws ws' : List (List Bool)} (h : RowIs p Ch ms ws) (h' : RowIs p Ch ms ws') : ws = ws' := by
  have key : ∀ {ws ws' : List (List Bool)}, RowIs p Ch ms ws → RowIs p Ch ms ws' → ws'.length ≤ ws.length := by
    intro ws ws' h h'
    rcases Nat.lt_or_ge ws.length ws'.length with q | q
    · obtain ⟨i, m, a1, a2, a3⟩ := h'.al.go ws.length q
      have e := Along.same fn h.al h'.al ws.length (Nat.le_refl _) (by omega)
      rcases h.stop with z | ⟨i', m', b1, b2, b3⟩
      · have := h'.al.le; omega
      · rw [a1] at b1
        cases b1
        rw [← e] at a2 a3
        obtain rfl := fn _ _ _ _ a2 b2
        rw [a3] at b3; cases b3
    · exact q
  have el : ws.length = ws'.length := Nat.le_antisymm (key h' h) (key h h')
  apply List.ext_getElem el
  intro j h1 h2
  have := Along.same fn h.al h'.al (j + 1) (by omega) (by omega)
  rw [wAt_s, wAt_s, List.getD_eq_getElem?_getD, List.getD_eq_getElem?_getD, List.getElem?_eq_getElem h1, List.getElem?_eq_getElem h2] at this
  exact this
/-- moves that can be made, from so many ones on -/
def MvOk (n : Int) : Nat → List (Option Nat) → Prop
  | _, [] => True
  | c, none :: r => ((c : Nat) : Int) < n ∧ MvOk n (c + 1) r
  | c, some k :: r => k < c ∧ MvOk n c r
/-- the ones after k moves -/
def onesM : Nat → List (Option Nat) → Nat → Nat
  | c, _, 0 => c
  | c, [], _ => c
  | c, none :: r, k + 1 => onesM (c + 1) r k
  | c, some _ :: r, k + 1 => onesM c r k
theorem onesM_next : ∀ {ms : List (Option Nat)} {c k : Nat} {i : Option Nat}, ms[k]? = some i → onesM c ms (k + 1) = onesM c ms k + (if i = none then 1 else 0)
  | [], _, _, _, h => by cases h
  | none :: r, c, 0, i, h => by
    cases h
    cases r <;> rfl
  | some j :: r, c, 0, i, h => by
    cases h
    cases r <;> rfl
  | none :: r, c, k + 1, i, h => by
    show onesM (c + 1) r (k + 1) = onesM (c + 1) r k + _
    exact onesM_next h
  | some j :: r, c, k + 1, i, h => by
    show onesM c r (k + 1) = onesM c r k + _
    exact onesM_next h
theorem MvOk.at_ {n : Int} : ∀ {ms : List (Option Nat)} {c k : Nat} {i : Option Nat}, MvOk n c ms → ms[k]? = some i → (i = none → ((onesM c ms k : Nat) : Int) < n) ∧ (∀ j, i = some j → j < onesM c ms k)
  | [], _, _, _, _, h => by cases h
  | none :: r, c, 0, i, hm, h => by
    cases h
    exact ⟨fun _ => hm.1, fun _ e => (nomatch e)⟩
  | some j :: r, c, 0, i, hm, h => by
    cases h
    exact ⟨fun e => (nomatch e), fun _ e => by cases e; exact hm.1⟩
  | none :: r, c, k + 1, i, hm, h => by
    exact MvOk.at_ (ms := r) (c := c + 1) (k := k) hm.2 h
  | some j :: r, c, k + 1, i, hm, h => by
    exact MvOk.at_ (ms := r) (c := c) (k := k) hm.2 h
/-- the words along a row are words of so many ones -/
theorem Along.word {p n : Int} {Ch : List Bool → Int → Nat → Prop} {ms : List (Option Nat)} {ws : List (List Bool)} (p0 : 0 ≤ p) (mk : MvOk n 0 ms) (h : Along p Ch ms ws) : ∀ k, k ≤ ws.length → Wd (wAt ws k) ∧ ((wAt ws k).length : Int) ≤ p ∧ (wAt ws k).count true = onesM 0 ms k
  | 0, _ => ⟨.inl rfl, by rw [wAt_0]; exact p0, by
      rw [wAt_0]
      cases ms with
      | nil => rfl
      | cons a r => cases a <;> rfl⟩
  | k + 1, hk => by
    obtain ⟨W, l, c⟩ := Along.word p0 mk h k (by omega)
    obtain ⟨i, m, h1, h2, h3⟩ := h.go k (by omega)
    obtain ⟨_, b⟩ := mk.at_ h1
    have hi : ∀ j, i = some j → j < (wAt ws k).count true := fun j e => by rw [c]; exact b j e
    obtain ⟨w1, w2, w3⟩ := stepR_word W hi (by omega) l h3
    refine ⟨w1, w3, ?_⟩
    rw [onesM_next h1, ← c]
    exact w2
end Cl

/-! ### law k22: mathematics -/
namespace Cl
open PySem L2 StX ClX
theorem lv_all {bs : List Int} {c : Int} (ok : Okb bs) (s : Int) : lv bs c ≤ tot bs s c := by
  have l1 := ok.l1
  have e0 := Int.emod_nonneg s (show (bs.length : Int) ≠ 0 by omega)
  have e1 := Int.emod_lt_of_pos s (show (0 : Int) < bs.length by omega)
  have := (lv_low (c := c) ok).1 (s % bs.length).toNat (by omega)
  rw [tot_per (s := s) (u := (((s % bs.length).toNat : Nat) : Int))]
  · exact this
  · rw [Int.toNat_of_nonneg e0, Int.emod_emod]
theorem goes_iff {bs : List Int} {m n : Int} : rgoes bs m n = true ↔ n ≤ m ∧ n - 1 ≤ lv bs (m - n) := by
  unfold rgoes
  simp
theorem sht_goes {l : List Bool} {m n : Int} {bs : List Int} {ph : Int} {o : Option Nat} (ok : Okb bs) (h : Fst (Sht l m n bs ph) o) : o = none ↔ rgoes bs m n = true := by
  have l1 := ok.l1
  have f0 : 0 ≤ fst1 l m := by unfold fst1; split <;> omega
  constructor
  · rintro rfl
    have h : ∀ s, ¬ Sht l m n bs ph s := h
    have nm : n ≤ m := by
      rcases Int.lt_or_le m n with q | q
      · exact absurd ⟨by omega, .inl (by omega)⟩ (h (fst1 l m).toNat)
      · exact q
    refine rgoes_t nm ?_
    obtain ⟨a1, k, hk, ek⟩ := lv_low (c := m - n) ok
    rw [ek]
    obtain ⟨s, hs, es⟩ : ∃ s : Nat, fst1 l m ≤ (s : Nat) ∧ (ph + (s : Nat) - (m - n)) % (bs.length : Int) = ((k : Nat) : Int) % (bs.length : Int) := by
      obtain ⟨x, hx⟩ : ∃ x : Int, x = (k : Int) - ph - fst1 l m + (m - n) := ⟨_, rfl⟩
      have e0 := Int.emod_nonneg x (show (bs.length : Int) ≠ 0 by omega)
      refine ⟨(fst1 l m + x % (bs.length : Int)).toNat, by omega, ?_⟩
      rw [Int.toNat_of_nonneg (by omega), Int.emod_def x]
      have e1 : ph + (fst1 l m + (x - (bs.length : Int) * (x / (bs.length : Int)))) - (m - n) = (k : Int) + (-(x / (bs.length : Int))) * (bs.length : Int) := by
        rw [Int.neg_mul, Int.mul_comm (x / (bs.length : Int))]
        omega
      rw [e1, Int.add_mul_emod_self_right]
    rcases Int.lt_or_le (tot bs ((k : Nat) : Int) (m - n)) (n - 1) with q | q
    · refine absurd ⟨hs, .inr ?_⟩ (h s)
      rw [tot_per es]; exact q
    · exact q
  · intro g
    obtain ⟨nm, hl⟩ := goes_iff.mp g
    cases o with
    | none => rfl
    | some s =>
      obtain ⟨⟨z1, z2⟩, _⟩ := h
      have := lv_all (c := m - n) ok (ph + (s : Nat) - (m - n))
      rcases z2 with z | z <;> omega
theorem enough_goes {bs : List Int} {m n : Int} {r : Nat} (ok : Okb bs) (e : Enough bs (n - 1) r) (hm : m - n < 70) (nm : n ≤ m) : ((r : Nat) : Int) ≤ m - n ↔ rgoes bs m n = true := by
  obtain ⟨c, ec⟩ : ∃ c : Nat, m - n = (c : Nat) := ⟨(m - n).toNat, by omega⟩
  obtain ⟨a1, k, hk, ek⟩ := lv_low (c := m - n) ok
  constructor
  · intro h
    refine rgoes_t nm ?_
    rw [ek, ec]
    have h1 := all_up ok e (by omega) ((k : Nat) : Int)
    have h2 := tot_mono (ph := ((k : Nat) : Int)) ok (a := r) (b := c) (by omega)
    omega
  · intro g
    obtain ⟨_, hl⟩ := goes_iff.mp g
    rcases Int.lt_or_le (m - n) (r : Nat) with q | q
    · obtain ⟨j, hj, hlt⟩ := e.low c (by omega)
      have := a1 j hj
      rw [ec] at this hl
      omega
    · exact q
/-- the law's due -/
def lst2 (a b : Option Nat) : Option Nat := match a, b with
  | some x, some y => some (if y < x then y else x)
  | some x, none => some x
  | none, b => b
theorem life_due {l : List Bool} {p n : Int} {bs : List Int} {ph : Int} {late : Bool} {b s o : Option Nat} (hb : Fst (Blk l (mIn p late) n bs ph) b) (hs : Fst (Sht l (mIn p late) n bs ph) s) (h : LifeIs l p n bs ph late o) :
    o = if late = true ∧ (l.length : Int) = p then some 0 else (lst2 b s).map fun t => if late = true then t + 1 else t := by
  unfold LifeIs at h
  split at h
  · rename_i q
    rw [if_pos q]; exact h
  · rename_i q
    rw [if_neg q]
    obtain ⟨T, hT, rfl⟩ := h
    have : Fst (fun t => Blk l (mIn p late) n bs ph t ∨ Sht l (mIn p late) n bs ph t) (lst2 b s) := by
      have q := fst_or hb hs
      cases b <;> cases s <;> exact q
    rw [hT.one this]
theorem not_goes_life {l : List Bool} {p n : Int} {bs : List Int} {ph : Int} {late : Bool} {o : Option Nat} (S : Std l p n bs ph) (hg : rgoes bs (mIn p late) n = false) (h : LifeIs l p n bs ph late o) :
    ∃ g : Nat, o = some g ∧ (g : Int) ≤ p - ((l.count true : Nat) : Int) + bs.length - 1 := by
  have l1 := S.ok.l1
  have h1 := S.cnt
  have h2 := S.np
  have h3 := S.len
  have h5 : l.count true ≤ l.length := List.count_le_length
  unfold LifeIs at h
  split at h
  · exact ⟨0, h, by omega⟩
  · rename_i nf
    obtain ⟨T, hT, rfl⟩ := h
    obtain ⟨s, hs⟩ := fst_ex (Sht l (mIn p late) n bs ph)
    have nn : s ≠ none := fun z => by rw [(sht_goes S.ok hs).mp z] at hg; cases hg
    cases s with
    | none => exact absurd rfl nn
    | some x =>
      have f0 : 0 ≤ fst1 l (mIn p late) := by unfold fst1; split <;> omega
      have hx : (x : Int) < fst1 l (mIn p late) + bs.length := by
        rcases Int.lt_or_le (x : Int) (fst1 l (mIn p late) + bs.length) with q | q
        · exact q
        · exact absurd hs.1 (sht_far (F0 := (fst1 l (mIn p late)).toNat) (N := bs.length) S.ok (by omega) (Nat.le_refl _) (fun u hu => hs.2 u (by omega)) x)
      cases T with
      | none => exact absurd (.inr hs.1) (hT x)
      | some y =>
        have hy : y ≤ x := by
          rcases Nat.lt_or_ge x y with q | q
          · exact absurd (.inr hs.1) (hT.2 x q)
          · exact q
        refine ⟨_, rfl, ?_⟩
        dsimp only
        unfold fst1 mIn at hx
        cases late with
        | false =>
          simp only [Bool.false_eq_true, if_false] at hx ⊢
          split at hx <;> omega
        | true =>
          have : (l.length : Int) ≠ p := fun z => nf ⟨rfl, z⟩
          simp only [if_true] at hx ⊢
          split at hx <;> omega
end Cl

/-! ### the play is one; texts in two lists compared; a play grows by one place at most -/
namespace Cl
open PySem PySem.Spec PyProof.Rows L2
theorem Played.lt_of {p n : Int} {b : Nat → Nat} {late : Bool} {l : List Bool} {m : Nat} {us ws : List (List Bool)} (hu : Played p n b late l m us) (hw : Played p n b late l m ws) : us.length ≤ ws.length := by
  refine Nat.le_of_not_lt fun q => ?_
  have st := hw.stop (by have := hu.le; omega)
  have := hu.at_ ws.length us[ws.length] (List.getElem?_eq_getElem q)
  rw [st] at this; cases this
theorem Played.one {p n : Int} {b : Nat → Nat} {late : Bool} {l : List Bool} {m : Nat} {us ws : List (List Bool)} (hu : Played p n b late l m us) (hw : Played p n b late l m ws) : us = ws := by
  have e : us.length = ws.length := Nat.le_antisymm (hu.lt_of hw) (hw.lt_of hu)
  apply List.ext_getElem e
  intro i h1 h2
  have a1 := hu.at_ i us[i] (List.getElem?_eq_getElem h1)
  have a2 := hw.at_ i ws[i] (List.getElem?_eq_getElem h2)
  rw [a1] at a2
  exact Option.some.inj a2
theorem tx_ok (l : List Bool) : PyData.strOk (tx l) = true := by
  unfold PyData.strOk
  rw [← Array.all_toList, tx_lst, List.all_eq_true]
  intro c hc
  obtain ⟨b, _, rfl⟩ := List.mem_map.mp hc
  cases b <;> decide
theorem eqvAll_txs : ∀ (as bs : List (List Bool)), PyData.eqvAll (as.map fun l => PyData.str (tx l)) (bs.map fun l => PyData.str (tx l)) = decide (as = bs)
  | [], [] => by simp [PyData.eqvAll]
  | [], b :: bs => by simp [PyData.eqvAll]
  | a :: as, [] => by simp [PyData.eqvAll]
  | a :: as, b :: bs => by
    simp only [List.map_cons, PyData.eqvAll, PyData.eqv, eqvAll_txs as bs, List.cons.injEq]
    by_cases h : a = b
    · subst h; simp
    · have : ¬ tx a = tx b := fun z => h (tx_inj z)
      simp [h, this]
theorem dpAll_txs {K : PySem.W.Frag} {H : Hp} : ∀ (as : List (List Bool)), DpAll K H (as.map fun l => V.str (tx l)) (as.map fun l => PyData.str (tx l))
  | [] => .nil
  | a :: as => .cons (.str (tx a)) (dpAll_txs as)
theorem lay_txs : ∀ (as : List (List Bool)), PyData.canLayAll0 (as.map fun l => PyData.str (tx l)) = true
  | [] => rfl
  | a :: as => by simp only [List.map_cons, PyData.canLayAll0, PyData.canLay0, lay_txs as, tx_ok]; rfl
theorem dep_txs : ∀ (as : List (List Bool)), PyData.depthAll (as.map fun l => PyData.str (tx l)) = 0
  | [] => rfl
  | a :: as => by simp only [List.map_cons, PyData.depthAll, PyData.depth, dep_txs as]; rfl
theorem shaped_txs (as : List (List Bool)) : SeqAt.shaped (.list (as.map fun l => PyData.str (tx l))) = true := by
  show (PyData.canLayAll0 (as.map fun l => PyData.str (tx l)) && decide (PyData.depthAll (as.map fun l => PyData.str (tx l)) + 1 ≤ 64)) = true
  rw [lay_txs, dep_txs]; rfl
theorem eqd_txs {K : PySem.W.Frag} {H : Hp} {a b : Addr} {as bs : List (List Bool)} {Q : VK} (ha : SqL K H a (as.map fun l => V.str (tx l))) (hb : SqL K H b (bs.map fun l => V.str (tx l))) (q : Q (.bl (decide (as = bs))) H) : rEqD K (.ref a) (.ref b) H Q :=
  ⟨.list (as.map fun l => .str (tx l)), .list (bs.map fun l => .str (tx l)), .lst ha (dpAll_txs as), .lst hb (dpAll_txs bs), shaped_txs as, shaped_txs bs, by
    show Q (.bl (PyData.eqvAll (as.map fun l => .str (tx l)) (bs.map fun l => .str (tx l)))) H
    rw [eqvAll_txs]; exact q⟩
theorem ned_txs {K : PySem.W.Frag} {H : Hp} {a b : Addr} {as bs : List (List Bool)} {Q : VK} (ha : SqL K H a (as.map fun l => V.str (tx l))) (hb : SqL K H b (bs.map fun l => V.str (tx l))) (q : Q (.bl (!decide (as = bs))) H) : rNeD K (.ref a) (.ref b) H Q :=
  ⟨.list (as.map fun l => .str (tx l)), .list (bs.map fun l => .str (tx l)), .lst ha (dpAll_txs as), .lst hb (dpAll_txs bs), shaped_txs as, shaped_txs bs, by
    show Q (.bl (!PyData.eqvAll (as.map fun l => .str (tx l)) (bs.map fun l => .str (tx l)))) H
    rw [eqvAll_txs]; exact q⟩
theorem stepR_grow {l r : List Bool} {i : Option Nat} {c p : Int} {late : Bool} (h : stepR l i c p late = some r) : r.length ≤ l.length + 1 := by
  unfold stepR at h
  cases late
  · rw [if_neg Bool.false_ne_true] at h
    generalize (if (((wout l i).count true : Nat) : Int) < c then (((wout l i).count true : Nat) : Int) else c).toNat = N at h
    split at h
    · cases h
    · injection h with h
      rw [← h]
      refine Nat.le_trans (nrm_len _) ?_
      rw [List.length_append]
      have := mvd_len (p := p) (l := wout l i) N
      have := wout_len (l := l) i
      simp; omega
  · rw [if_pos rfl] at h
    split at h
    · cases h
    · injection h with h
      rw [← h]
      refine Nat.le_trans (mvd_len _) (Nat.le_trans (wout_len _) (Nat.le_trans (nrm_len _) ?_))
      simp
/-- a put that finds no place: all places are filled -/
theorem stepR_full {l : List Bool} {i : Option Nat} {c p : Int} {late : Bool} (h : stepR l i c p late = none) (hl : (l.length : Int) ≤ p) : (l.length : Int) = p := by
  unfold stepR at h
  cases late
  · rw [if_neg Bool.false_ne_true] at h
    generalize (if (((wout l i).count true : Nat) : Int) < c then (((wout l i).count true : Nat) : Int) else c).toNat = N at h
    split at h
    · rename_i e
      have := mvd_len (p := p) (l := wout l i) N
      have := wout_len (l := l) i
      omega
    · cases h
  · rw [if_pos rfl] at h
    split at h
    · rename_i e; exact e
    · cases h
/-- each word at most one place longer than the one before (ex: just one) -/
def Grows : Nat → List (List Bool) → Bool → Prop
  | _, [], _ => True
  | k, w :: r, ex => w.length ≤ k + 1 ∧ (ex = true → w.length = k + 1) ∧ Grows w.length r ex
def lastL : Nat → List (List Bool) → Nat
  | k, [] => k
  | _, w :: r => lastL w.length r
theorem grows_last : ∀ {ws : List (List Bool)} {k : Nat}, Grows k ws false → lastL k ws ≤ k + ws.length ∧ (lastL k ws = k + ws.length → Grows k ws true)
  | [], k, _ => ⟨Nat.le_refl _, fun _ => trivial⟩
  | w :: r, k, h => by
    obtain ⟨h1, _, h3⟩ := h
    obtain ⟨i1, i2⟩ := grows_last h3
    have e : lastL k (w :: r) = lastL w.length r := rfl
    rw [e, List.length_cons]
    refine ⟨by omega, fun q => ⟨h1, fun _ => by omega, i2 (by omega)⟩⟩
theorem ply_grows {p n : Int} {b : Nat → Nat} {late : Bool} {l : List Bool} : ∀ (ws : List (List Bool)) (i : Nat) (v : List Bool), ply p n b late l i = some v → (∀ j w, ws[j]? = some w → ply p n b late l (i + j + 1) = some w) → Grows v.length ws false ∧ ∃ u, ply p n b late l (i + ws.length) = some u ∧ u.length = lastL v.length ws
  | [], i, v, hv, _ => ⟨trivial, v, hv, rfl⟩
  | w :: r, i, v, hv, h => by
    have h0 := h 0 w rfl
    have hs : stepR v (newIx v n) (b i : Nat) p late = some w := by
      have : ply p n b late l (i + 1) = stepR v (newIx v n) (b i : Nat) p late := by
        show (match ply p n b late l i with | none => none | some w => stepR w (newIx w n) (b i : Nat) p late) = _
        rw [hv]
      rw [← this]; exact h0
    obtain ⟨g1, u, u1, u2⟩ := ply_grows r (i + 1) w h0 fun j x hj => by
      have := h (j + 1) x hj
      rw [show i + (j + 1) + 1 = i + 1 + j + 1 by omega] at this
      exact this
    refine ⟨⟨stepR_grow hs, (fun z => nomatch z), g1⟩, u, ?_, u2⟩
    rw [List.length_cons, show i + (r.length + 1) = i + 1 + r.length by omega]; exact u1
theorem ply_word {p n : Int} {b : Nat → Nat} {late : Bool} {l : List Bool} (w : Wd l) (n1 : 1 ≤ n) (hl : (l.length : Int) ≤ p) : ∀ {t : Nat} {v : List Bool}, ply p n b late l t = some v → Wd v ∧ (v.length : Int) ≤ p
  | 0, v, h => by cases h; exact ⟨w, hl⟩
  | t + 1, v, h => by
    have h : (match ply p n b late l t with | none => none | some w => stepR w (newIx w n) (b t : Nat) p late) = some v := h
    cases e : ply p n b late l t with
    | none => rw [e] at h; cases h
    | some u =>
      rw [e] at h
      obtain ⟨i1, i2⟩ := ply_word w n1 hl e
      obtain ⟨y1, y2, y3⟩ := stepR_word i1 (newIx_ok n1) (by omega) i2 h
      exact ⟨y1, y3⟩
theorem played_grows {p n : Int} {b : Nat → Nat} {late : Bool} {l : List Bool} {m : Nat} {ws : List (List Bool)} (h : Played p n b late l m ws) : Grows l.length ws false :=
  (ply_grows ws 0 l rfl fun j w hj => by rw [Nat.zero_add]; exact h.at_ j w hj).1
/-- if the puts that the play lasts just fill the places, each put takes one -/
theorem played_exact {p n : Int} {b : Nat → Nat} {late : Bool} {l : List Bool} {m : Nat} {ws : List (List Bool)} (w : Wd l) (n1 : 1 ≤ n) (hl : (l.length : Int) ≤ p) (h : Played p n b late l m ws) (hm : ws.length < m) (he : (l.length : Int) + (ws.length : Nat) = p) : Grows l.length ws true := by
  obtain ⟨g, u, u1, u2⟩ := ply_grows ws 0 l rfl fun j w hj => by rw [Nat.zero_add]; exact h.at_ j w hj
  rw [Nat.zero_add] at u1
  have st := h.stop hm
  have hs : stepR u (newIx u n) (b ws.length : Nat) p late = none := by
    have : ply p n b late l (ws.length + 1) = stepR u (newIx u n) (b ws.length : Nat) p late := by
      show (match ply p n b late l ws.length with | none => none | some w => stepR w (newIx w n) (b ws.length : Nat) p late) = _
      rw [u1]
    rw [← this]; exact st
  have := stepR_full hs (ply_word w n1 hl u1).2
  exact (grows_last g).2 (by omega)
end Cl

/-! ### law k18: the play goes on as the play of what it has reached -/
namespace Cl
theorem due_is2 {l : List Bool} {p n : Int} {bs : List Int} {ph : Int} {late : Bool} {o : Option Nat} {F M : Nat} {ws : List (List Bool)} (S : Std l p n bs ph) (h : LifeIs l p n bs ph late o) (pl : Played p n (bud bs ph) late l M ws) (hM : F ≤ M) (hF : p + (bs.length : Nat) + 2 = (F : Nat)) :
    o = if ws.length < F then some ws.length else none := by
  obtain ⟨k1, k2⟩ := life_play S h
  have up : ply p n (bud bs ph) late l ws.length ≠ none := by
    cases e : ws.length with
    | zero => exact fun z => nomatch z
    | succ m =>
      have hm : m < ws.length := by omega
      have := pl.at_ m ws[m] (List.getElem?_eq_getElem hm)
      rw [this]; exact fun z => nomatch z
  have up2 := (k1 _).mp up
  split
  · rename_i q
    have st := pl.stop (by omega)
    cases o with
    | none => exact absurd st ((k1 (ws.length + 1)).mpr fun g e => nomatch e)
    | some g =>
      have g1 := up2 g rfl
      have g2 : ¬ (ws.length + 1 ≤ g) := fun z => absurd st ((k1 (ws.length + 1)).mpr fun g' e => by cases e; exact z)
      have : g = ws.length := by omega
      rw [this]
  · rename_i q
    cases o with
    | none => rfl
    | some g =>
      have g1 := up2 g rfl
      have g2 := k2 g rfl
      omega
theorem ply_add {p n : Int} {b : Nat → Nat} {late : Bool} {l v : List Bool} {k : Nat} (h : ply p n b late l k = some v) : ∀ t, ply p n b late l (k + t) = ply p n (fun s => b (k + s)) late v t
  | 0 => h
  | t + 1 => by
    show (match ply p n b late l (k + t) with | none => none | some w => stepR w (newIx w n) (b (k + t) : Nat) p late) = (match ply p n (fun s => b (k + s)) late v t with | none => none | some w => stepR w (newIx w n) (b (k + t) : Nat) p late)
    rw [ply_add h t]
theorem bud_add (bs : List Int) (ph : Int) (k : Nat) : (fun s => bud bs ph (k + s)) = bud bs (ph + (k : Nat)) := by
  funext s
  unfold bud
  rw [show ph + ((k + s : Nat) : Int) = ph + (k : Nat) + (s : Nat) by omega]
theorem Played.take {p n : Int} {b : Nat → Nat} {late : Bool} {l : List Bool} {M m : Nat} {ws : List (List Bool)} (h : Played p n b late l M ws) (hm : m ≤ M) : Played p n b late l m (ws.take m) := by
  refine ⟨by rw [List.length_take]; omega, fun i w hi => ?_, fun hl => ?_⟩
  · rw [List.getElem?_take] at hi
    split at hi
    · exact h.at_ i w hi
    · cases hi
  · rw [List.length_take] at hl
    have e : (ws.take m).length = ws.length := by rw [List.length_take]; omega
    rw [e]
    exact h.stop (by omega)
theorem Played.cons_at {p n : Int} {b : Nat → Nat} {late : Bool} {l : List Bool} {M : Nat} {ws : List (List Bool)} (h : Played p n b late l M ws) {k : Nat} {v : List Bool} (hk : (l :: ws)[k]? = some v) : ply p n b late l k = some v := by
  cases k with
  | zero => cases hk; rfl
  | succ k => exact h.at_ k v hk
theorem ply_count {p n : Int} {b : Nat → Nat} {late : Bool} {l : List Bool} (w : Wd l) (n1 : 1 ≤ n) (hl : (l.length : Int) ≤ p) (hc : ((l.count true : Nat) : Int) ≤ n) : ∀ {t : Nat} {v : List Bool}, ply p n b late l t = some v → ((v.count true : Nat) : Int) ≤ n
  | 0, v, h => by cases h; exact hc
  | t + 1, v, h => by
    have h' : (match ply p n b late l t with | none => none | some w => stepR w (newIx w n) (b t : Nat) p late) = some v := h
    cases e : ply p n b late l t with
    | none => rw [e] at h'; cases h'
    | some u =>
      rw [e] at h'
      have hu := ply_count w n1 hl hc e
      obtain ⟨wu, lu⟩ := ply_word w n1 hl e
      obtain ⟨a1, a2, a3⟩ := stepR_word wu (newIx_ok n1) (by omega) lu h'
      rw [a2]
      unfold newIx
      split <;> simp <;> omega
theorem Std.go {l v : List Bool} {p n : Int} {bs : List Int} {ph : Int} {late : Bool} {k : Nat} (S : Std l p n bs ph) (h : ply p n (bud bs ph) late l k = some v) : Std v p n bs (ph + (k : Nat)) := by
  obtain ⟨wv, lv⟩ := ply_word S.w S.n1 S.len h
  have := S.ph
  exact ⟨wv, lv, ply_count S.w S.n1 S.len S.cnt h, S.n1, S.np, S.p9, S.ok, by omega⟩
theorem life_go {l v : List Bool} {p n : Int} {bs : List Int} {ph : Int} {late : Bool} {k : Nat} {o o' : Option Nat} (S : Std l p n bs ph) (h : ply p n (bud bs ph) late l k = some v) (ho : LifeIs l p n bs ph late o) (ho' : LifeIs v p n bs (ph + (k : Nat)) late o') : (∀ g, o = some g → k ≤ g) ∧ o' = o.map (· - k) := by
  have a := (life_play S ho).1
  have b := (life_play (S.go h) ho').1
  have sh : ∀ t, ply p n (bud bs ph) late l (k + t) = ply p n (bud bs (ph + (k : Nat))) late v t := fun t => by rw [ply_add h t, bud_add]
  have low : ∀ g, o = some g → k ≤ g := (a k).mp (by rw [h]; exact fun z => nomatch z)
  refine ⟨low, ?_⟩
  have iff_ : ∀ t, (∀ g, o = some g → k + t ≤ g) ↔ (∀ g, o' = some g → t ≤ g) := fun t => by
    rw [← a (k + t), ← b t, sh t]
  cases o with
  | none =>
    cases o' with
    | none => rfl
    | some g' =>
      have := (iff_ (g' + 1)).mp (fun g e => nomatch e) g' rfl
      omega
  | some g =>
    have lg := low g rfl
    cases o' with
    | none =>
      have := (iff_ (g - k + 1)).mpr (fun g e => nomatch e) g rfl
      omega
    | some g' =>
      have e1 := (iff_ (g - k)).mp (fun x e => by cases e; omega) g' rfl
      have e2 := (iff_ g').mpr (fun x e => by cases e; omega) g rfl
      show some g' = some (g - k)
      rw [show g' = g - k by omega]
/-- the next word of the play, or none -/
theorem step_go {l v : List Bool} {p n : Int} {bs : List Int} {ph : Int} {late : Bool} {M k : Nat} {ws : List (List Bool)} (h : Played p n (bud bs ph) late l M ws) (hv : (l :: ws)[k]? = some v) (hk : k < M) :
    stepR v (newIx v n) (bud bs (ph + (k : Nat)) 0 : Nat) p late = ws[k]? := by
  have e := h.cons_at hv
  have e1 : ply p n (bud bs ph) late l (k + 1) = stepR v (newIx v n) (bud bs ph k : Nat) p late := by
    show (match ply p n (bud bs ph) late l k with | none => none | some w => stepR w (newIx w n) (bud bs ph k : Nat) p late) = _
    rw [e]
  have e2 : bud bs (ph + (k : Nat)) 0 = bud bs ph k := by
    rw [← bud_add]; rfl
  rw [e2, ← e1]
  rcases Nat.lt_or_ge k ws.length with q | q
  · rw [List.getElem?_eq_getElem q]
    exact h.at_ k _ (List.getElem?_eq_getElem q)
  · rw [List.getElem?_eq_none q]
    have hl : k < (l :: ws).length := (List.getElem?_eq_some_iff.mp hv).1
    have : ws.length = k := by simp at hl; omega
    have st := h.stop (by omega)
    rw [this] at st
    exact st
theorem tcut_one {xs : List L2.V} {k : Nat} : L2.cutV xs (some ((k : Nat) : Int)) (some (((k : Nat) : Int) + 1)) = (xs.drop k).take 1 := by
  unfold L2.cutV
  rw [show ((k : Nat) : Int) + 1 = ((k + 1 : Nat) : Int) from rfl, HT.sIx_nat, HT.sIx_nat]
  rcases Nat.lt_or_ge k xs.length with h | h
  · rw [Nat.min_eq_left (by omega), Nat.min_eq_left (by omega)]
    congr 1; omega
  · rw [Nat.min_eq_right h, Nat.min_eq_right (by omega), List.drop_eq_nil_of_le (Nat.le_refl _), List.drop_eq_nil_of_le h]; simp
end Cl

/-! ### a word met again means safe -/
namespace Cl
open PySem L2 StX ClX
section
variable {l : List Bool} {p : Int} {n : Nat} {bs : List Int} {ph : Int}
theorem bud_eq {ph ph' : Int} (e : ph % (bs.length : Int) = ph' % (bs.length : Int)) : bud bs ph = bud bs ph' := by
  funext t
  unfold bud
  rw [Int.add_emod, e, ← Int.add_emod]
theorem Std.at {late : Bool} {v : List Bool} {k : Nat} (S : Std l p (n : Nat) bs ph) (h : ply p (n : Nat) (bud bs ph) late l k = some v) (k0 : Nat) : Std v p (n : Nat) bs (ph + (k0 : Nat)) := by
  obtain ⟨_, _, Wv, _, c1, _, lv, _⟩ := ply_dom (late := late) S.w S.w S.n1 (Int.le_refl _) (Int.le_refl p) (fun t => Nat.le_refl (bud bs ph t)) S.cnt S.cnt S.len (dom_refl l) k v h
  exact ⟨Wv, lv, c1, S.n1, S.np, S.p9, S.ok, by have := S.ph; omega⟩
/-- a word met again at the same place in the round: the play goes on for ever -/
theorem per_safe {late : Bool} {o : Option Nat} {b T : Nat} {v : List Bool} (S : Std l p (n : Nat) bs ph) (hb : b < T) (e : (T - b) % bs.length = 0) (h1 : ply p (n : Nat) (bud bs ph) late l b = some v) (h2 : ply p (n : Nat) (bud bs ph) late l T = some v) (h : LifeIs l p (n : Nat) bs ph late o) : o = none := by
  have per : ∀ t, ply p (n : Nat) (bud bs ph) late l (b + t) = ply p (n : Nat) (bud bs ph) late l (T + t) := fun t => by
    rw [ply_add h1, ply_add h2, bud_add, bud_add]
    have : bud bs (ph + (b : Nat)) = bud bs (ph + (T : Nat)) := by
      refine bud_eq ?_
      obtain ⟨q, hq⟩ := Nat.dvd_of_mod_eq_zero e
      have : ph + ((T : Nat) : Int) = ph + (b : Nat) + (bs.length : Nat) * (q : Nat) := by
        have h3 : T = b + bs.length * q := by omega
        rw [h3, Int.natCast_add, Int.natCast_mul]; omega
      rw [this, Int.add_mul_emod_self_left]
    rw [this]
  have all : ∀ t, ply p (n : Nat) (bud bs ph) late l t ≠ none := by
    intro t
    induction t using Nat.strongRecOn with
    | ind t ih =>
      rcases Nat.lt_or_ge T t with q | q
      · have := per (t - T)
        rw [show T + (t - T) = t by omega] at this
        rw [← this]
        exact ih _ (by omega)
      · intro z
        rw [ply_none q z] at h2
        cases h2
  cases o with
  | none => rfl
  | some g =>
    have := ((life_play S h).1 (g + 1)).mp (all _) g rfl
    omega
end
end Cl

/-! ### what the fewest carries come to -/
namespace Cl
open PySem L2 StX ClX
section
variable {l : List Bool} {p : Int} {n : Nat} {bs : List Int} {ph ph' : Int}
theorem safeA_iff (S : Std l p (n : Nat) bs ph) : SafeA l p (n : Nat) bs ph ↔ ∀ t, ply p (n : Nat) (bud bs ph) false l t ≠ none := by
  constructor
  · intro h t
    exact ((life_play S h).1 t).mpr fun g e => nomatch e
  · intro h
    obtain ⟨o, ho⟩ := life_exk l p (n : Nat) bs ph false
    cases o with
    | none => exact ho
    | some g =>
      have := ((life_play S ho).1 (g + 1)).mp (h _) g rfl
      omega
theorem SafeA.mod (S : Std l p (n : Nat) bs ph) (S' : Std l p (n : Nat) bs ph') (e : ph % (bs.length : Int) = ph' % (bs.length : Int)) (h : SafeA l p (n : Nat) bs ph) : SafeA l p (n : Nat) bs ph' := by
  rw [safeA_iff S', ← bud_eq e]
  exact (safeA_iff S).mp h
theorem mostN_len {l : List Bool} {p : Int} {bs : List Int} {ph : Int} (h : 0 < mostN l p bs ph) : (l.length : Int) ≠ p := fun e => by
  unfold mostN at h
  rw [if_pos e] at h
  omega
theorem aft_std (W : Wd l) (lp : (l.length : Int) < p) (n1 : 1 ≤ n) (p5 : p ≤ 5000) (ok : Okb bs) (ph0 : 0 ≤ ph) {b : Bool} {k : Nat} (np : ((n : Nat) : Int) ≤ p) (hc : (((nrm (mvd p k l ++ [b])).count true : Nat) : Int) ≤ (n : Nat)) : Std (nrm (mvd p k l ++ [b])) p (n : Nat) bs ph := by
  have h1 := nrm_len (mvd p k l ++ [b])
  have h2 := mvd_len (p := p) (l := l) k
  rw [List.length_append, List.length_singleton] at h1
  exact ⟨nrm_is _, by omega, hc, by omega, np, p5, ok, ph0⟩
theorem SafeT.mod {b : Bool} {k : Nat} (W : Wd l) (lp : (l.length : Int) < p) (n1 : 1 ≤ n) (p5 : p ≤ 5000) (ok : Okb bs) (ph0 : 0 ≤ ph) (ph0' : 0 ≤ ph') (e : ph % (bs.length : Int) = ph' % (bs.length : Int)) (h : SafeT l p (n : Nat) bs ph b k) : SafeT l p (n : Nat) bs ph' b k := by
  obtain ⟨h1, h2, h3⟩ := h
  refine ⟨h1, h2, h3.mod (aft_std W lp n1 p5 ok (by omega) h1 h2) (aft_std W lp n1 p5 ok (by omega) h1 h2) ?_⟩
  rw [Int.add_emod, e, ← Int.add_emod]
theorem mostN_mod (e : ph % (bs.length : Int) = ph' % (bs.length : Int)) : mostN l p bs ph = mostN l p bs ph' := by
  unfold mostN
  rw [bud_eq e]
theorem Few.mod {b : Bool} {m : Nat} (W : Wd l) (lp : (l.length : Int) ≤ p) (n1 : 1 ≤ n) (p5 : p ≤ 5000) (ok : Okb bs) (ph0 : 0 ≤ ph) (ph0' : 0 ≤ ph') (e : ph % (bs.length : Int) = ph' % (bs.length : Int)) (h : Few l p (n : Nat) bs ph b m) : Few l p (n : Nat) bs ph' b m := by
  have em := mostN_mod (l := l) (p := p) e
  have lq : 0 < mostN l p bs ph → (l.length : Int) < p := fun z => by have := mostN_len z; omega
  have hle := h.le
  refine ⟨by rw [← em]; exact h.le, fun z => ?_, fun j hj z => ?_⟩
  · rw [← em] at z
    exact (h.ok z).mod W (lq (by omega)) n1 p5 ok ph0 ph0' e
  · exact h.lo j hj (z.mod W (lq (by omega)) n1 p5 ok ph0' ph0 e.symm)
/-- the step of an early put, told by its carries -/
theorem step_early {l : List Bool} {i : Option Nat} {c : Nat} {p : Int} (h : ((wout l i).length : Int) ≠ p) (lp : (l.length : Int) ≤ p) : stepR l i (c : Nat) p false = some (nrm (mvd p (min c ((wout l i).count true)) (wout l i) ++ [true])) := by
  have wl := wout_len (l := l) i
  unfold stepR
  rw [if_neg Bool.false_ne_true]
  have e : (if (((wout l i).count true : Nat) : Int) < (c : Nat) then (((wout l i).count true : Nat) : Int) else (c : Nat)).toNat = min c ((wout l i).count true) := by split <;> omega
  rw [e]
  have ml := mvd_len (p := p) (l := wout l i) (min c ((wout l i).count true))
  rw [if_neg (by omega)]
theorem step_stuck {l : List Bool} {i : Option Nat} {c : Nat} {p : Int} (h : ((wout l i).length : Int) = p) : stepR l i (c : Nat) p false = none := by
  unfold stepR
  rw [if_neg Bool.false_ne_true]
  have e : ∀ m, mvd p m (wout l i) = wout l i := fun m => mvd_stuck (n := 0) (.inr h) m (Nat.zero_le m)
  rw [e, if_pos h]
end
end Cl

/-! ### a row played by the keeper -/
namespace Cl
open PySem PySem.Spec PyProof.Rows L2 StX ClX PySem.Builtin PySem.Builtin.Str
section
variable {P : Program} {w : World} {K : PySem.W.Frag} {mg : Str → Option Value} {base : Heap} {C C_NoPlace C_Thrifty C_InvalidInput : Addr}
def ChT (p : Int) (n : Nat) (bs : List Int) (l : List Bool) (t : Int) (m : Nat) : Prop := Few l p (n : Nat) bs t true m
def spRunT (C CT : Addr) : Sp := fun vs H Q _ => ∃ (ka g : Addr) (ms : List (Option Nat)) (p lim : Int) (n : Nat) (r : Addr) (bs : List Int), vs = [.ref ka, .ref g, .int p, .int lim, .ref r] ∧ H g = some (.lst (ms.map ixV)) ∧ ms.length ≤ 4000 ∧ ThAt CT H ka (n : Nat) ∧ 1 ≤ lim ∧ lim ≤ p ∧ p ≤ 4000 ∧ 1 ≤ n ∧ MvOk lim 0 ms ∧ Okb bs ∧ RoundAt C H r bs ∧
  ∀ (ws : List (List Bool)) (g' : Addr) (H' : Hp), Same H H' → H g' = none → H' g' = some (.lst (ws.map fun w => V.str (tx w))) → RowIs p (ChT p n bs) ms ws → Q (.ref g') H'
theorem scRunRow : FnScope ["keeper", "row", "places", "limit", "budgets", "words", "state", "move"] ["keeper", "row", "places", "limit", "budgets"] (defScope sRunRow) := ⟨rfl, rfl, rfl, by decide +kernel, rfl, by decide +kernel, by decide +kernel⟩
set_option maxHeartbeats 0 in
theorem ok_run_row {f : Addr} {fd : FuncData} (F : Fun K "run_row" "run_row" sRunRow f fd) (B : Bi mg) (D_check_terms : Dn P w K mg base "check_terms" 3 ["places", "limit", "budgets"] (spTermsC C)) (D_ring_moves : Dn P w K mg base "ring_moves" 5 ["word", "limit"] spMoves)
    (D__played : Dn P w K mg base "_played" 13 ["keeper", "state", "move", "places", "budgets"] (spPlayedT C C_Thrifty)) : FnOk P w K mg base CX0 14 f fd ["keeper", "row", "places", "limit", "budgets"] (spRunT C C_Thrifty) := by
  refine F.ok scRunRow (fun vs H Q E h => ?_) (fun cdv A outer s H vs Q E hr h => ?_)
  · obtain ⟨ka, g, ms, p, lim, n, r, bs, rfl, _⟩ := h
    rfl
  · obtain ⟨ka, g, ms, p, lim, n, r, bs, rfl, hg, ml, hT, lm1, lmp, p4, n1, mk, ok, hR, k⟩ := h
    refine ⟨_, (pss_cons (ps_expr (pe_dn D_check_terms (hr.mono (by decide)) (by rfl) pass0 (pa_cons (pv 2) (pa_cons (pv 3) (pa_cons (pv 4) pa_nil)))))
  (pss_cons (ps_set (i := 5) scRunRow.nd rfl (Or.inl rfl) (pe_lst pa_nil))
  (pss_cons (ps_set (i := 6) scRunRow.nd rfl (Or.inl rfl) (pe_tup (pa_cons pe_str (pa_cons pe_int pa_nil))))
  (pss_cons (ps_for PassesOwn.never rfl (pi_list (pv 1)) (pg_name (i := 7) scRunRow.nd rfl (Or.inl rfl))
  (pss_cons (ps_if (pt_cmpR op_notIn_seq (pv 7) (pe_dn D_ring_moves (hr.mono (by decide)) (by rfl) pass0 (pa_cons (pe_ix ix_tup (pv 6) pe_int (fun _ _ => rfl)) (pa_cons (pv 3) pa_nil))) (by with_unfolding_all rfl)) (pss_one ps_never)
  pss_nil)
  (pss_cons (ps_set (i := 6) scRunRow.nd rfl (Or.inl rfl) (pe_dn D__played (hr.mono (by decide)) (by rfl) pass0 (pa_cons (pv 0) (pa_cons (pv 6) (pa_cons (pv 7) (pa_cons (pv 2) (pa_cons (pv 4) pa_nil)))))))
  (pss_cons (ps_if (pt_cmpR op_isN (pv 6) pe_non (nomark _)) (pss_one (ps_ret (pv 5)))
  pss_nil)
  (pss_one (ps_expr (pe_bm PySem.F.plainAttrs_list PySem.F.slot_list_append PySem.F.type_list_append mt_append (pv 5) (pa_cons (pe_ix ix_tup (pv 6) pe_int (fun _ _ => rfl)) pa_nil))))))))
  (pss_one (ps_ret (pv 5))))))), ?_⟩
    have l1 := ok.l1
    have l2 := ok.l2
    have big : (20000 : Nat) ≤ sizeLine := by decide
    walk_at "rd"
    refine ⟨p, lim, r, bs, rfl, lm1, lmp, hR, ?_⟩
    walk_at "rd"
    refine ⟨by show 0 ≤ sizeLine; decide, fun D hD => ?_⟩
    walk_at "rd"
    refine ⟨by show 2 ≤ sizeLine; decide, fun t0 ht0 => ?_⟩
    have S0 := (Same.upd (o := .lst []) hD).trans (Same.upd (o := .tup [V.str (Str.ofString ""), V.int 0]) ht0)
    have hD0 := Same.upd (o := .tup [V.str (Str.ofString ""), V.int 0]) ht0 _ _ (upd_same (H := H) (a := D) (o := .lst []))
    have ht1 := upd_same (H := upd H D (.lst [])) (a := t0) (o := .tup [V.str (Str.ofString ""), V.int 0])
    generalize upd (upd H D (.lst [])) t0 (.tup [V.str (Str.ofString ""), V.int 0]) = H0 at S0 hD0 ht1 ⊢
    rw [te] at ht1
    walk_at "rd"
    refine ⟨⟨_, SqL.of (S0 _ _ hg)⟩, ?_⟩
    refine for_list (xs := ms.map ixV) (fun i σ H' => ∃ (ws : List (List Bool)) (t : Addr) (x : Option V), σ = [some (.ref ka), some (.ref g), some (.int p), some (.int lim), some (.ref r), some (.ref D), some (.ref t), x] ∧ Same H H' ∧ H' D = some (.lst (ws.map fun w => V.str (tx w))) ∧ H' t = some (.tup [.str (tx (wAt ws i)), .int ((i : Nat) % (bs.length : Int))]) ∧ ws.length = i ∧ Along p (ChT p n bs) ms ws)
      ⟨[], t0, none, rfl, S0, hD0, by rw [ht1]; simp [wAt], rfl, .nil⟩ (fun i σ H' _ h => by obtain ⟨ws, t, x, _, S', _⟩ := h; exact SqL.of (S' _ _ hg)) ?_ ?_
    · rintro i x σ H1 hi ⟨ws, t, x7, rfl, S1, hD1, ht1, wl, al⟩
      obtain ⟨mv, hmv, rfl⟩ : ∃ mv, ms[i]? = some mv ∧ x = ixV mv := by
        rw [List.getElem?_map] at hi
        obtain ⟨mv, h1, rfl⟩ := Option.map_eq_some_iff.mp hi
        exact ⟨mv, h1, rfl⟩
      have hil := (List.getElem?_eq_some_iff.mp hmv).1
      obtain ⟨W, lp, cnt⟩ := al.word (by omega) mk i (by omega)
      obtain ⟨m0, m1⟩ := mk.at_ hmv
      rw [← cnt] at m0 m1
      walk_at "rd"
      refine ⟨t, _, _, _, rfl, rfl, SqT.of ht1, rfl, ?_⟩
      walk_at "rd"
      refine ⟨W, by omega, fun gm H2 hgm S2 hgm2 => ?_⟩
      walk_at "rd"
      refine ⟨gm, _, rfl, .inl (SqL.of hgm2), by cases mv <;> rfl, movesV_flat _ _, ?_⟩
      rw [if_pos rfl, movesV_in m0 m1]
      refine ⟨_, rfl, iteF ?_⟩
      walk_at "rd"
      have S12 := S1.trans S2
      have e0 := Int.emod_nonneg ((i : Nat) : Int) (show (bs.length : Int) ≠ 0 by omega)
      refine ⟨ka, t, wAt ws i, ((i : Nat) : Int) % (bs.length : Int), mv, p, (n : Nat), r, bs, rfl, S2 _ _ ht1, hT.same S12, W, lp, by omega, by omega, by omega, m1, ok, hR.same S12, e0, fun m hm => ?_⟩
      have wl2 := wout_len (l := wAt ws i) mv
      have hm2 : ChT p n bs (wout (wAt ws i) mv) (i : Nat) m := hm.mod (wout_wd W mv) (by omega) n1 (by omega) ok e0 (by omega) (Int.emod_emod ..)
      refine ⟨fun hn H3 S3 => ?_, fun v hv t' H3 S3 ht' => ?_⟩
      · walk_at "rd"
        refine k ws D H3 (S12.trans S3) hD (S3 _ _ (S2 _ _ hD1)) ⟨al, .inr ⟨mv, m, ?_⟩⟩
        rw [wl]
        exact ⟨hmv, hm2, hn⟩
      · have hD3 := S3 _ _ (S2 _ _ hD1)
        have al2 := al.snoc (i := mv) (m := m) (v := v) (by rw [wl]; exact hmv) (by rw [wl]; exact hm2) (by rw [wl]; exact hv)
        have nt : t' ≠ D := fun z => by rw [z, hD3] at ht'; cases ht'
        walk_at "rd"
        refine ⟨.inl ⟨rfl, _, SqL.of hD3⟩, ?_⟩
        walk_at "rd"
        refine ⟨t', _, _, _, rfl, rfl, SqT.of ht', rfl, ?_⟩
        walk_at "rd"
        refine ⟨D, _, _, rfl, rfl, hD3, by rw [List.length_map]; omega, ?_⟩
        refine ⟨ws ++ [v], t', some (ixV mv), rfl, ?_, ?_, ?_, by rw [List.length_append, wl]; rfl, al2⟩
        · exact fun b o hb => by rw [upd_ne (ne_of_none hb hD)]; exact (S12.trans S3) b o hb
        · rw [upd_same, List.map_append]; rfl
        · rw [upd_ne nt, ht']
          have e1 : wAt (ws ++ [v]) (i + 1) = v := by rw [← wl]; exact wAt_last
          rw [e1, Int.emod_add_emod]
          rfl
    · rintro σ H1 ⟨ws, t, x7, rfl, S1, hD1, ht1, wl, al⟩
      walk_at "rd"
      rw [List.length_map] at wl
      exact k ws D H1 S1 hD hD1 ⟨al, .inl wl⟩
end
end Cl

/-! ### what the laws of keepers share: their own put -/
namespace Cl
open PySem PySem.Spec PyProof.Rows L2 StX ClX PySem.Builtin PySem.Builtin.Str
/-- where the search for the next one begins -/
def bnd (l : List Bool) : Nat → Nat
  | 0 => 0
  | j + 1 => (onesAt l).getD j 0 + 1
theorem ones_lt {l : List Bool} {i j : Nat} (h : i < j) (hj : j < (onesAt l).length) : (onesAt l).getD i 0 < (onesAt l).getD j 0 := by
  have key : (onesAt l).Pairwise (· < ·) := by
    unfold onesAt
    exact List.Pairwise.filter _ List.pairwise_lt_range
  have := List.pairwise_iff_getElem.mp key i j (by omega) hj h
  rw [List.getD_eq_getElem?_getD, List.getElem?_eq_getElem (show i < (onesAt l).length by omega), List.getD_eq_getElem?_getD, List.getElem?_eq_getElem hj]
  exact this
theorem cps_one {l : List Bool} {v : Nat} (h : l[v]? = some true) : (tx l).cps.getD v 0 = 49 := by
  unfold tx
  simp only [Array.getD_eq_getD_getElem?, List.getElem?_toArray, List.getElem?_map, h]
  rfl
theorem one_cps {l : List Bool} {v : Nat} (hv : v < l.length) (h : (tx l).cps.getD v 0 = 49) : l[v]? = some true := by
  unfold tx at h
  simp only [Array.getD_eq_getD_getElem?, List.getElem?_toArray, List.getElem?_map, List.getElem?_eq_getElem hv] at h
  rw [List.getElem?_eq_getElem hv]
  cases e : l[v] with
  | true => rfl
  | false => rw [e] at h; cases h
theorem find_one {l : List Bool} {j : Nat} (hj : j < l.count true) : Txt.find3 (tx l) (tx [true]) ((bnd l j : Nat) : Int) = (((onesAt l).getD j 0 : Nat) : Int) := by
  have lc : (onesAt l).length = l.count true := ones_count l
  have hg : (onesAt l).getD j 0 ∈ onesAt l := by
    rw [List.getD_eq_getElem?_getD, List.getElem?_eq_getElem (by omega : j < (onesAt l).length)]
    exact List.getElem_mem _
  have h1 := onesAt_mem.mp hg
  have h2 := onesAt_lt hg
  have bj : bnd l j ≤ (onesAt l).getD j 0 := by
    cases j with
    | zero => exact Nat.zero_le _
    | succ i => exact ones_lt (Nat.lt_succ_self i) (by omega)
  have fx : fromIndex (tx l).length ((bnd l j : Nat) : Int) = bnd l j := by
    unfold fromIndex
    rw [if_neg (by omega)]
    omega
  have one : (tx [true]) = (⟨#[49]⟩ : Str) := rfl
  rw [one]
  rcases StrLaws.find3_spec (tx l) 49 ((bnd l j : Nat) : Int) with ⟨_, hn⟩ | ⟨k, hk, k1, k2, k3, k4⟩
  · rw [fx] at hn
    exact absurd (cps_one h1) (hn _ bj (by rw [tx_len]; exact h2))
  · rw [fx] at k1 k4
    rw [tx_len] at k2
    rw [hk]
    have hkm := onesAt_mem.mpr (one_cps k2 k3)
    obtain ⟨q, hq, eq⟩ := List.getElem_of_mem hkm
    have eq2 : (onesAt l).getD q 0 = k := by rw [List.getD_eq_getElem?_getD, List.getElem?_eq_getElem hq]; exact eq
    have ge : (onesAt l).getD j 0 ≤ k := by
      rcases Nat.lt_trichotomy q j with z | z | z
      · cases j with
        | zero => omega
        | succ i =>
          have : (onesAt l).getD q 0 ≤ (onesAt l).getD i 0 := by
            rcases Nat.lt_or_ge q i with y | y
            · exact Nat.le_of_lt (ones_lt y (by omega))
            · obtain rfl : q = i := by omega
              exact Nat.le_refl _
          have k1 : (onesAt l).getD i 0 + 1 ≤ k := k1
          omega
      · subst z; omega
      · have := ones_lt z hq
        omega
    have le : k ≤ (onesAt l).getD j 0 := by
      rcases Nat.lt_or_ge ((onesAt l).getD j 0) k with z | z
      · exact absurd (cps_one h1) (k4 _ bj z)
      · exact z
    rw [Nat.le_antisymm ge le]
section
variable {P : Program} {w : World} {K : PySem.W.Frag} {mg : Str → Option Value} {base : Heap} {C : Addr}
def spCount : Sp := fun vs H Q _ => ∃ n : Int, vs = [.int n] ∧ Q (.bl true) H
theorem scLawIsCount : FnScope ["thing"] ["thing"] (defScope sLawIsCount) := ⟨rfl, rfl, rfl, by decide +kernel, rfl, by decide +kernel, by decide +kernel⟩
theorem ok__law_is_count {f : Addr} {fd : FuncData} (F : Fun K "_law_is_count" "_law_is_count" sLawIsCount f fd) (B : Bi mg) : FnOk P w K mg base CX0 1 f fd ["thing"] spCount := by
  refine F.ok scLawIsCount (fun vs H Q E h => ?_) (fun cdv A outer s H vs Q E hr h => ?_)
  · obtain ⟨n, rfl, _⟩ := h
    rfl
  · obtain ⟨n, rfl, k⟩ := h
    refine ⟨_, (pss_one (ps_ret (pe_and (pe_callB call_isi (by rfl) B.isinstance (by decide +kernel) (pa_cons (pv 0) (pa_cons (pe_bltn (v := .ty "int") (by rfl) B.intT (by decide +kernel) rfl) pa_nil))) (pe_one (pe_not (pe_callB call_isi (by rfl) B.isinstance (by decide +kernel) (pa_cons (pv 0) (pa_cons (pe_bltn (v := .ty "bool") (by rfl) B.boolT (by decide +kernel) rfl) pa_nil)))))))), ?_⟩
    walk_at "rd"
    refine ⟨_, _, _, _, _, rfl, .ty _, .base (.int _), kit_ii _, true, rfl, iteT ?_⟩
    refine ⟨_, rfl, _, _, _, _, _, rfl, .ty _, .base (.int _), kit_ib _, false, rfl, k⟩
theorem scLawRound : FnScope ["pays", "made", "pay"] ["pays"] (defScope sLawRound) := ⟨rfl, rfl, rfl, by decide +kernel, rfl, by decide +kernel, by decide +kernel⟩
theorem ok__law_round {f : Addr} {fd : FuncData} (F : Fun K "_law_round" "_law_round" sLawRound f fd) (B : Bi mg) (R_Round : ClsC K mg "Round" C) (MK_Round : Cn P w K mg base C 3 (spInit C)) (O_Round___add__ : On P w K mg base C "__add__" 5 ["self", "other"] (spAddR C)) : FnOk P w K mg base CX0 7 f fd ["pays"] (spRoundL C) := by
  refine F.ok scLawRound (fun vs H Q E h => ?_) (fun cdv A outer s H vs Q E hr h => ?_)
  · obtain ⟨p, bs, rfl, _⟩ := h
    rfl
  · obtain ⟨p, bs, rfl, hp, ok, k⟩ := h
    refine ⟨_, (pss_cons (ps_set (i := 1) scLawRound.nd rfl (Or.inl rfl) (pe_mkR MK_Round (hr.mono (by decide)) rfl R_Round.mg pass0 (pa_cons (pe_ix ix_list (pv 0) pe_int (fun _ _ => rfl)) pa_nil)))
  (pss_cons (ps_for PassesOwn.never rfl (pi_list (pe_slice sl_list (pv 0) (po_some pe_int) po_none)) (pg_name (i := 2) scLawRound.nd rfl (Or.inl rfl))
  (pss_one (ps_set (i := 1) scLawRound.nd rfl (Or.inl rfl) (pe_op (op_addN O_Round___add__ R_Round (hr.mono (by decide))) (pv 1) (pe_mkR MK_Round (hr.mono (by decide)) rfl R_Round.mg pass0 (pa_cons (pv 2) pa_nil))))))
  (pss_one (ps_ret (pv 1))))), ?_⟩
    obtain ⟨b0, br, rfl⟩ : ∃ b0 br, bs = b0 :: br := by
      cases bs with
      | nil => exact absurd ok.l1 (by decide)
      | cons b r => exact ⟨b, r, rfl⟩
    have l2 : br.length + 1 ≤ 12 := ok.l2
    have sub : ∀ m, Okb (b0 :: br.take m) := fun m => ⟨by simp, by rw [List.length_cons, List.length_take]; omega, fun b hb => ok.nn b (by
      rcases List.mem_cons.mp hb with h | h
      · rw [h]; exact List.mem_cons_self
      · exact List.mem_cons_of_mem _ (List.mem_of_mem_take h))⟩
    walk_at "rd"
    refine ⟨p, _, _, _, rfl, rfl, SqL.of hp, sck0, ?_⟩
    intro x dx' hx hdx nd
    refine ⟨x, dx', [b0], rfl, upd_same, sub 0, fun t H1 ht h1 h2 h3 => ⟨rfl, ?_⟩⟩
    have hR : RoundAt C H1 x [b0] := ⟨dx', t, h1, h2⟩
    have S1 := made_same hx hdx h3
    have hp1 := S1 _ _ hp
    walk_at "rd"
    refine ⟨p, _, rfl, SqL.of hp1, fun u hu => ?_⟩
    rw [show cutV ((b0 :: br).map V.int) (some (1 : Int)) none = br.map V.int from (tcut_from (f := 1)).trans (by rw [List.map_cons]; rfl)]
    refine ⟨u, rfl, ⟨_, SqL.of upd_same⟩, ?_⟩
    refine for_list (xs := br.map V.int) (fun i σ H' => ∃ (y : Addr) (v : Option V), σ = [some (.ref p), some (.ref y), v] ∧ RoundAt C H' y (b0 :: br.take i) ∧ Same (upd H1 u (.lst (br.map V.int))) H') ⟨x, _, rfl, hR.same (Same.upd hu), Same.refl _⟩ ?_ ?_ ?_
    · rintro i σ G hi ⟨y, v, rfl, gR, gS⟩
      exact SqL.of (gS _ _ upd_same)
    · rintro i v σ G hv ⟨y, v0, rfl, gR, gS⟩
      obtain ⟨b, hb, rfl⟩ := int_of_map2 hv
      have hb2 := ok.nn b (List.mem_cons_of_mem _ (List.mem_of_getElem? hb))
      have hi : i < br.length := (List.getElem?_eq_some_iff.mp hb).1
      walk_at "rd"
      intro x2 dx2 hx2 hdx2 nd2
      refine ⟨x2, dx2, [b], rfl, upd_same, ok1 hb2.1 hb2.2, fun t2 G2 ht2 g1 g2 g3 => ⟨rfl, ?_⟩⟩
      have gR2 : RoundAt C G2 x2 [b] := ⟨dx2, t2, g1, g2⟩
      have S2 := made_same hx2 hdx2 g3
      have gRy := gR.same S2
      obtain ⟨dy, ty, y1, y2⟩ := id gRy
      refine ⟨y, x2, dy, dx2, _, _, rfl, rfl, y1, g1, y, x2, b0 :: br.take i, [b], rfl, gRy, gR2, sub i, ok1 hb2.1 hb2.2, by rw [List.length_cons, List.length_take]; show _ + 1 ≤ 12; omega, fun z G3 hz gR3 S3 => ?_⟩
      refine ⟨z, _, rfl, ?_, (gS.trans S2).trans S3⟩
      have e : b0 :: br.take (i + 1) = (b0 :: br.take i) ++ [b] := by rw [List.take_add_one, hb]; rfl
      rw [e]; exact gR3
    · rintro σ G ⟨y, v, rfl, gR, gS⟩
      rw [List.length_map, List.take_length] at gR
      exact ⟨_, rfl, k y G gR ((S1.trans (Same.upd hu)).trans gS)⟩
def spFreedK : Sp := fun vs H Q _ => ∃ (l : List Bool) (j : Nat), vs = [.str (tx l), .int (j : Nat)] ∧ l.length ≤ 9000 ∧ j < l.count true ∧ Q (.str (tx (wout l (some j)))) H
theorem scLawFreed : FnScope ["word", "index", "spot", "turn"] ["word", "index"] (defScope sLawFreed) := ⟨rfl, rfl, rfl, by decide +kernel, rfl, by decide +kernel, by decide +kernel⟩
theorem ok__law_freed {f : Addr} {fd : FuncData} (F : Fun K "_law_freed" "_law_freed" sLawFreed f fd) (B : Bi mg) : FnOk P w K mg base CX0 1 f fd ["word", "index"] spFreedK := by
  refine F.ok scLawFreed (fun vs H Q E h => ?_) (fun cdv A outer s H vs Q E hr h => ?_)
  · obtain ⟨l, j, rfl, _⟩ := h
    rfl
  · obtain ⟨l, j, rfl, l9, hj, k⟩ := h
    refine ⟨_, (pss_cons (ps_set (i := 2) scLawFreed.nd rfl (Or.inl rfl) (pe_un un_neg pe_int))
  (pss_cons (ps_for PassesOwn.never rfl (pi_range1 rfl B.range (pa_cons (pe_op op_add (pv 1) pe_int) pa_nil)) (pg_name (i := 3) scLawFreed.nd rfl (Or.inl rfl))
  (pss_one (ps_set (i := 2) scLawFreed.nd rfl (Or.inl rfl) (pe_bm PySem.F.plainAttrs_str PySem.F.slot_str_find PySem.F.type_str_find mt_find3 (pv 0) (pa_cons pe_str (pa_cons (pe_op op_add (pv 2) pe_int) pa_nil))))))
  (pss_one (ps_ret (pe_m1 PySem.F.slot_str_lstrip PySem.F.type_str_lstrip mt_lstripChars (pe_op op_add_str (pe_op op_add_str (pe_slice sl_str (pv 0) po_none (po_some (pv 2))) pe_str) (pe_slice sl_str (pv 0) (po_some (pe_op op_add (pv 2) pe_int)) po_none)) pe_str))))), ?_⟩
    have big : (20000 : Nat) ≤ sizeLine := by decide
    have cl := List.count_le_length (a := true) (l := l)
    walk_at "rd"
    refine ⟨by omega, by omega, ?_⟩
    refine for_range (fun i σ H' => H' = H ∧ ∃ x, σ = [some (.str (tx l)), some (.int (j : Nat)), some (.int ((bnd l i : Nat) - 1)), x]) ⟨rfl, _, rfl⟩ ?_ ?_
    · rintro i σ H1 hi ⟨rfl, x, rfl⟩
      have hi : i ≤ j := by omega
      walk_at "rd"
      refine ⟨tx l, _, _, rfl, rfl, ?_⟩
      dsimp only
      rw [t1, Int.sub_add_cancel, find_one (by omega)]
      refine ⟨rfl, some (.int (0 + (i : Nat))), ?_⟩
      show List.set _ _ _ = _
      rw [show ((bnd l (i + 1) : Nat) : Int) - 1 = (((onesAt l).getD i 0 : Nat) : Int) by show (((onesAt l).getD i 0 + 1 : Nat) : Int) - 1 = _; omega]
      rfl
    · rintro σ H1 ⟨rfl, x, rfl⟩
      have ej : (((j : Nat) : Int) + 1).toNat = j + 1 := by omega
      rw [ej, show ((bnd l (j + 1) : Nat) : Int) - 1 = (((onesAt l).getD j 0 : Nat) : Int) by show (((onesAt l).getD j 0 + 1 : Nat) : Int) - 1 = _; omega]
      have lc : (onesAt l).length = l.count true := ones_count l
      have hj2 : j < (onesAt l).length := by omega
      have eo : (onesAt l)[j]? = some ((onesAt l).getD j 0) := by rw [List.getD_eq_getElem?_getD, List.getElem?_eq_getElem hj2]; rfl
      have ew : wout l (some j) = nrm (l.set ((onesAt l).getD j 0) false) := by
        unfold wout
        simp only [eo]
      have hlt : (onesAt l).getD j 0 < l.length := onesAt_lt (List.mem_of_getElem? eo)
      rw [ew] at k
      generalize (onesAt l).getD j 0 = at_ at k hlt ⊢
      walk_at "rd"
      refine ⟨small_le (by rw [tx_len]; omega), ?_⟩
      walk_at "rd"
      rw [show cutS (tx l) none (some ((at_ : Nat) : Int)) = tx (l.take at_) from cutS_to, t0]
      refine ⟨by rw [tx_len, tx_len, List.length_take]; show min _ _ + 1 ≤ _; omega, ?_⟩
      walk_at "rd"
      refine ⟨small_le (by rw [tx_len]; omega), ?_⟩
      rw [show (((at_ : Nat) : Int) + 1) = ((at_ + 1 : Nat) : Int) from rfl, show cutS (tx l) (some ((at_ + 1 : Nat) : Int)) none = tx (l.drop (at_ + 1)) from cutS_from]
      walk_at "rd"
      rw [tx_app]
      refine ⟨by rw [tx_len, tx_len, List.length_append, List.length_take, List.length_drop]; show min _ _ + 1 + _ ≤ _; omega, ?_⟩
      rw [tx_app, set_cut hlt]
      refine ⟨⟨_, rfl⟩, _, _, rfl, rfl, small_le (by rw [tx_len, List.length_set]; omega), ?_⟩
      rw [tx_lstrip]
      exact k
def spCarriedK : Sp := fun vs H Q _ => ∃ (l : List Bool) (m : Nat) (p : Int), vs = [.str (tx l), .int (m : Nat)] ∧ Wd l ∧ (l.length : Int) < p ∧ p ≤ 5000 ∧ m ≤ l.count true ∧ Q (.str (tx (mvd p m l))) H
theorem scLawCarried : FnScope ["word", "many", "turn"] ["word", "many"] (defScope sLawCarried) := ⟨rfl, rfl, rfl, by decide +kernel, rfl, by decide +kernel, by decide +kernel⟩
theorem ok__law_carried {f : Addr} {fd : FuncData} (F : Fun K "_law_carried" "_law_carried" sLawCarried f fd) (B : Bi mg) : FnOk P w K mg base CX0 1 f fd ["word", "many"] spCarriedK := by
  refine F.ok scLawCarried (fun vs H Q E h => ?_) (fun cdv A outer s H vs Q E hr h => ?_)
  · obtain ⟨l, m, p, rfl, _⟩ := h
    rfl
  · obtain ⟨l, m, p, rfl, W, lp, p5, hm, k⟩ := h
    refine ⟨_, (pss_cons (ps_for PassesOwn.never rfl (pi_range1 rfl B.range (pa_cons (pv 1) pa_nil)) (pg_name (i := 2) scLawCarried.nd rfl (Or.inl rfl))
  (pss_one (ps_set (i := 0) scLawCarried.nd rfl (Or.inl rfl) (pe_m1 PySem.F.slot_str_lstrip PySem.F.type_str_lstrip mt_lstripChars (pe_op op_add_str (pe_slice sl_str (pv 0) (po_some pe_int) po_none) pe_str) pe_str))))
  (pss_one (ps_ret (pv 0)))), ?_⟩
    have big : (20000 : Nat) ≤ sizeLine := by decide
    have cl := List.count_le_length (a := true) (l := l)
    walk_at "rd"
    refine ⟨by omega, by omega, ?_⟩
    refine for_range (fun i σ H' => H' = H ∧ ∃ x, σ = [some (.str (tx (mvd p i l))), some (.int (m : Nat)), x]) ⟨rfl, _, rfl⟩ ?_ ?_
    · rintro i σ H1 hi ⟨rfl, x, rfl⟩
      have hi : i < m := by omega
      have ml := mvd_len (p := p) (l := l) i
      have mc := mvd_count1 (p := p) W i
      have ne : mvd p i l ≠ [] := fun z => by rw [z] at mc; have : (0 : Nat) = l.count true := mc; omega
      have e1 : mvd p (i + 1) l = nrm ((mvd p i l).drop 1 ++ [true]) := by
        show mv1 p (mvd p i l) = _
        unfold mv1
        rw [if_neg (fun z => z.elim ne (fun y => by omega))]
      walk_at "rd"
      refine ⟨small_le (by rw [tx_len]; omega), ?_⟩
      rw [show cutS (tx (mvd p i l)) (some 1) none = tx ((mvd p i l).drop 1) from cutS_from (f := 1), t1]
      refine ⟨_, _, rfl, rfl, by rw [tx_len, tx_len, List.length_drop]; show _ + 1 ≤ _; omega, ?_⟩
      rw [tx_app]
      refine ⟨⟨_, rfl⟩, _, _, rfl, rfl, small_le (by rw [tx_len, List.length_append, List.length_drop, List.length_singleton]; omega), ?_⟩
      rw [t0, tx_lstrip, ← e1]
      exact ⟨rfl, some (.int (0 + (i : Nat))), rfl⟩
    · rintro σ H1 ⟨rfl, x, rfl⟩
      rw [Int.toNat_natCast]
      walk_at "rd"
      exact k
def spSafeK : Sp := fun vs H Q _ => ∃ (l : List Bool) (p : Int) (n : Nat) (q : Addr) (bs : List Int) (ph : Int), vs = [.str (tx l), .int p, .int (n : Nat), .ref q, .int ph] ∧ H q = some (.lst (bs.map V.int)) ∧ Std l p (n : Nat) bs ph ∧ ∀ (x : Bool), (x = true ↔ SafeA l p (n : Nat) bs ph) → Q (.bl x) H
theorem scLawSafe : FnScope ["word", "wide", "many", "pays", "beat", "kept", "turn"] ["word", "wide", "many", "pays", "beat"] (defScope sLawSafe) := ⟨rfl, rfl, rfl, by decide +kernel, rfl, by decide +kernel, by decide +kernel⟩
set_option maxHeartbeats 0 in
theorem ok__law_safe {f : Addr} {fd : FuncData} (F : Fun K "_law_safe" "_law_safe" sLawSafe f fd) (B : Bi mg) (D__law_freed : Dn P w K mg base "_law_freed" 1 ["word", "index"] spFreedK) (D__law_carried : Dn P w K mg base "_law_carried" 1 ["word", "many"] spCarriedK) :
    FnOk P w K mg base CX0 2 f fd ["word", "wide", "many", "pays", "beat"] spSafeK := by
  refine F.ok scLawSafe (fun vs H Q E h => ?_) (fun cdv A outer s H vs Q E hr h => ?_)
  · obtain ⟨l, p, n, q, bs, ph, rfl, _⟩ := h
    rfl
  · obtain ⟨l, p, n, q, bs, ph, rfl, hq, S, k⟩ := h
    refine ⟨_, (pss_cons (ps_set (i := 5) scLawSafe.nd rfl (Or.inl rfl) pe_str)
  (pss_cons (ps_for PassesOwn.never rfl (pi_range1 rfl B.range (pa_cons (pe_op op_add (pe_op op_add (pe_op op_mul pe_int (pv 1)) (pe_op op_mul pe_int (pe_callB call_len_seq (by rfl) B.len PySem.boot_len (pa_cons (pv 3) pa_nil)))) pe_int) pa_nil)) (pg_name (i := 6) scLawSafe.nd rfl (Or.inl rfl))
  (C8.pss_cut (ps_if (pt_cmpR op_eq (pe_op op_mod (pe_callTy call_int1 (by rfl) B.intT (by decide +kernel) (pa_cons (pv 6) pa_nil)) (pe_callB call_len_seq (by rfl) B.len PySem.boot_len (pa_cons (pv 3) pa_nil))) pe_int (nomark _)) (C8.pss_cut (ps_if (PW.pt (pw_and (pt_cmpR op_gt (pv 6) pe_int (nomark _)) (pw_and1 (pt_cmpR op_eq (pv 0) (pv 5) (nomark _))))) (pss_one (ps_ret pe_bl))
  pss_nil)
  (pss_one (ps_set (i := 5) scLawSafe.nd rfl (Or.inl rfl) (pv 0))))
  pss_nil)
  (C8.pss_cut (ps_if (pt_cmpR op_ge (pe_m1 PySem.F.slot_str_count PySem.F.type_str_count mt_count (pv 0) pe_str) (pv 2) (nomark _)) (pss_one (ps_set (i := 0) scLawSafe.nd rfl (Or.inl rfl) (pe_dn D__law_freed (hr.mono (by decide)) (by rfl) pass0 (pa_cons (pv 0) (pa_cons (pe_op op_sub (pe_m1 PySem.F.slot_str_count PySem.F.type_str_count mt_count (pv 0) pe_str) pe_int) pa_nil)))))
  pss_nil)
  (C8.pss_cut (ps_if (pt_cmpR op_eq (pe_callB call_len_str (by rfl) B.len PySem.boot_len (pa_cons (pv 0) pa_nil)) (pv 1) (nomark _)) (pss_one (ps_ret pe_bl))
  pss_nil)
  (pss_one (ps_set (i := 0) scLawSafe.nd rfl (Or.inl rfl) (pe_op op_add_str (pe_dn D__law_carried (hr.mono (by decide)) (by rfl) pass0 (pa_cons (pv 0) (pa_cons (pe_callB (call_min2 rfl) (by rfl) B.min (by decide +kernel) (pa_cons (pe_ix ix_list (pv 3) (pe_op op_mod (pe_callTy call_int1 (by rfl) B.intT (by decide +kernel) (pa_cons (pe_op op_add (pv 4) (pv 6)) pa_nil)) (pe_callB call_len_seq (by rfl) B.len PySem.boot_len (pa_cons (pv 3) pa_nil))) (fun _ _ => rfl)) (pa_cons (pe_m1 PySem.F.slot_str_count PySem.F.type_str_count mt_count (pv 0) pe_str) pa_nil))) pa_nil))) pe_str)))))))
  (pss_one (ps_ret pe_bl)))), ?_⟩
    have big : (20000 : Nat) ≤ sizeLine := by decide
    have l1 := S.ok.l1
    have l2 := S.ok.l2
    have hl : (bs.map V.int).length = bs.length := List.length_map ..
    have p5 := S.p9
    have hph := S.ph
    have hlen := S.len
    obtain ⟨o, ho⟩ := life_exk l p (n : Nat) bs ph false
    have no : ∀ t, ply p (n : Nat) (bud bs ph) false l t = none → Q (.bl false) H := fun t ht => k false ⟨fun h => (nomatch h), fun h => absurd ht ((safeA_iff S).mp h t)⟩
    have yes : o = none → Q (.bl true) H := fun e => k true ⟨fun _ => by subst e; exact ho, fun _ => rfl⟩
    walk_at "rd"
    refine ⟨q, _, rfl, .inl (SqL.of hq), ?_⟩
    rw [hl]
    walk_at "rd"
    refine ⟨by omega, by omega, ?_⟩
    refine for_range (fun i σ H' => H' = H ∧ ∃ (v kp : List Bool) (x : Option V), σ = [some (.str (tx v)), some (.int p), some (.int (n : Nat)), some (.ref q), some (.int ph), some (.str (tx kp)), x] ∧ ply p (n : Nat) (bud bs ph) false l i = some v ∧ (i = 0 ∨ ∃ u, u < i ∧ u % bs.length = 0 ∧ ply p (n : Nat) (bud bs ph) false l u = some kp)) ⟨rfl, l, [], none, by rw [te]; rfl, rfl, .inl rfl⟩ ?_ ?_
    · rintro i σ H1 hi ⟨rfl, v, kp, x, rfl, hv, hkp⟩
      have Sv := S.go hv
      walk_at "rd"
      refine ⟨fun σ H' => H' = H1 ∧ ∃ kp, σ = [some (.str (tx v)), some (.int p), some (.int (n : Nat)), some (.ref q), some (.int ph), some (.str (tx kp)), some (.int (0 + (i : Nat)))] ∧ ∃ u, u < i + 1 ∧ u % bs.length = 0 ∧ ply p (n : Nat) (bud bs ph) false l u = some kp, ?_, ?_⟩
      · walk_at "rd"
        refine ⟨q, _, rfl, .inl (SqL.of hq), ?_⟩
        rw [hl]
        walk_at "rd"
        refine ⟨by show (0 : Int) < _; omega, ?_⟩
        walk_at "rd"
        rw [Int.zero_add]
        refine iti (fun e0 => ?_) (fun e0 => ?_)
        · have e0 : i % bs.length = 0 := by exact_mod_cast e0
          refine ⟨fun σ H' => H' = H1 ∧ σ = [some (.str (tx v)), some (.int p), some (.int (n : Nat)), some (.ref q), some (.int ph), some (.str (tx kp)), some (.int (i : Nat))], ?_, ?_⟩
          · walk_at "rd"
            refine itd (fun e1 => ?_) (fun e1 => ?_)
            · walk_at "rd"
              rw [txV_eq]
              refine itd (fun e2 => ?_) (fun e2 => ?_)
              · walk_at "rd"
                subst e2
                rcases hkp with z | ⟨u, u1, u2, u3⟩
                · omega
                · exact yes (per_safe S u1 (by
                    have d1 := Nat.dvd_of_mod_eq_zero e0
                    have d2 := Nat.dvd_of_mod_eq_zero u2
                    exact Nat.mod_eq_zero_of_dvd (Nat.dvd_sub d1 d2)) u3 hv ho)
              · exact ⟨rfl, rfl⟩
            · exact ⟨rfl, rfl⟩
          · rintro σ H2 ⟨rfl, rfl⟩
            walk_at "rd"
            exact ⟨i, Nat.lt_succ_self i, e0, hv⟩
        · have e0 : i % bs.length ≠ 0 := fun z => e0 (by exact_mod_cast z)
          rcases hkp with z | ⟨u, u1, u2, u3⟩
          · exact absurd (by rw [z, Nat.zero_mod]) e0
          · exact ⟨rfl, kp, rfl, u, by omega, u2, u3⟩
      · rintro σ H2 ⟨rfl, kp, rfl, hkp⟩
        have cl := List.count_le_length (a := true) (l := v)
        have vl := Sv.len
        have vc := Sv.cnt
        have n1 := S.n1
        rw [Int.zero_add]
        refine ⟨fun σ H' => H' = H2 ∧ σ = [some (.str (tx (wout v (newIx v (n : Nat))))), some (.int p), some (.int (n : Nat)), some (.ref q), some (.int ph), some (.str (tx kp)), some (.int (i : Nat))], ?_, ?_⟩
        · walk_at "rd"
          refine ⟨⟨_, rfl⟩, _, _, rfl, rfl, ?_⟩
          rw [t1, tx_count]
          walk_at "rd"
          refine itd (fun e1 => ?_) (fun e1 => ?_)
          · walk_at "rd"
            refine ⟨⟨_, rfl⟩, _, _, rfl, rfl, ?_⟩
            rw [tx_count]
            walk_at "rd"
            refine ⟨v, v.count true - 1, by show [V.str (tx v), V.int (((v.count true : Nat) : Int) - 1)] = _; rw [show ((v.count true : Nat) : Int) - 1 = ((v.count true - 1 : Nat) : Int) by omega], by omega, by omega, ?_⟩
            have en : newIx v (n : Nat) = some (v.count true - 1) := by unfold newIx; rw [if_pos (by omega)]
            rw [en]
            exact ⟨rfl, rfl⟩
          · have en : newIx v (n : Nat) = none := by unfold newIx; rw [if_neg (by omega)]
            rw [en]
            exact ⟨rfl, rfl⟩
        · rintro σ H3 ⟨rfl, rfl⟩
          have wl := wout_len (l := v) (newIx v (n : Nat))
          have Ww := wout_wd Sv.w (newIx v (n : Nat))
          have nx : ply p (n : Nat) (bud bs ph) false l (i + 1) = stepR v (newIx v (n : Nat)) (bud bs ph i : Nat) p false := by
            show (match ply p (n : Nat) (bud bs ph) false l i with | none => none | some w => stepR w (newIx w (n : Nat)) (bud bs ph i : Nat) p false) = _
            rw [hv]
          refine ⟨fun σ H' => H' = H3 ∧ σ = [some (.str (tx (wout v (newIx v (n : Nat))))), some (.int p), some (.int (n : Nat)), some (.ref q), some (.int ph), some (.str (tx kp)), some (.int (i : Nat))] ∧ ((wout v (newIx v (n : Nat))).length : Int) < p, ?_, ?_⟩
          · walk_at "rd"
            refine ⟨small_le (by rw [tx_len]; omega), ?_⟩
            walk_at "rd"
            rw [tx_len]
            refine iti (fun e1 => ?_) (fun e1 => ?_)
            · walk_at "rd"
              exact no (i + 1) (by rw [nx]; exact step_stuck e1)
            · exact ⟨rfl, rfl, by omega⟩
          · rintro σ H4 ⟨rfl, rfl, wp⟩
            have hst := step_early (c := bud bs ph i) (i := newIx v (n : Nat)) (l := v) (p := p) (by omega) (by omega)
            obtain ⟨z, hz, z0, ez⟩ := bud_at (ph := ph) S.ok i
            walk_at "rd"
            refine ⟨q, _, rfl, .inl (SqL.of hq), ?_⟩
            rw [hl]
            walk_at "rd"
            have mm0 := Int.emod_nonneg (ph + ((i : Nat) : Int)) (show (bs.length : Int) ≠ 0 by omega)
            have at2 : (bs.map V.int)[((ph + ((i : Nat) : Int)) % (bs.length : Int)).toNat]? = some (V.int z) := by
              rw [List.getElem?_map, hz]; rfl
            refine ⟨by show (0 : Int) < (bs.length : Int); omega, ?_⟩
            refine ⟨q, _, _, _, rfl, rfl, SqL.of hq, by rw [← Int.toNat_of_nonneg mm0]; exact atI_nat at2, ?_⟩
            walk_at "rd"
            refine ⟨⟨_, rfl⟩, _, _, rfl, rfl, ?_⟩
            rw [t1, tx_count]
            walk_at "rd"
            have em : (if (((wout v (newIx v (n : Nat))).count true : Nat) : Int) < z then (((wout v (newIx v (n : Nat))).count true : Nat) : Int) else z) = ((min (bud bs ph i) ((wout v (newIx v (n : Nat))).count true) : Nat) : Int) := by split <;> omega
            refine ⟨wout v (newIx v (n : Nat)), min (bud bs ph i) ((wout v (newIx v (n : Nat))).count true), p, by rw [← em]; rfl, Ww, wp, p5, Nat.min_le_right _ _, ?_⟩
            have ml := mvd_len (p := p) (l := wout v (newIx v (n : Nat))) (min (bud bs ph i) ((wout v (newIx v (n : Nat))).count true))
            rw [mid1, nrm_wd (mvd_wd Ww _)] at hst
            refine ⟨_, _, rfl, rfl, by rw [tx_len, tx_len]; show _ + 1 ≤ _; omega, ?_⟩
            rw [tx_app]
            obtain ⟨u, u1, u2, u3⟩ := hkp
            exact ⟨rfl, _, kp, some (.int (i : Nat)), rfl, by rw [nx, hst], .inr ⟨u, u1, u2, u3⟩⟩
    · rintro σ H1 ⟨rfl, v, kp, x, rfl, hv, _⟩
      walk_at "rd"
      refine yes ?_
      cases o with
      | none => rfl
      | some g =>
        obtain ⟨a1, a2⟩ := life_play S ho
        have a2 := a2 g rfl
        have := (a1 _).mp (by rw [hv]; exact fun z => nomatch z) g rfl
        omega
end
end Cl

/-! ### law k57: the law's own thrifty, budgets that go on -/
namespace Cl
open PySem PySem.Spec PyProof.Rows L2 StX ClX PySem.Builtin PySem.Builtin.Str
section
variable {P : Program} {w : World} {K : PySem.W.Frag} {mg : Str → Option Value} {base : Heap} {C : Addr}
def spThrK : Sp := fun vs H Q _ => ∃ (l : List Bool) (p : Int) (n : Nat) (q : Addr) (bs : List Int) (ph : Int), vs = [.str (tx l), .int p, .int (n : Nat), .ref q, .int ph] ∧ H q = some (.lst (bs.map V.int)) ∧ Wd l ∧ (l.length : Int) ≤ p ∧ p ≤ 4000 ∧ l.count true + 1 ≤ n ∧ ((n : Nat) : Int) ≤ p ∧ Okb bs ∧ 0 ≤ ph ∧
  ∀ (g : Addr) (k : Nat) (x : Bool) (H' : Hp), Same H H' → H g = none → H' g = some (.lst [.int (k : Nat), .bl x]) → Few l p (n : Nat) bs ph true k → (x = true ↔ ((l.length : Int) ≠ p ∧ SafeT l p (n : Nat) bs ph true k)) → Q (.ref g) H'
theorem scLawThrifty : FnScope ["word", "wide", "many", "pays", "beat", "most", "k"] ["word", "wide", "many", "pays", "beat"] (defScope sLawThrifty) := ⟨rfl, rfl, rfl, by decide +kernel, rfl, by decide +kernel, by decide +kernel⟩
set_option maxHeartbeats 0 in
theorem ok__law_thrifty {f : Addr} {fd : FuncData} (F : Fun K "_law_thrifty" "_law_thrifty" sLawThrifty f fd) (B : Bi mg) (D__law_safe : Dn P w K mg base "_law_safe" 2 ["word", "wide", "many", "pays", "beat"] spSafeK) (D__law_carried : Dn P w K mg base "_law_carried" 1 ["word", "many"] spCarriedK) :
    FnOk P w K mg base CX0 3 f fd ["word", "wide", "many", "pays", "beat"] spThrK := by
  refine F.ok scLawThrifty (fun vs H Q E h => ?_) (fun cdv A outer s H vs Q E hr h => ?_)
  · obtain ⟨l, p, n, q, bs, ph, rfl, _⟩ := h
    rfl
  · obtain ⟨l, p, n, q, bs, ph, rfl, hq, W, lp, p4, cn, np, ok, ph0, k⟩ := h
    refine ⟨_, (pss_cons (ps_set (i := 5) scLawThrifty.nd rfl (Or.inl rfl) (pe_callB (call_min2 rfl) (by rfl) B.min (by decide +kernel) (pa_cons (pe_ix ix_list (pv 3) (pe_op op_mod (pe_callTy call_int1 (by rfl) B.intT (by decide +kernel) (pa_cons (pv 4) pa_nil)) (pe_callB call_len_seq (by rfl) B.len PySem.boot_len (pa_cons (pv 3) pa_nil))) (fun _ _ => rfl)) (pa_cons (pe_m1 PySem.F.slot_str_count PySem.F.type_str_count mt_count (pv 0) pe_str) pa_nil))))
  (pss_cons (ps_if (pt_cmpR op_eq (pe_callB call_len_str (by rfl) B.len PySem.boot_len (pa_cons (pv 0) pa_nil)) (pv 1) (nomark _)) (pss_one (ps_ret (pe_lst (pa_cons pe_int (pa_cons pe_bl pa_nil)))))
  pss_nil)
  (pss_cons (ps_for PassesOwn.never rfl (pi_range1 rfl B.range (pa_cons (pe_op op_add (pv 5) pe_int) pa_nil)) (pg_name (i := 6) scLawThrifty.nd rfl (Or.inl rfl))
  (pss_one (ps_if (pt_val (pe_dn D__law_safe (hr.mono (by decide)) (by rfl) pass0 (pa_cons (pe_op op_add_str (pe_dn D__law_carried (hr.mono (by decide)) (by rfl) pass0 (pa_cons (pv 0) (pa_cons (pv 6) pa_nil))) pe_str) (pa_cons (pv 1) (pa_cons (pv 2) (pa_cons (pv 3) (pa_cons (pe_op op_add (pv 4) pe_int) pa_nil))))))) (pss_one (ps_ret (pe_lst (pa_cons (pv 6) (pa_cons pe_bl pa_nil)))))
  pss_nil)))
  (pss_one (ps_ret (pe_lst (pa_cons (pv 5) (pa_cons pe_bl pa_nil)))))))), ?_⟩
    have big : (20000 : Nat) ≤ sizeLine := by decide
    have l1 := ok.l1
    have l2 := ok.l2
    have hl : (bs.map V.int).length = bs.length := List.length_map ..
    have cl := List.count_le_length (a := true) (l := l)
    obtain ⟨z, hz, z0, ez⟩ := bud_at (ph := ph) ok 0
    rw [show ph + ((0 : Nat) : Int) = ph by omega] at hz
    have mm0 := Int.emod_nonneg ph (show (bs.length : Int) ≠ 0 by omega)
    have at2 : (bs.map V.int)[(ph % (bs.length : Int)).toNat]? = some (V.int z) := by
      rw [List.getElem?_map, hz]; rfl
    walk_at "rd"
    refine ⟨q, _, rfl, .inl (SqL.of hq), ?_⟩
    rw [hl]
    walk_at "rd"
    refine ⟨by show (0 : Int) < (bs.length : Int); omega, ?_⟩
    refine ⟨q, _, _, _, rfl, rfl, SqL.of hq, by rw [← Int.toNat_of_nonneg mm0]; exact atI_nat at2, ?_⟩
    walk_at "rd"
    refine ⟨⟨_, rfl⟩, _, _, rfl, rfl, ?_⟩
    rw [t1, tx_count]
    walk_at "rd"
    have em : (if ((l.count true : Nat) : Int) < z then ((l.count true : Nat) : Int) else z) = ((min (bud bs ph 0) (l.count true) : Nat) : Int) := by split <;> omega
    rw [em]
    refine ⟨small_le (by rw [tx_len]; omega), ?_⟩
    walk_at "rd"
    rw [tx_len]
    refine iti (fun e1 => ?_) (fun e1 => ?_)
    · walk_at "rd"
      refine ⟨by show 2 ≤ sizeLine; decide, fun g hg => ?_⟩
      have m0 : mostN l p bs ph = 0 := by unfold mostN; rw [if_pos e1]
      exact k g 0 false _ (Same.upd hg) hg upd_same ⟨by omega, fun h => by omega, fun j hj => by omega⟩ ⟨fun h => (nomatch h), fun h => absurd e1 h.1⟩
    have lq : (l.length : Int) < p := by omega
    have mE : mostN l p bs ph = min (bud bs ph 0) (l.count true) := by unfold mostN; rw [if_neg e1]
    rw [← mE]
    have mc : mostN l p bs ph ≤ l.count true := by rw [mE]; exact Nat.min_le_right _ _
    walk_at "rd"
    refine ⟨by omega, by omega, ?_⟩
    refine for_range (fun i σ H' => H' = H ∧ ∃ x, σ = [some (.str (tx l)), some (.int p), some (.int (n : Nat)), some (.ref q), some (.int ph), some (.int (mostN l p bs ph : Nat)), x] ∧ ∀ j, j < i → ¬ SafeT l p (n : Nat) bs ph true j) ⟨rfl, _, rfl, fun j hj => absurd hj (by omega)⟩ ?_ ?_
    · rintro i σ H1 hi ⟨rfl, x, rfl, lo⟩
      have hi : i ≤ mostN l p bs ph := by omega
      walk_at "rd"
      refine ⟨l, i, p, by rw [Int.zero_add]; rfl, W, lq, by omega, by omega, ?_⟩
      have ml := mvd_len (p := p) (l := l) i
      refine ⟨_, _, rfl, rfl, by rw [tx_len]; show _ + 1 ≤ _; omega, ?_⟩
      rw [tx_app]
      walk_at "rd"
      have e2 : nrm (mvd p i l ++ [true]) = mvd p i l ++ [true] := by rw [mid1, nrm_wd (mvd_wd W i)]
      have hc : (mvd p i l ++ [true]).count true = l.count true + 1 := by rw [List.count_append, mvd_count1 W i]; rfl
      have St : Std (mvd p i l ++ [true]) p (n : Nat) bs (ph + 1) := ⟨wdp (mvd_wd W i), by rw [List.length_append, List.length_singleton]; omega, by rw [hc]; omega, by omega, np, by omega, ok, by omega⟩
      refine ⟨mvd p i l ++ [true], p, n, q, bs, ph + 1, rfl, hq, St, fun y hy => ?_⟩
      have hy : y = true ↔ SafeT l p (n : Nat) bs ph true i := by
        rw [hy]
        unfold SafeT
        rw [e2, hc]
        exact ⟨fun h => ⟨np, by omega, h⟩, fun h => h.2.2⟩
      cases y
      · refine ⟨_, rfl, iteF ?_⟩
        exact ⟨rfl, some (.int (0 + (i : Nat))), rfl, fun j hj => (Nat.lt_succ_iff_lt_or_eq.mp hj).elim (lo j) fun e => by subst e; exact fun z => nomatch hy.mpr z⟩
      · refine ⟨_, rfl, iteT ?_⟩
        walk_at "rd"
        refine ⟨by show 2 ≤ sizeLine; decide, fun g hg => ?_⟩
        rw [Int.zero_add]
        exact k g i true _ (Same.upd hg) hg upd_same ⟨hi, fun _ => hy.mp rfl, lo⟩ ⟨fun _ => ⟨e1, hy.mp rfl⟩, fun _ => rfl⟩
    · rintro σ H1 ⟨rfl, x, rfl, lo⟩
      walk_at "rd"
      refine ⟨by show 2 ≤ sizeLine; decide, fun g hg => ?_⟩
      refine k g (mostN l p bs ph) false _ (Same.upd hg) hg upd_same ⟨Nat.le_refl _, fun h => absurd h (by omega), fun j hj => lo j (by omega)⟩ ⟨fun h => (nomatch h), fun h => absurd h.2 (lo _ (by omega))⟩
end
end Cl

/-! ### law k57: draws -/
namespace Cl
open PySem PySem.Spec PyProof.Rows L2 StX ClX PySem.Builtin PySem.Builtin.Str
theorem okb_of {bs : List Int} {m : Int} (h1 : 1 ≤ bs.length) (h2 : bs.length ≤ 12) (hb : ∀ b ∈ bs, 0 ≤ b ∧ b ≤ m) (hm : m ≤ 100000) : Okb bs :=
  ⟨h1, h2, fun b h => ⟨(hb b h).1, Int.le_trans (Int.le_trans (hb b h).2 hm) (by decide)⟩⟩
section
variable {P : Program} {w : World} {K : PySem.W.Frag} {mg : Str → Option Value} {base : Heap} {C : Addr}
def spPaysX (K : PySem.W.Frag) : Sp := fun vs H Q _ => ∃ (sa b : Addr) (z : Int) (ns : List Int) (H0 : Hp), vs = [.ref sa, .ref b, .int z] ∧ SqL K H0 sa (ns.map V.int) ∧ BoxS H0 H b ∧ 1 ≤ z ∧ z ≤ 12 ∧
  ∀ (g : Addr) (bs : List Int) (H' : Hp), H g = none → H' g = some (.lst (bs.map V.int)) → 1 ≤ bs.length → bs.length ≤ 12 → (∀ x ∈ bs, 0 ≤ x ∧ x ≤ 12) → BoxS H0 H' b → But b H H' → Q (.ref g) H'
theorem scLawPays : FnScope ["script", "box", "most", "pays", "k", "top"] ["script", "box", "most"] (defScope sLawPays) := ⟨rfl, rfl, rfl, by decide +kernel, rfl, by decide +kernel, by decide +kernel⟩
set_option maxHeartbeats 0 in
theorem ok__law_pays {f : Addr} {fd : FuncData} (F : Fun K "_law_pays" "_law_pays" sLawPays f fd) (B : Bi mg) (D__law_take : Dn P w K mg base "_law_take" 1 ["script", "box", "many"] (spTakeX K)) : FnOk P w K mg base CX0 2 f fd ["script", "box", "most"] (spPaysX K) := by
  refine F.ok scLawPays (fun vs H Q E h => ?_) (fun cdv A outer s H vs Q E hr h => ?_)
  · obtain ⟨sa, b, z, ns, H0, rfl, _⟩ := h
    rfl
  · obtain ⟨sa, b, z, ns, H0, rfl, hs, hB, z1, z2, k⟩ := h
    refine ⟨_, (pss_cons (ps_set (i := 3) scLawPays.nd rfl (Or.inl rfl) (pe_lst pa_nil))
  (pss_cons (ps_for PassesOwn.never rfl (pi_range1 rfl B.range (pa_cons (pe_op op_add pe_int (pe_dn D__law_take (hr.mono (by decide)) (by rfl) pass0 (pa_cons (pv 0) (pa_cons (pv 1) (pa_cons (pv 2) pa_nil))))) pa_nil)) (pg_name (i := 4) scLawPays.nd rfl (Or.inl rfl))
  (pss_cons (ps_set (i := 5) scLawPays.nd rfl (Or.inl rfl) (pe_ix ix_list (pe_lst (pa_cons pe_int (pa_cons pe_int (pa_cons pe_int (pa_cons pe_int pa_nil))))) (pe_dn D__law_take (hr.mono (by decide)) (by rfl) pass0 (pa_cons (pv 0) (pa_cons (pv 1) (pa_cons pe_int pa_nil)))) (fun _ _ => rfl)))
  (pss_one (ps_expr (pe_bm PySem.F.plainAttrs_list PySem.F.slot_list_append PySem.F.type_list_append mt_append (pv 3) (pa_cons (pe_dn D__law_take (hr.mono (by decide)) (by rfl) pass0 (pa_cons (pv 0) (pa_cons (pv 1) (pa_cons (pv 5) pa_nil)))) pa_nil))))))
  (pss_one (ps_ret (pv 3))))), ?_⟩
    walk_at "rd"
    refine ⟨by show 0 ≤ sizeLine; decide, fun D hD => ?_⟩
    have Db := hB.ne hD
    have hB1 := hB.put (o := .lst []) hD
    walk_at "rd"
    refine ⟨sa, b, z, ns, H0, rfl, hs, hB1, z1, by omega, fun d H2 d0 d1 hB2 b2 => ?_⟩
    have hD2 := b2 _ _ Db (upd_same (o := .lst []))
    have b02 := (But.of (a := b) (Same.upd (o := .lst []) hD)).trans b2
    walk_at "rd"
    refine ⟨by omega, by omega, ?_⟩
    refine for_range (fun i σ H' => ∃ (bs : List Int) (x y : Option V), σ = [some (.ref sa), some (.ref b), some (.int z), some (.ref D), x, y] ∧ H' D = some (.lst (bs.map V.int)) ∧ bs.length = i ∧ (∀ x ∈ bs, 0 ≤ x ∧ x ≤ 12) ∧ BoxS H0 H' b ∧ But b H H') ⟨[], none, none, rfl, hD2, rfl, (fun x hx => nomatch hx), hB2, b02⟩ ?_ ?_
    · rintro i σ G hi ⟨bs, x, y, rfl, gD, bl, bb, gB, gb⟩
      walk_at "rd"
      refine ⟨by show 4 ≤ sizeLine; decide, fun u hu => ?_⟩
      have ub := gB.ne hu
      have uD : u ≠ D := fun e => by rw [e, gD] at hu; cases hu
      have gB1 := gB.put (o := .lst [V.int 2, .int 3, .int 5, .int 12]) hu
      walk_at "rd"
      refine ⟨sa, b, 4, ns, H0, rfl, hs, gB1, by decide, by decide, fun e G2 e0 e1 gB2 gb2 => ?_⟩
      have hu2 := gb2 _ _ ub (upd_same (o := .lst [V.int 2, .int 3, .int 5, .int 12]))
      have gD2 := gb2 _ _ Db (Same.upd hu _ _ gD)
      obtain ⟨tp, ht, t1, t2⟩ : ∃ tp : Int, atI [V.int 2, .int 3, .int 5, .int 12] e = some (.int tp) ∧ 1 ≤ tp ∧ tp ≤ 12 := by
        rcases (show e = 0 ∨ e = 1 ∨ e = 2 ∨ e = 3 by omega) with rfl | rfl | rfl | rfl
        · exact ⟨2, rfl, by decide, by decide⟩
        · exact ⟨3, rfl, by decide, by decide⟩
        · exact ⟨5, rfl, by decide, by decide⟩
        · exact ⟨12, rfl, by decide, by decide⟩
      refine ⟨u, _, _, _, rfl, rfl, SqL.of hu2, ht, ?_⟩
      walk_at "rd"
      refine ⟨.inl ⟨rfl, _, SqL.of gD2⟩, ?_⟩
      walk_at "rd"
      refine ⟨sa, b, tp, ns, H0, rfl, hs, gB2, t1, by omega, fun v G3 v0 v1 gB3 gb3 => ?_⟩
      have gD3 := gb3 _ _ Db gD2
      have big : (20000 : Nat) ≤ sizeLine := by decide
      refine ⟨D, _, _, rfl, rfl, gD3, by rw [List.length_map]; omega, ?_⟩
      refine ⟨bs ++ [v], some (.int (0 + (i : Nat))), some (.int tp), rfl, by rw [upd_same, List.map_append]; rfl, by rw [List.length_append, bl]; rfl, fun x hx => ?_, ?_, ?_⟩
      · rcases List.mem_append.mp hx with h | h
        · exact bb x h
        · rw [List.mem_singleton.mp h]; omega
      · obtain ⟨a1, a2, a3, a4, a5, a6, a7⟩ := gB3
        have hH0D : H0 D = none := (hB.2.1).free hD
        exact ⟨a1, fun c o hc => by rw [upd_ne (ne_of_none hc hH0D)]; exact a2 c o hc, a3, a4, a5, a6, by rw [upd_ne Db.symm]; exact a7⟩
      · intro c o hc h
        rw [upd_ne (ne_of_none h hD)]
        exact (((gb.trans (But.of (Same.upd hu))).trans gb2).trans gb3) c o hc h
    · rintro σ G ⟨bs, x, y, rfl, gD, bl, bb, gB, gb⟩
      walk_at "rd"
      exact k D bs G hD gD (by omega) (by omega) bb gB gb
def spGoesK : Sp := fun vs H Q _ => ∃ (q : Addr) (bs : List Int) (n m : Int), vs = [.ref q, .int n, .int m] ∧ H q = some (.lst (bs.map V.int)) ∧ Okb bs ∧ 1 ≤ n ∧ n ≤ 100 ∧ 0 ≤ m ∧ m ≤ 100 ∧ ∀ H', Same H H' → Q (.bl (rgoes bs m n)) H'
theorem scLawGoes : FnScope ["pays", "many", "wide", "sums", "turn", "pay", "k"] ["pays", "many", "wide"] (defScope sLawGoes) := ⟨rfl, rfl, rfl, by decide +kernel, rfl, by decide +kernel, by decide +kernel⟩
set_option maxHeartbeats 0 in
theorem ok__law_goes {f : Addr} {fd : FuncData} (F : Fun K "_law_goes" "_law_goes" sLawGoes f fd) (B : Bi mg) : FnOk P w K mg base CX0 1 f fd ["pays", "many", "wide"] spGoesK := by
  refine F.ok scLawGoes (fun vs H Q E h => ?_) (fun cdv A outer s H vs Q E hr h => ?_)
  · obtain ⟨q, bs, n, m, rfl, _⟩ := h
    rfl
  · obtain ⟨p, bs, n, m, rfl, hp, ok, n1, n2, m1, m2, k⟩ := h
    refine ⟨_, (pss_cons (ps_set (i := 3) scLawGoes.nd rfl (Or.inr rfl) (pe_lc (own := [("pay", 5)]) (g := gName 5) rfl scLawGoes.nd (pi_list (pv 0)) (blkOk_by (own := [("pay", 5)]) (N := ["pays", "many", "wide", "sums", "turn", "pay", "k"]) (sc := defScope sLawGoes) (by decide +kernel)) (fun _ _ _ _ _ => (pg_name (i := 5) scLawGoes.nd rfl (Or.inl rfl))) (fun _ _ _ _ _ => pts_nil) (fun _ _ _ _ _ => pe_int)))
  (pss_cons (ps_for PassesOwn.never rfl (pi_range1 rfl B.range (pa_cons (pe_op op_sub (pv 2) (pv 1)) pa_nil)) (pg_name (i := 4) scLawGoes.nd rfl (Or.inr rfl))
  (pss_one (ps_set (i := 3) scLawGoes.nd rfl (Or.inr rfl) (pe_lc (own := [("k", 6)]) (g := gName 6) rfl scLawGoes.nd (pi_range1 rfl B.range (pa_cons (pe_callB call_len_seq (by rfl) B.len PySem.boot_len (pa_cons (pv 0) pa_nil)) pa_nil)) (blkOk_by (own := [("k", 6)]) (N := ["pays", "many", "wide", "sums", "turn", "pay", "k"]) (sc := defScope sLawGoes) (by decide +kernel)) (fun _ _ _ _ _ => (pg_name (i := 6) scLawGoes.nd rfl (Or.inl rfl))) (fun _ _ _ _ _ => pts_nil) (fun _ _ _ _ _ => (pe_op op_add (pe_ix (ix_listK K) (pv 3) (pv 6) (fun _ _ => rfl)) (pe_ix (ix_listK K) (pv 0) (pe_op op_mod (pe_callTy call_int1 (by rfl) B.intT (by decide +kernel) (pa_cons (pe_op op_add (pv 6) (pv 4)) pa_nil)) (pe_callB (call_lenK K) (by rfl) B.len PySem.boot_len (pa_cons (pv 0) pa_nil))) (fun _ _ => rfl))))))))
  (pss_one (ps_ret (pe_and (pe_cmpR op_le (pv 1) (pv 2) (nomark _)) (pe_one (pe_cmpR op_ge (pe_callB (cr_min rfl) (by rfl) B.min (by decide +kernel) (pa_cons (pv 3) pa_nil)) (pe_op op_sub (pv 1) pe_int) (nomark _)))))))), ?_⟩
    have l1 := ok.l1
    have l2 := ok.l2
    refine ⟨_, rfl, p, rfl, ⟨_, SqL.of hp⟩, fun D hD => ?_⟩
    refine lc_growL (fun _ => .int 0) (SqL.of hp) hD (by rw [List.length_map]; omega) ?_ ?_
    · intro x H2 R hx hS2 h
      exact ⟨rfl, h _ (Same.refl _)⟩
    · intro H1 S1 hD1
      have tz : (bs.map V.int).map (fun _ => V.int 0) = ((List.range bs.length).map fun (i : Nat) => tot bs (i : Nat) ((0 : Nat) : Int)).map V.int := by
        apply List.ext_getElem
        · simp
        · intro i h1 h2
          simp only [List.getElem_map, List.getElem_range]
          rw [show (((0 : Nat) : Nat) : Int) = 0 by rfl, tot0]
      rw [tz] at hD1
      walk_at "rd"
      refine ⟨by omega, by omega, ?_⟩
      refine for_range (fun i σ H' => ∃ (q : Addr) (v : Option V), σ = [some (.ref p), some (.int n), some (.int m), some (.ref q), v, none, none] ∧ Same H H' ∧ H' q = some (.lst (((List.range bs.length).map fun (k : Nat) => tot bs (k : Nat) (i : Nat)).map V.int)))
        ⟨D, _, rfl, S1, hD1⟩ ?_ ?_
      · rintro i σ G hi ⟨q, v, rfl, gS, gL⟩
        have hpG := gS _ _ hp
        walk_at "rd"
        refine ⟨p, _, rfl, .inl (SqL.of hpG), ?_⟩
        have hl : (bs.map V.int).length = bs.length := List.length_map ..
        rw [hl]
        walk_at "rd"
        refine ⟨by omega, by omega, fun D2 hD2 => ?_⟩
        rw [Int.toNat_natCast]
        refine lc_mapW walk_range (fun k => .int (tot bs (k : Nat) ((i + 1 : Nat) : Int))) hD2 (by omega) (fun _ _ => trivial) ?_ ?_
        · rintro j x G2 G3 R hj gS2 ⟨rfl, rfl⟩ hR
          have hh := hR _ (Same.refl _)
          have gL2 := gS2 _ _ gL
          have hp2 := gS2 _ _ hpG
          obtain ⟨z, hz, _⟩ := bud_at (ph := ((j : Nat) : Int)) ok i
          have ts := tot_step ok (s := ((j : Nat) : Int)) (k := i) hz
          have at1 : (((List.range bs.length).map fun (k : Nat) => tot bs (k : Nat) (i : Nat)).map V.int)[j]? = some (V.int (tot bs (j : Nat) (i : Nat))) := by
            rw [List.getElem?_map, List.getElem?_map, List.getElem?_range hj]; rfl
          have at2 : (bs.map V.int)[((((j : Nat) : Int) + ((i : Nat) : Int)) % (bs.length : Int)).toNat]? = some (V.int z) := by
            rw [List.getElem?_map, hz]; rfl
          have m0 := Int.emod_nonneg (((j : Nat) : Int) + ((i : Nat) : Int)) (show (bs.length : Int) ≠ 0 by omega)
          refine ⟨rfl, ?_⟩
          walk_at "rd"
          refine ⟨q, _, _, _, rfl, rfl, SqL.of gL2, by rw [Int.zero_add]; exact atI_nat at1, ?_⟩
          walk_at "rd"
          refine ⟨p, _, rfl, .inl (SqL.of hp2), ?_⟩
          rw [hl]
          walk_at "rd"
          refine ⟨(by show (0 : Int) < (bs.length : Int); omega), ?_⟩
          refine ⟨p, _, _, _, rfl, rfl, SqL.of hp2, by rw [Int.zero_add, Int.zero_add, ← Int.toNat_of_nonneg m0]; exact atI_nat at2, ?_⟩
          refine ⟨_, _, rfl, rfl, ?_⟩
          have hh2 : R (V.int (tot bs ((j : Nat) : Int) ((i : Nat) : Int) + z)) G3 := by rw [← ts]; exact hh
          exact hh2
        · intro G2 gS2 gL2
          exact ⟨D2, _, rfl, gS.trans gS2, by rw [gL2, List.map_map]; rfl⟩
      · rintro σ G ⟨q, v, rfl, gS, gL⟩
        have kk := k G gS
        unfold rgoes at kk
        walk_at "rd"
        refine itd (fun e => ?_) (fun e => ?_)
        · rw [decide_eq_true e, Bool.true_and] at kk
          walk_at "rd"
          refine ⟨q, _, rfl, SqL.of gL, by rw [List.length_map, List.length_range]; exact l1, fun x hx hle => ?_⟩
          walk_at "rd"
          have ex : x = lv bs (m - n) := by
            obtain ⟨a1, km, a2, a3⟩ := lv_low (c := m - n) ok
            obtain ⟨k2, hk2, e2⟩ := List.mem_map.mp hx
            have em : (((m - n).toNat : Nat) : Int) = m - n := by omega
            have h1 := hle _ (List.mem_map.mpr ⟨km, List.mem_range.mpr a2, rfl⟩)
            have h2 := a1 k2 (List.mem_range.mp hk2)
            rw [em] at e2 h1
            omega
          subst ex
          exact kk
        · rw [decide_eq_false e, Bool.false_and] at kk
          exact kk
end
end Cl

/-! ### law k57: budgets raised, words and moves drawn -/
namespace Cl
open PySem PySem.Spec PyProof.Rows L2 StX ClX PySem.Builtin PySem.Builtin.Str
section
variable {P : Program} {w : World} {K : PySem.W.Frag} {mg : Str → Option Value} {base : Heap} {C : Addr}
def spRaisedK : Sp := fun vs H Q _ => ∃ (q : Addr) (bs : List Int) (n m : Int), vs = [.ref q, .int n, .int m] ∧ H q = some (.lst (bs.map V.int)) ∧ 1 ≤ bs.length ∧ bs.length ≤ 12 ∧ (∀ x ∈ bs, 0 ≤ x ∧ x ≤ 12) ∧ 1 ≤ n ∧ n ≤ 100 ∧ 0 ≤ m ∧ m ≤ 100 ∧
  ∀ (g : Addr) (bs' : List Int) (H' : Hp), Same H H' → H' g = some (.lst (bs'.map V.int)) → (g = q ∨ H g = none) → Okb bs' → Q (.ref g) H'
theorem scLawRaised : FnScope ["pays", "many", "wide", "turn", "k"] ["pays", "many", "wide"] (defScope sLawRaised) := ⟨rfl, rfl, rfl, by decide +kernel, rfl, by decide +kernel, by decide +kernel⟩
set_option maxHeartbeats 0 in
theorem ok__law_raised {f : Addr} {fd : FuncData} (F : Fun K "_law_raised" "_law_raised" sLawRaised f fd) (B : Bi mg) (D__law_goes : Dn P w K mg base "_law_goes" 1 ["pays", "many", "wide"] spGoesK) : FnOk P w K mg base CX0 2 f fd ["pays", "many", "wide"] spRaisedK := by
  refine F.ok scLawRaised (fun vs H Q E h => ?_) (fun cdv A outer s H vs Q E hr h => ?_)
  · obtain ⟨q, bs, n, m, rfl, _⟩ := h
    rfl
  · obtain ⟨q, bs, n, m, rfl, hq, l1, l2, bb, n1, n2, m0, m2, k⟩ := h
    refine ⟨_, (pss_cons (ps_for PassesOwn.never rfl (pi_range1 rfl B.range (pa_cons (pe_op op_mulW (pv 1) (pe_callB call_len_seq (by rfl) B.len PySem.boot_len (pa_cons (pv 0) pa_nil))) pa_nil)) (pg_name (i := 3) scLawRaised.nd rfl (Or.inl rfl))
  (pss_one (ps_if (PW.pt (pw_and (pt_cmpR op_lt (pv 1) (pv 2) (nomark _)) (pw_and1 (pt_not (pt_val (pe_dn D__law_goes (hr.mono (by decide)) (by rfl) pass0 (pa_cons (pv 0) (pa_cons (pv 1) (pa_cons (pv 2) pa_nil))))))))) (pss_cons (ps_set (i := 4) scLawRaised.nd rfl (Or.inl rfl) (pe_op op_mod (pe_callTy call_int1 (by rfl) B.intT (by decide +kernel) (pa_cons (pv 3) pa_nil)) (pe_callB call_len_seq (by rfl) B.len PySem.boot_len (pa_cons (pv 0) pa_nil))))
  (pss_one (ps_set (i := 0) scLawRaised.nd rfl (Or.inl rfl) (pe_op op_cat (pe_op op_cat (pe_slice sl_list (pv 0) po_none (po_some (pv 4))) (pe_lst (pa_cons (pe_op op_add (pe_ix ix_list (pv 0) (pv 4) (fun _ _ => rfl)) pe_int) pa_nil))) (pe_slice sl_list (pv 0) (po_some (pe_op op_add (pv 4) pe_int)) po_none)))))
  pss_nil)))
  (pss_one (ps_ret (pv 0)))), ?_⟩
    have hl : (bs.map V.int).length = bs.length := List.length_map ..
    have mul : n * (bs.length : Int) ≤ 100 * 12 ∧ 0 ≤ n * (bs.length : Int) := ⟨Int.mul_le_mul n2 (by omega) (by omega) (by decide), Int.mul_nonneg (by omega) (by omega)⟩
    walk_at "rd"
    refine ⟨q, _, rfl, .inl (SqL.of hq), ?_⟩
    rw [hl]
    walk_at "rd"
    refine ⟨mulB (by omega) (by omega) (by omega) (by omega), ?_⟩
    walk_at "rd"
    refine ⟨by omega, by omega, ?_⟩
    refine for_range (fun i σ H' => ∃ (g : Addr) (cs : List Int) (x y : Option V), σ = [some (.ref g), some (.int n), some (.int m), x, y] ∧ Same H H' ∧ H' g = some (.lst (cs.map V.int)) ∧ (g = q ∨ H g = none) ∧ cs.length = bs.length ∧ (∀ x ∈ cs, 0 ≤ x ∧ x ≤ 12 + (i : Nat))) ⟨q, bs, none, none, rfl, Same.refl _, hq, .inl rfl, rfl, fun x hx => by have := bb x hx; omega⟩ ?_ ?_
    · rintro i σ G hi ⟨g, cs, x, y, rfl, gS, gL, gq, cl, cb⟩
      have ok : Okb cs := okb_of (m := 12 + (i : Nat)) (by omega) (by omega) cb (by omega)
      have cb2 : ∀ x ∈ cs, 0 ≤ x ∧ x ≤ 12 + ((i + 1 : Nat) : Int) := fun x hx => by have := cb x hx; omega
      have big : (20000 : Nat) ≤ sizeLine := by decide
      have hc : (cs.map V.int).length = cs.length := List.length_map ..
      walk_at "rd"
      refine itd (fun e => ?_) (fun e => ?_)
      · walk_at "rd"
        refine ⟨g, cs, n, m, rfl, gL, ok, n1, n2, m0, m2, fun G2 gS2 => ?_⟩
        have gL2 := gS2 _ _ gL
        refine ⟨_, rfl, ?_⟩
        cases rgoes cs m n
        · refine iteT ?_
          walk_at "rd"
          refine ⟨g, _, rfl, .inl (SqL.of gL2), ?_⟩
          rw [hc]
          walk_at "rd"
          refine ⟨by show (0 : Int) < (cs.length : Int); omega, ?_⟩
          walk_at "rd"
          have mm0 := Int.emod_nonneg (0 + ((i : Nat) : Int)) (show (cs.length : Int) ≠ 0 by omega)
          have mm1 := Int.emod_lt_of_pos (0 + ((i : Nat) : Int)) (show (0 : Int) < (cs.length : Int) by omega)
          obtain ⟨j, ej⟩ : ∃ j : Nat, (0 + ((i : Nat) : Int)) % (cs.length : Int) = (j : Nat) := ⟨_, (Int.toNat_of_nonneg mm0).symm⟩
          have hj : j < cs.length := by omega
          have at1 : (cs.map V.int)[j]? = some (V.int cs[j]) := by rw [List.getElem?_map, List.getElem?_eq_getElem hj]; rfl
          have bj := cb _ (List.getElem_mem hj)
          have hlen : ∀ lo hi, (cutV (cs.map V.int) lo hi).length ≤ 12 := fun lo hi => by
            unfold cutV
            rw [List.length_take, List.length_drop, hc]
            omega
          have new : cutV (cs.map V.int) none (some ((j : Nat) : Int)) ++ [V.int (cs[j] + 1)] ++ cutV (cs.map V.int) (some (((j : Nat) : Int) + 1)) none = (cs.set j (cs[j] + 1)).map V.int := by
            rw [show cutV (cs.map V.int) none (some ((j : Nat) : Int)) = (cs.map V.int).take j from tcut_to, show (((j : Nat) : Int) + 1) = ((j + 1 : Nat) : Int) from rfl, show cutV (cs.map V.int) (some ((j + 1 : Nat) : Int)) none = (cs.map V.int).drop (j + 1) from tcut_from, List.map_set, List.set_eq_take_append_cons_drop, if_pos (by rw [hc]; exact hj), List.append_assoc]
            rfl
          dsimp only
          rw [ej]
          refine ⟨g, _, rfl, SqL.of gL2, fun u hu => ?_⟩
          have hu3 := upd_same (H := G2) (a := u) (o := .lst (cutV (cs.map V.int) none (some ((j : Nat) : Int))))
          have S3 := gS2.trans (Same.upd (o := .lst (cutV (cs.map V.int) none (some ((j : Nat) : Int)))) hu)
          generalize upd G2 u (.lst (cutV (cs.map V.int) none (some ((j : Nat) : Int)))) = G3 at hu3 S3 ⊢
          have gL3 := S3 _ _ gL
          walk_at "rd"
          refine ⟨g, _, _, _, rfl, rfl, SqL.of gL3, atI_nat at1, ?_⟩
          walk_at "rd"
          refine ⟨by show 1 ≤ sizeLine; decide, fun v hv => ?_⟩
          have hu4 := Same.upd (o := .lst [V.int (cs[j] + 1)]) hv _ _ hu3
          have hv4 := upd_same (H := G3) (a := v) (o := .lst [V.int (cs[j] + 1)])
          have S4 := S3.trans (Same.upd (o := .lst [V.int (cs[j] + 1)]) hv)
          refine ⟨u, v, _, _, rfl, rfl, hu4, hv4, by have := hlen none (some ((j : Nat) : Int)); show _ + 1 ≤ _; omega, fun x hx => ?_⟩
          have hx5 := upd_same (H := upd G3 v (.lst [V.int (cs[j] + 1)])) (a := x) (o := .lst (cutV (cs.map V.int) none (some ((j : Nat) : Int)) ++ [V.int (cs[j] + 1)]))
          have S5 := S4.trans (Same.upd (o := .lst (cutV (cs.map V.int) none (some ((j : Nat) : Int)) ++ [V.int (cs[j] + 1)])) hx)
          generalize upd (upd G3 v (.lst [V.int (cs[j] + 1)])) x (.lst (cutV (cs.map V.int) none (some ((j : Nat) : Int)) ++ [V.int (cs[j] + 1)])) = G5 at hx5 S5 ⊢
          walk_at "rd"
          refine ⟨g, _, rfl, SqL.of (S5 _ _ gL), fun y hy => ?_⟩
          refine ⟨x, y, _, _, rfl, rfl, Same.upd hy _ _ hx5, upd_same, ?_, fun z hz => ?_⟩
          · have h1 := hlen none (some ((j : Nat) : Int))
            have h2 := hlen (some (((j : Nat) : Int) + 1)) none
            rw [List.length_append, List.length_singleton]
            omega
          rw [new]
          have S6 := (S5.trans (Same.upd (o := .lst (cutV (cs.map V.int) (some (((j : Nat) : Int) + 1)) none)) hy)).trans (Same.upd (o := .lst ((cs.set j (cs[j] + 1)).map V.int)) hz)
          refine ⟨z, cs.set j (cs[j] + 1), _, _, rfl, gS.trans S6, upd_same, .inr ?_, by rw [List.length_set]; exact cl, fun x hx => ?_⟩
          · exact (gS.trans (S5.trans (Same.upd hy))).free hz
          · rcases List.mem_or_eq_of_mem_set hx with h | h
            · have := cb x h; omega
            · subst h; omega
        · refine iteF ?_
          exact ⟨g, cs, _, _, rfl, gS.trans gS2, gL2, gq, cl, cb2⟩
      · exact ⟨g, cs, _, _, rfl, gS, gL, gq, cl, cb2⟩
    · rintro σ G ⟨g, cs, x, y, rfl, gS, gL, gq, cl, cb⟩
      walk_at "rd"
      exact k g cs G gS gL gq (okb_of (by omega) (by omega) cb (by omega))
/-- a move that can be made at so many ones -/
def MvAt (n : Int) (c : Nat) (i : Option Nat) : Prop := (i = none → ((c : Nat) : Int) < n) ∧ ∀ k, i = some k → k < c
def spMoveX (K : PySem.W.Frag) : Sp := fun vs H Q _ => ∃ (sa b : Addr) (c : Nat) (n : Int) (ns : List Int) (H0 : Hp), vs = [.ref sa, .ref b, .int (c : Nat), .int n] ∧ SqL K H0 sa (ns.map V.int) ∧ BoxS H0 H b ∧ c ≤ 9000 ∧ 1 ≤ n ∧
  ∀ (i : Option Nat) (H' : Hp), MvAt n c i → BoxS H0 H' b → But b H H' → Q (ixV i) H'
theorem scLawMove : FnScope ["script", "box", "ones", "many", "way"] ["script", "box", "ones", "many"] (defScope sLawMove) := ⟨rfl, rfl, rfl, by decide +kernel, rfl, by decide +kernel, by decide +kernel⟩
set_option maxHeartbeats 0 in
theorem ok__law_move {f : Addr} {fd : FuncData} (F : Fun K "_law_move" "_law_move" sLawMove f fd) (D__law_take : Dn P w K mg base "_law_take" 1 ["script", "box", "many"] (spTakeX K)) : FnOk P w K mg base CX0 2 f fd ["script", "box", "ones", "many"] (spMoveX K) := by
  refine F.ok scLawMove (fun vs H Q E h => ?_) (fun cdv A outer s H vs Q E hr h => ?_)
  · obtain ⟨sa, b, c, n, ns, H0, rfl, _⟩ := h
    rfl
  · obtain ⟨sa, b, c, n, ns, H0, rfl, hs, hB, c9, n1, k⟩ := h
    refine ⟨_, (pss_cons (ps_set (i := 4) scLawMove.nd rfl (Or.inl rfl) (pe_dn D__law_take (hr.mono (by decide)) (by rfl) pass0 (pa_cons (pv 0) (pa_cons (pv 1) (pa_cons pe_int pa_nil)))))
  (pss_cons (ps_if (PW.pt (pw_or (pt_cmpR op_eq (pv 2) pe_int (nomark _)) (pw_or1 (PW.pt (pw_and (pt_cmpR op_lt (pv 4) pe_int (nomark _)) (pw_and1 (pt_cmpR op_lt (pv 2) (pv 3) (nomark _)))))))) (pss_one (ps_ret pe_non))
  pss_nil)
  (pss_cons (ps_if (pt_cmpR op_lt (pv 4) pe_int (nomark _)) (pss_one (ps_ret (pe_op op_sub (pv 2) pe_int)))
  pss_nil)
  (pss_one (ps_ret (pe_dn D__law_take (hr.mono (by decide)) (by rfl) pass0 (pa_cons (pv 0) (pa_cons (pv 1) (pa_cons (pv 2) pa_nil))))))))), ?_⟩
    walk_at "rd"
    refine ⟨sa, b, 8, ns, H0, rfl, hs, hB, by decide, by decide, fun d H1 d0 d1 hB1 b1 => ?_⟩
    have kN : ((c : Nat) : Int) < n → Q .non H1 := fun h => k none H1 ⟨fun _ => h, fun _ e => nomatch e⟩ hB1 b1
    refine' (fun (tail : c ≠ 0 → _) => ?_) ?_
    rotate_left
    walk_at "rd"
    refine iti (fun e => ?_) (fun e => ?_)
    · refine iteT ?_
      walk_at "rd"
      exact kN (by omega)
    · walk_at "rd"
      refine itd (fun e1 => ?_) (fun e1 => ?_)
      · walk_at "rd"
        refine itd (fun e2 => ?_) (fun e2 => ?_)
        · walk_at "rd"
          exact kN e2
        · exact tail (by omega)
      · exact tail (by omega)
    intro c0
    walk_at "rd"
    refine itd (fun e1 => ?_) (fun e1 => ?_)
    · walk_at "rd"
      have := k (some (c - 1)) H1 ⟨fun e => (nomatch e), fun j e => by cases e; omega⟩ hB1 b1
      have e9 : ((c : Nat) : Int) - 1 = ((c - 1 : Nat) : Int) := by omega
      show Q (.int (((c : Nat) : Int) - 1)) H1
      rw [e9]
      exact this
    · walk_at "rd"
      refine ⟨sa, b, (c : Nat), ns, H0, rfl, hs, hB1, by omega, by omega, fun e H2 e0 e1 hB2 b2 => ?_⟩
      obtain ⟨j, rfl⟩ : ∃ m : Nat, e = (m : Nat) := ⟨e.toNat, by omega⟩
      exact k (some j) H2 ⟨fun e => (nomatch e), fun j' e => by cases e; omega⟩ hB2 (b1.trans b2)
end
end Cl

/-! ### law k57: words drawn, standings, moves -/
namespace Cl
open PySem PySem.Spec PyProof.Rows L2 StX ClX PySem.Builtin PySem.Builtin.Str
section
variable {P : Program} {w : World} {K : PySem.W.Frag} {mg : Str → Option Value} {base : Heap} {C : Addr}
def spWordX (K : PySem.W.Frag) : Sp := fun vs H Q _ => ∃ (sa b : Addr) (p n : Int) (ns : List Int) (H0 : Hp), vs = [.ref sa, .ref b, .int p, .int n] ∧ SqL K H0 sa (ns.map V.int) ∧ BoxS H0 H b ∧ 1 ≤ p ∧ p ≤ 64 ∧ 1 ≤ n ∧
  ∀ (l : List Bool) (H' : Hp), Wd l → (l.length : Int) ≤ p → ((l.count true : Nat) : Int) ≤ n → BoxS H0 H' b → But b H H' → Q (.str (tx l)) H'
theorem scLawWord : FnScope ["script", "box", "wide", "many", "size", "kind", "text", "k", "digit", "one"] ["script", "box", "wide", "many"] (defScope sLawWord) := ⟨rfl, rfl, rfl, by decide +kernel, rfl, by decide +kernel, by decide +kernel⟩
set_option maxHeartbeats 0 in
theorem ok__law_word {f : Addr} {fd : FuncData} (F : Fun K "_law_word" "_law_word" sLawWord f fd) (B : Bi mg) (D__law_take : Dn P w K mg base "_law_take" 1 ["script", "box", "many"] (spTakeX K)) : FnOk P w K mg base CX0 2 f fd ["script", "box", "wide", "many"] (spWordX K) := by
  refine F.ok scLawWord (fun vs H Q E h => ?_) (fun cdv A outer s H vs Q E hr h => ?_)
  · obtain ⟨sa, b, p, n, ns, H0, rfl, _⟩ := h
    rfl
  · obtain ⟨sa, b, p, n, ns, H0, rfl, hs, hB, p1, p64, n1, k⟩ := h
    refine ⟨_, (pss_cons (ps_set (i := 4) scLawWord.nd rfl (Or.inl rfl) (pe_dn D__law_take (hr.mono (by decide)) (by rfl) pass0 (pa_cons (pv 0) (pa_cons (pv 1) (pa_cons (pe_op op_add (pv 2) pe_int) pa_nil)))))
  (C8.pss_cut (ps_if (pt_cmpR op_eq (pe_dn D__law_take (hr.mono (by decide)) (by rfl) pass0 (pa_cons (pv 0) (pa_cons (pv 1) (pa_cons pe_int pa_nil)))) pe_int (nomark _)) (pss_one (ps_set (i := 4) scLawWord.nd rfl (Or.inl rfl) (pe_callB (call_max2 rfl) (by rfl) B.max (by decide +kernel) (pa_cons pe_int (pa_cons (pe_op op_sub (pv 2) (pe_op op_fdiv (pv 4) pe_int)) pa_nil)))))
  pss_nil)
  (pss_cons (ps_set (i := 5) scLawWord.nd rfl (Or.inl rfl) (pe_dn D__law_take (hr.mono (by decide)) (by rfl) pass0 (pa_cons (pv 0) (pa_cons (pv 1) (pa_cons pe_int pa_nil)))))
  (pss_cons (ps_set (i := 6) scLawWord.nd rfl (Or.inl rfl) (pe_op op_mul_str pe_str (pe_callTy call_int1 (by rfl) B.intT (by decide +kernel) (pa_cons (pe_cmpR op_gt (pv 4) pe_int (nomark _)) pa_nil))))
  (pss_cons (ps_for PassesOwn.never rfl (pi_range1 rfl B.range (pa_cons (pe_op op_sub (pv 4) pe_int) pa_nil)) (pg_name (i := 7) scLawWord.nd rfl (Or.inl rfl))
  (pss_cons (ps_set (i := 8) scLawWord.nd rfl (Or.inl rfl) (pe_dn D__law_take (hr.mono (by decide)) (by rfl) pass0 (pa_cons (pv 0) (pa_cons (pv 1) (pa_cons (pe_ix ix_list (pe_lst (pa_cons pe_int (pa_cons pe_int (pa_cons pe_int (pa_cons pe_int pa_nil))))) (pv 5) (fun _ _ => rfl)) pa_nil)))))
  (C8.pss_cut (ps_set (i := 9) scLawWord.nd rfl (Or.inl rfl) (pe_or (pe_cmpR op_eq (pv 5) pe_int (nomark _)) (pe_or (pe_and (pe_cmpR op_eq (pv 5) pe_int (nomark _)) (pe_one (pe_cmpR op_gt (pv 8) pe_int (nomark _)))) (pe_one (pe_cmpR op_eq (pv 8) pe_int (nomark _))))))
  (pss_one (ps_set (i := 6) scLawWord.nd rfl (Or.inl rfl) (pe_op op_add_str (pv 6) (pe_ix ix_str pe_str (pe_callTy call_int1 (by rfl) B.intT (by decide +kernel) (pa_cons (pe_and (pv 9) (pe_one (pe_cmpR op_lt (pe_m1 PySem.F.slot_str_count PySem.F.type_str_count mt_count (pv 6) pe_str) (pv 3) (nomark _)))) pa_nil)) (fun _ _ => rfl))))))))
  (pss_one (ps_ret (pv 6)))))))), ?_⟩
    have big : (20000 : Nat) ≤ sizeLine := by decide
    walk_at "rd"
    refine ⟨sa, b, p + 1, ns, H0, rfl, hs, hB, by omega, by omega, fun sz H1 s0 s1 hB1 b1 => ?_⟩
    refine ⟨fun σ H' => ∃ z : Int, σ = [some (.ref sa), some (.ref b), some (.int p), some (.int n), some (.int z), none, none, none, none, none] ∧ 0 ≤ z ∧ z ≤ p ∧ BoxS H0 H' b ∧ But b H H', ?_, ?_⟩
    · walk_at "rd"
      refine ⟨sa, b, 2, ns, H0, rfl, hs, hB1, by decide, by decide, fun d H2 d0 d1 hB2 b2 => ?_⟩
      walk_at "rd"
      refine iti (fun e => ?_) (fun e => ?_)
      · walk_at "rd"
        have : 0 ≤ sz / 3 := by omega
        exact ⟨by split <;> omega, by split <;> omega, hB2, b1.trans b2⟩
      · exact ⟨sz, rfl, s0, by omega, hB2, b1.trans b2⟩
    rintro σ H3 ⟨z, rfl, z0, zp, hB3, b3⟩
    walk_at "rd"
    refine ⟨sa, b, 4, ns, H0, rfl, hs, hB3, by decide, by decide, fun kd H4 kd0 kd1 hB4 b4 => ?_⟩
    have b34 := b3.trans b4
    walk_at "rd"
    rw [t1]
    refine ⟨tx_mulOk true (by split <;> omega) (by split <;> omega), ?_⟩
    rw [tx_mul]
    obtain ⟨m0, em, hm⟩ : ∃ m0 : Nat, (if decide (0 < z) = true then (1 : Int) else 0).toNat = m0 ∧ ((m0 = 0 ∧ z = 0) ∨ (m0 = 1 ∧ 1 ≤ z)) := by
      by_cases h : 0 < z
      · exact ⟨1, by rw [if_pos (decide_eq_true h)]; rfl, .inr ⟨rfl, by omega⟩⟩
      · exact ⟨0, by rw [if_neg (by rw [decide_eq_false h]; exact Bool.false_ne_true)]; rfl, .inl ⟨rfl, by omega⟩⟩
    rw [em]
    walk_at "rd"
    refine ⟨by omega, by omega, ?_⟩
    refine for_range (fun i σ H' => ∃ (l : List Bool) (x y w : Option V), σ = [some (.ref sa), some (.ref b), some (.int p), some (.int n), some (.int z), some (.int kd), some (.str (tx l)), x, y, w] ∧ Wd l ∧ l.length = m0 + i ∧ ((l.count true : Nat) : Int) ≤ n ∧ BoxS H0 H' b ∧ But b H H')
      ⟨List.replicate m0 true, none, none, none, rfl, ?_, by simp, by simp; omega, hB4, b34⟩ ?_ ?_
    · rcases hm with ⟨rfl, _⟩ | ⟨rfl, _⟩
      · exact .inl rfl
      · exact .inr ⟨[], rfl⟩
    · rintro i σ G hi ⟨l, x, y, w9, rfl, W, ll, lc, gB, gb⟩
      have m1 : m0 = 1 := by omega
      walk_at "rd"
      refine ⟨by show 4 ≤ sizeLine; decide, fun u hu => ?_⟩
      have gB1 := gB.put (o := .lst [V.int 3, .int 2, .int 4, .int 4]) hu
      have gb1 := gb.trans (But.of (a := b) (Same.upd (o := .lst [V.int 3, .int 2, .int 4, .int 4]) hu))
      obtain ⟨tp, ht, t1, t2⟩ : ∃ tp : Int, atI [V.int 3, .int 2, .int 4, .int 4] kd = some (.int tp) ∧ 1 ≤ tp ∧ tp ≤ 4 := by
        rcases (show kd = 0 ∨ kd = 1 ∨ kd = 2 ∨ kd = 3 by omega) with rfl | rfl | rfl | rfl
        · exact ⟨3, rfl, by decide, by decide⟩
        · exact ⟨2, rfl, by decide, by decide⟩
        · exact ⟨4, rfl, by decide, by decide⟩
        · exact ⟨4, rfl, by decide, by decide⟩
      walk_at "rd"
      refine ⟨u, _, _, _, rfl, rfl, SqL.of upd_same, ht, ?_⟩
      walk_at "rd"
      refine ⟨sa, b, tp, ns, H0, rfl, hs, gB1, t1, by omega, fun dg G2 dg0 dg1 gB2 gb2 => ?_⟩
      have gb12 := gb1.trans gb2
      walk_at "rd"
      refine ⟨fun σ H' => ∃ o : Bool, σ = [some (.ref sa), some (.ref b), some (.int p), some (.int n), some (.int z), some (.int kd), some (.str (tx l)), some (.int (0 + (i : Nat))), some (.int dg), some (.bl o)] ∧ H' = G2, ?_, ?_⟩
      · walk_at "rd"
        refine itd (fun _ => ?_) (fun _ => ?_)
        · walk_at "rd"
          exact rfl
        walk_at "rd"
        refine itd (fun _ => ?_) (fun _ => ?_)
        · walk_at "rd"
          refine itd (fun _ => ?_) (fun _ => ?_)
          · walk_at "rd"
            exact rfl
          · walk_at "rd"
            exact rfl
        · refine ⟨_, rfl, ?_⟩
          walk_at "rd"
          exact rfl
      rintro σ G3 ⟨o, rfl, rfl⟩
      have e01 : (Str.ofString "01") = tx [false, true] := by decide +kernel
      have hix : ∀ kk : Bool, atI (tx [false, true]).cps.toList (if kk = true then 1 else 0) = some (bt kk) := fun kk => by
        cases kk
        · exact at_tx (l := [false, true]) (i := 0) rfl
        · exact at_tx (l := [false, true]) (i := 1) rfl
      have Wn : ∀ kk : Bool, Wd (l ++ [kk]) := fun kk => by
        rcases W with rfl | ⟨r, rfl⟩
        · have : ([] : List Bool).length = m0 + i := ll
          have : (0 : Nat) = m0 + i := this
          omega
        · exact .inr ⟨r ++ [kk], rfl⟩
      have fin : ∀ kk : Bool, (kk = true → ((l.count true : Nat) : Int) < n) → (((l ++ [kk]).count true : Nat) : Int) ≤ n := fun kk h => by
        rw [List.count_append]
        cases kk
        · show ((l.count true + 0 : Nat) : Int) ≤ n
          omega
        · have := h rfl
          show ((l.count true + 1 : Nat) : Int) ≤ n
          omega
      walk_at "rd"
      by_cases ho : o = true
      · rw [if_pos ho]
        walk_at "rd"
        refine ⟨⟨_, rfl⟩, _, _, rfl, rfl, ?_⟩
        rw [tx_count]
        walk_at "rd"
        generalize hk : decide (((l.count true : Nat) : Int) < n) = kk
        have hk2 := fin kk fun e => by rw [e] at hk; exact of_decide_eq_true hk
        rw [e01]
        refine ⟨_, _, _, rfl, rfl, by decide +kernel, hix kk, ?_⟩
        refine ⟨_, _, rfl, rfl, by rw [tx_len]; show _ + 1 ≤ _; omega, ?_⟩
        exact ⟨l ++ [kk], _, _, _, by rw [← tx_app]; rfl, Wn kk, by rw [List.length_append, ll]; rfl, hk2, gB2, gb12⟩
      · rw [if_neg ho]
        walk_at "rd"
        have hk2 := fin false fun e => (nomatch e)
        rw [e01]
        refine ⟨_, _, _, rfl, rfl, by decide +kernel, hix false, ?_⟩
        refine ⟨_, _, rfl, rfl, by rw [tx_len]; show _ + 1 ≤ _; omega, ?_⟩
        exact ⟨l ++ [false], _, _, _, by rw [← tx_app]; rfl, Wn false, by rw [List.length_append, ll]; rfl, hk2, gB2, gb12⟩
    · rintro σ G ⟨l, x, y, w9, rfl, W, ll, lc, gB, gb⟩
      walk_at "rd"
      exact k l G W (by omega) lc gB gb
end
end Cl

/-! ### what a deed leaves lives on (from law k20) -/
namespace Cl
open PySem L2 StX ClX
theorem dps_snoc0 (l : List Bool) : dps (l ++ [false]) = (dps l).map (· + 1) := by
  induction l with
  | nil => rfl
  | cons b r ih =>
    rw [List.cons_append, dps_cons, dps_cons, ih, List.map_append, List.length_append, List.length_singleton]
    cases b <;> simp
theorem wd_snoc0 {l : List Bool} (W : Wd l) (h : l ≠ []) : Wd (l ++ [false]) := by
  rcases W with e | ⟨r, rfl⟩
  · exact absurd e h
  · exact .inr ⟨r ++ [false], rfl⟩
theorem domB_inc {D E : List Int} (h : domB D E = true) : domB (D.map (· + 1)) (E.map (· + 1) ++ [1]) = true := by
  rw [domB_iff] at h ⊢
  obtain ⟨h1, h2⟩ := h
  refine ⟨by rw [List.length_append, List.length_map, List.length_map]; omega, fun i hi => ?_⟩
  rw [List.length_map] at hi
  have := h2 i hi
  have a1 := getD_at (xs := D) hi
  have a2 := getD_at (xs := E) (i := i) (by omega)
  rw [List.getD_eq_getElem?_getD, List.getD_eq_getElem?_getD, List.getElem?_append_left (by rw [List.length_map]; omega), List.getElem?_map, List.getElem?_map, a1, a2]
  show D.getD i 0 + 1 ≤ E.getD i 0 + 1
  omega
/-- what a delete makes of a word, if it completes -/
def delR (l : List Bool) (k : Nat) (c p : Int) (late : Bool) : Option (List Bool) :=
  if late = true then if (l.length : Int) = p then none else some (mvd p c.toNat (wout (l ++ [false]) (some k)))
  else if ((mvd p c.toNat (wout l (some k))).length : Int) = p then none else some (nrm (mvd p c.toNat (wout l (some k)) ++ [false]))
theorem del_word {l r : List Bool} {k : Nat} {c p : Int} {late : Bool} (W : Wd l) (hk : k < l.count true) (hl : (l.length : Int) ≤ p) (h : delR l k c p late = some r) :
    Wd r ∧ r.count true + 1 = l.count true ∧ (r.length : Int) ≤ p := by
  unfold delR at h
  cases late
  · rw [if_neg Bool.false_ne_true] at h
    have WX := wout_wd W (some k)
    have lX := wout_len (l := l) (some k)
    have cX := wout_count hk
    have ml := mvd_len (p := p) (l := wout l (some k)) c.toNat
    have mc := mvd_count (p := p) WX c.toNat
    split at h
    · cases h
    · cases h
      refine ⟨nrm_is _, ?_, ?_⟩
      · rw [nrm_count, List.count_append, mc, cX]
        show _ - 1 + 0 + 1 = _
        omega
      · have := nrm_len (mvd p c.toNat (wout l (some k)) ++ [false])
        rw [List.length_append, List.length_singleton] at this
        omega
  · rw [if_pos rfl] at h
    have ne : l ≠ [] := fun z => by rw [z] at hk; simp at hk
    have W2 := wd_snoc0 W ne
    have hk2 : k < (l ++ [false]).count true := by rw [List.count_append]; omega
    have WX := wout_wd W2 (some k)
    have lX := wout_len (l := l ++ [false]) (some k)
    have cX := wout_count hk2
    have ml := mvd_len (p := p) (l := wout (l ++ [false]) (some k)) c.toNat
    have mc := mvd_count (p := p) WX c.toNat
    rw [List.length_append, List.length_singleton] at lX
    split at h
    · cases h
    · cases h
      refine ⟨mvd_wd WX _, ?_, by omega⟩
      rw [mc, cX, List.count_append]
      show _ + 0 - 1 + 1 = _
      omega
/-- where the newest put completes, a delete completes, to a word no worse -/
theorem del_dom {l v : List Bool} {k : Nat} {c p n : Int} {late : Bool} (W : Wd l) (n1 : 1 ≤ n) (hn : ((l.count true : Nat) : Int) ≤ n) (hk : k < l.count true) (hc : 0 ≤ c) (hl : (l.length : Int) ≤ p) (h : stepR l (newIx l n) c p late = some v) :
    ∃ r, delR l k c p late = some r ∧ Dom r v = true := by
  have hx : Dom (wout l (some k)) (wout l (newIx l n)) = true := bdom (lim := n) (dom_refl l) (fun k2 e => by cases e; exact hk) (fun e => nomatch e) (newIx_two l hn)
  have X1 := wout_wd W (some k)
  have X2 := wout_wd W (newIx l n)
  have lX := wout_len (l := l) (newIx l n)
  unfold delR
  cases late
  · rw [stepR_early W hc] at h
    rw [if_neg Bool.false_ne_true]
    split at h
    · cases h
    · rename_i q
      cases h
      have dm := dom_moves (p := p) X1 X2 (by omega) hx (a := c.toNat) (b := c.toNat) (Nat.le_refl _)
      have dl := dom_len (mvd_wd (p := p) X1 c.toNat) (mvd_wd (p := p) X2 c.toNat) dm
      have ml := mvd_len (p := p) (l := wout l (newIx l n)) c.toNat
      rw [if_neg (by omega)]
      refine ⟨_, rfl, ?_⟩
      show domB (dps (nrm _)) (dps (nrm _)) = true
      rw [dps_nrm, dps_nrm, dps_snoc, dps_snoc0]
      exact domB_inc dm
  · rw [stepR_late W (newIx_ok n1) hc] at h
    rw [if_pos rfl]
    split at h
    · cases h
    · rename_i q
      cases h
      rw [if_neg q]
      have ne : l ≠ [] := fun z => by rw [z] at hk; simp at hk
      have W2 := wd_snoc0 W ne
      have hk2 : k < (l ++ [false]).count true := by rw [List.count_append]; omega
      refine ⟨_, rfl, dom_moves (wout_wd W2 _) (wdpush X2) (by rw [List.length_append, List.length_singleton]; omega) ?_ (Nat.le_refl _)⟩
      show domB (dps _) (dps _) = true
      rw [dps_wout hk2, dps_snoc, dps_snoc0]
      have e : ((dps l).map (· + 1)).eraseIdx k = (dps (wout l (some k))).map (· + 1) := by
        rw [dps_wout hk, List.eraseIdx_eq_take_drop_succ, List.eraseIdx_eq_take_drop_succ, List.map_append, List.map_take, List.map_drop]
      rw [e]
      exact domB_inc hx
/-- what a deed leaves lives on as the newest put does -/
theorem after_deed {v v' r : List Bool} {p n : Int} {bs : List Int} {ph : Int} {late : Bool} (S : Std v p n bs ph) (hv : stepR v (newIx v n) (bud bs ph 0 : Nat) p late = some v') (S' : Std r p n bs (ph + 1)) (d : Dom r v' = true) :
    ∀ t, ply p n (bud bs ph) late v (t + 1) ≠ none → ply p n (bud bs (ph + 1)) late r t ≠ none := fun t h => by
  obtain ⟨a1, a2, a3⟩ := step_word S.w (newIx_ok S.n1) (by omega) S.len hv
  have cv : ((v'.count true : Nat) : Int) ≤ n := by
    rw [a2]
    have := S.cnt
    rcases newIx_two v S.cnt with ⟨q, _⟩ | ⟨q, _⟩ <;> rw [q] <;> simp <;> omega
  rw [ply_shift hv, bud_shift] at h
  cases hw : ply p n (bud bs (ph + 1)) late v' t with
  | none => exact absurd hw h
  | some w =>
    obtain ⟨w', hw', _⟩ := ply_dom a1 S'.w S.n1 (Int.le_refl _) (Int.le_refl _) (fun _ => Nat.le_refl _) cv S'.cnt a3 d t w hw
    rw [hw']; exact fun z => nomatch z
theorem ply_one {v : List Bool} {p n : Int} {b : Nat → Nat} {late : Bool} (h : ply p n b late v 1 ≠ none) : ∃ v', stepR v (newIx v n) (b 0 : Nat) p late = some v' := by
  have h : stepR v (newIx v n) (b 0 : Nat) p late ≠ none := h
  cases e : stepR v (newIx v n) (b 0 : Nat) p late with
  | none => exact absurd e h
  | some v' => exact ⟨v', rfl⟩
theorem put_go {v : List Bool} {p n : Int} {bs : List Int} {ph : Int} {late : Bool} {i : Option Nat} (S : Std v p n bs ph) (hgo : ply p n (bud bs ph) late v 1 ≠ none) (hi : Ix v i) (hin : i = none → ((v.count true : Nat) : Int) < n) :
    ∃ r, stepR v i (bud bs ph 0 : Nat) p late = some r ∧ Std r p n bs (ph + 1) ∧ ∀ t, ply p n (bud bs ph) late v (t + 1) ≠ none → ply p n (bud bs (ph + 1)) late r t ≠ none := by
  obtain ⟨v', hv⟩ := ply_one hgo
  have hx : Dom (wout v i) (wout v (newIx v n)) = true := bdom (lim := n) (dom_refl v) hi hin (newIx_two v S.cnt)
  obtain ⟨r, e, d⟩ := step_dom (c1 := ((bud bs ph 0 : Nat) : Int)) S.w S.w hi (newIx_ok S.n1) (by omega) (Int.le_refl _) S.len (dom_refl v) hx hv
  obtain ⟨c1, c2, c3⟩ := step_word S.w hi (by omega) S.len e
  have sc := S.cnt
  have s0 := S.ph
  have S' : Std r p n bs (ph + 1) := ⟨c1, c3, by
    rw [c2]
    split
    · rename_i q
      have := hin q
      omega
    · omega, S.n1, S.np, S.p9, S.ok, by omega⟩
  exact ⟨r, e, S', after_deed S hv S' d⟩
theorem del_go {v : List Bool} {p n : Int} {bs : List Int} {ph : Int} {late : Bool} {k : Nat} (S : Std v p n bs ph) (hgo : ply p n (bud bs ph) late v 1 ≠ none) (hk : k < v.count true) :
    ∃ r, delR v k (bud bs ph 0 : Nat) p late = some r ∧ Std r p n bs (ph + 1) ∧ ∀ t, ply p n (bud bs ph) late v (t + 1) ≠ none → ply p n (bud bs (ph + 1)) late r t ≠ none := by
  obtain ⟨v', hv⟩ := ply_one hgo
  obtain ⟨r, e, d⟩ := del_dom S.w S.n1 S.cnt hk (by omega) S.len hv
  obtain ⟨c1, c2, c3⟩ := del_word S.w hk S.len e
  have sc := S.cnt
  have s0 := S.ph
  have S' : Std r p n bs (ph + 1) := ⟨c1, c3, by omega, S.n1, S.np, S.p9, S.ok, by omega⟩
  exact ⟨r, e, S', after_deed S hv S' d⟩
end Cl

/-! ### law k57: safe stays safe -/
namespace Cl
open PySem L2 StX ClX
section
variable {l : List Bool} {p : Int} {n : Nat} {bs : List Int} {ph : Int}
/-- from a safe standing any put that is greedy leads to a safe one -/
theorem safe_put {i : Option Nat} (S : Std l p (n : Nat) bs ph) (h : SafeA l p (n : Nat) bs ph) (hi : ∀ k, i = some k → k < l.count true) (hin : i = none → ((l.count true : Nat) : Int) < (n : Nat)) :
    ((wout l i).length : Int) ≠ p ∧ SafeT (wout l i) p (n : Nat) bs ph true (mostN (wout l i) p bs ph) := by
  have all := (safeA_iff S).mp h
  obtain ⟨r, e, S', ht⟩ := put_go S (all 1) hi hin
  have ne : ((wout l i).length : Int) ≠ p := fun z => by
    rw [step_stuck z] at e; cases e
  refine ⟨ne, ?_⟩
  rw [step_early ne S.len] at e
  have er := Option.some.inj e
  have em : mostN (wout l i) p bs ph = min (bud bs ph 0) ((wout l i).count true) := by unfold mostN; rw [if_neg ne]
  unfold SafeT
  rw [em, er]
  exact ⟨S'.np, S'.cnt, (safeA_iff S').mpr fun t => ht t (all (t + 1))⟩
/-- the fewest carries are safe where some are -/
theorem Few.safe {l : List Bool} {p n : Int} {bs : List Int} {ph : Int} {b : Bool} {m k : Nat} (h : Few l p n bs ph b m) (hk : k ≤ mostN l p bs ph) (hs : SafeT l p n bs ph b k) : SafeT l p n bs ph b m := by
  rcases Nat.lt_or_ge m (mostN l p bs ph) with q | q
  · exact h.ok q
  · have e : m = mostN l p bs ph := Nat.le_antisymm h.le q
    rcases Nat.lt_or_ge k m with z | z
    · exact absurd hs (h.lo k z)
    · obtain rfl : k = m := by omega
      exact hs
/-- the rule makes the empty log safe -/
theorem goes_safe (n1 : 1 ≤ n) (p5 : p ≤ 5000) (ok : Okb bs) (ph0 : 0 ≤ ph) (hg : rgoes bs p (n : Nat) = true) : SafeA [] p (n : Nat) bs ph := by
  obtain ⟨o, ho⟩ := life_exk [] p (n : Nat) bs ph false
  unfold SafeA
  unfold LifeIs at ho ⊢
  rw [if_neg (fun z => nomatch z.1)] at ho ⊢
  obtain ⟨s, hs⟩ := fst_ex (Sht [] (mIn p false) (n : Nat) bs ph)
  have e := (sht_goes ok hs).mpr hg
  subst e
  refine ⟨none, fun t ht => ?_, rfl⟩
  rcases ht with h | h
  · have t0 := tot_nn (bs := bs) (s := ph) (c := ((t : Nat) : Int)) ok (by omega)
    have h1 : tot bs ph (t : Nat) < (if ((n : Nat) : Int) - 1 < (((([] : List Bool).count true : Nat)) : Int) then ((n : Nat) : Int) - 1 else (((([] : List Bool).count true : Nat)) : Int)) := h.1
    have c0 : ((([] : List Bool).count true : Nat) : Int) = 0 := rfl
    rw [c0] at h1
    split at h1 <;> omega
  · exact hs t h
/-- all standings along the row are safe -/
def Lasts (p : Int) (n : Nat) (bs : List Int) (ms : List (Option Nat)) (ws : List (List Bool)) : Prop := ws.length = ms.length ∧ ∀ k, k < ms.length → SafeA (wAt ws (k + 1)) p (n : Nat) bs ((k : Nat) + 1)
theorem onesM_0 (c : Nat) (ms : List (Option Nat)) : onesM c ms 0 = c := by
  cases ms with
  | nil => rfl
  | cons a r => cases a <;> rfl
theorem onesM_le {lim : Int} : ∀ {ms : List (Option Nat)} {c k : Nat}, MvOk lim c ms → ((c : Nat) : Int) ≤ lim → ((onesM c ms k : Nat) : Int) ≤ lim
  | ms, c, 0, _, h => by rw [onesM_0]; exact h
  | [], _, _ + 1, _, h => h
  | none :: r, c, k + 1, hm, h => by
    have h1 := hm.1
    exact onesM_le (ms := r) (c := c + 1) (k := k) hm.2 (by omega)
  | some j :: r, c, k + 1, hm, h => onesM_le (ms := r) (c := c) (k := k) hm.2 h
theorem few_most {l : List Bool} {p n : Int} {bs : List Int} {ph : Int} {b : Bool} {m : Nat} (h : Few l p n bs ph b m) : m ≤ l.count true := by
  have := h.le
  unfold mostN at this
  split at this <;> omega
/-- the put with the fewest carries, told -/
theorem few_step {l v : List Bool} {i : Option Nat} {p n : Int} {bs : List Int} {ph : Int} {m : Nat} (lp : (l.length : Int) ≤ p) (h : Few (wout l i) p n bs ph true m) (e : stepR l i (m : Nat) p false = some v) : ((wout l i).length : Int) ≠ p ∧ v = nrm (mvd p m (wout l i) ++ [true]) := by
  have ne : ((wout l i).length : Int) ≠ p := fun z => by
    rw [step_stuck z] at e; cases e
  refine ⟨ne, ?_⟩
  rw [step_early ne lp, Nat.min_eq_left (few_most h)] at e
  exact (Option.some.inj e).symm
variable {lim : Int} {ms : List (Option Nat)} {ws : List (List Bool)}
theorem row_std (n1 : 1 ≤ n) (np : ((n : Nat) : Int) ≤ p) (p5 : p ≤ 5000) (ok : Okb bs) (l1 : 0 ≤ lim) (ln : lim ≤ (n : Nat)) (mk : MvOk lim 0 ms) {Ch : List Bool → Int → Nat → Prop} (al : Along p Ch ms ws) {k : Nat} (hk : k ≤ ws.length) : Std (wAt ws k) p (n : Nat) bs (k : Nat) := by
  obtain ⟨W, lp, c⟩ := al.word (by omega) mk k hk
  have := onesM_le (k := k) mk (by omega)
  exact ⟨W, lp, by rw [c]; omega, by omega, np, p5, ok, by omega⟩
/-- where the rule holds the row goes on, and all of it is safe -/
theorem goes_lasts (n1 : 1 ≤ n) (np : ((n : Nat) : Int) ≤ p) (p5 : p ≤ 5000) (ok : Okb bs) (l1 : 0 ≤ lim) (ln : lim ≤ (n : Nat)) (mk : MvOk lim 0 ms) (hg : rgoes bs p (n : Nat) = true) (h : RowIs p (ChT p n bs) ms ws) : Lasts p n bs ms ws := by
  have key : ∀ k, k ≤ ms.length → k ≤ ws.length ∧ SafeA (wAt ws k) p (n : Nat) bs (k : Nat) := by
    intro k
    induction k with
    | zero => exact fun _ => ⟨Nat.zero_le _, goes_safe n1 p5 ok (by omega) hg⟩
    | succ k ih =>
      intro hk
      obtain ⟨kw, hs⟩ := ih (by omega)
      have S := row_std n1 np p5 ok l1 ln mk h.al kw
      obtain ⟨W, lp, c⟩ := h.al.word (by omega) mk k kw
      have out : ∀ i, ms[k]? = some i → ((wout (wAt ws k) i).length : Int) ≠ p ∧ SafeT (wout (wAt ws k) i) p (n : Nat) bs (k : Nat) true (mostN (wout (wAt ws k) i) p bs (k : Nat)) := fun i hi => by
        obtain ⟨a, b⟩ := mk.at_ hi
        rw [← c] at a b
        exact safe_put S hs b fun z => by have := a z; omega
      rcases Nat.lt_or_ge k ws.length with q | q
      · obtain ⟨i, m, a1, a2, a3⟩ := h.al.go k q
        obtain ⟨ne, hT⟩ := out i a1
        obtain ⟨_, ev⟩ := few_step lp a2 a3
        have := Few.safe a2 (Nat.le_refl _) hT
        refine ⟨q, ?_⟩
        rw [ev]
        exact this.2.2
      · obtain rfl : k = ws.length := by omega
        rcases h.stop with z | ⟨i, m, a1, a2, a3⟩
        · omega
        · obtain ⟨ne, _⟩ := out i a1
          rw [step_early ne lp] at a3
          cases a3
  refine ⟨?_, fun k hk => (key (k + 1) (by omega)).2⟩
  have := (key ms.length (Nat.le_refl _)).1
  have := h.al.le
  omega
theorem MvOk.snoc {n : Int} {i : Option Nat} : ∀ {ms : List (Option Nat)} {c : Nat}, MvOk n c ms → MvAt n (onesM c ms ms.length) i → MvOk n c (ms ++ [i])
  | [], c, _, h => by
    cases i with
    | none => exact ⟨h.1 rfl, trivial⟩
    | some k => exact ⟨h.2 k rfl, trivial⟩
  | none :: r, c, hm, h => ⟨hm.1, MvOk.snoc (ms := r) hm.2 h⟩
  | some j :: r, c, hm, h => ⟨hm.1, MvOk.snoc (ms := r) hm.2 h⟩
theorem onesM_app {i : Option Nat} : ∀ {ms : List (Option Nat)} {c : Nat}, onesM c (ms ++ [i]) (ms.length + 1) = onesM c ms ms.length + (if i = none then 1 else 0)
  | [], c => by cases i <;> rfl
  | none :: r, c => onesM_app (ms := r) (c := c + 1)
  | some j :: r, c => onesM_app (ms := r) (c := c)
end
end Cl

/-! ### law k57: standings and moves drawn, a plain play -/
namespace Cl
open PySem PySem.Spec PyProof.Rows L2 StX ClX PySem.Builtin PySem.Builtin.Str
def StandAt (H : Hp) (g : Addr) (p n : Int) : Prop := ∃ (l : List Bool) (i : Option Nat) (ph : Int), H g = some (.lst [.str (tx l), ixV i, .int ph]) ∧ Wd l ∧ (l.length : Int) ≤ p ∧ ((l.count true : Nat) : Int) ≤ n ∧ MvAt n (l.count true) i ∧ 0 ≤ ph ∧ ph ≤ 1000000
theorem StandAt.but {H H' : Hp} {a g : Addr} {p n : Int} (h : StandAt H g p n) (x : But a H H') (ne : g ≠ a) : StandAt H' g p n := by
  obtain ⟨l, i, ph, e, r⟩ := h
  exact ⟨l, i, ph, x _ _ ne e, r⟩
section
variable {P : Program} {w : World} {K : PySem.W.Frag} {mg : Str → Option Value} {base : Heap} {C : Addr}
def spStandX (K : PySem.W.Frag) : Sp := fun vs H Q _ => ∃ (sa b : Addr) (p n : Int) (ns : List Int) (H0 : Hp), vs = [.ref sa, .ref b, .int p, .int n] ∧ SqL K H0 sa (ns.map V.int) ∧ BoxS H0 H b ∧ 1 ≤ p ∧ p ≤ 64 ∧ 1 ≤ n ∧
  ∀ (g : Addr) (H' : Hp), H g = none → StandAt H' g p n → BoxS H0 H' b → But b H H' → Q (.ref g) H'
theorem scLawStand : FnScope ["script", "box", "wide", "level", "word", "beat"] ["script", "box", "wide", "level"] (defScope sLawStand) := ⟨rfl, rfl, rfl, by decide +kernel, rfl, by decide +kernel, by decide +kernel⟩
set_option maxHeartbeats 0 in
theorem ok__law_stand {f : Addr} {fd : FuncData} (F : Fun K "_law_stand" "_law_stand" sLawStand f fd) (D__law_take : Dn P w K mg base "_law_take" 1 ["script", "box", "many"] (spTakeX K)) (D__law_word : Dn P w K mg base "_law_word" 2 ["script", "box", "wide", "many"] (spWordX K)) (D__law_move : Dn P w K mg base "_law_move" 2 ["script", "box", "ones", "many"] (spMoveX K)) :
    FnOk P w K mg base CX0 3 f fd ["script", "box", "wide", "level"] (spStandX K) := by
  refine F.ok scLawStand (fun vs H Q E h => ?_) (fun cdv A outer s H vs Q E hr h => ?_)
  · obtain ⟨sa, b, p, n, ns, H0, rfl, _⟩ := h
    rfl
  · obtain ⟨sa, b, p, n, ns, H0, rfl, hs, hB, p1, p64, n1, k⟩ := h
    refine ⟨_, (pss_cons (ps_set (i := 4) scLawStand.nd rfl (Or.inl rfl) (pe_dn D__law_word (hr.mono (by decide)) (by rfl) pass0 (pa_cons (pv 0) (pa_cons (pv 1) (pa_cons (pv 2) (pa_cons (pv 3) pa_nil))))))
  (pss_cons (ps_set (i := 5) scLawStand.nd rfl (Or.inl rfl) (pe_dn D__law_take (hr.mono (by decide)) (by rfl) pass0 (pa_cons (pv 0) (pa_cons (pv 1) (pa_cons (pe_ix ix_list (pe_lst (pa_cons pe_int (pa_cons pe_int (pa_cons (pe_op op_pow pe_int pe_int) pa_nil)))) (pe_dn D__law_take (hr.mono (by decide)) (by rfl) pass0 (pa_cons (pv 0) (pa_cons (pv 1) (pa_cons pe_int pa_nil)))) (fun _ _ => rfl)) pa_nil)))))
  (pss_one (ps_ret (pe_lst (pa_cons (pv 4) (pa_cons (pe_dn D__law_move (hr.mono (by decide)) (by rfl) pass0 (pa_cons (pv 0) (pa_cons (pv 1) (pa_cons (pe_m1 PySem.F.slot_str_count PySem.F.type_str_count mt_count (pv 4) pe_str) (pa_cons (pv 3) pa_nil))))) (pa_cons (pv 5) pa_nil)))))))), ?_⟩
    walk_at "rd"
    refine ⟨sa, b, p, n, ns, H0, rfl, hs, hB, p1, p64, n1, fun l H1 W lp lc hB1 b1 => ?_⟩
    walk_at "rd"
    refine ⟨by show 3 ≤ sizeLine; decide, fun u hu => ?_⟩
    have ub := hB1.ne hu
    walk_at "rd"
    refine ⟨sa, b, 3, ns, H0, rfl, hs, hB1.put hu, by decide, by decide, fun d H2 d0 d1 hB2 b2 => ?_⟩
    have hu2 := b2 _ _ ub (upd_same (o := .lst [V.int 12, .int 12, .int 1000000]))
    obtain ⟨tp, ht, t1, t2⟩ : ∃ tp : Int, atI [V.int 12, .int 12, .int 1000000] d = some (.int tp) ∧ 1 ≤ tp ∧ tp ≤ 1000000 := by
      rcases (show d = 0 ∨ d = 1 ∨ d = 2 by omega) with rfl | rfl | rfl
      · exact ⟨12, rfl, by decide, by decide⟩
      · exact ⟨12, rfl, by decide, by decide⟩
      · exact ⟨1000000, rfl, by decide, by decide⟩
    refine ⟨u, _, _, _, rfl, rfl, SqL.of hu2, ht, ?_⟩
    walk_at "rd"
    refine ⟨sa, b, tp, ns, H0, rfl, hs, hB2, t1, by omega, fun e H3 e0 e1 hB3 b3 => ?_⟩
    have cl := List.count_le_length (a := true) (l := l)
    walk_at "rd"
    refine ⟨⟨_, rfl⟩, _, _, rfl, rfl, ?_⟩
    rw [Cl.t1, tx_count]
    walk_at "rd"
    refine ⟨sa, b, l.count true, n, ns, H0, rfl, hs, hB3, by omega, n1, fun i H4 hi hB4 b4 => ?_⟩
    walk_at "rd"
    refine ⟨by show 3 ≤ sizeLine; decide, fun g hg => ?_⟩
    have bb := (((b1.trans (But.of (Same.upd (o := .lst [V.int 12, .int 12, .int 1000000]) hu))).trans b2).trans b3).trans b4
    exact k g _ (But.none2 bb (hB4.ne hg) hg) ⟨l, i, e, upd_same, W, lp, lc, hi, e0, by omega⟩ (hB4.put hg) (bb.trans (But.of (Same.upd hg)))
def spMovesX (K : PySem.W.Frag) : Sp := fun vs H Q _ => ∃ (sa b : Addr) (n p : Int) (ns : List Int) (H0 : Hp), vs = [.ref sa, .ref b, .int n, .int p] ∧ SqL K H0 sa (ns.map V.int) ∧ BoxS H0 H b ∧ 1 ≤ p ∧ p ≤ 64 ∧ 1 ≤ n ∧
  ∀ (g : Addr) (ms : List (Option Nat)) (H' : Hp), H g = none → H' g = some (.lst (ms.map ixV)) → MvOk n 0 ms → 1 ≤ ms.length → ms.length ≤ 200 → BoxS H0 H' b → But b H H' → Q (.ref g) H'
theorem ixV_non (i : Option Nat) : decide (ixV i = V.non) = decide (i = none) := by cases i <;> rfl
theorem onesM_all {lim : Int} : ∀ {ms : List (Option Nat)} {c : Nat}, onesM c ms ms.length ≤ c + ms.length
  | [], _ => Nat.le_refl _
  | none :: r, c => by
    have := onesM_all (lim := lim) (ms := r) (c := c + 1)
    show onesM (c + 1) r r.length ≤ c + (r.length + 1)
    omega
  | some j :: r, c => by
    have := onesM_all (lim := lim) (ms := r) (c := c)
    show onesM c r r.length ≤ c + (r.length + 1)
    omega
theorem scLawMoves : FnScope ["script", "box", "many", "wide", "moves", "ones", "size", "k", "move"] ["script", "box", "many", "wide"] (defScope sLawMoves) := ⟨rfl, rfl, rfl, by decide +kernel, rfl, by decide +kernel, by decide +kernel⟩
set_option maxHeartbeats 0 in
theorem ok__law_moves {f : Addr} {fd : FuncData} (F : Fun K "_law_moves" "_law_moves" sLawMoves f fd) (B : Bi mg) (D__law_take : Dn P w K mg base "_law_take" 1 ["script", "box", "many"] (spTakeX K)) (D__law_move : Dn P w K mg base "_law_move" 2 ["script", "box", "ones", "many"] (spMoveX K)) :
    FnOk P w K mg base CX0 3 f fd ["script", "box", "many", "wide"] (spMovesX K) := by
  refine F.ok scLawMoves (fun vs H Q E h => ?_) (fun cdv A outer s H vs Q E hr h => ?_)
  · obtain ⟨sa, b, n, p, ns, H0, rfl, _⟩ := h
    rfl
  · obtain ⟨sa, b, n, p, ns, H0, rfl, hs, hB, p1, p64, n1, k⟩ := h
    refine ⟨_, (pss_cons (ps_set (i := 4) scLawMoves.nd rfl (Or.inl rfl) (pe_lst pa_nil))
  (pss_cons (ps_set (i := 5) scLawMoves.nd rfl (Or.inl rfl) pe_int)
  (pss_cons (ps_set (i := 6) scLawMoves.nd rfl (Or.inl rfl) (pe_op op_add (pe_ix ix_list (pe_lst (pa_cons pe_int (pa_cons (pv 3) (pa_cons (pv 3) (pa_cons (pv 3) pa_nil))))) (pe_dn D__law_take (hr.mono (by decide)) (by rfl) pass0 (pa_cons (pv 0) (pa_cons (pv 1) (pa_cons pe_int pa_nil)))) (fun _ _ => rfl)) (pe_dn D__law_take (hr.mono (by decide)) (by rfl) pass0 (pa_cons (pv 0) (pa_cons (pv 1) (pa_cons pe_int pa_nil))))))
  (pss_cons (ps_for PassesOwn.never rfl (pi_range1 rfl B.range (pa_cons (pv 6) pa_nil)) (pg_name (i := 7) scLawMoves.nd rfl (Or.inl rfl))
  (pss_cons (ps_set (i := 8) scLawMoves.nd rfl (Or.inl rfl) (pe_dn D__law_move (hr.mono (by decide)) (by rfl) pass0 (pa_cons (pv 0) (pa_cons (pv 1) (pa_cons (pv 5) (pa_cons (pv 2) pa_nil))))))
  (pss_cons (ps_set (i := 5) scLawMoves.nd rfl (Or.inl rfl) (pe_op op_add (pv 5) (pe_callTy call_int1 (by rfl) B.intT (by decide +kernel) (pa_cons (pe_cmpR op_isN (pv 8) pe_non (nomark _)) pa_nil))))
  (pss_one (ps_expr (pe_bm PySem.F.plainAttrs_list PySem.F.slot_list_append PySem.F.type_list_append mt_append (pv 4) (pa_cons (pv 8) pa_nil)))))))
  (pss_one (ps_ret (pv 4))))))), ?_⟩
    walk_at "rd"
    refine ⟨by show 0 ≤ sizeLine; decide, fun D hD => ?_⟩
    have Db := hB.ne hD
    have hB1 := hB.put (o := .lst []) hD
    walk_at "rd"
    refine ⟨by show 4 ≤ sizeLine; decide, fun u hu => ?_⟩
    have ub := hB1.ne hu
    walk_at "rd"
    refine ⟨sa, b, 4, ns, H0, rfl, hs, hB1.put hu, by decide, by decide, fun d H2 d0 d1 hB2 b2 => ?_⟩
    have hu2 := b2 _ _ ub (upd_same (o := .lst [V.int 1, .int p, .int p, .int p]))
    have hD2 := b2 _ _ Db (Same.upd (o := .lst [V.int 1, .int p, .int p, .int p]) hu _ _ (upd_same (o := .lst [])))
    obtain ⟨tp, ht, t1, t2⟩ : ∃ tp : Int, atI [V.int 1, .int p, .int p, .int p] d = some (.int tp) ∧ 1 ≤ tp ∧ tp ≤ 64 := by
      rcases (show d = 0 ∨ d = 1 ∨ d = 2 ∨ d = 3 by omega) with rfl | rfl | rfl | rfl
      · exact ⟨1, rfl, by decide, by decide⟩
      · exact ⟨p, rfl, p1, p64⟩
      · exact ⟨p, rfl, p1, p64⟩
      · exact ⟨p, rfl, p1, p64⟩
    refine ⟨u, _, _, _, rfl, rfl, SqL.of hu2, ht, ?_⟩
    walk_at "rd"
    refine ⟨sa, b, 24, ns, H0, rfl, hs, hB2, by decide, by decide, fun e H3 e0 e1 hB3 b3 => ?_⟩
    have hD3 := b3 _ _ Db hD2
    have bb := (((But.of (a := b) (Same.upd (o := .lst []) hD)).trans (But.of (Same.upd (o := .lst [V.int 1, .int p, .int p, .int p]) hu))).trans b2).trans b3
    walk_at "rd"
    refine ⟨by omega, by omega, ?_⟩
    refine for_range (fun i σ H' => ∃ (ms : List (Option Nat)) (x y : Option V), σ = [some (.ref sa), some (.ref b), some (.int n), some (.int p), some (.ref D), some (.int (onesM 0 ms ms.length : Nat)), some (.int (tp + e)), x, y] ∧ H' D = some (.lst (ms.map ixV)) ∧ ms.length = i ∧ MvOk n 0 ms ∧ BoxS H0 H' b ∧ But b H H') ⟨[], none, none, rfl, hD3, rfl, trivial, hB3, bb⟩ ?_ ?_
    · rintro i σ G hi ⟨ms, x, y, rfl, gD, ml, mk, gB, gb⟩
      have oc := onesM_all (lim := n) (ms := ms) (c := 0)
      walk_at "rd"
      refine ⟨sa, b, onesM 0 ms ms.length, n, ns, H0, rfl, hs, gB, by omega, n1, fun mv G2 hmv gB2 gb2 => ?_⟩
      have gD2 := gb2 _ _ Db gD
      walk_at "rd"
      refine ⟨.inl ⟨rfl, _, SqL.of gD2⟩, ?_⟩
      walk_at "rd"
      have big : (20000 : Nat) ≤ sizeLine := by decide
      refine ⟨D, _, _, rfl, rfl, gD2, by rw [List.length_map]; omega, ?_⟩
      refine ⟨ms ++ [mv], some (.int (0 + (i : Nat))), some (ixV mv), ?_, by rw [upd_same, List.map_append]; rfl, by rw [List.length_append, ml]; rfl, mk.snoc hmv, gB2.set Db (hB.2.1.free hD), (gb.trans gb2).grow hD⟩
      rw [List.length_append, List.length_singleton, onesM_app, ixV_non]
      have e9 : ((onesM 0 ms ms.length : Nat) : Int) + (if decide (mv = none) = true then 1 else 0) = ((onesM 0 ms ms.length + (if mv = none then 1 else 0) : Nat) : Int) := by
        by_cases h : mv = none
        · rw [if_pos (decide_eq_true h), if_pos h]; rfl
        · rw [if_neg (by rw [decide_eq_false h]; exact Bool.false_ne_true), if_neg h]; omega
      rw [← e9]
      rfl
    · rintro σ G ⟨ms, x, y, rfl, gD, ml, mk, gB, gb⟩
      walk_at "rd"
      exact k D ms G hD gD mk (by omega) (by omega) gB gb
end
end Cl

/-! ### law k57: the plain play -/
namespace Cl
open PySem PySem.Spec PyProof.Rows L2 StX ClX PySem.Builtin PySem.Builtin.Str
section
variable {P : Program} {w : World} {K : PySem.W.Frag} {mg : Str → Option Value} {base : Heap} {C : Addr}
def spPlayK : Sp := fun vs H Q _ => ∃ (g q : Addr) (ms : List (Option Nat)) (p lim : Int) (n : Nat) (bs : List Int), vs = [.ref g, .int p, .int (n : Nat), .ref q] ∧ H g = some (.lst (ms.map ixV)) ∧ H q = some (.lst (bs.map V.int)) ∧ ms.length ≤ 200 ∧ MvOk lim 0 ms ∧ 0 ≤ lim ∧ lim ≤ (n : Nat) ∧ 1 ≤ n ∧ ((n : Nat) : Int) ≤ p ∧ p ≤ 64 ∧ Okb bs ∧
  ∀ (t D : Addr) (ws : List (List Bool)) (x : Bool) (H' : Hp), Same H H' → H t = none → H D = none → H' t = some (.lst [.ref D, .bl x]) → H' D = some (.lst (ws.map fun w => V.str (tx w))) → RowIs p (ChT p n bs) ms ws → (x = true ↔ Lasts p n bs ms ws) → Q (.ref t) H'
theorem scLawPlay : FnScope ["moves", "wide", "level", "pays", "word", "told", "lasting", "k", "due"] ["moves", "wide", "level", "pays"] (defScope sLawPlay) := ⟨rfl, rfl, rfl, by decide +kernel, rfl, by decide +kernel, by decide +kernel⟩
set_option maxHeartbeats 0 in
theorem ok__law_play {f : Addr} {fd : FuncData} (F : Fun K "_law_play" "_law_play" sLawPlay f fd) (B : Bi mg) (D__law_freed : Dn P w K mg base "_law_freed" 1 ["word", "index"] spFreedK) (D__law_carried : Dn P w K mg base "_law_carried" 1 ["word", "many"] spCarriedK) (D__law_thrifty : Dn P w K mg base "_law_thrifty" 3 ["word", "wide", "many", "pays", "beat"] spThrK) :
    FnOk P w K mg base CX0 4 f fd ["moves", "wide", "level", "pays"] spPlayK := by
  refine F.ok scLawPlay (fun vs H Q E h => ?_) (fun cdv A outer s H vs Q E hr h => ?_)
  · obtain ⟨g, q, ms, p, lim, n, bs, rfl, _⟩ := h
    rfl
  · obtain ⟨g, q, ms, p, lim, n, bs, rfl, hg, hq, ml, mk, lm0, ln, n1, np, p64, ok, k⟩ := h
    refine ⟨_, (pss_cons (ps_set (i := 4) scLawPlay.nd rfl (Or.inl rfl) pe_str)
  (pss_cons (ps_set (i := 5) scLawPlay.nd rfl (Or.inl rfl) (pe_lst pa_nil))
  (pss_cons (ps_set (i := 6) scLawPlay.nd rfl (Or.inl rfl) pe_bl)
  (pss_cons (ps_for PassesOwn.never rfl (pi_range1 rfl B.range (pa_cons (pe_callB call_len_seq (by rfl) B.len PySem.boot_len (pa_cons (pv 0) pa_nil)) pa_nil)) (pg_name (i := 7) scLawPlay.nd rfl (Or.inl rfl))
  (C8.pss_cut (ps_if (pt_cmpR op_notN (pe_ix ix_list (pv 0) (pv 7) (fun _ _ => rfl)) pe_non (nomark _)) (pss_one (ps_set (i := 4) scLawPlay.nd rfl (Or.inl rfl) (pe_dn D__law_freed (hr.mono (by decide)) (by rfl) pass0 (pa_cons (pv 4) (pa_cons (pe_ix ix_list (pv 0) (pv 7) (fun _ _ => rfl)) pa_nil)))))
  pss_nil)
  (pss_cons (ps_if (pt_cmpR op_eq (pe_callB call_len_str (by rfl) B.len PySem.boot_len (pa_cons (pv 4) pa_nil)) (pv 1) (nomark _)) (pss_one (ps_ret (pe_lst (pa_cons (pv 5) (pa_cons pe_bl pa_nil)))))
  pss_nil)
  (pss_cons (ps_set (i := 8) scLawPlay.nd rfl (Or.inl rfl) (pe_dn D__law_thrifty (hr.mono (by decide)) (by rfl) pass0 (pa_cons (pv 4) (pa_cons (pv 1) (pa_cons (pv 2) (pa_cons (pv 3) (pa_cons (pv 7) pa_nil)))))))
  (pss_cons (ps_set (i := 4) scLawPlay.nd rfl (Or.inl rfl) (pe_op op_add_str (pe_dn D__law_carried (hr.mono (by decide)) (by rfl) pass0 (pa_cons (pv 4) (pa_cons (pe_ix ix_list (pv 8) pe_int (fun _ _ => rfl)) pa_nil))) pe_str))
  (pss_cons (ps_set (i := 6) scLawPlay.nd rfl (Or.inl rfl) (pe_and (pv 6) (pe_one (pe_ix ix_list (pv 8) pe_int (fun _ _ => rfl)))))
  (pss_one (ps_expr (pe_bm PySem.F.plainAttrs_list PySem.F.slot_list_append PySem.F.type_list_append mt_append (pv 5) (pa_cons (pv 4) pa_nil))))))))))
  (pss_one (ps_ret (pe_lst (pa_cons (pv 5) (pa_cons (pv 6) pa_nil))))))))), ?_⟩
    have big : (20000 : Nat) ≤ sizeLine := by decide
    have hml : (ms.map ixV).length = ms.length := List.length_map ..
    walk_at "rd"
    refine ⟨by show 0 ≤ sizeLine; decide, fun D hD => ?_⟩
    have hD1 := upd_same (H := H) (a := D) (o := .lst [])
    have S1 := Same.upd (o := .lst []) hD
    rw [te]
    generalize upd H D (.lst []) = H1 at hD1 S1 ⊢
    walk_at "rd"
    refine ⟨g, _, rfl, .inl (SqL.of (S1 _ _ hg)), ?_⟩
    rw [hml]
    walk_at "rd"
    refine ⟨by omega, by omega, ?_⟩
    refine for_range (fun i σ H' => ∃ (ws : List (List Bool)) (x : Bool) (y z : Option V), σ = [some (.ref g), some (.int p), some (.int (n : Nat)), some (.ref q), some (.str (tx (wAt ws i))), some (.ref D), some (.bl x), y, z] ∧ Same H H' ∧ H' D = some (.lst (ws.map fun w => V.str (tx w))) ∧ ws.length = i ∧ Along p (ChT p n bs) ms ws ∧ (x = true ↔ ∀ k, k < i → SafeA (wAt ws (k + 1)) p (n : Nat) bs ((k : Nat) + 1))) ⟨[], true, none, none, rfl, S1, hD1, rfl, .nil, ⟨fun _ k hk => absurd hk (by omega), fun _ => rfl⟩⟩ ?_ ?_
    · rintro i σ H2 hi ⟨ws, x, y, z, rfl, S2, hD2, wl, al, hx⟩
      have hi : i < ms.length := by omega
      obtain ⟨W, lp, cnt⟩ := al.word (by omega) mk i (by omega)
      have col := onesM_le (k := i) mk (by omega)
      obtain ⟨mv, hmv⟩ : ∃ mv, ms[i]? = some mv := ⟨_, List.getElem?_eq_getElem hi⟩
      have at1 : (ms.map ixV)[i]? = some (ixV mv) := by rw [List.getElem?_map, hmv]; rfl
      obtain ⟨m0, m1⟩ := mk.at_ hmv
      rw [← cnt] at m0 m1 col
      have wl2 := wout_len (l := wAt ws i) mv
      have Ww := wout_wd W mv
      have wc := wout_count1 m1
      have cl := List.count_le_length (a := true) (l := wAt ws i)
      refine ⟨fun σ H' => H' = H2 ∧ σ = [some (.ref g), some (.int p), some (.int (n : Nat)), some (.ref q), some (.str (tx (wout (wAt ws i) mv))), some (.ref D), some (.bl x), some (.int (i : Nat)), z], ?_, ?_⟩
      · walk_at "rd"
        refine ⟨g, _, _, _, rfl, rfl, SqL.of (S2 _ _ hg), by rw [Int.zero_add]; exact atI_nat at1, ?_⟩
        walk_at "rd"
        rw [Int.zero_add]
        cases mv with
        | none =>
          refine iteF ?_
          exact ⟨rfl, rfl⟩
        | some j =>
          refine iteT ?_
          walk_at "rd"
          refine ⟨g, _, _, _, rfl, rfl, SqL.of (S2 _ _ hg), atI_nat at1, ?_⟩
          walk_at "rd"
          refine ⟨by omega, m1 j rfl, ?_⟩
          exact ⟨rfl, rfl⟩
      rintro σ H3 ⟨rfl, rfl⟩
      walk_at "rd"
      refine ⟨small_le (by rw [tx_len]; omega), ?_⟩
      walk_at "rd"
      rw [tx_len]
      refine iti (fun e1 => ?_) (fun e1 => ?_)
      · walk_at "rd"
        refine ⟨by show 2 ≤ sizeLine; decide, fun t ht => ?_⟩
        have nt : t ≠ D := fun e => by rw [e, hD2] at ht; cases ht
        refine k t D ws false _ (S2.trans (Same.upd ht)) (S2.free ht) hD upd_same (Same.upd ht _ _ hD2) ⟨al, .inr ⟨mv, 0, ?_⟩⟩ ⟨fun h => (nomatch h), fun h => absurd h.1 (by omega)⟩
        rw [wl]
        refine ⟨hmv, ⟨Nat.zero_le _, fun h => absurd e1 (mostN_len h), fun j hj => absurd hj (Nat.not_lt_zero j)⟩, step_stuck e1⟩
      · walk_at "rd"
        refine ⟨wout (wAt ws i) mv, p, n, q, bs, (i : Nat), rfl, S2 _ _ hq, Ww, by omega, by omega, ?_, np, ok, by omega, fun dg m y2 H4 S4 hdg0 hdg few hy2 => ?_⟩
        · cases mv with
          | none => have := m0 rfl; have wc : (wout (wAt ws i) none).count true + 1 = (wAt ws i).count true + 1 := wc; omega
          | some j => have := m1 j rfl; have wc : (wout (wAt ws i) (some j)).count true + 1 = (wAt ws i).count true + 0 := wc; omega
        have fm := few_most few
        have S24 := S2.trans S4
        walk_at "rd"
        refine ⟨dg, _, _, _, rfl, rfl, SqL.of hdg, rfl, ?_⟩
        walk_at "rd"
        refine ⟨wout (wAt ws i) mv, m, p, rfl, Ww, by omega, by omega, fm, ?_⟩
        have mle := mvd_len (p := p) (l := wout (wAt ws i) mv) m
        refine ⟨_, _, rfl, rfl, by rw [tx_len]; show _ + 1 ≤ _; omega, ?_⟩
        rw [t1, tx_app]
        have hst := step_early (c := m) (i := mv) (l := wAt ws i) (p := p) e1 lp
        rw [Nat.min_eq_left fm, mid1, nrm_wd (mvd_wd Ww m)] at hst
        have al2 := al.snoc (i := mv) (m := m) (by rw [wl]; exact hmv) (by rw [wl]; exact few) (by rw [wl]; exact hst)
        have hD4 := S4 _ _ hD2
        have Sv := row_std (k := i + 1) n1 np (by omega) ok lm0 ln mk al2 (by rw [List.length_append, wl]; exact Nat.le_refl _)
        have ev : wAt (ws ++ [mvd p m (wout (wAt ws i) mv) ++ [true]]) (i + 1) = mvd p m (wout (wAt ws i) mv) ++ [true] := by rw [← wl]; exact wAt_last
        rw [ev] at Sv
        have hy3 : y2 = true ↔ SafeA (mvd p m (wout (wAt ws i) mv) ++ [true]) p (n : Nat) bs ((i : Nat) + 1) := by
          rw [hy2]
          unfold SafeT
          rw [mid1, nrm_wd (mvd_wd Ww m)]
          exact ⟨fun h => h.2.2.2, fun h => ⟨e1, np, Sv.cnt, h⟩⟩
        have nw : (x = true ∧ y2 = true) ↔ ∀ k, k < i + 1 → SafeA (wAt (ws ++ [mvd p m (wout (wAt ws i) mv) ++ [true]]) (k + 1)) p (n : Nat) bs ((k : Nat) + 1) := by
          rw [hx, hy3]
          constructor
          · rintro ⟨h1, h2⟩ k hk
            rcases Nat.lt_succ_iff_lt_or_eq.mp hk with h | h
            · rw [wAt_app (by omega)]; exact h1 k h
            · subst h; rw [ev]; exact h2
          · intro h
            refine ⟨fun k hk => ?_, ?_⟩
            · have := h k (by omega)
              rw [wAt_app (by omega)] at this
              exact this
            · have := h i (by omega)
              rw [ev] at this
              exact this
        have fin : ∀ (xx : Bool), (xx = true ↔ (x = true ∧ y2 = true)) → ∃ (ws' : List (List Bool)) (x' : Bool) (y' z' : Option V), [some (V.ref g), some (.int p), some (.int (n : Nat)), some (.ref q), some (.str (tx (mvd p m (wout (wAt ws i) mv) ++ [true]))), some (.ref D), some (.bl xx), some (.int (i : Nat)), some (.ref dg)] = [some (V.ref g), some (.int p), some (.int (n : Nat)), some (.ref q), some (.str (tx (wAt ws' (i + 1)))), some (.ref D), some (.bl x'), y', z'] ∧ Same H (upd H4 D (.lst (ws.map (fun w => V.str (tx w)) ++ [V.str (tx (mvd p m (wout (wAt ws i) mv) ++ [true]))]))) ∧ upd H4 D (.lst (ws.map (fun w => V.str (tx w)) ++ [V.str (tx (mvd p m (wout (wAt ws i) mv) ++ [true]))])) D = some (.lst (ws'.map fun w => V.str (tx w))) ∧ ws'.length = i + 1 ∧ Along p (ChT p n bs) ms ws' ∧ (x' = true ↔ ∀ k, k < i + 1 → SafeA (wAt ws' (k + 1)) p (n : Nat) bs ((k : Nat) + 1)) := fun xx hxx =>
          ⟨ws ++ [mvd p m (wout (wAt ws i) mv) ++ [true]], xx, _, _, by rw [ev], fun b o hb => by rw [upd_ne (ne_of_none hb hD)]; exact S24 b o hb, by rw [upd_same, List.map_append]; rfl, by rw [List.length_append, wl]; rfl, al2, hxx.trans nw⟩
        walk_at "rd"
        by_cases hxt : x = true
        · rw [if_pos hxt]
          walk_at "rd"
          refine ⟨dg, _, _, _, rfl, rfl, SqL.of hdg, rfl, ?_⟩
          walk_at "rd"
          refine ⟨.inl ⟨rfl, _, SqL.of hD4⟩, ?_⟩
          walk_at "rd"
          refine ⟨D, _, _, rfl, rfl, hD4, by rw [List.length_map]; omega, ?_⟩
          exact fin y2 ⟨fun h => ⟨hxt, h⟩, fun h => h.2⟩
        · rw [if_neg hxt]
          walk_at "rd"
          refine ⟨.inl ⟨rfl, _, SqL.of hD4⟩, ?_⟩
          walk_at "rd"
          refine ⟨D, _, _, rfl, rfl, hD4, by rw [List.length_map]; omega, ?_⟩
          exact fin false ⟨fun h => (nomatch h), fun h => absurd h.1 hxt⟩
    · rintro σ H2 ⟨ws, x, y, z, rfl, S2, hD2, wl, al, hx⟩
      walk_at "rd"
      refine ⟨by show 2 ≤ sizeLine; decide, fun t ht => ?_⟩
      rw [Int.toNat_natCast] at wl hx
      exact k t D ws x _ (S2.trans (Same.upd ht)) (S2.free ht) hD upd_same (Same.upd ht _ _ hD2) ⟨al, .inl wl⟩ (hx.trans ⟨fun h => ⟨wl, h⟩, fun h => h.2⟩)
end
end Cl

/-! ### law k57: asked, run -/
namespace Cl
open PySem PySem.Spec PyProof.Rows L2 StX ClX PySem.Builtin PySem.Builtin.Str
/-! lists of texts, of moves, compared with their copies -/
def ixD : Option Nat → PyData
  | none => .none
  | some k => .int (k : Nat)
theorem eqvAll_ixs : ∀ (as : List (Option Nat)), PyData.eqvAll (as.map ixD) (as.map ixD) = true
  | [] => by simp [PyData.eqvAll]
  | none :: as => by simp [PyData.eqvAll, PyData.eqv, ixD, eqvAll_ixs as]
  | some k :: as => by simp [PyData.eqvAll, PyData.eqv, ixD, eqvAll_ixs as]
theorem dpAll_ixs {K : PySem.W.Frag} {H : Hp} : ∀ (as : List (Option Nat)), DpAll K H (as.map ixV) (as.map ixD)
  | [] => .nil
  | none :: as => .cons .non (dpAll_ixs as)
  | some k :: as => .cons (.int _) (dpAll_ixs as)
theorem lay_ixs : ∀ (as : List (Option Nat)), PyData.canLayAll0 (as.map ixD) = true
  | [] => rfl
  | none :: as => by simp only [List.map_cons, PyData.canLayAll0, ixD, PyData.canLay0, lay_ixs as]; rfl
  | some k :: as => by simp only [List.map_cons, PyData.canLayAll0, ixD, PyData.canLay0, lay_ixs as]; rfl
theorem dep_ixs : ∀ (as : List (Option Nat)), PyData.depthAll (as.map ixD) = 0
  | [] => rfl
  | none :: as => by simp only [List.map_cons, PyData.depthAll, ixD, PyData.depth, dep_ixs as]; rfl
  | some k :: as => by simp only [List.map_cons, PyData.depthAll, ixD, PyData.depth, dep_ixs as]; rfl
theorem shaped_ixs (as : List (Option Nat)) : SeqAt.shaped (.list (as.map ixD)) = true := by
  show (PyData.canLayAll0 (as.map ixD) && decide (PyData.depthAll (as.map ixD) + 1 ≤ 64)) = true
  rw [lay_ixs as, dep_ixs]; rfl
theorem ned_ixs {K : PySem.W.Frag} {H : Hp} {a b : Addr} {ms : List (Option Nat)} {Q : VK} (ha : SqL K H a (ms.map ixV)) (hb : SqL K H b (ms.map ixV)) (q : Q (.bl false) H) : rNeD K (.ref a) (.ref b) H Q :=
  ⟨.list (ms.map ixD), .list (ms.map ixD), .lst ha (dpAll_ixs _), .lst hb (dpAll_ixs _), shaped_ixs ms, shaped_ixs ms, by
    show Q (.bl (!PyData.eqvAll (ms.map ixD) (ms.map ixD))) H
    rw [eqvAll_ixs]; exact q⟩
section
variable {P : Program} {w : World} {K : PySem.W.Frag} {mg : Str → Option Value} {base : Heap} {C C_Thrifty : Addr}
def spAskedK (C CT : Addr) : Sp := fun vs H Q _ => ∃ (ka g q r : Addr) (p : Int) (n : Nat) (bs : List Int), vs = [.ref ka, .ref g, .int p, .int (n : Nat), .ref q, .ref r] ∧ ThAt CT H ka (n : Nat) ∧ StandAt H g p (n : Nat) ∧ H q = some (.lst (bs.map V.int)) ∧ RoundAt C H r bs ∧ Okb bs ∧ 1 ≤ n ∧ ((n : Nat) : Int) ≤ p ∧ p ≤ 64 ∧ ∀ H', Same H H' → Q (.bl true) H'
theorem scLawAsked : FnScope ["keeper", "stand", "wide", "level", "pays", "made", "base", "word", "due", "told", "lasts"] ["keeper", "stand", "wide", "level", "pays", "made"] (defScope sLawAsked) := ⟨rfl, rfl, rfl, by decide +kernel, rfl, by decide +kernel, by decide +kernel⟩
set_option maxHeartbeats 0 in
theorem ok__law_asked {f : Addr} {fd : FuncData} (F : Fun K "_law_asked" "_law_asked" sLawAsked f fd) (B : Bi mg) (R_Thrifty : ClsC K mg "Thrifty" C_Thrifty) (M_Thrifty_choose : Mn P w K mg base C_Thrifty "choose" 12 ["self", "word", "places", "budgets", "phase"] (spThChoose C C_Thrifty)) (D__law_freed : Dn P w K mg base "_law_freed" 1 ["word", "index"] spFreedK)
    (D__law_carried : Dn P w K mg base "_law_carried" 1 ["word", "many"] spCarriedK) (D__law_thrifty : Dn P w K mg base "_law_thrifty" 3 ["word", "wide", "many", "pays", "beat"] spThrK) (D__law_safe : Dn P w K mg base "_law_safe" 2 ["word", "wide", "many", "pays", "beat"] spSafeK) (D__law_is_count : Dn P w K mg base "_law_is_count" 1 ["thing"] spCount)
    (D_safe_5 : Dn P w K mg base "safe" 9 ["word", "places", "limit", "budgets", "phase", "late"] (spSafe C) [.bl false]) : FnOk P w K mg base CX0 13 f fd ["keeper", "stand", "wide", "level", "pays", "made"] (spAskedK C C_Thrifty) := by
  refine F.ok scLawAsked (fun vs H Q E h => ?_) (fun cdv A outer s H vs Q E hr h => ?_)
  · obtain ⟨ka, g, q, r, p, n, bs, rfl, _⟩ := h
    rfl
  · obtain ⟨ka, g, q, r, p, n, bs, rfl, hT, ⟨l, i, ph, hg, W, lp, lc, ⟨hi0, hi1⟩, ph0, ph1⟩, hq, hR, ok, n1, np, p64, k⟩ := h
    refine ⟨_, (pss_cons (ps_set (i := 6) scLawAsked.nd rfl (Or.inl rfl) (pe_ix ix_list (pv 1) pe_int (fun _ _ => rfl)))
  (pss_cons (ps_set (i := 7) scLawAsked.nd rfl (Or.inl rfl) (pv 6))
  (C8.pss_cut (ps_if (pt_cmpR op_notN (pe_ix ix_list (pv 1) pe_int (fun _ _ => rfl)) pe_non (nomark _)) (pss_one (ps_set (i := 7) scLawAsked.nd rfl (Or.inl rfl) (pe_dn D__law_freed (hr.mono (by decide)) (by rfl) pass0 (pa_cons (pv 7) (pa_cons (pe_ix ix_list (pv 1) pe_int (fun _ _ => rfl)) pa_nil)))))
  pss_nil)
  (pss_cons (ps_set (i := 8) scLawAsked.nd rfl (Or.inl rfl) (pe_dn D__law_thrifty (hr.mono (by decide)) (by rfl) pass0 (pa_cons (pv 7) (pa_cons (pv 2) (pa_cons (pv 3) (pa_cons (pv 4) (pa_cons (pe_ix ix_list (pv 1) pe_int (fun _ _ => rfl)) pa_nil)))))))
  (pss_cons (ps_if (PW.pt (pw_and (pt_val (pe_dn D__law_safe (hr.mono (by decide)) (by rfl) pass0 (pa_cons (pv 6) (pa_cons (pv 2) (pa_cons (pv 3) (pa_cons (pv 4) (pa_cons (pe_ix ix_list (pv 1) pe_int (fun _ _ => rfl)) pa_nil))))))) (pw_and1 (pt_not (pt_val (pe_ix ix_list (pv 8) pe_int (fun _ _ => rfl))))))) (pss_one (ps_ret pe_bl))
  pss_nil)
  (pss_cons (ps_set (i := 9) scLawAsked.nd rfl (Or.inl rfl) (pe_mn M_Thrifty_choose R_Thrifty.cl (hr.mono (by decide)) pass0 (pv 0) (pa_cons (pv 7) (pa_cons (pv 2) (pa_cons (pv 5) (pa_cons (pe_ix ix_list (pv 1) pe_int (fun _ _ => rfl)) pa_nil))))))
  (pss_cons (ps_if (PW.pt (pw_or (pt_not (pt_val (pe_dn D__law_is_count (hr.mono (by decide)) (by rfl) pass0 (pa_cons (pv 9) pa_nil)))) (pw_or1 (pt_cmpR op_ne (pv 9) (pe_ix ix_list (pv 8) pe_int (fun _ _ => rfl)) (nomark _))))) (pss_one (ps_ret pe_bl))
  pss_nil)
  (pss_cons (ps_if (pt_cmpR op_eq (pe_callB call_len_str (by rfl) B.len PySem.boot_len (pa_cons (pv 7) pa_nil)) (pv 2) (nomark _)) (pss_one (ps_ret pe_bl))
  pss_nil)
  (pss_cons (ps_set (i := 10) scLawAsked.nd rfl (Or.inl rfl) (pe_dn D_safe_5 (hr.mono (by decide)) (by rfl) pass0 (pa_cons (pe_op op_add_str (pe_dn D__law_carried (hr.mono (by decide)) (by rfl) pass0 (pa_cons (pv 7) (pa_cons (pv 9) pa_nil))) pe_str) (pa_cons (pv 2) (pa_cons (pv 3) (pa_cons (pv 5) (pa_cons (pe_op op_add (pe_ix ix_list (pv 1) pe_int (fun _ _ => rfl)) pe_int) pa_nil)))))))
  (pss_one (ps_ret (pe_and (pe_callB call_isi (by rfl) B.isinstance (by decide +kernel) (pa_cons (pv 10) (pa_cons (pe_bltn (v := .ty "bool") (by rfl) B.boolT (by decide +kernel) rfl) pa_nil))) (pe_one (pe_cmpR op_eq (pv 10) (pe_ix ix_list (pv 8) pe_int (fun _ _ => rfl)) (nomark _))))))))))))))), ?_⟩
    have big : (20000 : Nat) ≤ sizeLine := by decide
    have cl := List.count_le_length (a := true) (l := l)
    have S : Std l p (n : Nat) bs ph := ⟨W, lp, lc, by omega, np, by omega, ok, ph0⟩
    have wl := wout_len (l := l) i
    have Ww := wout_wd W i
    have wc := wout_count1 hi1
    have wc2 : (wout l i).count true + 1 ≤ n := by
      cases i with
      | none => have := hi0 rfl; have wc : (wout l none).count true + 1 = l.count true + 1 := wc; omega
      | some j => have := hi1 j rfl; have wc : (wout l (some j)).count true + 1 = l.count true + 0 := wc; omega
    walk_at "rd"
    refine ⟨g, _, _, _, rfl, rfl, SqL.of hg, rfl, ?_⟩
    walk_at "rd"
    refine ⟨fun σ H' => H' = H ∧ σ = [some (.ref ka), some (.ref g), some (.int p), some (.int (n : Nat)), some (.ref q), some (.ref r), some (.str (tx l)), some (.str (tx (wout l i))), none, none, none], ?_, ?_⟩
    · walk_at "rd"
      refine ⟨g, _, _, _, rfl, rfl, SqL.of hg, rfl, ?_⟩
      walk_at "rd"
      cases i with
      | none =>
        refine iteF ?_
        exact ⟨rfl, rfl⟩
      | some j =>
        refine iteT ?_
        walk_at "rd"
        refine ⟨g, _, _, _, rfl, rfl, SqL.of hg, rfl, ?_⟩
        refine ⟨l, j, rfl, by omega, hi1 j rfl, ?_⟩
        exact ⟨rfl, rfl⟩
    rintro σ H1 ⟨rfl, rfl⟩
    walk_at "rd"
    refine ⟨g, _, _, _, rfl, rfl, SqL.of hg, rfl, ?_⟩
    refine ⟨wout l i, p, n, q, bs, ph, rfl, hq, Ww, by omega, by omega, wc2, np, ok, ph0, fun dg m y H2 S2 hdg0 hdg few hy => ?_⟩
    have fm := few_most few
    walk_at "rd"
    refine ⟨g, _, _, _, rfl, rfl, SqL.of (S2 _ _ hg), rfl, ?_⟩
    walk_at "rd"
    refine ⟨l, p, n, q, bs, ph, rfl, S2 _ _ hq, S, fun x hx => ?_⟩
    have yes : x = true → y = true := fun e => hy.mpr (by
      obtain ⟨a1, a2⟩ := safe_put S (hx.mp e) hi1 hi0
      exact ⟨a1, few.safe (Nat.le_refl _) a2⟩)
    refine ⟨_, rfl, ?_⟩
    refine' (fun (tail : True → _) => ?_) ?_
    rotate_left
    show if x = true then _ else _
    by_cases hxt : x = true
    · rw [if_pos hxt]
      walk_at "rd"
      refine ⟨dg, _, _, _, rfl, rfl, SqL.of hdg, rfl, ?_⟩
      refine ⟨_, rfl, ?_⟩
      rw [yes hxt]
      refine iteF ?_
      exact tail trivial
    · rw [if_neg hxt]
      refine iteF ?_
      exact tail trivial
    intro _
    obtain ⟨dk, hk⟩ := hT.same S2
    walk_at "rd"
    refine ⟨ka, dk, _, rfl, hk, thno_ "choose" (by decide) _, ?_⟩
    walk_at "rd"
    refine ⟨g, _, _, _, rfl, rfl, SqL.of (S2 _ _ hg), rfl, ?_⟩
    refine ⟨ka, wout l i, p, (n : Nat), r, bs, ph, rfl, ⟨dk, hk⟩, Ww, by omega, by omega, by omega, by omega, ok, hR.same S2, ph0, fun m' H3 S3 hm' => ?_⟩
    obtain rfl := few.one hm'
    have S23 := S2.trans S3
    have hdg3 := S3 _ _ hdg
    walk_at "rd"
    refine ⟨dg, _, _, _, rfl, rfl, SqL.of hdg3, rfl, ?_⟩
    refine ⟨rfl, _, rfl, ?_⟩
    rw [decide_eq_true rfl]
    refine iteF ?_
    walk_at "rd"
    refine ⟨small_le (by rw [tx_len]; omega), ?_⟩
    walk_at "rd"
    rw [tx_len]
    refine iti (fun e1 => ?_) (fun e1 => ?_)
    · walk_at "rd"
      exact k _ S23
    walk_at "rd"
    refine ⟨wout l i, m, p, rfl, Ww, by omega, by omega, fm, ?_⟩
    have ml := mvd_len (p := p) (l := wout l i) m
    refine ⟨_, _, rfl, rfl, by rw [tx_len]; show _ + 1 ≤ _; omega, ?_⟩
    rw [t1, tx_app]
    have e2 : nrm (mvd p m (wout l i) ++ [true]) = mvd p m (wout l i) ++ [true] := by rw [mid1, nrm_wd (mvd_wd Ww m)]
    have hc : (mvd p m (wout l i) ++ [true]).count true = (wout l i).count true + 1 := by rw [List.count_append, mvd_count1 Ww]; rfl
    have St : Std (mvd p m (wout l i) ++ [true]) p (n : Nat) bs (ph + 1) := ⟨wdp (mvd_wd Ww m), by rw [List.length_append, List.length_singleton]; omega, by rw [hc]; omega, by omega, np, by omega, ok, by omega⟩
    walk_at "rd"
    refine ⟨g, _, _, _, rfl, rfl, SqL.of (S23 _ _ hg), rfl, ?_⟩
    refine ⟨_, _, rfl, rfl, ?_⟩
    walk_at "rd"
    refine ⟨mvd p m (wout l i) ++ [true], p, (n : Nat), r, bs, ph + 1, false, rfl, St, hR.same S23, fun o H4 S4 ho => ?_⟩
    have S24 := S23.trans S4
    have hyo : decide (o = none) = y := by
      rw [Bool.eq_iff_iff, decide_eq_true_iff, hy]
      unfold SafeT
      rw [e2]
      constructor
      · rintro rfl
        exact ⟨e1, np, St.cnt, ho⟩
      · rintro ⟨_, _, _, h⟩
        exact ho.one h
    walk_at "rd"
    refine ⟨_, _, _, _, _, rfl, .ty _, .base (.bl _), kit_ty (by decide +kernel), true, rfl, iteT ?_⟩
    walk_at "rd"
    refine ⟨dg, _, _, _, rfl, rfl, SqL.of (S4 _ _ hdg3), rfl, ?_⟩
    refine ⟨rfl, ?_⟩
    rw [hyo, decide_eq_true rfl]
    exact k _ S24
end
end Cl

/-! ### law k57: a row run -/
namespace Cl
open PySem PySem.Spec PyProof.Rows L2 StX ClX PySem.Builtin PySem.Builtin.Str
theorem kit_ll7 (K : PySem.W.Frag) : PySem.W.kitOne K (.type "list") (.type "list") = some true := kit_ty (by decide +kernel)
section
variable {P : Program} {w : World} {K : PySem.W.Frag} {mg : Str → Option Value} {base : Heap} {C C_Thrifty : Addr}
def spRunsK (C CT : Addr) : Sp := fun vs H Q _ => ∃ (ka g q r : Addr) (ms : List (Option Nat)) (p lim : Int) (n : Nat) (bs : List Int), vs = [.ref ka, .ref g, .int p, .int lim, .int (n : Nat), .ref q, .ref r] ∧ ThAt CT H ka (n : Nat) ∧ H g = some (.lst (ms.map ixV)) ∧ H q = some (.lst (bs.map V.int)) ∧ RoundAt C H r bs ∧ Okb bs ∧ ms.length ≤ 200 ∧ MvOk lim 0 ms ∧ 1 ≤ lim ∧ lim ≤ (n : Nat) ∧ ((n : Nat) : Int) ≤ p ∧ p ≤ 64 ∧ ∀ H', Same H H' → Q (.bl true) H'
theorem scLawRuns : FnScope ["keeper", "moves", "wide", "many", "level", "pays", "made", "due", "handed", "told"] ["keeper", "moves", "wide", "many", "level", "pays", "made"] (defScope sLawRuns) := ⟨rfl, rfl, rfl, by decide +kernel, rfl, by decide +kernel, by decide +kernel⟩
set_option maxHeartbeats 0 in
theorem ok__law_runs {f : Addr} {fd : FuncData} (F : Fun K "_law_runs" "_law_runs" sLawRuns f fd) (B : Bi mg) (D__law_play : Dn P w K mg base "_law_play" 4 ["moves", "wide", "level", "pays"] spPlayK) (D__law_goes : Dn P w K mg base "_law_goes" 1 ["pays", "many", "wide"] spGoesK)
    (D_run_row : Dn P w K mg base "run_row" 14 ["keeper", "row", "places", "limit", "budgets"] (spRunT C C_Thrifty)) : FnOk P w K mg base CX0 15 f fd ["keeper", "moves", "wide", "many", "level", "pays", "made"] (spRunsK C C_Thrifty) := by
  refine F.ok scLawRuns (fun vs H Q E h => ?_) (fun cdv A outer s H vs Q E hr h => ?_)
  · obtain ⟨ka, g, q, r, ms, p, lim, n, bs, rfl, _⟩ := h
    rfl
  · obtain ⟨ka, g, q, r, ms, p, lim, n, bs, rfl, hT, hg, hq, hR, ok, ml, mk, lm1, ln, np, p64, k⟩ := h
    refine ⟨_, (pss_cons (ps_set (i := 7) scLawRuns.nd rfl (Or.inl rfl) (pe_dn D__law_play (hr.mono (by decide)) (by rfl) pass0 (pa_cons (pv 1) (pa_cons (pv 2) (pa_cons (pv 4) (pa_cons (pv 5) pa_nil))))))
  (pss_cons (ps_if (PW.pt (pw_and (pt_val (pe_dn D__law_goes (hr.mono (by decide)) (by rfl) pass0 (pa_cons (pv 5) (pa_cons (pv 4) (pa_cons (pv 2) pa_nil))))) (pw_and1 (PW.pt (pw_or (pt_not (pt_val (pe_ix ix_list (pv 7) pe_int (fun _ _ => rfl)))) (pw_or1 (pt_cmpR op_ne (pe_callB call_len_seq (by rfl) B.len PySem.boot_len (pa_cons (pe_ix ix_list (pv 7) pe_int (fun _ _ => rfl)) pa_nil)) (pe_callB call_len_seq (by rfl) B.len PySem.boot_len (pa_cons (pv 1) pa_nil)) (nomark _)))))))) (pss_one (ps_ret pe_bl))
  pss_nil)
  (pss_cons (ps_set (i := 8) scLawRuns.nd rfl (Or.inl rfl) (pe_callTy call_list_of (by rfl) B.listT (by decide +kernel) (pa_cons (pv 1) pa_nil)))
  (pss_cons (ps_set (i := 9) scLawRuns.nd rfl (Or.inl rfl) (pe_dn D_run_row (hr.mono (by decide)) (by rfl) pass0 (pa_cons (pv 0) (pa_cons (pv 8) (pa_cons (pv 2) (pa_cons (pv 3) (pa_cons (pv 6) pa_nil)))))))
  (pss_cons (ps_if (PW.pt (pw_or (pt_not (pt_val (pe_callB call_isi (by rfl) B.isinstance (by decide +kernel) (pa_cons (pv 9) (pa_cons (pe_bltn (v := .ty "list") (by rfl) B.listT (by decide +kernel) rfl) pa_nil))))) (pw_or (pt_cmpR (op_neD hr.units) (pv 9) (pe_ix ix_list (pv 7) pe_int (fun _ _ => rfl)) (nomark _)) (pw_or1 (pt_cmpR (op_neD hr.units) (pv 8) (pv 1) (nomark _)))))) (pss_one (ps_ret pe_bl))
  pss_nil)
  (pss_cons (ps_expr (pe_bm PySem.F.plainAttrs_list PySem.F.slot_list_append PySem.F.type_list_append mt_append (pv 9) (pa_cons pe_str pa_nil)))
  (pss_one (ps_ret (pe_cmpR (op_eqD hr.units) (pe_dn D_run_row (hr.mono (by decide)) (by rfl) pass0 (pa_cons (pv 0) (pa_cons (pv 8) (pa_cons (pv 2) (pa_cons (pv 3) (pa_cons (pv 6) pa_nil)))))) (pe_ix ix_list (pv 7) pe_int (fun _ _ => rfl)) (nomark _)))))))))), ?_⟩
    have big : (20000 : Nat) ≤ sizeLine := by decide
    have hml : (ms.map ixV).length = ms.length := List.length_map ..
    have n1 : 1 ≤ n := by omega
    have fn : ∀ l t m m', ChT p n bs l t m → ChT p n bs l t m' → m = m' := fun _ _ _ _ h h' => Few.one h h'
    walk_at "rd"
    refine ⟨g, q, ms, p, lim, n, bs, rfl, hg, hq, ml, mk, by omega, ln, n1, np, p64, ok, fun t D ws x H1 S1 ht0 hD0 ht hD hrow hx => ?_⟩
    walk_at "rd"
    refine ⟨q, bs, (n : Nat), p, rfl, S1 _ _ hq, ok, by omega, by omega, by omega, by omega, fun H2 S2 => ?_⟩
    have S12 := S1.trans S2
    have ht2 := S2 _ _ ht
    have hD2 := S2 _ _ hD
    refine ⟨_, rfl, ?_⟩
    refine' (fun (tail : True → _) => ?_) ?_
    rotate_left
    show if rgoes bs p (n : Nat) = true then _ else _
    by_cases hgo : rgoes bs p (n : Nat) = true
    · rw [if_pos hgo]
      have hl := goes_lasts n1 np (by omega) ok (by omega) ln mk hgo hrow
      have hx1 := hx.mpr hl
      walk_at "rd"
      refine ⟨t, _, _, _, rfl, rfl, SqL.of ht2, rfl, ?_⟩
      refine ⟨_, rfl, ?_⟩
      rw [hx1]
      refine iteF ?_
      walk_at "rd"
      refine ⟨t, _, _, _, rfl, rfl, SqL.of ht2, rfl, ?_⟩
      refine ⟨D, _, rfl, .inl (SqL.of hD2), ?_⟩
      rw [List.length_map]
      walk_at "rd"
      refine ⟨g, _, rfl, .inl (SqL.of (S12 _ _ hg)), ?_⟩
      rw [hml, hl.1]
      refine ⟨rfl, _, rfl, ?_⟩
      rw [decide_eq_true rfl]
      exact tail trivial
    · rw [if_neg hgo]
      exact tail trivial
    intro _
    walk_at "rd"
    refine ⟨g, _, rfl, .inl (SqL.of (S12 _ _ hg)), fun u hu => ?_⟩
    have S3 := S12.trans (Same.upd (o := .lst (ms.map ixV)) hu)
    have hu3 := upd_same (H := H2) (a := u) (o := .lst (ms.map ixV))
    have ht3 := Same.upd (o := .lst (ms.map ixV)) hu _ _ ht2
    have hD3 := Same.upd (o := .lst (ms.map ixV)) hu _ _ hD2
    generalize upd H2 u (.lst (ms.map ixV)) = H3 at S3 hu3 ht3 hD3 ⊢
    walk_at "rd"
    refine ⟨ka, u, ms, p, lim, n, r, bs, rfl, hu3, by omega, hT.same S3, lm1, by omega, by omega, n1, mk, ok, hR.same S3, fun ws' D' H4 S4 hD'0 hD' hrow' => ?_⟩
    obtain rfl := hrow.one fn hrow'
    have S34 := S3.trans S4
    have ht4 := S4 _ _ ht3
    have hD4 := S4 _ _ hD3
    have hu4 := S4 _ _ hu3
    walk_at "rd"
    refine ⟨_, _, _, _, _, rfl, .ty _, .base (.lst hD'), kit_ll7 _, _, rfl, iteF ?_⟩
    walk_at "rd"
    refine ⟨t, _, _, _, rfl, rfl, SqL.of ht4, rfl, ?_⟩
    refine ned_txs (SqL.of hD') (SqL.of hD4) ?_
    rw [decide_eq_true rfl]
    refine ⟨_, rfl, iteF ?_⟩
    walk_at "rd"
    refine ned_ixs (SqL.of hu4) (SqL.of (S34 _ _ hg)) ?_
    refine ⟨_, rfl, iteF ?_⟩
    walk_at "rd"
    refine ⟨.inl ⟨rfl, _, SqL.of hD'⟩, ?_⟩
    walk_at "rd"
    have wlen := hrow.al.le
    refine ⟨D', _, _, rfl, rfl, hD', by rw [List.length_map]; omega, ?_⟩
    have gr : ∀ c o, H3 c = some o → upd H4 D' (.lst (ws.map (fun w => V.str (tx w)) ++ [V.str (Str.ofString "1")])) c = some o := fun c o hc => by
      rw [upd_ne (ne_of_none hc hD'0)]; exact S4 _ _ hc
    have S5 : Same H (upd H4 D' (.lst (ws.map (fun w => V.str (tx w)) ++ [V.str (Str.ofString "1")]))) := fun c o hc => gr c o (S3 _ _ hc)
    have ht5 := gr _ _ ht3
    have hD5 := gr _ _ hD3
    have hu5 := gr _ _ hu3
    generalize upd H4 D' (.lst (ws.map (fun w => V.str (tx w)) ++ [V.str (Str.ofString "1")])) = H5 at S5 ht5 hD5 hu5 ⊢
    walk_at "rd"
    refine ⟨ka, u, ms, p, lim, n, r, bs, rfl, hu5, by omega, hT.same S5, lm1, by omega, by omega, n1, mk, ok, hR.same S5, fun ws' D'' H6 S6 hD''0 hD'' hrow'' => ?_⟩
    obtain rfl := hrow.one fn hrow''
    walk_at "rd"
    refine ⟨t, _, _, _, rfl, rfl, SqL.of (S6 _ _ ht5), rfl, ?_⟩
    refine eqd_txs (SqL.of hD'') (SqL.of (S6 _ _ hD5)) ?_
    rw [decide_eq_true rfl]
    exact k _ (S5.trans S6)
end
end Cl

/-! ### a comprehension whose element makes objects -/
namespace Cl
open PySem PySem.Spec PyProof.Rows L2
theorem lc_objW {J : It} {n : Nat} {G : Hp → Prop} {Y : Nat → Hp → V → Hp → Prop} (w : Walk J n G Y) {g : TG} {te : TE} {vs : List Nat} {σ : L2.St} {H1 : Hp} {D : Addr} {Qd : Hp → Prop} (Inv : List Addr → Hp → Prop) (hlen : n < 10000) (hG : ∀ H, G H) (h0 : Inv [] (upd H1 D (.lst [])))
    (hs : ∀ (i : Nat) (x : V) (gs : List Addr) (H H' : Hp) (R : V → Hp → Prop), i < n → H D = some (.lst (gs.map V.ref)) → gs.length = i → Inv gs H → Y i H x H' → (∀ a H2, H2 D = some (.lst (gs.map V.ref)) → Inv (gs ++ [a]) (upd H2 D (.lst ((gs ++ [a]).map V.ref))) → R (.ref a) H2) → g x (wipe σ vs) H' fun σ2 H2 => wipe σ2 vs = wipe σ vs ∧ te σ2 H2 R)
    (hd : ∀ (gs : List Addr) (H : Hp), H D = some (.lst (gs.map V.ref)) → gs.length = n → Inv gs H → Qd H) :
    ∃ W : Nat → Nat → Hp → Prop, (∃ m, W 0 m (upd H1 D (.lst []))) ∧ ∀ i m H, W i m H →
      (J.stop i H ∧ Qd H) ∨ (J.go i H ∧ ∃ Nx : Hp → Prop, (∀ H', Nx H' → ∃ m', m' < m ∧ W (i + 1) m' H') ∧ ∀ x H', J.yld i H x H' → g x (wipe σ vs) H' fun σ2 H2 => wipe σ2 vs = wipe σ vs ∧ tYes σ2 H2 fun b H3 =>
        if b = true then te σ2 H3 fun y H4 => ∃ acc, H4 D = some (.lst acc) ∧ acc.length < sizeLine ∧ Nx (upd H4 D (.lst (acc ++ [y]))) else Nx H3) := by
  refine lc_it w (fun i H => ∃ gs : List Addr, H D = some (.lst (gs.map V.ref)) ∧ gs.length = i ∧ Inv gs H) ⟨[], upd_same, rfl, h0⟩ (fun i H _ _ => hG H) ?_ (fun H ⟨gs, h1, h2, h3⟩ => hd gs H h1 h2 h3)
  rintro i x H H' hi ⟨gs, h1, h2, h3⟩ y
  have key := hs i x gs H H' (fun y H4 => ∃ acc, H4 D = some (.lst acc) ∧ acc.length < sizeLine ∧ ∃ gs : List Addr, upd H4 D (.lst (acc ++ [y])) D = some (.lst (gs.map V.ref)) ∧ gs.length = i + 1 ∧ Inv gs (upd H4 D (.lst (acc ++ [y])))) hi h1 h2 h3 y
    fun a H2 hk hI => ⟨gs.map V.ref, hk, ?_, gs ++ [a], by rw [upd_same, List.map_append]; rfl, by rw [List.length_append, h2]; rfl, ?_⟩
  · exact key
  · rw [List.length_map]
    have : (10000 : Nat) ≤ sizeLine := by decide
    omega
  · rw [List.map_append] at hI
    exact hI
end Cl

/-! ### law k57: the whole -/
namespace Cl
open PySem PySem.Spec PyProof.Rows L2 StX ClX PySem.Builtin PySem.Builtin.Str
theorem ThAt.but2 {CT a b : Addr} {H0 H H' : Hp} {n : Int} (h : ThAt CT H a n) (x : But b H H') (hb : BoxS H0 H b) : ThAt CT H' a n := h.butS x hb
theorem StandAt.upd {H : Hp} {D g : Addr} {p n : Int} {o : HO} (h : StandAt H g p n) (ne : g ≠ D) : StandAt (L2.upd H D o) g p n := by
  obtain ⟨l, i, ph, e, r⟩ := h
  exact ⟨l, i, ph, by rw [upd_ne ne]; exact e, r⟩
theorem StandAt.same {H H' : Hp} {g : Addr} {p n : Int} (h : StandAt H g p n) (x : Same H H') : StandAt H' g p n := by
  obtain ⟨l, i, ph, e, r⟩ := h
  exact ⟨l, i, ph, x _ _ e, r⟩
section
variable {P : Program} {w : World} {K : PySem.W.Frag} {mg : Str → Option Value} {base : Heap} {C C_Thrifty C_Keeper : Addr}
def spLaw (K : PySem.W.Frag) : Sp := fun vs H Q _ => ∃ (a : Addr) (ns : List Int), vs = [.ref a] ∧ SqL K H a (ns.map V.int) ∧ ns.length ≤ 63 ∧ ∀ H', Q (.bl true) H'
theorem scLaw : FnScope ["script", "box", "wide", "many", "level", "rises", "pays", "made", "keeper", "stands", "stand", "moves", "k"] ["script"] (defScope sLaw) := ⟨rfl, rfl, rfl, by decide +kernel, rfl, by decide +kernel, by decide +kernel⟩
set_option maxHeartbeats 0 in
theorem ok_law {f : Addr} {fd : FuncData} (F : Fun K "law" "law" sLaw f fd) (B : Bi mg) (R_Round : ClsC K mg "Round" C) (R_Thrifty : ClsC K mg "Thrifty" C_Thrifty) (MK_Thrifty : Ci P w K mg base C_Thrifty 3 ["self", "limit"] (spThInit C_Thrifty)) (I_Thrifty_Keeper : PySem.W.kitOne K (.ref C_Thrifty) (.ref C_Keeper) = some true) (S_Keeper : ClsN K mg "Keeper" C_Keeper)
    (P_Round_budgets : Pn P w K mg base C "budgets" 1 (spBudgets C)) (D__law_box : Dn P w K mg base "_law_box" 1 ["script", "at"] (spBoxS K)) (D__law_take : Dn P w K mg base "_law_take" 1 ["script", "box", "many"] (spTakeX K)) (D__law_pays : Dn P w K mg base "_law_pays" 2 ["script", "box", "most"] (spPaysX K)) (D__law_raised : Dn P w K mg base "_law_raised" 2 ["pays", "many", "wide"] spRaisedK)
    (D__law_round : Dn P w K mg base "_law_round" 7 ["pays"] (spRoundL C)) (D__law_stand : Dn P w K mg base "_law_stand" 3 ["script", "box", "wide", "level"] (spStandX K)) (D__law_asked : Dn P w K mg base "_law_asked" 13 ["keeper", "stand", "wide", "level", "pays", "made"] (spAskedK C C_Thrifty)) (D__law_moves : Dn P w K mg base "_law_moves" 3 ["script", "box", "many", "wide"] (spMovesX K))
    (D__law_runs : Dn P w K mg base "_law_runs" 15 ["keeper", "moves", "wide", "many", "level", "pays", "made"] (spRunsK C C_Thrifty)) : FnOk P w K mg base CX0 16 f fd ["script"] (spLaw K) := by
  refine F.ok scLaw (fun vs H Q E h => ?_) (fun cdv A outer s H vs Q E hr h => ?_)
  · obtain ⟨a, ns, rfl, _⟩ := h
    rfl
  · obtain ⟨sa, ns, rfl, hs, hn, k⟩ := h
    refine ⟨_, (pss_cons (ps_set (i := 1) scLaw.nd rfl (Or.inr rfl) (pe_dn D__law_box (hr.mono (by decide)) (by rfl) pass0 (pa_cons (pv 0) (pa_cons pe_int pa_nil))))
  (pss_cons (ps_set (i := 2) scLaw.nd rfl (Or.inr rfl) (pe_op op_add pe_int (pe_dn D__law_take (hr.mono (by decide)) (by rfl) pass0 (pa_cons (pv 0) (pa_cons (pv 1) (pa_cons (pe_ix ix_list (pe_lst (pa_cons pe_int (pa_cons pe_int (pa_cons pe_int (pa_cons pe_int pa_nil))))) (pe_dn D__law_take (hr.mono (by decide)) (by rfl) pass0 (pa_cons (pv 0) (pa_cons (pv 1) (pa_cons pe_int pa_nil)))) (fun _ _ => rfl)) pa_nil))))))
  (pss_cons (ps_set (i := 3) scLaw.nd rfl (Or.inl rfl) (pe_op op_add pe_int (pe_dn D__law_take (hr.mono (by decide)) (by rfl) pass0 (pa_cons (pv 0) (pa_cons (pv 1) (pa_cons (pe_callB (call_min2 rfl) (by rfl) B.min (by decide +kernel) (pa_cons (pv 2) (pa_cons pe_int pa_nil))) pa_nil))))))
  (C8.pss_cut (ps_if (pt_cmpR op_eq (pe_dn D__law_take (hr.mono (by decide)) (by rfl) pass0 (pa_cons (pv 0) (pa_cons (pv 1) (pa_cons pe_int pa_nil)))) pe_int (nomark _)) (pss_one (ps_set (i := 3) scLaw.nd rfl (Or.inl rfl) (pe_callB (call_max2 rfl) (by rfl) B.max (by decide +kernel) (pa_cons pe_int (pa_cons (pe_callB (call_min2 rfl) (by rfl) B.min (by decide +kernel) (pa_cons (pe_op op_sub (pe_op op_sub (pv 2) pe_int) (pe_op op_mod (pe_callTy call_int1 (by rfl) B.intT (by decide +kernel) (pa_cons (pv 3) pa_nil)) pe_int)) (pa_cons pe_int pa_nil))) pa_nil)))))
  pss_nil)
  (pss_cons (ps_set (i := 4) scLaw.nd rfl (Or.inr rfl) (pv 3))
  (C8.pss_cut (ps_if (pt_cmpR op_eq (pe_dn D__law_take (hr.mono (by decide)) (by rfl) pass0 (pa_cons (pv 0) (pa_cons (pv 1) (pa_cons pe_int pa_nil)))) pe_int (nomark _)) (pss_one (ps_set (i := 4) scLaw.nd rfl (Or.inr rfl) (pe_op op_add (pv 3) (pe_dn D__law_take (hr.mono (by decide)) (by rfl) pass0 (pa_cons (pv 0) (pa_cons (pv 1) (pa_cons (pe_op op_add (pe_op op_sub (pv 2) (pv 3)) pe_int) pa_nil)))))))
  pss_nil)
  (pss_cons (ps_set (i := 5) scLaw.nd rfl (Or.inl rfl) (pe_cmpR op_gt (pe_dn D__law_take (hr.mono (by decide)) (by rfl) pass0 (pa_cons (pv 0) (pa_cons (pv 1) (pa_cons pe_int pa_nil)))) pe_int (nomark _)))
  (pss_cons (ps_set (i := 1) scLaw.nd rfl (Or.inr rfl) (pe_dn D__law_box (hr.mono (by decide)) (by rfl) pass0 (pa_cons (pv 0) (pa_cons pe_int pa_nil))))
  (pss_cons (ps_set (i := 6) scLaw.nd rfl (Or.inl rfl) (pe_dn D__law_pays (hr.mono (by decide)) (by rfl) pass0 (pa_cons (pv 0) (pa_cons (pv 1) (pa_cons (pe_ix ix_list (pe_lst (pa_cons pe_int (pa_cons pe_int (pa_cons pe_int (pa_cons pe_int pa_nil))))) (pe_dn D__law_take (hr.mono (by decide)) (by rfl) pass0 (pa_cons (pv 0) (pa_cons (pv 1) (pa_cons pe_int pa_nil)))) (fun _ _ => rfl)) pa_nil)))))
  (C8.pss_cut (ps_if (pt_val (pv 5)) (pss_one (ps_set (i := 6) scLaw.nd rfl (Or.inl rfl) (pe_dn D__law_raised (hr.mono (by decide)) (by rfl) pass0 (pa_cons (pv 6) (pa_cons (pv 3) (pa_cons (pv 2) pa_nil))))))
  pss_nil)
  (pss_cons (ps_set (i := 7) scLaw.nd rfl (Or.inl rfl) (pe_dn D__law_round (hr.mono (by decide)) (by rfl) pass0 (pa_cons (pv 6) pa_nil)))
  (pss_cons (ps_set (i := 8) scLaw.nd rfl (Or.inl rfl) (pe_mki MK_Thrifty (hr.mono (by decide)) rfl R_Thrifty.mg pass0 (pa_cons (pv 4) pa_nil)))
  (pss_cons (ps_set (i := 1) scLaw.nd rfl (Or.inr rfl) (pe_dn D__law_box (hr.mono (by decide)) (by rfl) pass0 (pa_cons (pv 0) (pa_cons pe_int pa_nil))))
  (pss_cons (ps_setLc (i := 9) (own := [("k", 12)]) (g := gName 12) rfl scLaw.nd rfl rfl (sw_true rfl rfl rfl (by decide +kernel)) (pi_range1 rfl B.range (pa_cons pe_int pa_nil)) (blkOk_by (own := [("k", 12)]) (N := ["script", "box", "wide", "many", "level", "rises", "pays", "made", "keeper", "stands", "stand", "moves", "k"]) (sc := defScope sLaw) (by decide +kernel)) (fun _ _ _ _ _ => (pg_name (i := 12) scLaw.nd rfl (Or.inl rfl))) (fun _ _ _ _ _ => pts_nil) (fun _ _ _ _ _ => (pe_dn D__law_stand (hr.mono (by decide)) (by rfl) pass0 (pa_cons (pv 0) (pa_cons (pv 1) (pa_cons (pv 2) (pa_cons (pv 4) pa_nil)))))))
  (pss_cons (ps_for PassesOwn.never rfl (pi_list (pe_op op_cat (pv 9) (pe_slice sl_list (pv 9) po_none (po_some pe_int)))) (pg_name (i := 10) scLaw.nd rfl (Or.inl rfl))
  (pss_one (ps_if (pt_not (pt_val (pe_dn D__law_asked (hr.mono (by decide)) (by rfl) pass0 (pa_cons (pv 8) (pa_cons (pv 10) (pa_cons (pv 2) (pa_cons (pv 4) (pa_cons (pv 6) (pa_cons (pv 7) pa_nil))))))))) (pss_one (ps_ret pe_bl))
  pss_nil)))
  (pss_cons (ps_set (i := 11) scLaw.nd rfl (Or.inl rfl) (pe_dn D__law_moves (hr.mono (by decide)) (by rfl) pass0 (pa_cons (pv 0) (pa_cons (pe_dn D__law_box (hr.mono (by decide)) (by rfl) pass0 (pa_cons (pv 0) (pa_cons pe_int pa_nil))) (pa_cons (pv 3) (pa_cons (pv 2) pa_nil))))))
  (pss_cons (ps_if (pt_not (pt_val (pe_dn D__law_runs (hr.mono (by decide)) (by rfl) pass0 (pa_cons (pv 8) (pa_cons (pv 11) (pa_cons (pv 2) (pa_cons (pv 3) (pa_cons (pv 4) (pa_cons (pv 6) (pa_cons (pv 7) pa_nil)))))))))) (pss_one (ps_ret pe_bl))
  pss_nil)
  (pss_cons (ps_if (pt_not (pt_val (pe_dn D__law_asked (hr.mono (by decide)) (by rfl) pass0 (pa_cons (pv 8) (pa_cons (pe_ix ix_list (pv 9) pe_int (fun _ _ => rfl)) (pa_cons (pv 2) (pa_cons (pv 4) (pa_cons (pv 6) (pa_cons (pv 7) pa_nil))))))))) (pss_one (ps_ret pe_bl))
  pss_nil)
  (pss_one (ps_ret (pe_and (pe_callB (call_isD R_Thrifty.ic I_Thrifty_Keeper) (by rfl) B.isinstance (by decide +kernel) (pa_cons (pv 8) (pa_cons (pe_glob (v := .ref C_Keeper) rfl S_Keeper.g rfl) pa_nil))) (pe_one (pe_cmpR (op_eqD hr.units) (pe_pn P_Round_budgets R_Round.cl (hr.mono (by decide)) (pv 7)) (pv 6) (nomark _)))))))))))))))))))))))), ?_⟩
    walk_at "rd"
    refine ⟨sa, ns, 0, H, rfl, hs, Same.refl _, hn, fun b H1 hb hB1 S1 => ?_⟩
    walk_at "rd"
    refine ⟨by show 4 ≤ sizeLine; decide, fun u hu => ?_⟩
    have ub := hB1.ne hu
    walk_at "rd"
    refine ⟨sa, b, 4, ns, H, rfl, hs, hB1.put hu, by decide, by decide, fun d H2 d0 d1 hB2 b2 => ?_⟩
    have hu2 := b2 _ _ ub (upd_same (o := .lst [V.int 6, .int 12, .int 12, .int 30]))
    obtain ⟨tp, ht, t1, t2⟩ : ∃ tp : Int, atI [V.int 6, .int 12, .int 12, .int 30] d = some (.int tp) ∧ 1 ≤ tp ∧ tp ≤ 30 := by
      rcases (show d = 0 ∨ d = 1 ∨ d = 2 ∨ d = 3 by omega) with rfl | rfl | rfl | rfl
      · exact ⟨6, rfl, by decide, by decide⟩
      · exact ⟨12, rfl, by decide, by decide⟩
      · exact ⟨12, rfl, by decide, by decide⟩
      · exact ⟨30, rfl, by decide, by decide⟩
    refine ⟨u, _, _, _, rfl, rfl, SqL.of hu2, ht, ?_⟩
    walk_at "rd"
    refine ⟨sa, b, tp, ns, H, rfl, hs, hB2, t1, by omega, fun wd H3 wd0 wd1 hB3 b3 => ?_⟩
    walk_at "rd"
    have mn : 1 ≤ (if (12 : Int) < 1 + wd then 12 else 1 + wd) ∧ (if (12 : Int) < 1 + wd then 12 else 1 + wd) ≤ 1 + wd ∧ (if (12 : Int) < 1 + wd then 12 else 1 + wd) ≤ 12 := by split <;> omega
    refine ⟨sa, b, _, ns, H, rfl, hs, hB3, mn.1, by omega, fun mc H4 mc0 mc1 hB4 b4 => ?_⟩
    obtain ⟨p, ep⟩ : ∃ p : Int, 1 + wd = p := ⟨_, rfl⟩
    have p1 : 1 ≤ p := by omega
    have p30 : p ≤ 30 := by omega
    walk_at "rd"
    show C8.tCut _ _ _ [some (.ref sa), some (.ref b), some (.int (1 + wd)), some (.int (1 + mc)), none, none, none, none, none, none, none, none, none] H4
    rw [ep]
    refine ⟨fun σ H' => ∃ m : Int, σ = [some (.ref sa), some (.ref b), some (.int p), some (.int m), none, none, none, none, none, none, none, none, none] ∧ 1 ≤ m ∧ m ≤ p ∧ m ≤ 12 ∧ BoxS H H' b, ?_, ?_⟩
    · walk_at "rd"
      refine ⟨sa, b, 2, ns, H, rfl, hs, hB4, by decide, by decide, fun e H5 e0 e1 hB5 b5 => ?_⟩
      walk_at "rd"
      refine iti (fun e => ?_) (fun e => ?_)
      · walk_at "rd"
        have mod4 : 0 ≤ (1 + mc) % 4 := Int.emod_nonneg _ (by decide)
        refine ⟨?_, ?_, ?_, hB5⟩
        · split <;> omega
        · split
          · split <;> omega
          · omega
        · split
          · split <;> omega
          · omega
      · exact ⟨1 + mc, rfl, by omega, by omega, by omega, hB5⟩
    rintro σ H5 ⟨m, rfl, m1, mp, m12, hB5⟩
    walk_at "rd"
    show C8.tCut _ _ _ [some (.ref sa), some (.ref b), some (.int p), some (.int m), some (.int m), none, none, none, none, none, none, none, none] H5
    refine ⟨fun σ H' => ∃ n : Nat, σ = [some (.ref sa), some (.ref b), some (.int p), some (.int m), some (.int (n : Nat)), none, none, none, none, none, none, none, none] ∧ m ≤ (n : Nat) ∧ ((n : Nat) : Int) ≤ p ∧ BoxS H H' b, ?_, ?_⟩
    · obtain ⟨m', rfl⟩ : ∃ m' : Nat, m = (m' : Nat) := ⟨m.toNat, by omega⟩
      walk_at "rd"
      refine ⟨sa, b, 3, ns, H, rfl, hs, hB5, by decide, by decide, fun e H6 e0 e1 hB6 b6 => ?_⟩
      walk_at "rd"
      refine iti (fun e => ?_) (fun e => ?_)
      · walk_at "rd"
        refine ⟨sa, b, _, ns, H, rfl, hs, hB6, by show 1 ≤ p - (m' : Nat) + 1; omega, by omega, fun lv H7 lv0 lv1 hB7 b7 => ?_⟩
        walk_at "rd"
        exact ⟨m' + lv.toNat, by rw [show (((m' + lv.toNat : Nat)) : Int) = (m' : Nat) + lv by omega]; rfl, by omega, by omega, hB7⟩
      · exact ⟨m', rfl, by omega, mp, hB6⟩
    rintro σ H6 ⟨n, rfl, mn, np, hB6⟩
    walk_at "rd"
    refine ⟨sa, b, 3, ns, H, rfl, hs, hB6, by decide, by decide, fun e H7 e0 e1 hB7 b7 => ?_⟩
    walk_at "rd"
    refine ⟨sa, ns, 1, H, rfl, hs, hB7.2.1, hn, fun c H8 hc hC8 S8 => ?_⟩
    walk_at "rd"
    refine ⟨by show 4 ≤ sizeLine; decide, fun u hu => ?_⟩
    have uc := hC8.ne hu
    walk_at "rd"
    refine ⟨sa, c, 4, ns, H, rfl, hs, hC8.put hu, by decide, by decide, fun d H9 d0 d1 hC9 c9 => ?_⟩
    have hu9 := c9 _ _ uc (upd_same (o := .lst [V.int 1, .int 3, .int 3, .int 12]))
    obtain ⟨tp, ht, t1, t2⟩ : ∃ tp : Int, atI [V.int 1, .int 3, .int 3, .int 12] d = some (.int tp) ∧ 1 ≤ tp ∧ tp ≤ 12 := by
      rcases (show d = 0 ∨ d = 1 ∨ d = 2 ∨ d = 3 by omega) with rfl | rfl | rfl | rfl
      · exact ⟨1, rfl, by decide, by decide⟩
      · exact ⟨3, rfl, by decide, by decide⟩
      · exact ⟨3, rfl, by decide, by decide⟩
      · exact ⟨12, rfl, by decide, by decide⟩
    refine ⟨u, _, _, _, rfl, rfl, SqL.of hu9, ht, ?_⟩
    walk_at "rd"
    refine ⟨sa, c, tp, ns, H, rfl, hs, hC9, t1, t2, fun g bs H10 hg0 hg l1 l2 bb hC10 c10 => ?_⟩
    walk_at "rd"
    show C8.tCut _ _ _ [some (.ref sa), some (.ref c), some (.int p), some (.int m), some (.int (n : Nat)), some (.bl (decide (0 < e))), some (.ref g), none, none, none, none, none, none] H10
    generalize decide (0 < e) = rises
    refine ⟨fun σ H' => ∃ (g : Addr) (bs : List Int), σ = [some (.ref sa), some (.ref c), some (.int p), some (.int m), some (.int (n : Nat)), some (.bl rises), some (.ref g), none, none, none, none, none, none] ∧ H' g = some (.lst (bs.map V.int)) ∧ Okb bs ∧ Same H H', ?_, ?_⟩
    · walk_at "rd"
      cases rises
      · refine iteF ?_
        exact ⟨g, bs, rfl, hg, okb_of l1 l2 bb (by decide), hC10.2.1⟩
      · refine iteT ?_
        walk_at "rd"
        refine ⟨g, bs, m, p, rfl, hg, l1, l2, bb, m1, by omega, by omega, by omega, fun g' bs' H11 S11 hg' _ ok' => ?_⟩
        exact ⟨g', bs', rfl, hg', ok', hC10.2.1.trans S11⟩
    rintro σ H11 ⟨g, bs, rfl, hg11, ok, S11⟩
    walk_at "rd"
    refine ⟨g, bs, rfl, hg11, ok, fun rr H12 hR12 S12 => ?_⟩
    walk_at "rd"
    intro ka dk hka hdk nka
    refine ⟨ka, dk, (n : Nat), rfl, upd_same, by omega, fun H13 eH => ⟨rfl, ?_⟩⟩
    have hT13 : ThAt C_Thrifty H13 ka (n : Nat) := ⟨dk, by rw [eH, upd_same]⟩
    have S13 : Same H12 H13 := fun a o ha => by
      rw [eH, upd_ne (ne_of_none ha hka), upd_ne (ne_of_none ha hka), upd_ne (ne_of_none ha hdk)]
      exact ha
    clear eH
    have hg13 := S13 _ _ (S12 _ _ hg11)
    have hR13 := hR12.same S13
    have S013 := (S11.trans S12).trans S13
    walk_at "rd"
    refine ⟨sa, ns, 2, H, rfl, hs, S013, hn, fun z H14 hz hZ14 S14 => ?_⟩
    have gz : g ≠ z := ne_of_none hg13 hz
    have hg14 := S14 _ _ hg13
    have hR14 := hR13.same S14
    have hT14 := hT13.same S14
    walk_at "rd"
    refine ⟨by decide, by decide, fun D hD => ?_⟩
    have Dz := hZ14.ne hD
    have HD : H D = none := hZ14.2.1.free hD
    refine lc_objW walk_range (fun gs G => BoxS H G z ∧ But z H14 G ∧ ∀ a ∈ gs, StandAt G a p (n : Nat) ∧ a ≠ D ∧ a ≠ z) (by decide) (fun _ => trivial) ⟨hZ14.set Dz HD, (But.refl z H14).grow hD, fun a ha => (nomatch ha)⟩ ?_ ?_
    · rintro i x gs G G' R hi hG hl ⟨gZ, gb, gs0⟩ ⟨rfl, rfl⟩ hR
      refine ⟨rfl, ?_⟩
      walk_at "rd"
      refine ⟨sa, z, p, (n : Nat), ns, H, rfl, hs, gZ, p1, by omega, by omega, fun a G2 ha hSt gZ2 gb2 => ?_⟩
      have aD : a ≠ D := fun e => by rw [e, hG] at ha; cases ha
      refine hR a G2 (gb2 _ _ Dz hG) ⟨gZ2.set Dz HD, (gb.trans gb2).grow hD, fun a' ha' => ?_⟩
      rcases List.mem_append.mp ha' with h | h
      · obtain ⟨s1, s2, s3⟩ := gs0 a' h
        exact ⟨(s1.but gb2 s3).upd s2, s2, s3⟩
      · rw [List.mem_singleton.mp h]
        exact ⟨hSt.upd aD, aD, gZ.ne ha⟩
    intro gs G hGD hgl ⟨gZ, gb, gs0⟩
    have hgG := gb _ _ gz hg14
    have hRG := hR14.butS gb hZ14
    have hTG := hT14.butS gb hZ14
    have SG := gZ.2.1
    walk_at "rd"
    refine ⟨D, _, rfl, SqL.of hGD, fun u hu => ?_⟩
    have big : (20000 : Nat) ≤ sizeLine := by decide
    have cutl : (cutV (gs.map V.ref) none (some 1)).length ≤ 3 := by
      unfold cutV
      rw [List.length_take, List.length_drop, List.length_map]
      omega
    refine ⟨D, u, _, _, rfl, rfl, Same.upd hu _ _ hGD, upd_same, by rw [List.length_map]; omega, fun v hv => ?_⟩
    have S1 := (Same.upd (o := .lst (cutV (gs.map V.ref) none (some 1))) hu).trans (Same.upd (o := .lst (gs.map V.ref ++ cutV (gs.map V.ref) none (some 1))) hv)
    have hv1 := upd_same (H := upd G u (.lst (cutV (gs.map V.ref) none (some 1)))) (a := v) (o := .lst (gs.map V.ref ++ cutV (gs.map V.ref) none (some 1)))
    generalize upd (upd G u (.lst (cutV (gs.map V.ref) none (some 1)))) v (.lst (gs.map V.ref ++ cutV (gs.map V.ref) none (some 1))) = G1 at S1 hv1 ⊢
    refine ⟨v, rfl, ⟨_, SqL.of hv1⟩, ?_⟩
    refine for_list (xs := gs.map V.ref ++ cutV (gs.map V.ref) none (some 1)) (fun i σ H' => ∃ x : Option V, σ = [some (.ref sa), some (.ref z), some (.int p), some (.int m), some (.int (n : Nat)), some (.bl rises), some (.ref g), some (.ref rr), some (.ref ka), some (.ref D), x, none, none] ∧ Same G1 H') ⟨_, rfl, Same.refl _⟩ (fun i σ H' _ ⟨_, _, S'⟩ => SqL.of (S' _ _ hv1)) ?_ ?_
    · rintro i x σ G2 hi ⟨x10, rfl, S2⟩
      obtain ⟨a, ha, rfl⟩ : ∃ a ∈ gs, x = V.ref a := by
        have hm := List.mem_of_getElem? hi
        rcases List.mem_append.mp hm with h | h
        · obtain ⟨a, ha, rfl⟩ := List.mem_map.mp h
          exact ⟨a, ha, rfl⟩
        · unfold cutV at h
          obtain ⟨a, ha, rfl⟩ := List.mem_map.mp (List.mem_of_mem_drop (List.mem_of_mem_take h))
          exact ⟨a, ha, rfl⟩
      have S12 := S1.trans S2
      walk_at "rd"
      refine ⟨ka, a, g, rr, p, n, bs, rfl, hTG.same S12, (gs0 a ha).1.same S12, S12 _ _ hgG, hRG.same S12, ok, by omega, np, by omega, fun G3 S3 => ?_⟩
      refine ⟨_, rfl, iteF ?_⟩
      exact ⟨_, rfl, S2.trans S3⟩
    rintro σ G2 ⟨x10, rfl, S2⟩
    have S12 := S1.trans S2
    walk_at "rd"
    refine ⟨sa, ns, 3, H, rfl, hs, SG.trans S12, hn, fun y G3 hy hY S3 => ?_⟩
    have S13 := S12.trans S3
    have hg3 := S13 _ _ hgG
    have gy : g ≠ y := ne_of_none ((S12 _ _ hgG)) hy
    have Dy : D ≠ y := ne_of_none (S12 _ _ hGD) hy
    have hR3 := hRG.same S13
    have hT3 := hTG.same S13
    walk_at "rd"
    refine ⟨sa, y, m, p, ns, H, rfl, hs, hY, p1, by omega, m1, fun mg_ ms G4 hm0 hm4 mk ml1 ml2 hY4 b4 => ?_⟩
    have hg4 := b4 _ _ gy hg3
    have hR4 := hR3.butS b4 hY
    have hT4 := hT3.butS b4 hY
    have hD4 := b4 _ _ Dy (S13 _ _ hGD)
    walk_at "rd"
    refine ⟨ka, mg_, g, rr, ms, p, m, n, bs, rfl, hT4, hm4, hg4, hR4, ok, ml2, mk, m1, mn, np, by omega, fun G5 S5 => ?_⟩
    refine ⟨_, rfl, iteF ?_⟩
    have at1 : ∃ a ∈ gs, (gs.map V.ref)[1]? = some (V.ref a) := by
      have : 1 < gs.length := by omega
      exact ⟨gs[1], List.getElem_mem this, by rw [List.getElem?_map, List.getElem?_eq_getElem this]; rfl⟩
    obtain ⟨a1, ha1, e1⟩ := at1
    have a1y : a1 ≠ y := by
      obtain ⟨l, i, ph, e, _⟩ := (gs0 a1 ha1).1.same S12
      exact ne_of_none e hy
    have hS5 := (((gs0 a1 ha1).1.same S13).but b4 a1y).same S5
    walk_at "rd"
    refine ⟨D, _, _, _, rfl, rfl, SqL.of (S5 _ _ hD4), atI_nat (j := 1) e1, ?_⟩
    walk_at "rd"
    refine ⟨ka, a1, g, rr, p, n, bs, rfl, hT4.same S5, hS5, S5 _ _ hg4, hR4.same S5, ok, by omega, np, by omega, fun G6 S6 => ?_⟩
    refine ⟨_, rfl, iteF ?_⟩
    have S56 := S5.trans S6
    obtain ⟨dk6, hk6⟩ := hT4.same S56
    walk_at "rd"
    refine ⟨ka, dk6, _, rfl, hk6, ?_⟩
    refine ⟨_, rfl, iteT ?_⟩
    obtain ⟨dr, tr, hr1, hr2⟩ := hR4.same S56
    walk_at "rd"
    refine ⟨rr, dr, _, rfl, hr1, rr, bs, rfl, ⟨dr, tr, hr1, hr2⟩, fun v hv => ?_⟩
    walk_at "rd"
    refine eqd_ints (as := bs) (bs := bs) (SqL.of upd_same) (SqL.of (Same.upd hv _ _ (S56 _ _ hg4))) ?_
    rw [decide_eq_true rfl]
    exact k _
end
end Cl

namespace Cl
theorem fo_field : PySem.OwnX.FlOk "field" := ⟨by intros; rfl, rfl, rfl, rfl, by decide, by decide, by decide, by intro v; rfl⟩
theorem fo_length : PySem.OwnX.FlOk "length" := ⟨by intros; rfl, rfl, rfl, rfl, by decide, by decide, by decide, by intro v; rfl⟩
theorem so_NoPlace : OwnSt sNoplaceInit "length" false := ⟨_, _, _, _, _, _, _, _, _, _, _, _, rfl, rfl, rfl, rfl, .con _ _ _⟩
theorem so_InvalidInput : OwnSt sInvalidinputInit "field" true := ⟨_, _, _, _, _, _, _, _, _, _, _, _, rfl, rfl, rfl, rfl, .fmt _ _ _ _ _ _ _ _ _ (by decide) (by decide)⟩
open StX ClX
set_option maxHeartbeats 0 in
theorem all_mk {l : PySem.W.OpenLaw} {w : World} {K : PySem.W.Frag} {h : Heap} {mg : Str → Option Value} {fa C C_NoPlace C_InvalidInput C_Thrifty C_Keeper : Addr} (X : K.In h) (G : h.Ns mainGlobals mg) (hfa : mg "law" = some (.ref fa))
    (e_NoPlace : ErrAt l.prog K "NoPlace" C_NoPlace "length" false)
    (e_InvalidInput : ErrAt l.prog K "InvalidInput" C_InvalidInput "field" true)
    (zsuper : PySem.W.nsIn K mainGlobals "super" = some none)
    (n_Keeper : NamAt K "Keeper" C_Keeper)
    (c_Round : AtC K "Round" C)
    (v_Round : ∃ mc u, CRead K C mc ∧ CVal K C mc "MOST" (.int 12) u)
    (c_Thrifty : AtC K "Thrifty" C_Thrifty)
    (mM_NoPlace_NoPlace : PySem.W.exmOne K (.ref C_NoPlace) (.ref C_NoPlace) = some true)
    (iI_Thrifty_Keeper : PySem.W.kitOne K (.ref C_Thrifty) (.ref C_Keeper) = some true)
    (naN_Round : PySem.W.findIn K (.ref C) "_budgets" = some none)
    (naN_Thrifty : PySem.W.findIn K (.ref C_Thrifty) "_limit" = some none)
    (t_is_whole : AtTop K "is_whole" "is_whole" sIsWhole [])
    (t_check_least : AtTop K "check_least" "check_least" sCheckLeast [])
    (t_consists_of : AtTop K "consists_of" "consists_of" sConsistsOf [])
    (t__freed : AtTop K "_freed" "_freed" sFreed [])
    (t_is_word : AtTop K "is_word" "is_word" sIsWord [])
    (t_check_word : AtTop K "check_word" "check_word" sCheckWord [])
    (t_living : AtTop K "living" "living" sLiving [])
    (t__ones : AtTop K "_ones" "_ones" sOnes [])
    (t_depths : AtTop K "depths" "depths" sDepths [])
    (t__check_index : AtTop K "_check_index" "_check_index" sCheckIndex [])
    (t__check_fits : AtTop K "_check_fits" "_check_fits" sCheckFits [])
    (t__without : AtTop K "_without" "_without" sWithout [])
    (t__moved : AtTop K "_moved" "_moved" sMoved [])
    (t_release : AtTop K "release" "release" sRelease [])
    (t_carry : AtTop K "carry" "carry" sCarry [])
    (t__appended : AtTop K "_appended" "_appended" sAppended [])
    (t_append_record : AtTopP K "append_record" "append_record" sAppendRecord [.str "1"])
    (t_step : AtTop K "step" "step" sStep [("late", V.bl false)])
    (t_Round___init__ : AtCls K C "__init__" "Round.__init__" sRoundInit)
    (t_Round_budgets : AtProp K C "budgets" "Round.budgets" sRoundBudgets)
    (t_Round___len__ : AtCls K C "__len__" "Round.__len__" sRoundLen)
    (t_Round___eq__ : AtCls K C "__eq__" "Round.__eq__" sRoundEq)
    (t_Round___add__ : AtCls K C "__add__" "Round.__add__" sRoundAdd)
    (t_Round_at : AtCls K C "at" "Round.at" sRoundAt)
    (t_Round_total : AtCls K C "total" "Round.total" sRoundTotal)
    (t_check_round : AtTop K "check_round" "check_round" sCheckRound [])
    (t_check_limit_fits : AtTop K "check_limit_fits" "check_limit_fits" sCheckLimitFits [])
    (t_check_standing_fits : AtTop K "check_standing_fits" "check_standing_fits" sCheckStandingFits [])
    (t_check_standing_alone : AtTop K "check_standing_alone" "check_standing_alone" sCheckStandingAlone [])
    (t_check_standing : AtTop K "check_standing" "check_standing" sCheckStanding [])
    (t_places_in_play : AtTop K "places_in_play" "places_in_play" sPlacesInPlay [])
    (t_first_short : AtTop K "first_short" "first_short" sFirstShort [])
    (t_blocks : AtTop K "blocks" "blocks" sBlocks [])
    (t_falls_short : AtTop K "falls_short" "falls_short" sFallsShort [])
    (t_blocked_at : AtTopB K "blocked_at" "blocked_at" sBlockedAt [.int 0] [("late", .bl false)])
    (t_short_at : AtTopB K "short_at" "short_at" sShortAt [.int 0] [("late", .bl false)])
    (t_life : AtTopB K "life" "life" sLife [.int 0] [("late", .bl false)])
    (t_Round__totals : AtCls K C "_totals" "Round._totals" sRoundTotals)
    (t_Round_least : AtCls K C "least" "Round.least" sRoundLeast)
    (t_safe : AtTopB K "safe" "safe" sSafe [.int 0] [("late", .bl false)])
    (t__law_box : AtTop K "_law_box" "_law_box" sLawBox [])
    (t__law_take : AtTop K "_law_take" "_law_take" sLawTake [])
    (t__check_moment : AtTop K "_check_moment" "_check_moment" sCheckMoment [])
    (t_most_carries : AtTop K "most_carries" "most_carries" sMostCarries [])
    (t__is_safe_after : AtTop K "_is_safe_after" "_is_safe_after" sIsSafeAfter [])
    (t_fewest_carries : AtTop K "fewest_carries" "fewest_carries" sFewestCarries [])
    (t_Thrifty___init__ : AtCls K C_Thrifty "__init__" "Thrifty.__init__" sThriftyInit)
    (t_Thrifty_choose : AtCls K C_Thrifty "choose" "Thrifty.choose" sThriftyChoose)
    (t_ring_moves : AtTop K "ring_moves" "ring_moves" sRingMoves [])
    (t_stepped : AtTop K "stepped" "stepped" sStepped [])
    (t_check_terms : AtTop K "check_terms" "check_terms" sCheckTerms [])
    (t__played : AtTop K "_played" "_played" sPlayed [])
    (t_run_row : AtTop K "run_row" "run_row" sRunRow [])
    (t__law_is_count : AtTop K "_law_is_count" "_law_is_count" sLawIsCount [])
    (t__law_round : AtTop K "_law_round" "_law_round" sLawRound [])
    (t__law_freed : AtTop K "_law_freed" "_law_freed" sLawFreed [])
    (t__law_carried : AtTop K "_law_carried" "_law_carried" sLawCarried [])
    (t__law_safe : AtTop K "_law_safe" "_law_safe" sLawSafe [])
    (t__law_thrifty : AtTop K "_law_thrifty" "_law_thrifty" sLawThrifty [])
    (t__law_pays : AtTop K "_law_pays" "_law_pays" sLawPays [])
    (t__law_goes : AtTop K "_law_goes" "_law_goes" sLawGoes [])
    (t__law_raised : AtTop K "_law_raised" "_law_raised" sLawRaised [])
    (t__law_move : AtTop K "_law_move" "_law_move" sLawMove [])
    (t__law_word : AtTop K "_law_word" "_law_word" sLawWord [])
    (t__law_stand : AtTop K "_law_stand" "_law_stand" sLawStand [])
    (t__law_moves : AtTop K "_law_moves" "_law_moves" sLawMoves [])
    (t__law_play : AtTop K "_law_play" "_law_play" sLawPlay [])
    (t__law_asked : AtTop K "_law_asked" "_law_asked" sLawAsked [])
    (t__law_runs : AtTop K "_law_runs" "_law_runs" sLawRuns [])
    (t_law : AtTop K "law" "law" sLaw [])
    (z_len : PySem.W.nsIn K mainGlobals "len" = some none)
    (z_abs : PySem.W.nsIn K mainGlobals "abs" = some none)
    (z_max : PySem.W.nsIn K mainGlobals "max" = some none)
    (z_min : PySem.W.nsIn K mainGlobals "min" = some none)
    (z_sum : PySem.W.nsIn K mainGlobals "sum" = some none)
    (z_all : PySem.W.nsIn K mainGlobals "all" = some none)
    (z_any : PySem.W.nsIn K mainGlobals "any" = some none)
    (z_range : PySem.W.nsIn K mainGlobals "range" = some none)
    (z_isinstance : PySem.W.nsIn K mainGlobals "isinstance" = some none)
    (z_intT : PySem.W.nsIn K mainGlobals "int" = some none)
    (z_strT : PySem.W.nsIn K mainGlobals "str" = some none)
    (z_boolT : PySem.W.nsIn K mainGlobals "bool" = some none)
    (z_listT : PySem.W.nsIn K mainGlobals "list" = some none)
    (z_divmod : PySem.W.nsIn K mainGlobals "divmod" = some none)
    (z_tupleT : PySem.W.nsIn K mainGlobals "tuple" = some none)
    (z_reversed : PySem.W.nsIn K mainGlobals "reversed" = some none)
    (z_repr : PySem.W.nsIn K mainGlobals "repr" = some none)
    (z_enumerate : PySem.W.nsIn K mainGlobals "enumerate" = some none)
    (z_zip : PySem.W.nsIn K mainGlobals "zip" = some none)
    (z_ValueErrorT : PySem.W.nsIn K mainGlobals "ValueError" = some none)
    : ∃ fd : FuncData, (∀ (s : Shared) (v : Value), BindsTo s fd ⟨[v], []⟩ [("script", v)]) ∧ ∀ base : Heap, K.In base → base.Ns mainGlobals mg → FnOk l.prog w K mg base CX0 16 fa fd ["script"] (spLaw K) := by
  obtain ⟨f, fd, a, F, FD⟩ := t_law.ex
  have e := hfa.symm.trans (PySem.W.mg_of X G a)
  cases e
  have B : Bi mg := ⟨PySem.W.mg_none_of X G z_len, PySem.W.mg_none_of X G z_abs, PySem.W.mg_none_of X G z_max, PySem.W.mg_none_of X G z_min, PySem.W.mg_none_of X G z_sum, PySem.W.mg_none_of X G z_all, PySem.W.mg_none_of X G z_any, PySem.W.mg_none_of X G z_range, PySem.W.mg_none_of X G z_isinstance, PySem.W.mg_none_of X G z_intT, PySem.W.mg_none_of X G z_strT, PySem.W.mg_none_of X G z_boolT, PySem.W.mg_none_of X G z_listT, PySem.W.mg_none_of X G z_divmod, PySem.W.mg_none_of X G z_tupleT, PySem.W.mg_none_of X G z_reversed, PySem.W.mg_none_of X G z_repr, PySem.W.mg_none_of X G z_enumerate, PySem.W.mg_none_of X G z_zip, PySem.W.mg_none_of X G z_ValueErrorT⟩
  refine ⟨fd, fun s v => FD.bindsA (ps := ["script"]) (fun _ _ _ _ _ _ us hl => match us, hl with | [_], _ => rfl) s [v] rfl, fun base _ _ => ?_⟩
  have E_NoPlace : ErrC l.prog K mg "NoPlace" C_NoPlace "length" false := e_NoPlace.ec X G zsuper
  have E_InvalidInput : ErrC l.prog K mg "InvalidInput" C_InvalidInput "field" true := e_InvalidInput.ec X G zsuper
  have S_Keeper : ClsN K mg "Keeper" C_Keeper := n_Keeper.cn X G
  have R_Round : ClsC K mg "Round" C := c_Round.cc X G
  have V_Round : CV K C "MOST" (.int 12) := ⟨v_Round⟩
  have R_Thrifty : ClsC K mg "Thrifty" C_Thrifty := c_Thrifty.cc X G
  have M_NoPlace_NoPlace : PySem.W.exmOne K (.ref C_NoPlace) (.ref C_NoPlace) = some true := mM_NoPlace_NoPlace
  have I_Thrifty_Keeper : PySem.W.kitOne K (.ref C_Thrifty) (.ref C_Keeper) = some true := iI_Thrifty_Keeper
  have N_Round : NoAttr K C "_budgets" := naN_Round
  have N_Thrifty : NoAttr K C_Thrifty "_limit" := naN_Thrifty
  have D_is_whole : Dn l.prog w K mg base "is_whole" 1 ["value"] spIsWhole := t_is_whole.dn X G (fun _ _ _ _ _ _ us hl => match us, hl with | [_], _ => rfl) (fun f fd F => ok_is_whole F B)
  have D_check_least : Dn l.prog w K mg base "check_least" 2 ["value", "least", "field"] spCheckLeast := t_check_least.dn X G (fun _ _ _ _ _ _ us hl => match us, hl with | [_, _, _], _ => rfl) (fun f fd F => ok_check_least F D_is_whole)
  have D_consists_of : Dn l.prog w K mg base "consists_of" 1 ["text", "characters"] spConsists := t_consists_of.dn X G (fun _ _ _ _ _ _ us hl => match us, hl with | [_, _], _ => rfl) (fun f fd F => ok_consists_of F)
  have D__freed : Dn l.prog w K mg base "_freed" 1 ["text"] spNrm := t__freed.dn X G (fun _ _ _ _ _ _ us hl => match us, hl with | [_], _ => rfl) (fun f fd F => ok__freed F)
  have D_is_word : Dn l.prog w K mg base "is_word" 2 ["text"] spIsWord := t_is_word.dn X G (fun _ _ _ _ _ _ us hl => match us, hl with | [_], _ => rfl) (fun f fd F => ok_is_word F D_consists_of)
  have D_check_word : Dn l.prog w K mg base "check_word" 3 ["word", "field"] spCheckWord := t_check_word.dn X G (fun _ _ _ _ _ _ us hl => match us, hl with | [_, _], _ => rfl) (fun f fd F => ok_check_word F D_is_word)
  have D_living : Dn l.prog w K mg base "living" 4 ["word"] spLiving := t_living.dn X G (fun _ _ _ _ _ _ us hl => match us, hl with | [_], _ => rfl) (fun f fd F => ok_living F D_check_word)
  have D__ones : Dn l.prog w K mg base "_ones" 1 ["word"] spOnes := t__ones.dn X G (fun _ _ _ _ _ _ us hl => match us, hl with | [_], _ => rfl) (fun f fd F => ok__ones F B)
  have D_depths : Dn l.prog w K mg base "depths" 4 ["word"] spDepths := t_depths.dn X G (fun _ _ _ _ _ _ us hl => match us, hl with | [_], _ => rfl) (fun f fd F => ok_depths F B D_check_word D__ones)
  have D__check_index : Dn l.prog w K mg base "_check_index" 1 ["word", "index"] spCheckIx := t__check_index.dn X G (fun _ _ _ _ _ _ us hl => match us, hl with | [_, _], _ => rfl) (fun f fd F => ok__check_index F)
  have D__check_fits : Dn l.prog w K mg base "_check_fits" 1 ["word", "places"] spFits := t__check_fits.dn X G (fun _ _ _ _ _ _ us hl => match us, hl with | [_, _], _ => rfl) (fun f fd F => ok__check_fits F B)
  have D__without : Dn l.prog w K mg base "_without" 2 ["word", "index"] spWout := t__without.dn X G (fun _ _ _ _ _ _ us hl => match us, hl with | [_, _], _ => rfl) (fun f fd F => ok__without F D__ones D__freed)
  have D__moved : Dn l.prog w K mg base "_moved" 2 ["word", "count", "places"] spMvd := t__moved.dn X G (fun _ _ _ _ _ _ us hl => match us, hl with | [_, _, _], _ => rfl) (fun f fd F => ok__moved F B D__freed)
  have D_release : Dn l.prog w K mg base "release" 4 ["word", "index"] spRelease := t_release.dn X G (fun _ _ _ _ _ _ us hl => match us, hl with | [_, _], _ => rfl) (fun f fd F => ok_release F D_check_word D_check_least D__check_index D__without)
  have D_carry : Dn l.prog w K mg base "carry" 4 ["word", "places"] spCarry := t_carry.dn X G (fun _ _ _ _ _ _ us hl => match us, hl with | [_, _], _ => rfl) (fun f fd F => ok_carry F D_check_word D_check_least D__check_fits D__moved)
  have D__appended : Dx l.prog w K mg base "_appended" 3 ["word", "places", "record"] (spAppd C_NoPlace) := t__appended.dx X G (fun _ _ _ _ _ _ us hl => match us, hl with | [_, _, _], _ => rfl) (fun f fd F => ok__appended F B D__freed E_NoPlace)
  have D_append_record : Dx l.prog w K mg base "append_record" 4 ["word", "places", "record"] (spAppRec C_NoPlace) := t_append_record.dx X G 3 1 (by simp) rfl (fun _ _ _ _ _ _ _ us its hl hi => match us, its, hl, hi with | [_, _, _], [_], _, _ => ⟨_, rfl, rfl⟩) (fun f fd F => ok_append_record F D_check_word D_check_least D__check_fits D__appended E_InvalidInput)
  have K_step_late : Dkx l.prog w K mg base "step" 4 ["word", "index", "count", "places", "late"] (spStep C_NoPlace) 4 ["late"] (fun vs zs => vs ++ zs) := t_step.dkx X G 4 ["late"] (fun _ _ _ _ _ _ us ws hl hk => match us, ws, hl, hk with | [_, _, _, _], [_], _, _ => rfl) (fun f fd F => ok_step F B D_check_word D_check_least D__check_index D__check_fits D__without D__moved D__appended)
  have MK_Round : Cn l.prog w K mg base C 3 (spInit C) := t_Round___init__.cn c_Round (fun f fd F => ok_Round_init F B R_Round N_Round V_Round D_check_least)
  have P_Round_budgets : Pn l.prog w K mg base C "budgets" 1 (spBudgets C) := t_Round_budgets.pn (fun _ _ _ _ _ _ us hl => match us, hl with | [_], _ => rfl) (fun f fd F => ok_Round_budgets F B R_Round N_Round)
  have O_Round___len__ : On l.prog w K mg base C "__len__" 1 ["self"] (spLen C) := t_Round___len__.on (fun _ _ _ _ _ _ us hl => match us, hl with | [_], _ => rfl) (fun f fd F => ok_Round_len F B R_Round N_Round)
  have O_Round___eq__ : On l.prog w K mg base C "__eq__" 1 ["self", "other"] (spEqR C) := t_Round___eq__.on (fun _ _ _ _ _ _ us hl => match us, hl with | [_, _], _ => rfl) (fun f fd F => ok_Round_eq F B R_Round N_Round)
  have O_Round___add__ : On l.prog w K mg base C "__add__" 5 ["self", "other"] (spAddR C) := t_Round___add__.on (fun _ _ _ _ _ _ us hl => match us, hl with | [_, _], _ => rfl) (fun f fd F => ok_Round_add F B R_Round N_Round MK_Round)
  have M_Round_at : Mn l.prog w K mg base C "at" 3 ["self", "t"] (spAt C) := t_Round_at.mn (fun _ _ _ _ _ _ us hl => match us, hl with | [_, _], _ => rfl) (fun f fd F => ok_Round_at F B R_Round N_Round D_check_least)
  have M_Round_total : Mn l.prog w K mg base C "total" 3 ["self", "start", "count"] (spTotal C) := t_Round_total.mn (fun _ _ _ _ _ _ us hl => match us, hl with | [_, _, _], _ => rfl) (fun f fd F => ok_Round_total F B R_Round N_Round D_check_least)
  have D_check_round : Dn l.prog w K mg base "check_round" 1 ["budgets"] (spCkRound C) := t_check_round.dn X G (fun _ _ _ _ _ _ us hl => match us, hl with | [_], _ => rfl) (fun f fd F => ok_check_round F B R_Round)
  have D_check_limit_fits : Dn l.prog w K mg base "check_limit_fits" 1 ["limit", "places"] spCkLimFits := t_check_limit_fits.dn X G (fun _ _ _ _ _ _ us hl => match us, hl with | [_, _], _ => rfl) (fun f fd F => ok_check_limit_fits F)
  have D_check_standing_fits : Dn l.prog w K mg base "check_standing_fits" 5 ["word", "places", "limit"] spCkFits := t_check_standing_fits.dn X G (fun _ _ _ _ _ _ us hl => match us, hl with | [_, _, _], _ => rfl) (fun f fd F => ok_check_standing_fits F B D_living D_check_limit_fits)
  have D_check_standing_alone : Dn l.prog w K mg base "check_standing_alone" 4 ["word", "places", "limit", "budgets", "phase"] (spStd C) := t_check_standing_alone.dn X G (fun _ _ _ _ _ _ us hl => match us, hl with | [_, _, _, _, _], _ => rfl) (fun f fd F => ok_check_standing_alone F D_check_word D_check_least D_check_round)
  have D_check_standing : Dn l.prog w K mg base "check_standing" 6 ["word", "places", "limit", "budgets", "phase"] (spStd C) := t_check_standing.dn X G (fun _ _ _ _ _ _ us hl => match us, hl with | [_, _, _, _, _], _ => rfl) (fun f fd F => ok_check_standing F D_check_standing_alone D_check_standing_fits)
  have D_places_in_play : Dn l.prog w K mg base "places_in_play" 1 ["places", "late"] spMIn := t_places_in_play.dn X G (fun _ _ _ _ _ _ us hl => match us, hl with | [_, _], _ => rfl) (fun f fd F => ok_places_in_play F)
  have D_first_short : Dn l.prog w K mg base "first_short" 5 ["word", "places", "late"] spFirst := t_first_short.dn X G (fun _ _ _ _ _ _ us hl => match us, hl with | [_, _, _], _ => rfl) (fun f fd F => ok_first_short F B D_living D_places_in_play)
  have D_blocks : Dn l.prog w K mg base "blocks" 5 ["word", "places", "limit", "budgets", "phase", "late", "t"] (spBlocks C) := t_blocks.dn X G (fun _ _ _ _ _ _ us hl => match us, hl with | [_, _, _, _, _, _, _], _ => rfl) (fun f fd F => ok_blocks F B R_Round M_Round_total D_living D_depths D_places_in_play)
  have D_falls_short : Dn l.prog w K mg base "falls_short" 6 ["word", "places", "limit", "budgets", "phase", "late", "t"] (spShort C) := t_falls_short.dn X G (fun _ _ _ _ _ _ us hl => match us, hl with | [_, _, _, _, _, _, _], _ => rfl) (fun f fd F => ok_falls_short F B R_Round M_Round_total D_first_short D_places_in_play)
  have K_blocked_at_late : Dk l.prog w K mg base "blocked_at" 7 ["word", "places", "limit", "budgets", "phase", "late"] (spAtO C Blk) 5 ["late"] (fun vs zs => vs ++ zs) := t_blocked_at.dk X G 5 ["late"] (by simp) (by simp) (fun _ _ _ _ _ _ _ us its ws h1 h2 h3 => match us, its, ws, h1, h2, h3 with | [_, _, _, _, _], [_], [_], _, _, _ => ⟨_, rfl, rfl⟩) (fun f fd F => ok_blocked_at F B D_check_standing D_places_in_play D_blocks)
  have K_short_at_late : Dk l.prog w K mg base "short_at" 7 ["word", "places", "limit", "budgets", "phase", "late"] (spAtO C Sht) 5 ["late"] (fun vs zs => vs ++ zs) := t_short_at.dk X G 5 ["late"] (by simp) (by simp) (fun _ _ _ _ _ _ _ us its ws h1 h2 h3 => match us, its, ws, h1, h2, h3 with | [_, _, _, _, _], [_], [_], _, _, _ => ⟨_, rfl, rfl⟩) (fun f fd F => ok_short_at F B O_Round___len__ D_check_standing D_first_short D_falls_short)
  have K_life_late : Dk l.prog w K mg base "life" 8 ["word", "places", "limit", "budgets", "phase", "late"] (spLife C) 5 ["late"] (fun vs zs => vs ++ zs) := t_life.dk X G 5 ["late"] (by simp) (by simp) (fun _ _ _ _ _ _ _ us its ws h1 h2 h3 => match us, its, ws, h1, h2, h3 with | [_, _, _, _, _], [_], [_], _, _, _ => ⟨_, rfl, rfl⟩) (fun f fd F => ok_life F B D_check_standing K_blocked_at_late K_short_at_late)
  have M_Round__totals : Mn l.prog w K mg base C "_totals" 4 ["self", "count"] (spTotals C) := t_Round__totals.mn (fun _ _ _ _ _ _ us hl => match us, hl with | [_, _], _ => rfl) (fun f fd F => ok_Round_totals F B R_Round N_Round M_Round_total)
  have M_Round_least : Mn l.prog w K mg base C "least" 5 ["self", "count"] (spLeast C) := t_Round_least.mn (fun _ _ _ _ _ _ us hl => match us, hl with | [_, _], _ => rfl) (fun f fd F => ok_Round_least F B R_Round D_check_least M_Round__totals)
  have D_safe_5 : Dn l.prog w K mg base "safe" 9 ["word", "places", "limit", "budgets", "phase", "late"] (spSafe C) [.bl false] := t_safe.dn X G 5 1 (by simp) (by simp) rfl (fun _ _ _ _ _ _ _ us its ks h1 h2 h3 => match us, its, ks, h1, h2, h3 with | [_, _, _, _, _], [_], [_], _, _, _ => ⟨_, rfl, ⟨_, _, _, _, _, _, rfl, rfl, rfl⟩⟩) (fun f fd F => ok_safe F K_life_late)
  have D__law_box : Dn l.prog w K mg base "_law_box" 1 ["script", "at"] (spBoxS K) := t__law_box.dn X G (fun _ _ _ _ _ _ us hl => match us, hl with | [_, _], _ => rfl) (fun f fd F => ok__law_box F B)
  have D__law_take : Dn l.prog w K mg base "_law_take" 1 ["script", "box", "many"] (spTakeX K) := t__law_take.dn X G (fun _ _ _ _ _ _ us hl => match us, hl with | [_, _, _], _ => rfl) (fun f fd F => ok__law_take F B)
  have D__check_moment : Dn l.prog w K mg base "_check_moment" 4 ["word", "places", "budgets", "phase"] (spMoment C) := t__check_moment.dn X G (fun _ _ _ _ _ _ us hl => match us, hl with | [_, _, _, _], _ => rfl) (fun f fd F => ok__check_moment F B D_check_word D_check_least D_check_round)
  have D_most_carries : Dn l.prog w K mg base "most_carries" 5 ["word", "places", "budgets", "phase"] (spMost C) := t_most_carries.dn X G (fun _ _ _ _ _ _ us hl => match us, hl with | [_, _, _, _], _ => rfl) (fun f fd F => ok_most_carries F B R_Round M_Round_at D_living)
  have D__is_safe_after : Dn l.prog w K mg base "_is_safe_after" 10 ["word", "places", "limit", "budgets", "phase", "record"] (spSafeN C) := t__is_safe_after.dn X G (fun _ _ _ _ _ _ us hl => match us, hl with | [_, _, _, _, _, _], _ => rfl) (fun f fd F => ok__is_safe_after F B D_append_record D_living D_safe_5)
  have D_fewest_carries : Dn l.prog w K mg base "fewest_carries" 11 ["word", "places", "limit", "budgets", "phase", "record"] (spFew C) := t_fewest_carries.dn X G (fun _ _ _ _ _ _ us hl => match us, hl with | [_, _, _, _, _, _], _ => rfl) (fun f fd F => ok_fewest_carries F B D_most_carries D__is_safe_after D_carry)
  have MK_Thrifty : Ci l.prog w K mg base C_Thrifty 3 ["self", "limit"] (spThInit C_Thrifty) := t_Thrifty___init__.ci c_Thrifty (fun _ _ _ _ _ _ us hl => match us, hl with | [_, _], _ => rfl) (fun f fd F => ok_Thrifty_init F B R_Thrifty N_Thrifty D_check_least)
  have M_Thrifty_choose : Mn l.prog w K mg base C_Thrifty "choose" 12 ["self", "word", "places", "budgets", "phase"] (spThChoose C C_Thrifty) := t_Thrifty_choose.mn (fun _ _ _ _ _ _ us hl => match us, hl with | [_, _, _, _, _], _ => rfl) (fun f fd F => ok_Thrifty_choose F R_Thrifty N_Thrifty D__check_moment D_fewest_carries)
  have D_ring_moves : Dn l.prog w K mg base "ring_moves" 5 ["word", "limit"] spMoves := t_ring_moves.dn X G (fun _ _ _ _ _ _ us hl => match us, hl with | [_, _], _ => rfl) (fun f fd F => ok_ring_moves F B D_living)
  have D_stepped : Dn l.prog w K mg base "stepped" 5 ["word", "index", "count", "places", "late"] spStepped := t_stepped.dn X G (fun _ _ _ _ _ _ us hl => match us, hl with | [_, _, _, _, _], _ => rfl) (fun f fd F => ok_stepped F E_NoPlace M_NoPlace_NoPlace K_step_late)
  have D_check_terms : Dn l.prog w K mg base "check_terms" 3 ["places", "limit", "budgets"] (spTermsC C) := t_check_terms.dn X G (fun _ _ _ _ _ _ us hl => match us, hl with | [_, _, _], _ => rfl) (fun f fd F => ok_check_terms F D_check_least D_check_round D_check_limit_fits)
  have D__played : Dn l.prog w K mg base "_played" 13 ["keeper", "state", "move", "places", "budgets"] (spPlayedT C C_Thrifty) := t__played.dn X G (fun _ _ _ _ _ _ us hl => match us, hl with | [_, _, _, _, _], _ => rfl) (fun f fd F => ok__played F B R_Thrifty M_Thrifty_choose D_release D_stepped O_Round___len__)
  have D_run_row : Dn l.prog w K mg base "run_row" 14 ["keeper", "row", "places", "limit", "budgets"] (spRunT C C_Thrifty) := t_run_row.dn X G (fun _ _ _ _ _ _ us hl => match us, hl with | [_, _, _, _, _], _ => rfl) (fun f fd F => ok_run_row F B D_check_terms D_ring_moves D__played)
  have D__law_is_count : Dn l.prog w K mg base "_law_is_count" 1 ["thing"] spCount := t__law_is_count.dn X G (fun _ _ _ _ _ _ us hl => match us, hl with | [_], _ => rfl) (fun f fd F => ok__law_is_count F B)
  have D__law_round : Dn l.prog w K mg base "_law_round" 7 ["pays"] (spRoundL C) := t__law_round.dn X G (fun _ _ _ _ _ _ us hl => match us, hl with | [_], _ => rfl) (fun f fd F => ok__law_round F B R_Round MK_Round O_Round___add__)
  have D__law_freed : Dn l.prog w K mg base "_law_freed" 1 ["word", "index"] spFreedK := t__law_freed.dn X G (fun _ _ _ _ _ _ us hl => match us, hl with | [_, _], _ => rfl) (fun f fd F => ok__law_freed F B)
  have D__law_carried : Dn l.prog w K mg base "_law_carried" 1 ["word", "many"] spCarriedK := t__law_carried.dn X G (fun _ _ _ _ _ _ us hl => match us, hl with | [_, _], _ => rfl) (fun f fd F => ok__law_carried F B)
  have D__law_safe : Dn l.prog w K mg base "_law_safe" 2 ["word", "wide", "many", "pays", "beat"] spSafeK := t__law_safe.dn X G (fun _ _ _ _ _ _ us hl => match us, hl with | [_, _, _, _, _], _ => rfl) (fun f fd F => ok__law_safe F B D__law_freed D__law_carried)
  have D__law_thrifty : Dn l.prog w K mg base "_law_thrifty" 3 ["word", "wide", "many", "pays", "beat"] spThrK := t__law_thrifty.dn X G (fun _ _ _ _ _ _ us hl => match us, hl with | [_, _, _, _, _], _ => rfl) (fun f fd F => ok__law_thrifty F B D__law_safe D__law_carried)
  have D__law_pays : Dn l.prog w K mg base "_law_pays" 2 ["script", "box", "most"] (spPaysX K) := t__law_pays.dn X G (fun _ _ _ _ _ _ us hl => match us, hl with | [_, _, _], _ => rfl) (fun f fd F => ok__law_pays F B D__law_take)
  have D__law_goes : Dn l.prog w K mg base "_law_goes" 1 ["pays", "many", "wide"] spGoesK := t__law_goes.dn X G (fun _ _ _ _ _ _ us hl => match us, hl with | [_, _, _], _ => rfl) (fun f fd F => ok__law_goes F B)
  have D__law_raised : Dn l.prog w K mg base "_law_raised" 2 ["pays", "many", "wide"] spRaisedK := t__law_raised.dn X G (fun _ _ _ _ _ _ us hl => match us, hl with | [_, _, _], _ => rfl) (fun f fd F => ok__law_raised F B D__law_goes)
  have D__law_move : Dn l.prog w K mg base "_law_move" 2 ["script", "box", "ones", "many"] (spMoveX K) := t__law_move.dn X G (fun _ _ _ _ _ _ us hl => match us, hl with | [_, _, _, _], _ => rfl) (fun f fd F => ok__law_move F D__law_take)
  have D__law_word : Dn l.prog w K mg base "_law_word" 2 ["script", "box", "wide", "many"] (spWordX K) := t__law_word.dn X G (fun _ _ _ _ _ _ us hl => match us, hl with | [_, _, _, _], _ => rfl) (fun f fd F => ok__law_word F B D__law_take)
  have D__law_stand : Dn l.prog w K mg base "_law_stand" 3 ["script", "box", "wide", "level"] (spStandX K) := t__law_stand.dn X G (fun _ _ _ _ _ _ us hl => match us, hl with | [_, _, _, _], _ => rfl) (fun f fd F => ok__law_stand F D__law_take D__law_word D__law_move)
  have D__law_moves : Dn l.prog w K mg base "_law_moves" 3 ["script", "box", "many", "wide"] (spMovesX K) := t__law_moves.dn X G (fun _ _ _ _ _ _ us hl => match us, hl with | [_, _, _, _], _ => rfl) (fun f fd F => ok__law_moves F B D__law_take D__law_move)
  have D__law_play : Dn l.prog w K mg base "_law_play" 4 ["moves", "wide", "level", "pays"] spPlayK := t__law_play.dn X G (fun _ _ _ _ _ _ us hl => match us, hl with | [_, _, _, _], _ => rfl) (fun f fd F => ok__law_play F B D__law_freed D__law_carried D__law_thrifty)
  have D__law_asked : Dn l.prog w K mg base "_law_asked" 13 ["keeper", "stand", "wide", "level", "pays", "made"] (spAskedK C C_Thrifty) := t__law_asked.dn X G (fun _ _ _ _ _ _ us hl => match us, hl with | [_, _, _, _, _, _], _ => rfl) (fun f fd F => ok__law_asked F B R_Thrifty M_Thrifty_choose D__law_freed D__law_carried D__law_thrifty D__law_safe D__law_is_count D_safe_5)
  have D__law_runs : Dn l.prog w K mg base "_law_runs" 15 ["keeper", "moves", "wide", "many", "level", "pays", "made"] (spRunsK C C_Thrifty) := t__law_runs.dn X G (fun _ _ _ _ _ _ us hl => match us, hl with | [_, _, _, _, _, _, _], _ => rfl) (fun f fd F => ok__law_runs F B D__law_play D__law_goes D_run_row)
  exact ok_law F B R_Round R_Thrifty MK_Thrifty I_Thrifty_Keeper S_Keeper P_Round_budgets D__law_box D__law_take D__law_pays D__law_raised D__law_round D__law_stand D__law_asked D__law_moves D__law_runs
theorem walk {l : PySem.W.OpenLaw} {q : Program} {loose : List Str} {XP : (Str → Option Value) → Heap → Prop} {YP : World → Heap → Prop} {d : DefRec} {K : Params → PySem.W.Frag} (hn : l.most = some 63) (hdf : d.params.defaults = [])
    (hY : ∀ (w : World) (h : Heap), YP w h → (K w.params).In h)
    (F : ∀ (w : World) (mg : Str → Option Value) (fa : Addr) (h : Heap), (K w.params).In h → h.Ns mainGlobals mg → mg d.name = some (.ref fa) →
      ∃ fd : FuncData, (∀ (s : Shared) (u : Value), BindsTo s fd ⟨[u], []⟩ [("script", u)]) ∧ ∀ base : Heap, (K w.params).In base → base.Ns mainGlobals mg → FnOk l.prog w (K w.params) mg base CX0 16 fa fd ["script"] (spLaw (K w.params))) :
    PySem.W.WalkO q loose XP YP l.row.toRowW d [] (fun f vs => PySem.call f vs) :=
  L2.walk_of (n := 63) (k := 16) (x := "script") (CX := fun _ => CX0) (sp := fun w => spLaw (K w.params)) hn (by decide) hdf ⟨rfl, by decide, by decide⟩ hY F (fun _ _ a ns hl _ hS => ⟨a, ns, rfl, hS, hl, fun _ => rfl⟩) fun _ _ _ _ _ z => z
end Cl
open PySem PySem.W PyProof.Rows
set_option maxRecDepth 100000 in
set_option maxHeartbeats 0 in
theorem PySem.Challenge.cw_carrylog_k57_whole_thrifty_holds : PySem.Challenge.rw_carrylog_k57_whole_thrifty.Holds := by
  w_on; o_law; k_head; (case hw => w_witness2)
  k_fill
  refine Cl.walk (l := PySem.Challenge.rw_carrylog_k57_whole_thrifty) rfl rfl (fun w h Y => PySem.W.kIn_of Y) ?F
  case F =>
    intro w mg fa h KX G hmg
    refine' Cl.all_mk KX G hmg ?e_NoPlace ?e_InvalidInput ?zsuper ?n_Keeper ?c_Round ?v_Round ?c_Thrifty ?mM_NoPlace_NoPlace ?iI_Thrifty_Keeper ?naN_Round ?naN_Thrifty ?t_is_whole ?t_check_least ?t_consists_of ?t__freed ?t_is_word ?t_check_word ?t_living ?t__ones ?t_depths ?t__check_index ?t__check_fits ?t__without ?t__moved ?t_release ?t_carry ?t__appended ?t_append_record ?t_step ?t_Round___init__ ?t_Round_budgets ?t_Round___len__ ?t_Round___eq__ ?t_Round___add__ ?t_Round_at ?t_Round_total ?t_check_round ?t_check_limit_fits ?t_check_standing_fits ?t_check_standing_alone ?t_check_standing ?t_places_in_play ?t_first_short ?t_blocks ?t_falls_short ?t_blocked_at ?t_short_at ?t_life ?t_Round__totals ?t_Round_least ?t_safe ?t__law_box ?t__law_take ?t__check_moment ?t_most_carries ?t__is_safe_after ?t_fewest_carries ?t_Thrifty___init__ ?t_Thrifty_choose ?t_ring_moves ?t_stepped ?t_check_terms ?t__played ?t_run_row ?t__law_is_count ?t__law_round ?t__law_freed ?t__law_carried ?t__law_safe ?t__law_thrifty ?t__law_pays ?t__law_goes ?t__law_raised ?t__law_move ?t__law_word ?t__law_stand ?t__law_moves ?t__law_play ?t__law_asked ?t__law_runs ?t_law ?z_len ?z_abs ?z_max ?z_min ?z_sum ?z_all ?z_any ?z_range ?z_isinstance ?z_intT ?z_strT ?z_boolT ?z_listT ?z_divmod ?z_tupleT ?z_reversed ?z_repr ?z_enumerate ?z_zip ?z_ValueErrorT
    (case e_NoPlace => (refine' Cl.errAt Cl.so_NoPlace Cl.fo_length ?e1_a ?e1_cls ?e1_bm ?e1_sa ?e1_noN ?e1_iC ?e1_tC ?e1_su ?e1_sv ?e1_op ?e1_ds ?e1_l ?e1_c ?e1_lc ?e1_lv ?e1_hv ?e1_hf ?e1_hm ?e1_kp ?e1_exC ?e1_tyC ?e1_ga ?e1_gg ?e1_hd ?e1_ha ?e1_hn ?e1_ht ?e1_hmo ?e1_nd ?e1_is; (case e1_a => k_is); (case e1_cls => k_is); (case e1_bm => first | decide +kernel | rfl); (case e1_sa => k_is); (case e1_noN => k_is); (case e1_iC => k_is); (case e1_tC => k_is); (case e1_su => ks_is); (case e1_sv => k_is); (case e1_op => k_is); (case e1_ds => k_is); (case e1_l => k_is); (case e1_c => k_is); (case e1_lc => k_is); (case e1_lv => k_is); (case e1_hv => rfl); (case e1_hf => rfl); (case e1_hm => rfl); (case e1_kp => k_is); (case e1_exC => k_is); (case e1_tyC => k_is); (case e1_ga => k_is); (case e1_gg => k_is); (case e1_hd => k_is); (case e1_ha => k_is); (case e1_hn => k_is); (case e1_ht => k_is); (case e1_hmo => k_is); (case e1_nd => decide); (case e1_is => k_is)))
    (case e_InvalidInput => (refine' Cl.errAt Cl.so_InvalidInput Cl.fo_field ?e2_a ?e2_cls ?e2_bm ?e2_sa ?e2_noN ?e2_iC ?e2_tC ?e2_su ?e2_sv ?e2_op ?e2_ds ?e2_l ?e2_c ?e2_lc ?e2_lv ?e2_hv ?e2_hf ?e2_hm ?e2_kp ?e2_exC ?e2_tyC ?e2_ga ?e2_gg ?e2_hd ?e2_ha ?e2_hn ?e2_ht ?e2_hmo ?e2_nd ?e2_is; (case e2_a => k_is); (case e2_cls => k_is); (case e2_bm => first | decide +kernel | rfl); (case e2_sa => k_is); (case e2_noN => k_is); (case e2_iC => k_is); (case e2_tC => k_is); (case e2_su => ks_is); (case e2_sv => k_is); (case e2_op => k_is); (case e2_ds => k_is); (case e2_l => k_is); (case e2_c => k_is); (case e2_lc => k_is); (case e2_lv => k_is); (case e2_hv => rfl); (case e2_hf => rfl); (case e2_hm => rfl); (case e2_kp => k_is); (case e2_exC => k_is); (case e2_tyC => k_is); (case e2_ga => k_is); (case e2_gg => k_is); (case e2_hd => k_is); (case e2_ha => k_is); (case e2_hn => k_is); (case e2_ht => k_is); (case e2_hmo => k_is); (case e2_nd => decide); (case e2_is => k_is)))
    (case zsuper => k_is)
    (case n_Keeper => (refine' Cl.namAt ?u3_na; (case u3_na => k_is)))
    (case c_Round => (refine' Cl.atC ?u4_a ?u4_pg ?u4_hd ?u4_po ?u4_sa ?u4_ha ?u4_hn ?u4_htk ?u4_hm ?u4_sf ?u4_mk ?u4_kp; (case u4_a => k_is); (case u4_pg => k_is); (case u4_hd => k_is); (case u4_po => k_is); (case u4_sa => k_is); (case u4_ha => k_is); (case u4_hn => k_is); (case u4_htk => k_is); (case u4_hm => k_is); (case u4_sf => k_is); (case u4_mk => k_is); (case u4_kp => k_is)))
    (case v_Round => (refine' Cl.cvAt ?u5_ty ?u5_rd ?u5_ga ?u5_fc ?u5_r; (case u5_ty => k_is); (case u5_rd => k_is); (case u5_ga => k_is); (case u5_fc => k_is); (case u5_r => first | rfl | exact ⟨_, rfl⟩)))
    (case c_Thrifty => (refine' Cl.atC ?u6_a ?u6_pg ?u6_hd ?u6_po ?u6_sa ?u6_ha ?u6_hn ?u6_htk ?u6_hm ?u6_sf ?u6_mk ?u6_kp; (case u6_a => k_is); (case u6_pg => k_is); (case u6_hd => k_is); (case u6_po => k_is); (case u6_sa => k_is); (case u6_ha => k_is); (case u6_hn => k_is); (case u6_htk => k_is); (case u6_hm => k_is); (case u6_sf => k_is); (case u6_mk => k_is); (case u6_kp => k_is)))
    (case mM_NoPlace_NoPlace => (refine' Cl.exm_mk ?u7_ex ?u7_hd ?u7_ty ?u7_s; (case u7_ex => k_is); (case u7_hd => k_is); (case u7_ty => k_is); (case u7_s => k_is)))
    (case iI_Thrifty_Keeper => (refine' Cl.kit_own ?i8_n ?i8_c ?i8_t ?i8_s; (case i8_n => first | decide | rfl); (case i8_c => k_is); (case i8_t => k_is); (case i8_s => k_is)))
    (case naN_Round => k_is)
    (case naN_Thrifty => k_is)
    (case t_is_whole => (refine' Cl.atTop0 ?u9_xa ?u9_xl ?u9_xc ?u9_xp; (case u9_xa => k_is); (case u9_xl => k_is); (case u9_xc => k_is); (case u9_xp => k_is)))
    (case t_check_least => (refine' Cl.atTop0 ?u10_xa ?u10_xl ?u10_xc ?u10_xp; (case u10_xa => k_is); (case u10_xl => k_is); (case u10_xc => k_is); (case u10_xp => k_is)))
    (case t_consists_of => (refine' Cl.atTop0 ?u11_xa ?u11_xl ?u11_xc ?u11_xp; (case u11_xa => k_is); (case u11_xl => k_is); (case u11_xc => k_is); (case u11_xp => k_is)))
    (case t__freed => (refine' Cl.atTop0 ?u12_xa ?u12_xl ?u12_xc ?u12_xp; (case u12_xa => k_is); (case u12_xl => k_is); (case u12_xc => k_is); (case u12_xp => k_is)))
    (case t_is_word => (refine' Cl.atTop0 ?u13_xa ?u13_xl ?u13_xc ?u13_xp; (case u13_xa => k_is); (case u13_xl => k_is); (case u13_xc => k_is); (case u13_xp => k_is)))
    (case t_check_word => (refine' Cl.atTop0 ?u14_xa ?u14_xl ?u14_xc ?u14_xp; (case u14_xa => k_is); (case u14_xl => k_is); (case u14_xc => k_is); (case u14_xp => k_is)))
    (case t_living => (refine' Cl.atTop0 ?u15_xa ?u15_xl ?u15_xc ?u15_xp; (case u15_xa => k_is); (case u15_xl => k_is); (case u15_xc => k_is); (case u15_xp => k_is)))
    (case t__ones => (refine' Cl.atTop0 ?u16_xa ?u16_xl ?u16_xc ?u16_xp; (case u16_xa => k_is); (case u16_xl => k_is); (case u16_xc => k_is); (case u16_xp => k_is)))
    (case t_depths => (refine' Cl.atTop0 ?u17_xa ?u17_xl ?u17_xc ?u17_xp; (case u17_xa => k_is); (case u17_xl => k_is); (case u17_xc => k_is); (case u17_xp => k_is)))
    (case t__check_index => (refine' Cl.atTop0 ?u18_xa ?u18_xl ?u18_xc ?u18_xp; (case u18_xa => k_is); (case u18_xl => k_is); (case u18_xc => k_is); (case u18_xp => k_is)))
    (case t__check_fits => (refine' Cl.atTop0 ?u19_xa ?u19_xl ?u19_xc ?u19_xp; (case u19_xa => k_is); (case u19_xl => k_is); (case u19_xc => k_is); (case u19_xp => k_is)))
    (case t__without => (refine' Cl.atTop0 ?u20_xa ?u20_xl ?u20_xc ?u20_xp; (case u20_xa => k_is); (case u20_xl => k_is); (case u20_xc => k_is); (case u20_xp => k_is)))
    (case t__moved => (refine' Cl.atTop0 ?u21_xa ?u21_xl ?u21_xc ?u21_xp; (case u21_xa => k_is); (case u21_xl => k_is); (case u21_xc => k_is); (case u21_xp => k_is)))
    (case t_release => (refine' Cl.atTop0 ?u22_xa ?u22_xl ?u22_xc ?u22_xp; (case u22_xa => k_is); (case u22_xl => k_is); (case u22_xc => k_is); (case u22_xp => k_is)))
    (case t_carry => (refine' Cl.atTop0 ?u23_xa ?u23_xl ?u23_xc ?u23_xp; (case u23_xa => k_is); (case u23_xl => k_is); (case u23_xc => k_is); (case u23_xp => k_is)))
    (case t__appended => (refine' Cl.atTop0 ?u24_xa ?u24_xl ?u24_xc ?u24_xp; (case u24_xa => k_is); (case u24_xl => k_is); (case u24_xc => k_is); (case u24_xp => k_is)))
    (case t_append_record => (refine' Cl.atTopP1 ?u25_a ?u25_l ?u25_c ?u25_p ?u25_lt ?u25_r; (case u25_a => k_is); (case u25_l => k_is); (case u25_c => k_is); (case u25_p => k_is); (case u25_lt => k_is); (case u25_r => first | rfl | exact ⟨_, rfl⟩)))
    (case t_step => (refine' Cl.atTop1 ?u26_xa ?u26_xl ?u26_xc ?u26_xp ?u26_xk0 ?u26_xr0; (case u26_xa => k_is); (case u26_xl => k_is); (case u26_xc => k_is); (case u26_xp => k_is); (case u26_xk0 => k_is); (case u26_xr0 => first | rfl | exact ⟨_, rfl⟩)))
    (case t_Round___init__ => (refine' Cl.atCls ?u27_a ?u27_i ?u27_l ?u27_c ?u27_p; (case u27_a => k_is); (case u27_i => k_is); (case u27_l => k_is); (case u27_c => k_is); (case u27_p => k_is)))
    (case t_Round_budgets => (refine' Cl.atProp ?u28_a ?u28_gt ?u28_tk ?u28_rc ?u28_l ?u28_c ?u28_p; (case u28_a => k_is); (case u28_gt => k_is); (case u28_tk => k_is); (case u28_rc => k_is); (case u28_l => k_is); (case u28_c => k_is); (case u28_p => k_is)))
    (case t_Round___len__ => (refine' Cl.atCls ?u29_a ?u29_i ?u29_l ?u29_c ?u29_p; (case u29_a => k_is); (case u29_i => k_is); (case u29_l => k_is); (case u29_c => k_is); (case u29_p => k_is)))
    (case t_Round___eq__ => (refine' Cl.atCls ?u30_a ?u30_i ?u30_l ?u30_c ?u30_p; (case u30_a => k_is); (case u30_i => k_is); (case u30_l => k_is); (case u30_c => k_is); (case u30_p => k_is)))
    (case t_Round___add__ => (refine' Cl.atCls ?u31_a ?u31_i ?u31_l ?u31_c ?u31_p; (case u31_a => k_is); (case u31_i => k_is); (case u31_l => k_is); (case u31_c => k_is); (case u31_p => k_is)))
    (case t_Round_at => (refine' Cl.atCls ?u32_a ?u32_i ?u32_l ?u32_c ?u32_p; (case u32_a => k_is); (case u32_i => k_is); (case u32_l => k_is); (case u32_c => k_is); (case u32_p => k_is)))
    (case t_Round_total => (refine' Cl.atCls ?u33_a ?u33_i ?u33_l ?u33_c ?u33_p; (case u33_a => k_is); (case u33_i => k_is); (case u33_l => k_is); (case u33_c => k_is); (case u33_p => k_is)))
    (case t_check_round => (refine' Cl.atTop0 ?u34_xa ?u34_xl ?u34_xc ?u34_xp; (case u34_xa => k_is); (case u34_xl => k_is); (case u34_xc => k_is); (case u34_xp => k_is)))
    (case t_check_limit_fits => (refine' Cl.atTop0 ?u35_xa ?u35_xl ?u35_xc ?u35_xp; (case u35_xa => k_is); (case u35_xl => k_is); (case u35_xc => k_is); (case u35_xp => k_is)))
    (case t_check_standing_fits => (refine' Cl.atTop0 ?u36_xa ?u36_xl ?u36_xc ?u36_xp; (case u36_xa => k_is); (case u36_xl => k_is); (case u36_xc => k_is); (case u36_xp => k_is)))
    (case t_check_standing_alone => (refine' Cl.atTop0 ?u37_xa ?u37_xl ?u37_xc ?u37_xp; (case u37_xa => k_is); (case u37_xl => k_is); (case u37_xc => k_is); (case u37_xp => k_is)))
    (case t_check_standing => (refine' Cl.atTop0 ?u38_xa ?u38_xl ?u38_xc ?u38_xp; (case u38_xa => k_is); (case u38_xl => k_is); (case u38_xc => k_is); (case u38_xp => k_is)))
    (case t_places_in_play => (refine' Cl.atTop0 ?u39_xa ?u39_xl ?u39_xc ?u39_xp; (case u39_xa => k_is); (case u39_xl => k_is); (case u39_xc => k_is); (case u39_xp => k_is)))
    (case t_first_short => (refine' Cl.atTop0 ?u40_xa ?u40_xl ?u40_xc ?u40_xp; (case u40_xa => k_is); (case u40_xl => k_is); (case u40_xc => k_is); (case u40_xp => k_is)))
    (case t_blocks => (refine' Cl.atTop0 ?u41_xa ?u41_xl ?u41_xc ?u41_xp; (case u41_xa => k_is); (case u41_xl => k_is); (case u41_xc => k_is); (case u41_xp => k_is)))
    (case t_falls_short => (refine' Cl.atTop0 ?u42_xa ?u42_xl ?u42_xc ?u42_xp; (case u42_xa => k_is); (case u42_xl => k_is); (case u42_xc => k_is); (case u42_xp => k_is)))
    (case t_blocked_at => (refine' Cl.atTopB11 ?u43_a ?u43_l ?u43_c ?u43_p ?u43_lt ?u43_r ?u43_hk ?u43_r1; (case u43_a => k_is); (case u43_l => k_is); (case u43_c => k_is); (case u43_p => k_is); (case u43_lt => k_is); (case u43_r => first | rfl | exact ⟨_, rfl⟩); (case u43_hk => k_is); (case u43_r1 => first | rfl | exact ⟨_, rfl⟩)))
    (case t_short_at => (refine' Cl.atTopB11 ?u44_a ?u44_l ?u44_c ?u44_p ?u44_lt ?u44_r ?u44_hk ?u44_r1; (case u44_a => k_is); (case u44_l => k_is); (case u44_c => k_is); (case u44_p => k_is); (case u44_lt => k_is); (case u44_r => first | rfl | exact ⟨_, rfl⟩); (case u44_hk => k_is); (case u44_r1 => first | rfl | exact ⟨_, rfl⟩)))
    (case t_life => (refine' Cl.atTopB11 ?u45_a ?u45_l ?u45_c ?u45_p ?u45_lt ?u45_r ?u45_hk ?u45_r1; (case u45_a => k_is); (case u45_l => k_is); (case u45_c => k_is); (case u45_p => k_is); (case u45_lt => k_is); (case u45_r => first | rfl | exact ⟨_, rfl⟩); (case u45_hk => k_is); (case u45_r1 => first | rfl | exact ⟨_, rfl⟩)))
    (case t_Round__totals => (refine' Cl.atCls ?u46_a ?u46_i ?u46_l ?u46_c ?u46_p; (case u46_a => k_is); (case u46_i => k_is); (case u46_l => k_is); (case u46_c => k_is); (case u46_p => k_is)))
    (case t_Round_least => (refine' Cl.atCls ?u47_a ?u47_i ?u47_l ?u47_c ?u47_p; (case u47_a => k_is); (case u47_i => k_is); (case u47_l => k_is); (case u47_c => k_is); (case u47_p => k_is)))
    (case t_safe => (refine' Cl.atTopB11 ?u48_a ?u48_l ?u48_c ?u48_p ?u48_lt ?u48_r ?u48_hk ?u48_r1; (case u48_a => k_is); (case u48_l => k_is); (case u48_c => k_is); (case u48_p => k_is); (case u48_lt => k_is); (case u48_r => first | rfl | exact ⟨_, rfl⟩); (case u48_hk => k_is); (case u48_r1 => first | rfl | exact ⟨_, rfl⟩)))
    (case t__law_box => (refine' Cl.atTop0 ?u49_xa ?u49_xl ?u49_xc ?u49_xp; (case u49_xa => k_is); (case u49_xl => k_is); (case u49_xc => k_is); (case u49_xp => k_is)))
    (case t__law_take => (refine' Cl.atTop0 ?u50_xa ?u50_xl ?u50_xc ?u50_xp; (case u50_xa => k_is); (case u50_xl => k_is); (case u50_xc => k_is); (case u50_xp => k_is)))
    (case t__check_moment => (refine' Cl.atTop0 ?u51_xa ?u51_xl ?u51_xc ?u51_xp; (case u51_xa => k_is); (case u51_xl => k_is); (case u51_xc => k_is); (case u51_xp => k_is)))
    (case t_most_carries => (refine' Cl.atTop0 ?u52_xa ?u52_xl ?u52_xc ?u52_xp; (case u52_xa => k_is); (case u52_xl => k_is); (case u52_xc => k_is); (case u52_xp => k_is)))
    (case t__is_safe_after => (refine' Cl.atTop0 ?u53_xa ?u53_xl ?u53_xc ?u53_xp; (case u53_xa => k_is); (case u53_xl => k_is); (case u53_xc => k_is); (case u53_xp => k_is)))
    (case t_fewest_carries => (refine' Cl.atTop0 ?u54_xa ?u54_xl ?u54_xc ?u54_xp; (case u54_xa => k_is); (case u54_xl => k_is); (case u54_xc => k_is); (case u54_xp => k_is)))
    (case t_Thrifty___init__ => (refine' Cl.atCls ?u55_a ?u55_i ?u55_l ?u55_c ?u55_p; (case u55_a => k_is); (case u55_i => k_is); (case u55_l => k_is); (case u55_c => k_is); (case u55_p => k_is)))
    (case t_Thrifty_choose => (refine' Cl.atCls ?u56_a ?u56_i ?u56_l ?u56_c ?u56_p; (case u56_a => k_is); (case u56_i => k_is); (case u56_l => k_is); (case u56_c => k_is); (case u56_p => k_is)))
    (case t_ring_moves => (refine' Cl.atTop0 ?u57_xa ?u57_xl ?u57_xc ?u57_xp; (case u57_xa => k_is); (case u57_xl => k_is); (case u57_xc => k_is); (case u57_xp => k_is)))
    (case t_stepped => (refine' Cl.atTop0 ?u58_xa ?u58_xl ?u58_xc ?u58_xp; (case u58_xa => k_is); (case u58_xl => k_is); (case u58_xc => k_is); (case u58_xp => k_is)))
    (case t_check_terms => (refine' Cl.atTop0 ?u59_xa ?u59_xl ?u59_xc ?u59_xp; (case u59_xa => k_is); (case u59_xl => k_is); (case u59_xc => k_is); (case u59_xp => k_is)))
    (case t__played => (refine' Cl.atTop0 ?u60_xa ?u60_xl ?u60_xc ?u60_xp; (case u60_xa => k_is); (case u60_xl => k_is); (case u60_xc => k_is); (case u60_xp => k_is)))
    (case t_run_row => (refine' Cl.atTop0 ?u61_xa ?u61_xl ?u61_xc ?u61_xp; (case u61_xa => k_is); (case u61_xl => k_is); (case u61_xc => k_is); (case u61_xp => k_is)))
    (case t__law_is_count => (refine' Cl.atTop0 ?u62_xa ?u62_xl ?u62_xc ?u62_xp; (case u62_xa => k_is); (case u62_xl => k_is); (case u62_xc => k_is); (case u62_xp => k_is)))
    (case t__law_round => (refine' Cl.atTop0 ?u63_xa ?u63_xl ?u63_xc ?u63_xp; (case u63_xa => k_is); (case u63_xl => k_is); (case u63_xc => k_is); (case u63_xp => k_is)))
    (case t__law_freed => (refine' Cl.atTop0 ?u64_xa ?u64_xl ?u64_xc ?u64_xp; (case u64_xa => k_is); (case u64_xl => k_is); (case u64_xc => k_is); (case u64_xp => k_is)))
    (case t__law_carried => (refine' Cl.atTop0 ?u65_xa ?u65_xl ?u65_xc ?u65_xp; (case u65_xa => k_is); (case u65_xl => k_is); (case u65_xc => k_is); (case u65_xp => k_is)))
    (case t__law_safe => (refine' Cl.atTop0 ?u66_xa ?u66_xl ?u66_xc ?u66_xp; (case u66_xa => k_is); (case u66_xl => k_is); (case u66_xc => k_is); (case u66_xp => k_is)))
    (case t__law_thrifty => (refine' Cl.atTop0 ?u67_xa ?u67_xl ?u67_xc ?u67_xp; (case u67_xa => k_is); (case u67_xl => k_is); (case u67_xc => k_is); (case u67_xp => k_is)))
    (case t__law_pays => (refine' Cl.atTop0 ?u68_xa ?u68_xl ?u68_xc ?u68_xp; (case u68_xa => k_is); (case u68_xl => k_is); (case u68_xc => k_is); (case u68_xp => k_is)))
    (case t__law_goes => (refine' Cl.atTop0 ?u69_xa ?u69_xl ?u69_xc ?u69_xp; (case u69_xa => k_is); (case u69_xl => k_is); (case u69_xc => k_is); (case u69_xp => k_is)))
    (case t__law_raised => (refine' Cl.atTop0 ?u70_xa ?u70_xl ?u70_xc ?u70_xp; (case u70_xa => k_is); (case u70_xl => k_is); (case u70_xc => k_is); (case u70_xp => k_is)))
    (case t__law_move => (refine' Cl.atTop0 ?u71_xa ?u71_xl ?u71_xc ?u71_xp; (case u71_xa => k_is); (case u71_xl => k_is); (case u71_xc => k_is); (case u71_xp => k_is)))
    (case t__law_word => (refine' Cl.atTop0 ?u72_xa ?u72_xl ?u72_xc ?u72_xp; (case u72_xa => k_is); (case u72_xl => k_is); (case u72_xc => k_is); (case u72_xp => k_is)))
    (case t__law_stand => (refine' Cl.atTop0 ?u73_xa ?u73_xl ?u73_xc ?u73_xp; (case u73_xa => k_is); (case u73_xl => k_is); (case u73_xc => k_is); (case u73_xp => k_is)))
    (case t__law_moves => (refine' Cl.atTop0 ?u74_xa ?u74_xl ?u74_xc ?u74_xp; (case u74_xa => k_is); (case u74_xl => k_is); (case u74_xc => k_is); (case u74_xp => k_is)))
    (case t__law_play => (refine' Cl.atTop0 ?u75_xa ?u75_xl ?u75_xc ?u75_xp; (case u75_xa => k_is); (case u75_xl => k_is); (case u75_xc => k_is); (case u75_xp => k_is)))
    (case t__law_asked => (refine' Cl.atTop0 ?u76_xa ?u76_xl ?u76_xc ?u76_xp; (case u76_xa => k_is); (case u76_xl => k_is); (case u76_xc => k_is); (case u76_xp => k_is)))
    (case t__law_runs => (refine' Cl.atTop0 ?u77_xa ?u77_xl ?u77_xc ?u77_xp; (case u77_xa => k_is); (case u77_xl => k_is); (case u77_xc => k_is); (case u77_xp => k_is)))
    (case t_law => (refine' Cl.atTop0 ?u78_xa ?u78_xl ?u78_xc ?u78_xp; (case u78_xa => k_is); (case u78_xl => k_is); (case u78_xc => k_is); (case u78_xp => k_is)))
    (case z_len => k_is)
    (case z_abs => k_is)
    (case z_max => k_is)
    (case z_min => k_is)
    (case z_sum => k_is)
    (case z_all => k_is)
    (case z_any => k_is)
    (case z_range => k_is)
    (case z_isinstance => k_is)
    (case z_intT => k_is)
    (case z_strT => k_is)
    (case z_boolT => k_is)
    (case z_listT => k_is)
    (case z_divmod => k_is)
    (case z_tupleT => k_is)
    (case z_reversed => k_is)
    (case z_repr => k_is)
    (case z_enumerate => k_is)
    (case z_zip => k_is)
    (case z_ValueErrorT => k_is)
