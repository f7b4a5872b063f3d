import PyProof.Rows.All
import Wide.All
import OpenK.AllK
import Wide.FinOn
import HandS.ForMost
import HandS.Wide
import HandS.IsInst
import HandS.Defaults
import HandS.Codes
import HandS.MakeKwOnly
import PySem.Challenge.RW_carrylog_k55_rule_texts
import HandS.Star
import HandS.ClsMeth
import HandS.Property
import HandS.TupLe
import HandS.Sort
import HandS.Evl
import HandS.TupAny
import HandS.DeepEq
import KE.KTupSum
import KE.KMathG
import Flt.RightSqrt
import HandS.Struct
import HandS.Iter
import HandS.Walk
import PyProof.EnumMake
import PyProof.Draws
import PyProof.Rows.StrJoinRep
import PyProof.Rows.RegReprOcc
import PyProof.Rows.StrCut
import HandS.DictComp
import HandS.Text
import HandS.StrMore
import HandS.Zip
import KE.KExcSuper
import KE.KSuper
import PyProof.FString
import PyProof.FString4
import HandS.Exc
import HandS.ExcOwn
import HandS.TryOnly
import HandS.WordsExc
import HandS.CallSlots
import KE.KExcIs
import HandS.ExcIs
import KE.RegKSuper
import HandS.HotCalls
import HandS.Dict
import HandS.FStr
import KE.IntTextLaws
import HandS.Flt
import HandS.Head0
import HandS.Head1
import HandS.Head2
import HandS.HeadEnd
import HandS.HeadHook1
import HandS.HeadHook2
set_option Elab.async false
set_option maxRecDepth 100000
/-! ### my words over the hand layer -/
namespace Cl
open PySem L2
/-- the built-in names that the law's text uses are still the built-ins -/
structure Bi (mg : Str → Option Value) : Prop where
  len : mg "len" = none
  abs : mg "abs" = none
  max : mg "max" = none
  min : mg "min" = none
  sum : mg "sum" = none
  all : mg "all" = none
  any : mg "any" = none
  range : mg "range" = none
  isinstance : mg "isinstance" = none
  intT : mg "int" = none
  strT : mg "str" = none
  boolT : mg "bool" = none
  listT : mg "list" = none
  divmod : mg "divmod" = none
  tupleT : mg "tuple" = none
  reversed : mg "reversed" = none
  repr : mg "repr" = none
  enumerate : mg "enumerate" = none
  zip : mg "zip" = none
  ValueErrorT : mg "ValueError" = none
  dictT : mg "dict" = none
/-- a def of the text, by its name: what it promises -/
structure Dn (P : Program) (w : World) (K : PySem.W.Frag) (mg : Str → Option Value) (base : Heap) (x : Str) (k : Nat) (ps : List Str) (sp : Sp) (dvs : List V := []) : Prop where
  ex : ∃ (f : Addr) (fd : FuncData) (ds : List Value), FnOk P w K mg base CX0 k f fd ps sp ∧ mg x = some (.ref f) ∧ PySem.W.keepIn K (.ref f) = true ∧ Binds K fd ps ds ∧ Vals dvs ds
/-- the same called with keywords -/
structure Dk (P : Program) (w : World) (K : PySem.W.Frag) (mg : Str → Option Value) (base : Heap) (x : Str) (k : Nat) (ps : List Str) (sp : Sp) (n : Nat) (ks : List Str) (gV : List V → List V → List V) : Prop where
  ex : ∃ (f : Addr) (fd : FuncData) (g : List Value → List Value → List Value), FnOk P w K mg base CX0 k f fd ps sp ∧ mg x = some (.ref f) ∧ PySem.W.keepIn K (.ref f) = true ∧ KBn K fd ps n ks g gV
section
variable {X : Cx} {k n : Nat} {ps ks : List Str} {sp : Sp} {dvs : List V} {E : XK} {x : Str} {p pos : Pos} {e : Expr} {es : List Expr} {kws : List Keyword} {t tk : TA} {gV : List V → List V → List V}
theorem pe_dn (D : Dn X.prog X.w X.K X.mg X.base x k ps sp dvs) (hr : Room k X.A) (hg : Gl X x) (hx : Passes CX0 X E) (ha : PA X (e :: es) t)
    (hdb : (x == ("__debug__" : Str)) = false := by decide) (he : starEach (e :: es) X.env = (false, eval e X.env) :: starEach es X.env := by rfl)
    (hpl : (backTo pos (starEach es X.env)).any (·.1) = false := by rfl) : PE X (.Call (.Name x p) (e :: es) [] pos) (tCall sp dvs E t) := by
  obtain ⟨f, fd, ds, G, m, kp, b, v⟩ := D.ex
  exact pe_call G hr hg m kp b v hx ha hdb he hpl
theorem pe_dn0 (D : Dn X.prog X.w X.K X.mg X.base x k ps sp dvs) (hr : Room k X.A) (hg : Gl X x) (hx : Passes CX0 X E)
    (hdb : (x == ("__debug__" : Str)) = false := by decide) : PE X (.Call (.Name x p) [] [] pos) (tCall sp dvs E tNil) := by
  obtain ⟨f, fd, ds, G, m, kp, b, v⟩ := D.ex
  exact pe_call0 G hr hg m kp b v hx hdb
theorem pe_dk (D : Dk X.prog X.w X.K X.mg X.base x k ps sp n ks gV) (hr : Room k X.A) (hg : Gl X x) (hx : Passes CX0 X E) (ha : PA X (e :: es) t) (hkw : PK X kws tk)
    (hall : (backToKw pos (keywordEach kws X.env)).all (·.1.isSome) = true := by rfl) (hks : (backToKw pos (keywordEach kws X.env)).filterMap (·.1) = ks := by rfl)
    (hdb : (x == ("__debug__" : Str)) = false := by decide) (he : starEach (e :: es) X.env = (false, eval e X.env) :: starEach es X.env := by rfl)
    (hpl : ((backTo pos (starEach (e :: es) X.env)).any (·.1) || (backToKw pos (keywordEach kws X.env)).any (·.1.isNone)) = false := by rfl) :
    PE X (.Call (.Name x p) (e :: es) kws pos) (tCallN n ks.length sp gV E t tk) := by
  obtain ⟨f, fd, g, G, m, kp, b⟩ := D.ex
  exact pe_callN G hr hg m kp b hx ha hkw hall hks hdb he hpl
end
theorem mulB {i j : Int} (h1 : -100000000000000000000000000000000000000000000000000000000000000 ≤ i) (h2 : i ≤ 100000000000000000000000000000000000000000000000000000000000000) (h3 : -100000000000000000000000000000000000000000000000000000000000000 ≤ j) (h4 : j ≤ 100000000000000000000000000000000000000000000000000000000000000) : CMulW i j :=
  wide_mul (a := 220) (b := 220) (Nat.lt_of_le_of_lt (show i.natAbs ≤ 100000000000000000000000000000000000000000000000000000000000000 by omega) (by decide)) (Nat.lt_of_le_of_lt (show j.natAbs ≤ 100000000000000000000000000000000000000000000000000000000000000 by omega) (by decide)) (by decide) (by decide) (by decide)
theorem divB {i j : Int} (h : 0 < j) (h2 : j ≤ 100000000000000000000000000000000000000000000000000000000000000) : CDivW i j :=
  wide_div h (b := 220) (Nat.lt_of_le_of_lt (show j.natAbs ≤ 100000000000000000000000000000000000000000000000000000000000000 by omega) (by decide)) (by decide) (by decide)
theorem strB {i : Int} (h1 : -100000000000000000000000000000000000000000000000000000000000000 ≤ i) (h2 : i ≤ 100000000000000000000000000000000000000000000000000000000000000) : i.natAbs.log2 < 1920 :=
  Nat.lt_of_lt_of_le (PySem.Flt.log2_lt_of (k := 220) (by decide) (Nat.lt_of_le_of_lt (show i.natAbs ≤ 100000000000000000000000000000000000000000000000000000000000000 by omega) (by decide))) (by decide)
/-- all that was tracked but what stands at a is as it was -/
def But (a : Addr) (H H' : Hp) : Prop := ∀ b o, b ≠ a → H b = some o → H' b = some o
theorem But.refl (a : Addr) (H : Hp) : But a H H := fun _ _ _ h => h
theorem But.trans {a : Addr} {H H1 H2 : Hp} (x : But a H H1) (y : But a H1 H2) : But a H H2 := fun b o n h => y b o n (x b o n h)
theorem But.of {a : Addr} {H H' : Hp} (x : Same H H') : But a H H' := fun b o _ h => x b o h
theorem But.upd {a : Addr} {H : Hp} {o : HO} : But a H (upd H a o) := fun b u n h => by rw [upd_ne n]; exact h
theorem Same.upd {p : Addr} {H : Hp} {o : HO} (h : H p = none) : Same H (upd H p o) := fun b u e => by rw [upd_ne (ne_of_none e h)]; exact e
theorem itd {c A B : Prop} [Decidable c] (h1 : c → A) (h2 : ¬ c → B) : if decide c = true then A else B := by
  by_cases h : c
  · rw [decide_eq_true h]; exact iteT (h1 h)
  · rw [decide_eq_false h]; exact iteF (h2 h)
theorem itn {c A B : Prop} [Decidable c] (h1 : ¬ c → A) (h2 : c → B) : if (!decide c) = true then A else B := by
  by_cases h : c
  · rw [decide_eq_true h]; exact iteF (h2 h)
  · rw [decide_eq_false h]; exact iteT (h1 h)
theorem iti {a b : Int} {A B : Prop} (h1 : a = b → A) (h2 : a ≠ b → B) : if decide (V.int a = V.int b) = true then A else B :=
  itd (fun h => h1 (V.int.inj h)) (fun h => h2 fun e => h (by rw [e]))
theorem itni {a b : Int} {A B : Prop} (h1 : a ≠ b → A) (h2 : a = b → B) : if (!decide (V.int a = V.int b)) = true then A else B :=
  itn (fun h => h1 fun e => h (by rw [e])) (fun h => h2 (V.int.inj h))
theorem But.sub {a b : Addr} {H H1 H2 : Hp} {o : HO} (n : b ≠ a) (x : But a H H1) (h : H b = some o) : H1 b = some o := x b o n h
/-- a comprehension without tests whose element is reckoned without a trace: the new list is the old one, mapped -/
theorem lc_pure {K : PySem.W.Frag} {a D : Addr} {xs : List V} {g : TG} {te : TE} {vs : List Nat} {σ : L2.St} {H1 : Hp} {Qd : Hp → Prop} (f : V → V) (hx : SqL K H1 a xs) (hD : H1 D = none) (hlen : xs.length < 10000)
    (hs : ∀ (x : V) (H : Hp) (R : V → Hp → Prop), x ∈ xs → (∀ b o, H1 b = some o → H b = some o) → R (f x) H → g x (wipe σ vs) H fun σ2 H2 => wipe σ2 vs = wipe σ vs ∧ te σ2 H2 R) (hd : Qd (upd H1 D (.lst (xs.map f)))) :
    ∃ W : Nat → Nat → Hp → Prop, (∃ m, W 0 m (upd H1 D (.lst []))) ∧ ∀ i m H, W i m H →
      ((Itl K a).stop i H ∧ Qd H) ∨ ((Itl K a).go i H ∧ ∃ Nx : Hp → Prop, (∀ H', Nx H' → ∃ m', m' < m ∧ W (i + 1) m' H') ∧ ∀ x H', (Itl K a).yld i H x H' → g x (wipe σ vs) H' fun σ2 H2 => wipe σ2 vs = wipe σ vs ∧ tYes σ2 H2 fun b H3 =>
        if b = true then te σ2 H3 fun y H4 => ∃ acc, H4 D = some (.lst acc) ∧ acc.length < sizeLine ∧ Nx (upd H4 D (.lst (acc ++ [y]))) else Nx H3) := by
  refine lc_list (K := K) (a := a) (xs := xs) (fun i H => H = upd H1 D (.lst ((xs.take i).map f))) (by rw [List.take_zero]; rfl) (fun i H _ e => by rw [e]; exact Same.seq (Same.upd hD) hx) ?_ ?_
  · rintro i x H hi rfl
    have hm : x ∈ xs := List.mem_of_getElem? hi
    have hi2 := (List.getElem?_eq_some_iff.mp hi).1
    have key : ∀ R : V → Hp → Prop, R (f x) (upd H1 D (.lst ((xs.take i).map f))) → g x (wipe σ vs) (upd H1 D (.lst ((xs.take i).map f))) fun σ2 H2 => wipe σ2 vs = wipe σ vs ∧ te σ2 H2 R := fun R hR =>
      hs x _ R hm (fun b o e => Same.upd hD b o e) hR
    have k2 := key (fun y H4 => ∃ acc, H4 D = some (.lst acc) ∧ acc.length < sizeLine ∧ upd H4 D (.lst (acc ++ [y])) = upd H1 D (.lst ((xs.take (i + 1)).map f))) ⟨_, upd_same, ?_, ?_⟩
    · exact k2
    · rw [List.length_map, List.length_take]
      have : (10000 : Nat) ≤ sizeLine := by decide
      omega
    · rw [upd_upd]
      have e : xs.take (i + 1) = xs.take i ++ [x] := by
        rw [List.take_add_one, hi]; rfl
      rw [e, List.map_append]; rfl
  · rintro H rfl
    rw [List.take_length]
    exact hd
/-- what stays while a new list at D grows: all that H1 tracks -/
theorem grow_same {D : Addr} {H1 H : Hp} {o : HO} (hD : H1 D = none) (x : Same H1 H) : Same H1 (upd H D o) := fun b u e => by
  rw [upd_ne (ne_of_none e hD)]; exact x b u e
/-- a comprehension over a range; its element may make objects -/
theorem lc_growR {lo : Int} {n : Nat} {g : TG} {te : TE} {vs : List Nat} {σ : L2.St} {H1 : Hp} {D : Addr} {Qd : Hp → Prop} (f : Nat → V) (hD : H1 D = none) (hlen : n < 10000)
    (hs : ∀ (i : Nat) (H : Hp) (R : V → Hp → Prop), i < n → Same H1 H → (∀ H', Same H H' → R (f i) H') → g (.int (lo + i)) (wipe σ vs) H fun σ2 H2 => wipe σ2 vs = wipe σ vs ∧ te σ2 H2 R)
    (hd : ∀ H, Same H1 H → H D = some (.lst ((List.range n).map f)) → Qd H) :
    ∃ W : Nat → Nat → Hp → Prop, (∃ m, W 0 m (upd H1 D (.lst []))) ∧ ∀ i m H, W i m H →
      ((Itr lo n).stop i H ∧ Qd H) ∨ ((Itr lo n).go i H ∧ ∃ Nx : Hp → Prop, (∀ H', Nx H' → ∃ m', m' < m ∧ W (i + 1) m' H') ∧ ∀ x H', (Itr lo n).yld i H x H' → g x (wipe σ vs) H' fun σ2 H2 => wipe σ2 vs = wipe σ vs ∧ tYes σ2 H2 fun b H3 =>
        if b = true then te σ2 H3 fun y H4 => ∃ acc, H4 D = some (.lst acc) ∧ acc.length < sizeLine ∧ Nx (upd H4 D (.lst (acc ++ [y]))) else Nx H3) := by
  refine lc_range (lo := lo) (n := n) (fun i H => Same H1 H ∧ H D = some (.lst ((List.range i).map f))) ⟨grow_same hD (Same.refl H1), upd_same⟩ ?_ (fun H h => hd H h.1 h.2)
  rintro i H hi ⟨hS, hL⟩
  have key := hs i H (fun y H4 => ∃ acc, H4 D = some (.lst acc) ∧ acc.length < sizeLine ∧ (Same H1 (upd H4 D (.lst (acc ++ [y]))) ∧ upd H4 D (.lst (acc ++ [y])) D = some (.lst ((List.range (i + 1)).map f)))) hi hS fun H' hS' => ⟨_, hS' _ _ hL, ?_, grow_same hD (hS.trans hS'), ?_⟩
  · exact key
  · rw [List.length_map, List.length_range]
    have : (10000 : Nat) ≤ sizeLine := by decide
    omega
  · rw [upd_same, List.range_succ, List.map_append]; rfl
/-- .. with a test -/
theorem lc_filtR {lo : Int} {n : Nat} {g : TG} {tt : TT} {te : TE} {vs : List Nat} {σ : L2.St} {H1 : Hp} {D : Addr} {Qd : Hp → Prop} (f : Nat → V) (p : Nat → Bool) (hD : H1 D = none) (hlen : n < 10000)
    (hs : ∀ (i : Nat) (H : Hp) (R : V → Hp → Prop) (R0 : Hp → Prop), i < n → Same H1 H → (p i = true → ∀ H', Same H H' → R (f i) H') → (p i = false → ∀ H', Same H H' → R0 H') →
      g (.int (lo + i)) (wipe σ vs) H fun σ2 H2 => wipe σ2 vs = wipe σ vs ∧ tt σ2 H2 fun b H3 => if b = true then te σ2 H3 R else R0 H3)
    (hd : ∀ H, Same H1 H → H D = some (.lst (((List.range n).filter p).map f)) → Qd H) :
    ∃ W : Nat → Nat → Hp → Prop, (∃ m, W 0 m (upd H1 D (.lst []))) ∧ ∀ i m H, W i m H →
      ((Itr lo n).stop i H ∧ Qd H) ∨ ((Itr lo n).go i H ∧ ∃ Nx : Hp → Prop, (∀ H', Nx H' → ∃ m', m' < m ∧ W (i + 1) m' H') ∧ ∀ x H', (Itr lo n).yld i H x H' → g x (wipe σ vs) H' fun σ2 H2 => wipe σ2 vs = wipe σ vs ∧ tt σ2 H2 fun b H3 =>
        if b = true then te σ2 H3 fun y H4 => ∃ acc, H4 D = some (.lst acc) ∧ acc.length < sizeLine ∧ Nx (upd H4 D (.lst (acc ++ [y]))) else Nx H3) := by
  refine lc_range (lo := lo) (n := n) (fun i H => Same H1 H ∧ H D = some (.lst (((List.range i).filter p).map f))) ⟨grow_same hD (Same.refl H1), upd_same⟩ ?_ (fun H h => hd H h.1 h.2)
  rintro i H hi ⟨hS, hL⟩
  have e1 : (List.range (i + 1)).filter p = (List.range i).filter p ++ (if p i = true then [i] else []) := by
    rw [List.range_succ, List.filter_append, List.filter_cons, List.filter_nil]
  have key := hs i H (fun y H4 => ∃ acc, H4 D = some (.lst acc) ∧ acc.length < sizeLine ∧ (Same H1 (upd H4 D (.lst (acc ++ [y]))) ∧ upd H4 D (.lst (acc ++ [y])) D = some (.lst (((List.range (i + 1)).filter p).map f))))
    (fun H4 => Same H1 H4 ∧ H4 D = some (.lst (((List.range (i + 1)).filter p).map f))) hi hS (fun hp H' hS' => ⟨_, hS' _ _ hL, ?_, grow_same hD (hS.trans hS'), ?_⟩) (fun hp H' hS' => ⟨hS.trans hS', ?_⟩)
  · exact key
  · rw [List.length_map]
    have : (10000 : Nat) ≤ sizeLine := by decide
    have h2 := List.length_filter_le p (List.range i)
    rw [List.length_range] at h2
    omega
  · rw [upd_same, e1, if_pos hp, List.map_append]; rfl
  · rw [hS' _ _ hL, e1, if_neg (by rw [hp]; exact Bool.false_ne_true), List.append_nil]
/-- .. over a list that stands still -/
theorem lc_growL {K : PySem.W.Frag} {a D : Addr} {xs : List V} {g : TG} {te : TE} {vs : List Nat} {σ : L2.St} {H1 : Hp} {Qd : Hp → Prop} (f : V → V) (hx : SqL K H1 a xs) (hD : H1 D = none) (hlen : xs.length < 10000)
    (hs : ∀ (x : V) (H : Hp) (R : V → Hp → Prop), x ∈ xs → Same H1 H → (∀ H', Same H H' → R (f x) H') → g x (wipe σ vs) H fun σ2 H2 => wipe σ2 vs = wipe σ vs ∧ te σ2 H2 R)
    (hd : ∀ H, Same H1 H → H D = some (.lst (xs.map f)) → Qd H) :
    ∃ W : Nat → Nat → Hp → Prop, (∃ m, W 0 m (upd H1 D (.lst []))) ∧ ∀ i m H, W i m H →
      ((Itl K a).stop i H ∧ Qd H) ∨ ((Itl K a).go i H ∧ ∃ Nx : Hp → Prop, (∀ H', Nx H' → ∃ m', m' < m ∧ W (i + 1) m' H') ∧ ∀ x H', (Itl K a).yld i H x H' → g x (wipe σ vs) H' fun σ2 H2 => wipe σ2 vs = wipe σ vs ∧ tYes σ2 H2 fun b H3 =>
        if b = true then te σ2 H3 fun y H4 => ∃ acc, H4 D = some (.lst acc) ∧ acc.length < sizeLine ∧ Nx (upd H4 D (.lst (acc ++ [y]))) else Nx H3) := by
  refine lc_list (K := K) (a := a) (xs := xs) (fun i H => Same H1 H ∧ H D = some (.lst ((xs.take i).map f))) ⟨grow_same hD (Same.refl H1), upd_same⟩ (fun i H _ h => Same.seq h.1 hx) ?_ (fun H h => hd H h.1 (by rw [h.2, List.take_length]))
  rintro i x H hi ⟨hS, hL⟩
  have hi2 := (List.getElem?_eq_some_iff.mp hi).1
  have key := hs x H (fun y H4 => ∃ acc, H4 D = some (.lst acc) ∧ acc.length < sizeLine ∧ (Same H1 (upd H4 D (.lst (acc ++ [y]))) ∧ upd H4 D (.lst (acc ++ [y])) D = some (.lst ((xs.take (i + 1)).map f)))) (List.mem_of_getElem? hi) hS fun H' hS' => ⟨_, hS' _ _ hL, ?_, grow_same hD (hS.trans hS'), ?_⟩
  · exact key
  · rw [List.length_map, List.length_take]
    have : (10000 : Nat) ≤ sizeLine := by decide
    omega
  · rw [upd_same]
    have e : xs.take (i + 1) = xs.take i ++ [x] := by
      rw [List.take_add_one, hi]; rfl
    rw [e, List.map_append]; rfl
/-- a bag stands at a -/
def BagAt (H : Hp) (a : Addr) : Prop := ∃ c t s : Int, H a = some (.lst [.int c, .int t, .int s])
theorem BagAt.same {H H' : Hp} {a : Addr} (h : BagAt H a) (x : Same H H') : BagAt H' a := by
  obtain ⟨c, t, s, e⟩ := h
  exact ⟨c, t, s, x _ _ e⟩
/-- a comprehension over a range whose element draws from a bag: the ints that it makes, each of which P holds -/
theorem lc_bagR {lo : Int} {n : Nat} {g : TG} {te : TE} {vs : List Nat} {σ : L2.St} {H1 : Hp} {D a : Addr} {Qd : Hp → Prop} (P : Int → Prop) (hB : BagAt H1 a) (hD : H1 D = none) (hlen : n < 10000)
    (hs : ∀ (i : Nat) (H : Hp) (R : V → Hp → Prop), i < n → BagAt H a → But a H1 H → (∀ d H', P d → BagAt H' a → But a H H' → R (.int d) H') → g (.int (lo + i)) (wipe σ vs) H fun σ2 H2 => wipe σ2 vs = wipe σ vs ∧ te σ2 H2 R)
    (hd : ∀ (ls : List Int) (H : Hp), H D = some (.lst (ls.map V.int)) → ls.length = n → (∀ x, x ∈ ls → P x) → BagAt H a → But a H1 H → Qd H) :
    ∃ W : Nat → Nat → Hp → Prop, (∃ m, W 0 m (upd H1 D (.lst []))) ∧ ∀ i m H, W i m H →
      ((Itr lo n).stop i H ∧ Qd H) ∨ ((Itr lo n).go i H ∧ ∃ Nx : Hp → Prop, (∀ H', Nx H' → ∃ m', m' < m ∧ W (i + 1) m' H') ∧ ∀ x H', (Itr lo n).yld i H x H' → g x (wipe σ vs) H' fun σ2 H2 => wipe σ2 vs = wipe σ vs ∧ tYes σ2 H2 fun b H3 =>
        if b = true then te σ2 H3 fun y H4 => ∃ acc, H4 D = some (.lst acc) ∧ acc.length < sizeLine ∧ Nx (upd H4 D (.lst (acc ++ [y]))) else Nx H3) := by
  have nDa : D ≠ a := fun e => by
    subst e
    obtain ⟨_, _, _, e2⟩ := hB
    rw [e2] at hD; cases hD
  have bagU : ∀ {H : Hp} {o : HO}, BagAt H a → BagAt (upd H D o) a := fun {H o} hb => by
    obtain ⟨x, y, z, e⟩ := hb
    exact ⟨x, y, z, by rw [upd_ne nDa.symm]; exact e⟩
  have butU : ∀ {H : Hp} {o : HO}, But a H1 H → But a H1 (upd H D o) := fun {H o} hb b u nb e => by
    rw [upd_ne (ne_of_none e hD)]; exact hb b u nb e
  refine lc_range (lo := lo) (n := n) (fun i H => ∃ ls : List Int, H D = some (.lst (ls.map V.int)) ∧ ls.length = i ∧ (∀ x, x ∈ ls → P x) ∧ BagAt H a ∧ But a H1 H) ⟨[], upd_same, rfl, fun x hx => (by cases hx), bagU hB, butU (But.refl _ _)⟩ ?_ (fun H ⟨ls, h1, h2, h3, h4, h5⟩ => hd ls H h1 h2 h3 h4 h5)
  rintro i H hi ⟨ls, h1, h2, h3, h4, h5⟩
  have key := hs i H (fun y H4 => ∃ acc, H4 D = some (.lst acc) ∧ acc.length < sizeLine ∧ ∃ ls : List Int, upd H4 D (.lst (acc ++ [y])) D = some (.lst (ls.map V.int)) ∧ ls.length = i + 1 ∧ (∀ x, x ∈ ls → P x) ∧ BagAt (upd H4 D (.lst (acc ++ [y]))) a ∧ But a H1 (upd H4 D (.lst (acc ++ [y])))) hi h4 h5
    fun d H' hP hB' hb' => ⟨ls.map V.int, hb' D _ nDa h1, ?_, ls ++ [d], by rw [upd_same, List.map_append]; rfl, by rw [List.length_append, h2]; rfl, fun x hx => ?_, bagU hB', butU (h5.trans hb')⟩
  · exact key
  · rw [List.length_map]
    have : (10000 : Nat) ≤ sizeLine := by decide
    omega
  · rcases List.mem_append.mp hx with h | h
    · exact h3 x h
    · simp at h; subst h; exact hP
/-! ### what the top has written -/
structure AtTop (K : PySem.W.Frag) (x qual : Str) (st : Stmt) (kws : List (Str × V)) : Prop where
  ex : ∃ (f : Addr) (fd : FuncData), PySem.W.nsIn K mainGlobals x = some (some (.ref f)) ∧ Fun K x qual st f fd ∧ FunD K x qual (defArgs st) (defBody st) (defScope st) [] kws f fd
section
variable {P : Program} {w : World} {K : PySem.W.Frag} {mg : Str → Option Value} {base : Heap} {x qual : Str} {st : Stmt} {ps : List Str} {k : Nat} {sp : Sp} {kws : List (Str × V)} {h : Heap}
theorem atTop0 {f : Addr} {oc : Value} {od an : Option Addr} {osl : Array (Option Value)} {kV doc pm cdv ct : Value} (a : PySem.W.nsIn K mainGlobals x = some (some (.ref f)))
    (l : K.lookup f = some ⟨oc, od, .func (PySem.W.fnOf x qual (defArgs st) (defBody st) (defScope st) .none kV doc pm an cdv ct), osl⟩) (c : PySem.W.codeIn K cdv qual = true) (p : PySem.W.keepIn K (.ref f) = true) : AtTop K x qual st [] :=
  ⟨f, _, a, fun_mk l c p, ⟨⟨oc, od, .none, kV, doc, pm, an, cdv, ct, osl, rfl, l, c, .inl ⟨rfl, rfl⟩, .inl rfl⟩, p⟩⟩
theorem atTop1 {f D : Addr} {oc : Value} {od an : Option Addr} {osl : Array (Option Value)} {doc pm cdv ct u : Value} {n : Str} {v : V} (a : PySem.W.nsIn K mainGlobals x = some (some (.ref f)))
    (l : K.lookup f = some ⟨oc, od, .func (PySem.W.fnOf x qual (defArgs st) (defBody st) (defScope st) .none (.ref D) doc pm an cdv ct), osl⟩) (c : PySem.W.codeIn K cdv qual = true) (p : PySem.W.keepIn K (.ref f) = true)
    (hk : PySem.W.nsIn K D n = some (some u)) (r : RelV v u) : AtTop K x qual st [(n, v)] :=
  ⟨f, _, a, fun_mk l c p, ⟨⟨oc, od, .none, .ref D, doc, pm, an, cdv, ct, osl, rfl, l, c, .inl ⟨rfl, rfl⟩, .inr ⟨D, rfl, fun q hq => by
    rcases List.mem_cons.mp hq with rfl | hq
    · exact ⟨u, hk, r⟩
    · cases hq⟩⟩, p⟩⟩
theorem atTop2 {f D : Addr} {oc : Value} {od an : Option Addr} {osl : Array (Option Value)} {doc pm cdv ct u u1 : Value} {n n1 : Str} {v v1 : V} (a : PySem.W.nsIn K mainGlobals x = some (some (.ref f)))
    (l : K.lookup f = some ⟨oc, od, .func (PySem.W.fnOf x qual (defArgs st) (defBody st) (defScope st) .none (.ref D) doc pm an cdv ct), osl⟩) (c : PySem.W.codeIn K cdv qual = true) (p : PySem.W.keepIn K (.ref f) = true)
    (hk : PySem.W.nsIn K D n = some (some u)) (r : RelV v u) (hk1 : PySem.W.nsIn K D n1 = some (some u1)) (r1 : RelV v1 u1) : AtTop K x qual st [(n, v), (n1, v1)] :=
  ⟨f, _, a, fun_mk l c p, ⟨⟨oc, od, .none, .ref D, doc, pm, an, cdv, ct, osl, rfl, l, c, .inl ⟨rfl, rfl⟩, .inr ⟨D, rfl, fun q hq => by
    rcases List.mem_cons.mp hq with rfl | hq
    · exact ⟨u, hk, r⟩
    rcases List.mem_cons.mp hq with rfl | hq
    · exact ⟨u1, hk1, r1⟩
    · cases hq⟩⟩, p⟩⟩
theorem atTop3 {f D : Addr} {oc : Value} {od an : Option Addr} {osl : Array (Option Value)} {doc pm cdv ct u u1 u2 : Value} {n n1 n2 : Str} {v v1 v2 : V} (a : PySem.W.nsIn K mainGlobals x = some (some (.ref f)))
    (l : K.lookup f = some ⟨oc, od, .func (PySem.W.fnOf x qual (defArgs st) (defBody st) (defScope st) .none (.ref D) doc pm an cdv ct), osl⟩) (c : PySem.W.codeIn K cdv qual = true) (p : PySem.W.keepIn K (.ref f) = true)
    (hk : PySem.W.nsIn K D n = some (some u)) (r : RelV v u) (hk1 : PySem.W.nsIn K D n1 = some (some u1)) (r1 : RelV v1 u1) (hk2 : PySem.W.nsIn K D n2 = some (some u2)) (r2 : RelV v2 u2) : AtTop K x qual st [(n, v), (n1, v1), (n2, v2)] :=
  ⟨f, _, a, fun_mk l c p, ⟨⟨oc, od, .none, .ref D, doc, pm, an, cdv, ct, osl, rfl, l, c, .inl ⟨rfl, rfl⟩, .inr ⟨D, rfl, fun q hq => by
    rcases List.mem_cons.mp hq with rfl | hq
    · exact ⟨u, hk, r⟩
    rcases List.mem_cons.mp hq with rfl | hq
    · exact ⟨u1, hk1, r1⟩
    rcases List.mem_cons.mp hq with rfl | hq
    · exact ⟨u2, hk2, r2⟩
    · cases hq⟩⟩, p⟩⟩
/-- the arguments in the parameters' order: of each keyword-only one, whether it was written (which one of the call's) or lacks (which one of those) -/
def pick {α : Type} (sel : List (Sum Nat Nat)) (us mv ws : List α) : List α := us ++ sel.flatMap fun q => match q with | .inl i => (ws.drop i).take 1 | .inr j => (mv.drop j).take 1
abbrev kwp (sel : List (Sum Nat Nat)) (mz : List V) : List V → List V → List V := fun vs zs => pick sel vs mz zs
theorem pick_rel {vs mz zs : List V} {us mv ws : List Value} (r1 : Vals vs us) (r2 : Vals mz mv) (r3 : Vals zs ws) : ∀ sel : List (Sum Nat Nat), Vals (pick sel vs mz zs) (pick sel us mv ws) := fun sel => by
  refine r1.append ?_
  induction sel with
  | nil => exact .nil
  | cons q l ih =>
    rw [List.flatMap_cons, List.flatMap_cons]
    refine Vals.append ?_ ih
    cases q with
    | inl i => exact (r3.drop i).take 1
    | inr j => exact (r2.drop j).take 1
theorem AtTop.dn (t : AtTop K x qual st kws) (X : K.In h) (G : h.Ns mainGlobals mg)
    (hb : ∀ (kV doc pm : Value) (an : Option Addr) (cdv ct : Value) (us : List Value), us.length = ps.length → bindArgs (PySem.W.fnOf x qual (defArgs st) (defBody st) (defScope st) .none kV doc pm an cdv ct) ⟨us, []⟩ = pure (ps.zip us))
    (ok : ∀ (f : Addr) (fd : FuncData), Fun K x qual st f fd → FnOk P w K mg base CX0 k f fd ps sp) : Dn P w K mg base x k ps sp := by
  obtain ⟨f, fd, a, F, _⟩ := t.ex
  exact ⟨f, fd, [], ok f fd F, PySem.W.mg_of X G a, F.kp, F.binds hb, .nil⟩
/-- a def that calls itself: the knot is tied level by level -/
theorem AtTop.dnR (t : AtTop K x qual st kws) (X : K.In h) (G : h.Ns mainGlobals mg)
    (hb : ∀ (kV doc pm : Value) (an : Option Addr) (cdv ct : Value) (us : List Value), us.length = ps.length → bindArgs (PySem.W.fnOf x qual (defArgs st) (defBody st) (defScope st) .none kV doc pm an cdv ct) ⟨us, []⟩ = pure (ps.zip us))
    (ok : ∀ (f : Addr) (fd : FuncData), Fun K x qual st f fd → (∀ (j : Nat) (sq : Sp), FnOk P w K mg base CX0 j f fd ps sq → Dn P w K mg base x j ps sq) → FnOk P w K mg base CX0 k f fd ps sp) : Dn P w K mg base x k ps sp := by
  obtain ⟨f, fd, a, F, _⟩ := t.ex
  have I : ∀ (j : Nat) (sq : Sp), FnOk P w K mg base CX0 j f fd ps sq → Dn P w K mg base x j ps sq := fun j sq g => ⟨f, fd, [], g, PySem.W.mg_of X G a, F.kp, F.binds hb, .nil⟩
  exact I k sp (ok f fd F I)
/-- called without its keywords: all the defaults -/
theorem AtTop.dd (t : AtTop K x qual st kws) (X : K.In h) (G : h.Ns mainGlobals mg) (n : Nat) (hk : kws ≠ []) (hn : n + kws.length = ps.length)
    (hb : ∀ (D : Addr) (doc pm : Value) (an : Option Addr) (cdv ct : Value) (us ks : List Value), us.length = n → ks.length = kws.length →
      KwChain D ((kws.map (·.1)).zip ks) (bindArgs (PySem.W.fnOf x qual (defArgs st) (defBody st) (defScope st) .none (.ref D) doc pm an cdv ct) ⟨us, []⟩) (ps.zip (us ++ ks)))
    (ok : ∀ (f : Addr) (fd : FuncData), Fun K x qual st f fd → FnOk P w K mg base CX0 k f fd ps sp) : Dn P w K mg base x k ps sp (kws.map (·.2)) := by
  obtain ⟨f, fd, a, F, FD⟩ := t.ex
  obtain ⟨ds, v, b⟩ := FD.binds0 n hk hn hb
  exact ⟨f, fd, ds, ok f fd F, PySem.W.mg_of X G a, F.kp, b, v⟩
/-- called with all its keywords, in their order -/
theorem AtTop.dk (t : AtTop K x qual st kws) (X : K.In h) (G : h.Ns mainGlobals mg) (n : Nat) (ks : List Str)
    (hb : ∀ (kV doc pm : Value) (an : Option Addr) (cdv ct : Value) (us ws : List Value), us.length = n → ws.length = ks.length → bindArgs (PySem.W.fnOf x qual (defArgs st) (defBody st) (defScope st) .none kV doc pm an cdv ct) ⟨us, ks.zip ws⟩ = pure (ps.zip (us ++ ws)))
    (ok : ∀ (f : Addr) (fd : FuncData), Fun K x qual st f fd → FnOk P w K mg base CX0 k f fd ps sp) : Dk P w K mg base x k ps sp n ks (fun vs zs => vs ++ zs) := by
  obtain ⟨f, fd, a, F, _⟩ := t.ex
  obtain ⟨oc, od, kV, doc, pm, an, cdv, ct, osl, rfl, lk, hcd⟩ := F.ex
  exact ⟨f, _, fun us ws => us ++ ws, ok f _ F, PySem.W.mg_of X G a, F.kp, ⟨fun s us ws _ l1 l2 => .of_eq (hb kV doc pm an cdv ct us ws l1 l2), fun r1 r2 => r1.append r2⟩⟩
/-- called with some of its keywords: of the rest the defaults -/
theorem AtTop.dkp (t : AtTop K x qual st kws) (X : K.In h) (G : h.Ns mainGlobals mg) (n : Nat) (ks : List Str) (ms : List (Str × V)) (sel : List (Sum Nat Nat)) (hk : kws ≠ []) (hms : ∀ q ∈ ms, q ∈ kws)
    (hb : ∀ (D : Addr) (doc pm : Value) (an : Option Addr) (cdv ct : Value) (us mv ws : List Value), us.length = n → mv.length = ms.length → ws.length = ks.length →
      KwChain D ((ms.map (·.1)).zip mv) (bindArgs (PySem.W.fnOf x qual (defArgs st) (defBody st) (defScope st) .none (.ref D) doc pm an cdv ct) ⟨us, ks.zip ws⟩) (ps.zip (pick sel us mv ws)))
    (ok : ∀ (f : Addr) (fd : FuncData), Fun K x qual st f fd → FnOk P w K mg base CX0 k f fd ps sp) : Dk P w K mg base x k ps sp n ks (kwp sel (ms.map (·.2))) := by
  obtain ⟨f, fd, a, F, FD⟩ := t.ex
  obtain ⟨mv, b⟩ := FD.kbinds0 (ps := ps) n ks ms (fun us mv ws => pick sel us mv ws) hk hms (fun r1 r2 r3 => pick_rel r1 r2 r3 sel) hb
  exact ⟨f, fd, _, ok f fd F, PySem.W.mg_of X G a, F.kp, b⟩
end
end Cl

open PySem L2 Cl
local macro_rules | `(tactic| walk_at "rd") => `(tactic| (repeat (first | refine ⟨_, rfl, ?_⟩ | refine ⟨_, _, rfl, rfl, ?_⟩ | refine ⟨_, _, rfl, ?_⟩ | refine ⟨_, _, _, rfl, ?_⟩ | refine ⟨_, _, _, _, rfl, ?_⟩ | refine ⟨.inr ⟨by decide, by decide⟩, ?_⟩ | refine ⟨.inl ⟨by decide, by decide⟩, ?_⟩ | refine ⟨⟨by decide, by decide⟩, ?_⟩ | refine ⟨⟨by decide, by decide, by decide⟩, ?_⟩ | refine ⟨(by show (0 : Int) < _; decide), ?_⟩ | refine ⟨rfl, ?_⟩ | refine .inl ⟨_, rfl, ?_⟩ | refine .inr ⟨_, rfl, ?_⟩)))
/-! ### my rules: own __len__, __add__, __eq__, static methods, C(*xs) -/
namespace Cl
open StX ClX PyProof.Rows
section
variable {X : Cx} {CX : CXT} {k : Nat} {C f p g : Addr} {mc : Value} {fd : FuncData} {ps : List Str} {sp : Sp} {dvs : List V} {ds : List Value} {E : XK} {x m : Str} {pn pos apos : Pos} {e o : Expr} {es : List Expr} {te ta : TE} {t : TA} {pl : Sem Bool}
theorem call_lenO (F : FnOk X.prog X.w X.K X.mg X.base CX k f fd ps sp) (hr : Room (k + 1) X.A) (hs : PySem.W.findIn X.K (.ref C) "__len__" = some (some (.ref f))) (hf : PySem.W.isFn X.K (.ref f) = true) (hb : Binds X.K fd ps []) (hx : Passes CX X E) :
    CallR X (.builtin "len") (fun xs H Q => ∃ a dx fs, xs = [.ref a] ∧ H a = some (.ins C dx fs) ∧ sp [.ref a] H (fun v H' => ∃ n : Nat, v = .int n ∧ n < 4611686018427387904 ∧ Q (.int n) H') E) := by
  intro pins s σ H xs us Q I r h
  obtain ⟨a, dx, fs, rfl, ha, hq⟩ := h
  obtain ⟨u, rfl, r1⟩ := vals1 r
  cases r1
  obtain ⟨mA, O, _⟩ := ins_get I.hok ha
  obtain ⟨od, J, _⟩ := O.look
  obtain ⟨mm, hF⟩ := I.fr
  have hl := F.len _ _ _ _ hq
  refine PySem.W.len_K hF I.ok.mod.kin J hs hf ?_
  refine wpAny_call (codeAny_mono (F.run X.A.in1 X.stack s H ⟨[.ref a], []⟩ [.ref a] [.ref a] _ E hr.in1 I.env0.in1 (by
    have := hb s [.ref a] I.kIn (by simpa using hl)
    simpa using this) (.cons rfl .nil) hq) fun r s' hq => ?_)
  cases r with
  | error e => exact hx pins σ H s e s' I hq
  | ok fl =>
    cases fl with
    | ret w =>
      obtain ⟨z, H', I', rz, n, ez, hn, q⟩ := I.after hq
      subst ez
      obtain ⟨tk, rfl⟩ := rz
      exact ⟨⟨by omega, by omega⟩, .int n, H', I'.tok _, ⟨_, rfl⟩, q⟩
    | next => exact False.elim hq
    | brk => exact False.elim hq
    | cont => exact False.elim hq
theorem notNI {v : V} {u : Value} {Q : Value → Shared → Prop} {s : Shared} (r : RelV v u) (q : Q u s) : PySem.W.CmpBack Q u s := by
  cases v with
  | non => cases r; exact q
  | bl b => cases r; exact q
  | int i => obtain ⟨t, rfl⟩ := r; exact q
  | str i => obtain ⟨t, rfl⟩ := r; exact q
  | byt i => obtain ⟨t, rfl⟩ := r; exact q
  | flt i => obtain ⟨t, rfl⟩ := r; exact q
  | ref a => cases r; exact q
  | ty n => cases r; exact q
def rOwn2 (C : Addr) (sp : Sp) (E : XK) : R2 := fun x y H Q => ∃ a b dx dy fs gs, x = .ref a ∧ y = .ref b ∧ H a = some (.ins C dx fs) ∧ H b = some (.ins C dy gs) ∧ sp [.ref a, .ref b] H Q E
theorem op_addO (F : FnOk X.prog X.w X.K X.mg X.base CX k f fd ps sp) (hr : Room k X.A) (hc : PySem.W.selfFirst X.K C = true) (hs : PySem.W.findIn X.K (.ref C) "__add__" = some (some (.ref f))) (hf : PySem.W.isFn X.K (.ref f) = true) (hb : Binds X.K fd ps []) (hx : Passes CX X E) :
    OpR X (binaryOp .Add) (rOwn2 C sp E) := by
  intro pins s σ H x y v u Q I rx ry h
  obtain ⟨a, b, dx, dy, fs, gs, rfl, rfl, ha, hb2, hq⟩ := h
  cases rx
  cases ry
  obtain ⟨mA, J, _⟩ := ins_get I.hok ha
  obtain ⟨mB, J', _⟩ := ins_get I.hok hb2
  obtain ⟨od, J, _⟩ := J.look
  obtain ⟨od', J', _⟩ := J'.look
  obtain ⟨mm, hF⟩ := I.fr
  refine PySem.W.binop_K (op := .Add) hF I.ok.mod.kin J J'.type hc hs hf ?_
  exact thn (run_fn (us := [.ref a, .ref b]) (vs := [.ref a, .ref b]) (dvs := []) (ds := []) F hr hb .nil hx I (.cons rfl (.cons rfl .nil)) hq) fun w s' hw => by
    obtain ⟨z, H', I', rz, q⟩ := hw
    exact notNI rz ⟨z, H', I', rz, q⟩
theorem op_eqO (F : FnOk X.prog X.w X.K X.mg X.base CX k f fd ps sp) (hr : Room k X.A) (hs : PySem.W.findIn X.K (.ref C) "__eq__" = some (some (.ref f))) (hf : PySem.W.isFn X.K (.ref f) = true) (hb : Binds X.K fd ps []) (hx : Passes CX X E) :
    OpR X (compareOp .Eq) (rOwn2 C sp E) := by
  intro pins s σ H x y v u Q I rx ry h
  obtain ⟨a, b, dx, dy, fs, gs, rfl, rfl, ha, hb2, hq⟩ := h
  cases rx
  cases ry
  obtain ⟨mA, J, _⟩ := ins_get I.hok ha
  obtain ⟨mB, J', _⟩ := ins_get I.hok hb2
  obtain ⟨od, J, _⟩ := J.look
  obtain ⟨od', J', _⟩ := J'.look
  obtain ⟨mm, hF⟩ := I.fr
  show wpAny (model X.prog X.w) X.A (richCompare .Eq (.ref a) (.ref b)) (EP X pins σ Q) X.xe s
  refine PySem.W.cmp_K (op := .Eq) (tb := .ref C) hr.units0 hF I.ok.mod.kin J J'.type (by simp [PySem.W.notFirst]) hs hf ?_
  exact thn (run_fn (us := [.ref a, .ref b]) (vs := [.ref a, .ref b]) (dvs := []) (ds := []) F hr hb .nil hx I (.cons rfl (.cons rfl .nil)) hq) fun w s' hw => by
    obtain ⟨z, H', I', rz, q⟩ := hw
    exact notNI rz ⟨z, H', I', rz, q⟩
/-- C.m is a static method: its record at p, its def at g -/
structure SMet (K : PySem.W.Frag) (C : Addr) (mc : Value) (m : Str) (p g : Addr) : Prop where
  at_ : PySem.W.findCls K (.ref C) mc m = some (.get (.builtin "staticmethod.__get__") (.ref p) .none (.ref C))
  rc : ∃ rest, PySem.W.recIn K p "staticmethod" = some (.ref g :: rest)
def tSMeth (C : Addr) (sp : Sp) (dvs : List V) (E : XK) (ta : TE) (t : TA) : TE := fun σ H Q => ta σ H fun x H1 => x = .ref C ∧ t σ H1 fun vs H2 => sp (vs ++ dvs) H2 Q E
theorem pe_smeth (he : PE X o ta) (r : CRead X.K C mc) (c : SMet X.K C mc m p f) (F : FnOk X.prog X.w X.K X.mg X.base CX k f fd ps sp) (hr : Room k X.A) (hk : PySem.W.keepIn X.K (.ref f) = true) (hb : Binds X.K fd ps ds) (hd : Vals dvs ds) (hx : Passes CX X E) (ha : PA X (e :: es) t)
    (hst : starEach (e :: es) X.env = (false, eval e X.env) :: starEach es X.env := by rfl) (hpl : (backTo pos (starEach es X.env)).any (·.1) = false := by rfl)
    (ht : eval (.Call (.Attribute o m apos) (e :: es) [] pos) X.env = (do
      let ov ← eval o X.env
      standAt apos.atName
      let (f, first) ← holding [ov] (getMethod ov m pl)
      callWith pos f first (backTo pos (starEach (e :: es) X.env)) (backToKw pos (keywordEach [] X.env))) := by rfl) :
    PE X (.Call (.Attribute o m apos) (e :: es) [] pos) (tSMeth C sp dvs E ta t) := by
  refine ⟨fun pins s σ H Q I h => ?_⟩
  refine PySem.W.methodCall_KW (pl := pl) (thn (he.run pins s σ H _ I h) fun u s1 ⟨x, H1, I1, rx, ex, q⟩ => ?_) ht
  subst ex
  obtain rfl : u = Value.ref C := rx
  obtain ⟨rest, hp⟩ := c.rc
  refine PySem.W.method_cls I1.kIn r.ga ?_
  refine PySem.W.cls_bind I1.kIn r.rd c.at_ ?_
  refine wpAny_call (PySem.W.sm_get (s := { s1 with toks := s1.toks + 1 }) I1.kIn hp ?_)
  refine PySem.W.handed_on rfl ?_
  refine PySem.W.callWith_K (h₀ := X.base) I.ok.mod.kin hk (thn (ha.run pos pins _ σ H1 _ (I1.tok _) q) fun us s2 ⟨vs, H2, I2, r2, q2⟩ => ⟨I2.kIn, ?_⟩) hst hpl
  exact run_fn F hr hb hd hx I2 r2 q2
def tMakeS (K : PySem.W.Frag) (C : Addr) (sp : Sp) (E : XK) (te : TE) : TE := fun σ H Q => te σ H fun y H1 => ∃ a xs, y = V.ref a ∧ (SqT K H1 a xs ∨ SqL K H1 a xs) ∧
  ∀ x dx, H1 x = Option.none → H1 dx = Option.none → dx ≠ x → sp (V.ref x :: xs) (upd (upd H1 dx (.own x)) x (.ins C dx [])) (fun v H2 => v = .non ∧ Q (.ref x) H2) E
theorem pe_makeS {sp_ : Pos} (M : Mk X.K C f) (F : FnR X.prog X.w X.K X.mg X.base CX k f sp) (hr : Room (k + 1) X.A) (hg : Gl X x) (hm : X.mg x = some (.ref C)) (hx : Passes CX X E) (he : PE X e te) (hdb : (x == ("__debug__" : Str)) = false := by decide)
    (hst : starEach [.Starred e sp_] X.env = [(true, eval e X.env)] := by rfl) : PE X (.Call (.Name x pn) [.Starred e sp_] [] pos) (tMakeS X.K C sp E te) := by
  refine ⟨fun pins s σ H Q I h => ?_⟩
  refine wpAny_Call_Name_kw (ld_glob I hg hm ?_ hdb)
  refine PySem.W.callWith_S (h₀ := X.base) I.ok.mod.kin M.kp (thn (he.run pins s σ H _ I h) fun v s1 ⟨y, H1, I1, ry, a, xs, ey, hxs, q⟩ => ?_) hst
  subst ey
  obtain rfl : v = Value.ref a := ry
  exact star_any I1 hxs fun us s2 I2 rv => ⟨I2.kIn, run_makeR M F hr hx I2 rv q⟩
/-- sum(t) of a tuple of ints -/
def rSumT (K : PySem.W.Frag) : List V → Hp → VK → Prop := fun vs H Q => ∃ (a : Addr) (ns : List Int), vs = [V.ref a] ∧ SqT K H a (ns.map V.int) ∧ Q (.int ns.sum) H
theorem cr_sumT (hc : X.calm = true) : CallR X (.builtin "sum") (rSumT X.K) := by
  intro pins s σ H vs us Q I r h
  obtain ⟨a, ns, rfl, hs, q⟩ := h
  obtain ⟨its, rv, hl, _⟩ := I.tuple hs
  rw [Vals.ref1 r]
  have hi := rv.ints
  obtain ⟨xs, e⟩ := hi.allInts.items
  have hn : numsOf (intItems xs).toList = ns := by rw [← e]; exact hi.numsOf
  rw [nums_intItems] at hn
  rw [e] at hl
  refine PySem.W.ktm_sumG (I.ok.hd hc) hl fun h' tk t' hk => ?_
  rw [preSum_eq, List.take_of_length_le (by simp), hn]
  exact ⟨.int _, H, I.kept hk, ⟨_, rfl⟩, q⟩
/-! rules that say a new tuple by what can be read of it -/
def rSlE (K : PySem.W.Frag) : V → Option Int → Option Int → Hp → VK → Prop := fun x lo hi H Q => ∃ a xs, x = .ref a ∧ SqT K H a xs ∧ ∀ p H', SqT K H' p (cutV xs lo hi) → Same H H' → Q (.ref p) H'
theorem sl_tupE : SlR X (rSlE X.K) := by
  intro pins s σ H x v vl vu lo hi sl Q I rx hs pl pu h
  refine sl_tupA pins s σ H x v vl vu lo hi sl Q I rx hs pl pu ?_
  obtain ⟨a, xs, e, ha, q⟩ := h
  refine ⟨a, xs, e, ha, fun hw => ?_, fun _ p hp => ?_⟩
  · refine q a H ?_ (Same.refl H)
    obtain ⟨h1, h2⟩ := hw
    unfold cutV
    rw [h1, h2, Nat.sub_zero, List.drop_zero, List.take_length]
    exact ha
  · exact q p _ (SqT.of upd_same) (Same.upd hp)
def rCatE (K : PySem.W.Frag) : R2 := fun x y H Q => ∃ a b xs ys, x = .ref a ∧ y = .ref b ∧ SqT K H a xs ∧ SqT K H b ys ∧ xs.length + ys.length ≤ 10000 ∧ ∀ p H', SqT K H' p (xs ++ ys) → Same H H' → Q (.ref p) H'
theorem op_catE : OpR X (binaryOp .Add) (rCatE X.K) := by
  intro pins s σ H x y v u Q I rx ry h
  refine op_catA pins s σ H x y v u Q I rx ry ?_
  obtain ⟨a, b, xs, ys, e1, e2, ha, hb, hl, q⟩ := h
  refine ⟨a, b, xs, ys, e1, e2, ha, hb, Nat.le_trans hl (by decide), fun h1 => ?_, fun _ h2 => ?_, fun _ _ p hp => ?_⟩
  · exact q b H (by rw [h1]; exact hb) (Same.refl H)
  · exact q a H (by rw [h2, List.append_nil]; exact ha) (Same.refl H)
  · exact q p _ (SqT.of upd_same) (Same.upd hp)
end
/-! ### a class's defs by their names -/
structure ClsC (K : PySem.W.Frag) (mg : Str → Option Value) (x : Str) (C : Addr) : Prop where
  cl : Cls K C
  mg : mg x = some (.ref C)
  ic : C8.InsC K C
  sf : PySem.W.selfFirst K C = true
structure Mn (P : Program) (w : World) (K : PySem.W.Frag) (mg : Str → Option Value) (base : Heap) (C : Addr) (m : Str) (k : Nat) (ps : List Str) (sp : Sp) : Prop where
  ex : ∃ (f : Addr) (fd : FuncData), Meth K C m f ∧ FnOk P w K mg base CX0 k f fd ps sp ∧ Binds K fd ps []
structure Pn (P : Program) (w : World) (K : PySem.W.Frag) (mg : Str → Option Value) (base : Heap) (C : Addr) (m : Str) (k : Nat) (sp : Sp) : Prop where
  ex : ∃ (p g : Addr) (fd : FuncData), PropOf K C m p g ∧ FnOk P w K mg base CX0 k g fd ["self"] sp ∧ Binds K fd ["self"] []
structure Sn (P : Program) (w : World) (K : PySem.W.Frag) (mg : Str → Option Value) (base : Heap) (C : Addr) (m : Str) (k : Nat) (ps : List Str) (sp : Sp) : Prop where
  ex : ∃ (p f : Addr) (fd : FuncData) (mc : Value), CRead K C mc ∧ SMet K C mc m p f ∧ FnOk P w K mg base CX0 k f fd ps sp ∧ PySem.W.keepIn K (.ref f) = true ∧ Binds K fd ps []
structure Cn (P : Program) (w : World) (K : PySem.W.Frag) (mg : Str → Option Value) (base : Heap) (C : Addr) (k : Nat) (sp : Sp) : Prop where
  ex : ∃ (f : Addr), Mk K C f ∧ FnR P w K mg base CX0 k f sp
structure On (P : Program) (w : World) (K : PySem.W.Frag) (mg : Str → Option Value) (base : Heap) (C : Addr) (m : Str) (k : Nat) (ps : List Str) (sp : Sp) : Prop where
  ex : ∃ (f : Addr) (fd : FuncData), PySem.W.findIn K (.ref C) m = some (some (.ref f)) ∧ PySem.W.isFn K (.ref f) = true ∧ FnOk P w K mg base CX0 k f fd ps sp ∧ Binds K fd ps []
section
variable {X : Cx} {k : Nat} {C : Addr} {ps : List Str} {sp : Sp} {E : XK} {x m : Str} {pn pos apos : Pos} {e o : Expr} {es : List Expr} {te ta : TE} {t : TA} {pl : Sem Bool}
theorem pe_cls (c : ClsC X.K X.mg x C) (hg : Gl X x) (hd : (x == ("__debug__" : Str)) = false := by decide) : PE X (.Name x pos) (tC (.ref C)) := pe_glob (v := .ref C) hg c.mg rfl hd
theorem pe_mn (D : Mn X.prog X.w X.K X.mg X.base C m k ps sp) (cl : Cls X.K C) (hr : Room k X.A) (hx : Passes CX0 X E) (he : PE X o ta) (ha : PA X (e :: es) t)
    (hst : starEach (e :: es) X.env = (false, eval e X.env) :: starEach es X.env := by rfl) (hpl : (backTo pos (starEach es X.env)).any (·.1) = false := by rfl)
    (ht : eval (.Call (.Attribute o m apos) (e :: es) [] pos) X.env = (do
      let ov ← eval o X.env
      standAt apos.atName
      let (f, first) ← holding [ov] (getMethod ov m pl)
      callWith pos f first (backTo pos (starEach (e :: es) X.env)) (backToKw pos (keywordEach [] X.env))) := by rfl) :
    PE X (.Call (.Attribute o m apos) (e :: es) [] pos) (tMeth C m sp [] E ta t) := by
  obtain ⟨f, fd, M, F, b⟩ := D.ex
  exact pe_meth (pl := pl) he cl M F hr b .nil hx ha hst hpl ht
theorem pe_mn0 (D : Mn X.prog X.w X.K X.mg X.base C m k ps sp) (cl : Cls X.K C) (hr : Room k X.A) (hx : Passes CX0 X E) (he : PE X o ta)
    (ht : eval (.Call (.Attribute o m apos) [] [] pos) X.env = (do
      let ov ← eval o X.env
      standAt apos.atName
      let (f, first) ← holding [ov] (getMethod ov m pl)
      callWith pos f first (backTo pos (starEach [] X.env)) (backToKw pos (keywordEach [] X.env))) := by rfl) :
    PE X (.Call (.Attribute o m apos) [] [] pos) (tMeth C m sp [] E ta tNil) := by
  obtain ⟨f, fd, M, F, b⟩ := D.ex
  exact pe_meth0 (pl := pl) he cl M F hr b .nil hx ht
theorem pe_pn (D : Pn X.prog X.w X.K X.mg X.base C m k sp) (cl : Cls X.K C) (hr : Room (k + 1) X.A) (he : PE X o ta) (hab : attributeBase o m X.env (eval o X.env) = eval o X.env := by rfl) : PE X (.Attribute o m pos) (tProp C sp [] E0 ta) := by
  obtain ⟨p, g, fd, hp, F, b⟩ := D.ex
  exact pe_prop he cl hp F hr b .nil pass0 hab
theorem pe_sn (D : Sn X.prog X.w X.K X.mg X.base C m k ps sp) (hr : Room k X.A) (hx : Passes CX0 X E) (he : PE X o ta) (ha : PA X (e :: es) t)
    (hst : starEach (e :: es) X.env = (false, eval e X.env) :: starEach es X.env := by rfl) (hpl : (backTo pos (starEach es X.env)).any (·.1) = false := by rfl)
    (ht : eval (.Call (.Attribute o m apos) (e :: es) [] pos) X.env = (do
      let ov ← eval o X.env
      standAt apos.atName
      let (f, first) ← holding [ov] (getMethod ov m pl)
      callWith pos f first (backTo pos (starEach (e :: es) X.env)) (backToKw pos (keywordEach [] X.env))) := by rfl) :
    PE X (.Call (.Attribute o m apos) (e :: es) [] pos) (tSMeth C sp [] E ta t) := by
  obtain ⟨p, f, fd, mc, r, c, F, kp, b⟩ := D.ex
  exact pe_smeth (pl := pl) he r c F hr kp b .nil hx ha hst hpl ht
theorem pe_mkR (D : Cn X.prog X.w X.K X.mg X.base C k sp) (hr : Room (k + 1) X.A) (hg : Gl X x) (hm : X.mg x = some (.ref C)) (hx : Passes CX0 X E) (ha : PA X (e :: es) t) (hdb : (x == ("__debug__" : Str)) = false := by decide)
    (he : starEach (e :: es) X.env = (false, eval e X.env) :: starEach es X.env := by rfl) (hpl : (backTo pos (starEach es X.env)).any (·.1) = false := by rfl) : PE X (.Call (.Name x pn) (e :: es) [] pos) (tMakeR C sp E t) := by
  obtain ⟨f, M, F⟩ := D.ex
  exact pe_makeR M F hr hg hm hx ha hdb he hpl
theorem pe_mkS {sp_ : Pos} (D : Cn X.prog X.w X.K X.mg X.base C k sp) (hr : Room (k + 1) X.A) (hg : Gl X x) (hm : X.mg x = some (.ref C)) (hx : Passes CX0 X E) (he : PE X e te) (hdb : (x == ("__debug__" : Str)) = false := by decide)
    (hst : starEach [.Starred e sp_] X.env = [(true, eval e X.env)] := by rfl) : PE X (.Call (.Name x pn) [.Starred e sp_] [] pos) (tMakeS X.K C sp E te) := by
  obtain ⟨f, M, F⟩ := D.ex
  exact pe_makeS M F hr hg hm hx he hdb hst
theorem op_addN (D : On X.prog X.w X.K X.mg X.base C "__add__" k ps sp) (c : ClsC X.K X.mg x C) (hr : Room k X.A) : OpR X (binaryOp .Add) (rOwn2 C sp E0) := by
  obtain ⟨f, fd, a, i, F, b⟩ := D.ex
  exact op_addO F hr c.sf a i b pass0
theorem op_eqN (D : On X.prog X.w X.K X.mg X.base C "__eq__" k ps sp) (hr : Room k X.A) : OpR X (compareOp .Eq) (rOwn2 C sp E0) := by
  obtain ⟨f, fd, a, i, F, b⟩ := D.ex
  exact op_eqO F hr a i b pass0
def rLenO (C : Addr) (sp : Sp) : List V → Hp → VK → Prop := fun xs H Q => ∃ a dx fs, xs = [.ref a] ∧ H a = some (.ins C dx fs) ∧ sp [.ref a] H (fun v H' => ∃ n : Nat, v = .int n ∧ n < 4611686018427387904 ∧ Q (.int n) H') E0
theorem call_lenN (D : On X.prog X.w X.K X.mg X.base C "__len__" k ps sp) (hr : Room (k + 1) X.A) : CallR X (.builtin "len") (rLenO C sp) := by
  obtain ⟨f, fd, a, i, F, b⟩ := D.ex
  exact call_lenO F hr a i b pass0
/-! a range kept as a value, walked -/
def iRngV (tl : TE) : TI := fun σ H R => tl σ H fun x H1 => ∃ a lo hi, x = .ref a ∧ H1 a = some (.rng lo hi) ∧ (-(2 ^ 62) ≤ lo ∧ lo < 2 ^ 62 ∧ -(2 ^ 62) ≤ hi ∧ hi < 2 ^ 62) ∧ R (Itr lo (hi - lo).toNat) H1
theorem pi_rng {tg l : Expr} {tl : TE} (hl : PE X l tl) : PI X tg l (iRngV tl) := by
  refine ⟨fun pins s σ H R I h => ?_⟩
  refine thn (hl.run pins s σ H _ I h) fun v s1 ⟨x, H1, I1, r1, q1⟩ => ?_
  obtain ⟨a, lo, hi, e, ha, ⟨h1, h2, h3, h4⟩, q⟩ := q1
  subst e
  cases r1
  obtain ⟨t, u, w', hg⟩ := I1.hok a _ ha
  refine wpAny_pyIter_range (show IsRange _ _ _ _ _ _ _ _ from hg) (small_one h1 h2 h3 h4) ?_
  refine ⟨s1.heap.objs.size, [s1.heap.objs.size], _, _, H1, rfl, I1.kept (t' := s1.toks) fun b o e => Heap.get?_push_of_some _ e, turn_range _ lo (hi - lo).toNat, ?_, fun b hb => ?_, q⟩
  · have e1 : lo + ((0 : Nat) : Int) * 1 = lo := by simp
    have e2 : (((hi - lo).toNat : Nat) : Int) - ((0 : Nat) : Int) = Builtin.Range.rangeSize lo hi 1 := by rw [rangeSize_one]; split <;> omega
    show IsRangeIter _ _ (lo + ((0 : Nat) : Int) * 1) ((((hi - lo).toNat : Nat) : Int) - ((0 : Nat) : Int)) 1
    rw [e1, e2]
    exact Heap.get?_push_size _ rfl
  · have e : b = s1.heap.objs.size := by simpa using hb
    subst e
    exact I1.fpOk (Nat.le_refl _) (I1.hok.fresh (Nat.le_refl _))
/-! the rules that name the written part, with its name given (for the element of a comprehension) -/
theorem ix_listK (K : PySem.W.Frag) (h : X.K = K := by rfl) : IxR X (rIxL K) := h ▸ ix_list
theorem ix_tupK (K : PySem.W.Frag) (h : X.K = K := by rfl) : IxR X (rIxT K) := h ▸ ix_tup
def rLenK (K : PySem.W.Frag) : List V → Hp → VK → Prop := fun xs H Q => ∃ p ys, xs = [.ref p] ∧ (SqL K H p ys ∨ SqT K H p ys) ∧ Q (.int ys.length) H
theorem call_lenK (K : PySem.W.Frag) (h : X.K = K := by rfl) : CallR X (.builtin "len") (rLenK K) := h ▸ call_len_seq
theorem cr_sumK (K : PySem.W.Frag) (hc : X.calm = true) (h : X.K = K := by rfl) : CallR X (.builtin "sum") (rSum K) := h ▸ cr_sum hc
theorem cr_minK (K : PySem.W.Frag) (hc : X.calm = true) (h : X.K = K := by rfl) : CallR X (.builtin "min") (rMin K) := h ▸ cr_min hc
theorem call_isiK (K : PySem.W.Frag) (h : X.K = K := by rfl) : CallR X (.builtin "isinstance") (rIsi K) := h ▸ call_isi
theorem op_eqDK (K : PySem.W.Frag) (hu : X.A.units + 64 < cLine) (h : X.K = K := by rfl) : OpR X (compareOp .Eq) (rEqD K) := h ▸ op_eqD hu
def rIsqrt : List V → Hp → VK → Prop := fun vs H Q => ∃ a : Int, vs = [.int a] ∧ 0 ≤ a ∧ a < 2 ^ 64 ∧ ∀ r : Nat, r * r ≤ a.toNat → a.toNat < (r + 1) * (r + 1) → Q (.int (r : Int)) H
theorem cr_isqrt : CallR X (.builtin "math.isqrt") rIsqrt := by
  intro pins s σ H vs us Q I r h
  obtain ⟨a, rfl, h0, h1, q⟩ := h
  obtain ⟨u, rfl, t, rfl⟩ := Vals.one r
  have sp := PySem.Float64.isqrt_spec a.toNat
  exact PySem.W.mg_isqrt h0 h1 ⟨.int _, H, I.tok _, ⟨_, rfl⟩, q _ sp.1 sp.2⟩
theorem sl_listK (K : PySem.W.Frag) (h : X.K = K := by rfl) : SlR X (rSlL K) := h ▸ sl_list
theorem pe_fldK (K : PySem.W.Frag) {f : Str} (he : PE X e ta) (hb : attributeBase e f X.env (eval e X.env) = eval e X.env) (h : X.K = K := by rfl) : PE X (.Attribute e f pos) (tFld K ta f) := h ▸ pe_fld he hb
end
/-! ### what the top has written of a class -/
structure AtC (K : PySem.W.Frag) (x : Str) (C : Addr) : Prop where
  at_ : PySem.W.nsIn K mainGlobals x = some (some (.ref C))
  cl : Cls K C
  ic : C8.InsC K C
  sf : PySem.W.selfFirst K C = true
  made : PySem.W.makesIn K C = true
  kp : PySem.W.keepIn K (.ref C) = true
theorem atC {K : PySem.W.Frag} {x : Str} {C : Addr} (a : PySem.W.nsIn K mainGlobals x = some (some (.ref C))) (pg : PySem.W.plainGet K C Str.empty = true) (hd : PySem.W.hasDictIn K C = true) (po : PySem.W.plainOver K C = true) (sa : PySem.W.findIn K (.ref C) "__setattr__" = some (some (.builtin "object.__setattr__")))
    (ha : PySem.W.findIn K (.ref C) "__class__" = some (some (.builtin "object.__class__"))) (hn : PySem.W.specialIn K (.builtin "object.__class__") "__get__" = some (some (.builtin "getset_descriptor.__get__"))) (htk : PySem.W.takesIn K (.builtin "object.__class__") = some true)
    (hm : PySem.W.mroIn K C (.type "object") = some true) (sf : PySem.W.selfFirst K C = true) (mk : PySem.W.makesIn K C = true) (kp : PySem.W.keepIn K (.ref C) = true) : AtC K x C :=
  ⟨a, ⟨pg, hd, po, sa⟩, ⟨⟨pg, hd, po, sa⟩, ha, hn, htk, hm, by unfold PySem.W.kitOne; simp⟩, sf, mk, kp⟩
structure AtCls (K : PySem.W.Frag) (C : Addr) (m qual : Str) (st : Stmt) : Prop where
  ex : ∃ (f : Addr) (fd : FuncData), PySem.W.findIn K (.ref C) m = some (some (.ref f)) ∧ PySem.W.isFn K (.ref f) = true ∧ Fun K m qual st f fd
theorem atCls {K : PySem.W.Frag} {C f : Addr} {m qual : Str} {st : Stmt} {oc : Value} {od an : Option Addr} {osl : Array (Option Value)} {kV doc pm cdv ct : Value} (a : PySem.W.findIn K (.ref C) m = some (some (.ref f))) (i : PySem.W.isFn K (.ref f) = true)
    (l : K.lookup f = some ⟨oc, od, .func (PySem.W.fnOf m qual (defArgs st) (defBody st) (defScope st) .none kV doc pm an cdv ct), osl⟩) (c : PySem.W.codeIn K cdv qual = true) (p : PySem.W.keepIn K (.ref f) = true) : AtCls K C m qual st :=
  ⟨f, _, a, i, fun_mk l c p⟩
structure AtProp (K : PySem.W.Frag) (C : Addr) (m qual : Str) (st : Stmt) : Prop where
  ex : ∃ (p g : Addr) (fd : FuncData), PropOf K C m p g ∧ Fun K m qual st g fd
theorem atProp {K : PySem.W.Frag} {C p g : Addr} {m qual : Str} {st : Stmt} {oc : Value} {od an : Option Addr} {osl : Array (Option Value)} {kV doc pm cdv ct : Value} {rest : List Value} (a : PySem.W.findIn K (.ref C) m = some (some (.ref p))) (gt : PySem.W.specialIn K (.ref p) "__get__" = some (some (.builtin "property.__get__")))
    (tk : PySem.W.takesIn K (.ref p) = some true) (rc : PySem.W.recIn K p "property" = some (.ref g :: rest))
    (l : K.lookup g = some ⟨oc, od, .func (PySem.W.fnOf m qual (defArgs st) (defBody st) (defScope st) .none kV doc pm an cdv ct), osl⟩) (c : PySem.W.codeIn K cdv qual = true) (kp : PySem.W.keepIn K (.ref g) = true) : AtProp K C m qual st :=
  ⟨p, g, _, ⟨a, gt, tk, _, rc⟩, fun_mk l c kp⟩
structure AtStat (K : PySem.W.Frag) (C : Addr) (m qual : Str) (st : Stmt) : Prop where
  ex : ∃ (p g : Addr) (fd : FuncData) (mc : Value), CRead K C mc ∧ SMet K C mc m p g ∧ Fun K m qual st g fd
theorem atStat {K : PySem.W.Frag} {C p g : Addr} {m qual : Str} {st : Stmt} {oc mc : Value} {od an : Option Addr} {osl : Array (Option Value)} {kV doc pm cdv ct : Value} {rest : List Value} (_ty : PySem.W.typeIn K (.ref C) = some mc) (rd : PySem.W.readsIn K C mc = true)
    (ga : PySem.W.specialIn K (.ref C) "__getattribute__" = some (some (.builtin "type.__getattribute__"))) (fc : PySem.W.findCls K (.ref C) mc m = some (.get (.builtin "staticmethod.__get__") (.ref p) .none (.ref C))) (rc : PySem.W.recIn K p "staticmethod" = some (.ref g :: rest))
    (l : K.lookup g = some ⟨oc, od, .func (PySem.W.fnOf m qual (defArgs st) (defBody st) (defScope st) .none kV doc pm an cdv ct), osl⟩) (c : PySem.W.codeIn K cdv qual = true) (kp : PySem.W.keepIn K (.ref g) = true) : AtStat K C m qual st :=
  ⟨p, g, _, mc, ⟨rd, ga⟩, ⟨fc, _, rc⟩, fun_mk l c kp⟩
theorem cvAt {K : PySem.W.Frag} {C : Addr} {m : Str} {v : V} {mc u : Value} (_ty : PySem.W.typeIn K (.ref C) = some mc) (rd : PySem.W.readsIn K C mc = true)
    (ga : PySem.W.specialIn K (.ref C) "__getattribute__" = some (some (.builtin "type.__getattribute__"))) (fc : PySem.W.findCls K (.ref C) mc m = some (.val u)) (r : RelV v u) : ∃ mc u, CRead K C mc ∧ CVal K C mc m v u := ⟨mc, u, ⟨rd, ga⟩, ⟨fc, r⟩⟩
section
variable {P : Program} {w : World} {K : PySem.W.Frag} {mg : Str → Option Value} {base : Heap} {C : Addr} {x m qual : Str} {st : Stmt} {ps : List Str} {k : Nat} {sp : Sp} {h : Heap}
theorem AtC.cc (t : AtC K x C) (X : K.In h) (G : h.Ns mainGlobals mg) : ClsC K mg x C := ⟨t.cl, PySem.W.mg_of X G t.at_, t.ic, t.sf⟩
abbrev Bd (m qual : Str) (st : Stmt) (ps : List Str) : Prop := ∀ (kV doc pm : Value) (an : Option Addr) (cdv ct : Value) (us : List Value), us.length = ps.length → bindArgs (PySem.W.fnOf m qual (defArgs st) (defBody st) (defScope st) .none kV doc pm an cdv ct) ⟨us, []⟩ = pure (ps.zip us)
theorem AtCls.mn (t : AtCls K C m qual st) (hb : Bd m qual st ps) (ok : ∀ (f : Addr) (fd : FuncData), Fun K m qual st f fd → FnOk P w K mg base CX0 k f fd ps sp) : Mn P w K mg base C m k ps sp := by
  obtain ⟨f, fd, a, i, F⟩ := t.ex
  exact ⟨f, fd, ⟨a, i, F.kp⟩, ok f fd F, F.binds hb⟩
theorem AtCls.on (t : AtCls K C m qual st) (hb : Bd m qual st ps) (ok : ∀ (f : Addr) (fd : FuncData), Fun K m qual st f fd → FnOk P w K mg base CX0 k f fd ps sp) : On P w K mg base C m k ps sp := by
  obtain ⟨f, fd, a, i, F⟩ := t.ex
  exact ⟨f, fd, a, i, ok f fd F, F.binds hb⟩
theorem AtCls.cn (t : AtCls K C "__init__" qual st) (c : AtC K x C) (ok : ∀ (f : Addr) (fd : FuncData), Fun K "__init__" qual st f fd → FnR P w K mg base CX0 k f sp) : Cn P w K mg base C k sp := by
  obtain ⟨f, fd, a, i, F⟩ := t.ex
  exact ⟨f, ⟨c.made, a, i, c.kp⟩, ok f fd F⟩
theorem AtProp.pn (t : AtProp K C m qual st) (hb : Bd m qual st ["self"]) (ok : ∀ (f : Addr) (fd : FuncData), Fun K m qual st f fd → FnOk P w K mg base CX0 k f fd ["self"] sp) : Pn P w K mg base C m k sp := by
  obtain ⟨p, g, fd, a, F⟩ := t.ex
  exact ⟨p, g, fd, a, ok g fd F, F.binds hb⟩
theorem AtStat.sn (t : AtStat K C m qual st) (hb : Bd m qual st ps) (ok : ∀ (f : Addr) (fd : FuncData), Fun K m qual st f fd → FnOk P w K mg base CX0 k f fd ps sp) : Sn P w K mg base C m k ps sp := by
  obtain ⟨p, g, fd, mc, r, c, F⟩ := t.ex
  exact ⟨p, g, fd, mc, r, c, ok g fd F, F.kp, F.binds hb⟩
end
end Cl

/-! ### texts of 0 and 1, enumerate(text), text * int -/
namespace Cl
open PySem PySem.Spec PyProof.Rows L2 PySem.Builtin PySem.Builtin.Str
def bt (b : Bool) : Nat := if b then 49 else 48
def tx (l : List Bool) : Str := ⟨(l.map bt).toArray⟩
theorem str_ext {a b : Str} (h : a.cps.toList = b.cps.toList) : a = b := Str.ext' (Array.toList_inj.mp h)
theorem tx_lst (l : List Bool) : (tx l).cps.toList = l.map bt := by simp [tx]
theorem tx_len (l : List Bool) : (tx l).length = l.length := by simp [tx, Str.length]
theorem tx_size (l : List Bool) : (tx l).cps.size = l.length := by simp [tx]
theorem tx_app (a b : List Bool) : tx a ++ tx b = tx (a ++ b) := by
  apply str_ext
  show ((tx a).cps ++ (tx b).cps).toList = _
  rw [Array.toList_append, tx_lst, tx_lst, tx_lst, List.map_append]
theorem bt_inj {a b : Bool} (h : bt a = bt b) : a = b := by
  cases a <;> cases b <;> first | rfl | (simp [bt] at h)
theorem map_bt_inj : ∀ {a b : List Bool}, a.map bt = b.map bt → a = b
  | [], [], _ => rfl
  | [], _ :: _, h => by simp at h
  | _ :: _, [], h => by simp at h
  | x :: a, y :: b, h => by
    rw [List.map_cons, List.map_cons] at h
    injection h with h1 h2
    rw [bt_inj h1, map_bt_inj h2]
theorem tx_inj {a b : List Bool} (h : tx a = tx b) : a = b := map_bt_inj (by rw [← tx_lst, ← tx_lst, h])
theorem t1 : Str.ofString "1" = tx [true] := by decide +kernel
theorem t0 : Str.ofString "0" = tx [false] := by decide +kernel
theorem t01 : Str.ofString "01" = tx [false, true] := by decide +kernel
theorem te : Str.ofString "" = tx [] := by decide +kernel
theorem tx_one (b : Bool) : tx [b] = ⟨#[bt b]⟩ := rfl
theorem tx_get {l : List Bool} {i : Nat} : (tx l).cps[i]? = l[i]?.map bt := by
  rw [← Array.getElem?_toList, tx_lst, List.getElem?_map]
theorem tx_mul (b : Bool) (n : Int) : Txt.mul (tx [b]) n = tx (List.replicate n.toNat b) := by
  apply str_ext
  rw [tx_one, mul_one_list, tx_lst, List.map_replicate]
theorem tx_mulOk (b : Bool) {n : Int} (h1 : -1000000 ≤ n) (h2 : n ≤ 1000000) : MulOk (tx [b]) n := by
  have hl : (tx [b]).length = 1 := tx_len _
  refine ⟨?_, fun h3 _ => ?_, fun h3 _ => ?_⟩
  · rw [decide_eq_false (by omega), decide_eq_false (by omega)]; rfl
  · rw [hl]
    have : (1 : Int) ≤ (2 ^ 63 - 1) / n := by
      rw [Int.le_ediv_iff_mul_le (by omega)]
      omega
    omega
  · rw [hl]
    have hs : (1000000 : Nat) ≤ sizeLine := by decide
    unfold tooLong
    rw [decide_eq_false (by omega)]
theorem cnt_tx (b : Bool) : ∀ l : List Bool, cnt (bt b) (l.map bt) = (l.count b : Nat)
  | [] => rfl
  | x :: r => by
    rw [List.map_cons, cnt_cons, cnt_tx b r, List.count_cons]
    by_cases h : x = b
    · subst h; simp; omega
    · have h2 : ¬ bt x = bt b := fun e => h (bt_inj e)
      rw [if_neg h2]
      have h3 : (x == b) = false := by simpa using h
      rw [h3]; simp
theorem tx_count (l : List Bool) (b : Bool) : Txt.count (tx l) (tx [b]) = ((l.count b : Nat) : Int) := by
  rw [tx_one, count_cnt, tx_lst, cnt_tx]
/-- without the leading zeros -/
def nrm (l : List Bool) : List Bool := l.dropWhile (! ·)
theorem tx_sub (l : List Bool) (i j : Nat) : strSub (tx l) i j = tx ((l.drop i).take (j - i)) := by
  apply str_ext
  rw [StrLaws.strSub_toList, tx_lst, tx_lst, ← List.map_drop, ← List.map_take]
theorem takeW_len {α β : Type} (f : α → β) (p : β → Bool) (q : α → Bool) (h : ∀ a, p (f a) = q a) : ∀ l : List α, ((l.map f).takeWhile p).length = (l.takeWhile q).length
  | [] => rfl
  | a :: r => by
    rw [List.map_cons, List.takeWhile_cons, List.takeWhile_cons, h a]
    split
    · rw [List.length_cons, List.length_cons, takeW_len f p q h r]
    · rfl
theorem drop_takeW {α : Type} (p : α → Bool) : ∀ l : List α, l.drop (l.takeWhile p).length = l.dropWhile p
  | [] => rfl
  | a :: r => by
    rw [List.takeWhile_cons, List.dropWhile_cons]
    split
    · rw [List.length_cons, List.drop_succ_cons, drop_takeW p r]
    · rfl
theorem has0 (b : Bool) : (tx [false]).cps.contains (bt b) = !b := by cases b <;> decide +kernel
theorem has01 (b : Bool) : (tx [false, true]).cps.contains (bt b) = true := by cases b <;> decide +kernel
theorem tx_lstrip (l : List Bool) : Txt.lstripChars (tx l) (tx [false]) = tx (nrm l) := by
  unfold Txt.lstripChars
  rw [stripBy_eq]
  simp only [stripLo, stripHi, if_true, Bool.false_eq_true, if_false]
  rw [tx_sub, tx_lst, takeW_len bt _ (! ·) has0, drop_takeW, tx_len]
  congr 1
  apply List.take_of_length_le
  have h1 : ((nrm l).length + (l.takeWhile (! ·)).length) = l.length := by
    have := congrArg List.length (List.takeWhile_append_dropWhile (p := fun x : Bool => ! x) (l := l))
    rw [List.length_append] at this
    unfold nrm
    omega
  show (nrm l).length ≤ _
  omega
theorem takeW_all {α : Type} (p : α → Bool) (l : List α) (h : ∀ a ∈ l, p a = true) : l.takeWhile p = l := by
  induction l with
  | nil => rfl
  | cons a r ih => rw [List.takeWhile_cons, if_pos (h a (List.mem_cons_self ..)), ih fun b hb => h b (List.mem_cons_of_mem _ hb)]
theorem tx_strip (l : List Bool) : Txt.stripChars (tx l) (tx [false, true]) = tx [] := by
  unfold Txt.stripChars
  rw [stripBy_eq]
  simp only [stripLo, stripHi, if_true]
  rw [tx_sub]
  congr 1
  apply List.eq_nil_of_length_eq_zero
  rw [List.length_take, List.length_drop, tx_lst, takeW_all (l := l.map bt) _ fun a ha => by
    obtain ⟨b, _, rfl⟩ := List.mem_map.mp ha
    exact has01 b, List.length_map]
  omega
theorem tx_join : ∀ l : List Bool, Txt.join (tx []) (l.map fun b => tx [b]) = tx l := by
  intro l
  show glued (tx []) _ = _
  rw [StrLaws.glued_eq_join]
  induction l with
  | nil => rfl
  | cons b r ih =>
    cases r with
    | nil => rfl
    | cons c r =>
      show tx [b] ++ tx [] ++ Str.join (tx []) ((c :: r).map fun b => tx [b]) = _
      rw [ih, tx_app, tx_app]; rfl
theorem tx_sum (l : List Bool) : ((l.map fun b => tx [b]).map (·.length)).sum = l.length := by
  induction l with
  | nil => rfl
  | cons b r ih => rw [List.map_cons, List.map_cons, List.sum_cons, ih, List.length_cons, tx_len]; simp; omega
section
variable {X : Cx}
def rMulS : R2 := fun x y H Q => ∃ a n, x = .str a ∧ y = .int n ∧ MulOk a n ∧ Q (.str (Txt.mul a n)) H
theorem op_mul_str : OpR X (binaryOp .Mult) rMulS := by
  intro pins s σ H x y v u Q I rx ry h
  obtain ⟨a, n, rfl, rfl, hok, q⟩ := h
  obtain ⟨t, rfl⟩ := rx
  obtain ⟨t', rfl⟩ := ry
  exact SB.mul hok fun t' k => ⟨.str (Txt.mul a n), H, I.tok _, ⟨_, rfl⟩, q⟩
/-- the signs of a text in new pairs -/
def Ites (x : Str) : It :=
  ⟨fun i _ => i < x.cps.size, fun i H v H' => ∃ T c, v = .ref T ∧ H T = none ∧ H' = upd H T (.tup [.int (i : Nat), .str ⟨#[c]⟩]) ∧ x.cps[i]? = some c, fun i _ => x.cps.size ≤ i⟩
theorem turn_enumS {P : Program} {w : World} {K : PySem.W.Frag} {elts : List Expr} {kk : Nat} {tpos : Pos} (x : Str) (t : Tok) (ty : String) (hty : ty = "str_ascii_iterator" ∨ ty = "str_iterator") (e it : Addr) :
    Turn P w K (.Tuple elts kk tpos) (Ites x) [e, it] e (fun i h => (∃ old, IsEnum h e it ((i : Nat) : Int) old) ∧ h.IsStrIter it ty x t i ∧ e ≠ it ∧ i ≤ x.cps.size) where
  mem := by simp
  obj := fun i h st b hb => by
    obtain ⟨⟨old, he⟩, ⟨o, ho, hc, hd⟩, _⟩ := st
    have e' : b = e ∨ b = it := by simpa using hb
    rcases e' with z | z
    · rw [z]; exact ⟨_, he, fun v q => nomatch q⟩
    · rw [z]; exact ⟨o, ho, fun v q => by rw [hd] at q; cases q⟩
  keep := fun i h h' st k => let ⟨⟨old, he⟩, ⟨o, ho, r⟩, hne⟩ := st; ⟨⟨old, k e (by simp) _ he⟩, ⟨o, k it (by simp) o ho, r⟩, hne⟩
  item := by
    intro X hP hw hK hc i pins s σ H E I hf st hg
    subst hP hw hK
    obtain ⟨⟨old, he⟩, hit, hne, hle⟩ := st
    have D : Draws X.prog X.w X.A.in1 it [it] x.cps.size (fun i v => ∃ c u, x.cps[i]? = some c ∧ v = .str ⟨#[c]⟩ u) (fun i h => h.IsStrIter it ty x t i) := by
      rcases hty with z | z
      · rw [z]; exact Draws.strAscii (show X.A.in1.handled = none from I.ok.hd hc) it x t
      · rw [z]; exact Draws.strWide (show X.A.in1.handled = none from I.ok.hd hc) it x t
    have hel : e < s.heap.objs.size := Heap.lt_size he
    have hil : it < s.heap.objs.size := by obtain ⟨_, q, _⟩ := hit; exact Heap.lt_size q
    refine wpAny_pyNext_enum_itemD D he hit hg hne (by simpa using hne) fun y h' tk hP ho hit' hT hsz hk => ?_
    obtain ⟨c, u, hcx, rfl⟩ := hP
    refine ⟨_, rfl, wpAny_letOwnedTupleGo_enum (s := { s with heap := h', toks := tk + 1 }) ho fun h'' he' sb => ?_⟩
    have hT2 : h''.get? s.heap.objs.size = some { cls := .type "tuple", data := .seq #[.int i tk, .str ⟨#[c]⟩ u] } := (sb.2 _ (Nat.ne_of_gt hel)).trans hT
    have new : ObjOk X.prog X.w (upd H s.heap.objs.size (.tup [.int (i : Nat), .str ⟨#[c]⟩])) h'' s.heap.objs.size (.tup [.int (i : Nat), .str ⟨#[c]⟩]) :=
      ⟨by show 2 ≤ sizeLine; decide, [.int i tk, .str ⟨#[c]⟩ u], .cons ⟨_, rfl⟩ (.cons ⟨_, rfl⟩ .nil), ⟨_, hT2, rfl, _, rfl⟩⟩
    have I1 : Inv X pins σ (upd H s.heap.objs.size (.tup [.int (i : Nat), .str ⟨#[c]⟩])) { s with heap := h'', toks := tk + 1 } :=
      I.turnedNew (ch := [e, it]) (fun b ob hb q => (sb.2 b (fun z => hb (by simp [z]))).trans (hk b ob (fun z => hb (by simp [z])) (fun z => hb (by simp [z])) q)) hf (Nat.le_refl _) new
    refine ⟨.ref s.heap.objs.size, _, I1, rfl, ⟨_, c, rfl, I.hok.fresh (Nat.le_refl _), rfl, hcx⟩, ⟨⟨.str ⟨#[c]⟩ u, ?_⟩, ?_, hne, hg⟩, fun b hb => ?_⟩
    · have e1 : ((i + 1 : Nat) : Int) = (i : Int) + 1 := by omega
      rw [e1]; exact he'
    · obtain ⟨o, q, r⟩ := hit'
      exact ⟨o, (sb.2 it (Ne.symm hne)).trans q, r⟩
    · have hb' : b < s.heap.objs.size := by
        have e' : b = e ∨ b = it := by simpa using hb
        rcases e' with z | z
        · rw [z]; exact hel
        · rw [z]; exact hil
      rw [upd_ne (Nat.ne_of_lt hb')]
      exact (hf b hb).1
  done := by
    intro X hP hw hK hc i pins s σ H E I hf st hg
    subst hP hw hK
    obtain ⟨f0, f1, f2, f3, f4, f5⟩ := hf e (by simp)
    obtain ⟨g0, g1, g2, g3, g4, g5⟩ := hf it (by simp)
    obtain ⟨⟨old, he⟩, hit, hne, hle⟩ := st
    obtain rfl : i = x.cps.size := Nat.le_antisymm hle hg
    have D : Draws X.prog X.w X.A.in1 it [it] x.cps.size (fun i v => ∃ c u, x.cps[i]? = some c ∧ v = .str ⟨#[c]⟩ u) (fun i h => h.IsStrIter it ty x t i) := by
      rcases hty with z | z
      · rw [z]; exact Draws.strAscii (show X.A.in1.handled = none from I.ok.hd hc) it x t
      · rw [z]; exact Draws.strWide (show X.A.in1.handled = none from I.ok.hd hc) it x t
    exact wpAny_pyNext_enum_endD D he hit fun h' eb => ⟨rfl, I.turned (t' := s.toks) (fun b o hb q => eb b o hb q) g0 g1 g3 g4 g5⟩
  self := fun A i s Q E st h => let ⟨⟨_, he⟩, _⟩ := st; wpAny_pyIter_enum he h
def iEnumS (ta : TA) : TI := fun σ H R => ta σ H fun vs H1 => ∃ x, vs = [.str x] ∧ R (Ites x) H1
theorem pi_enumS {X : Cx} {e : Expr} {ta : TA} {p pos tpos : Pos} {elts : List Expr} {kk : Nat} (hg : Gl X "enumerate") (hm : X.mg "enumerate" = none) (ha : PA X [e] ta) (hs : starEach [e] X.env = [(false, eval e X.env)] := by rfl) :
    PI X (.Tuple elts kk tpos) (.Call (.Name "enumerate" p) [e] [] pos) (iEnumS ta) := by
  refine ⟨fun pins s σ H R I h => ?_⟩
  refine Call_ (ld_blt I hg hm boot_enumerate (PyProof.Rows.callWith_type1 (thn (ha.run pos pins s σ H _ I h) fun us s1 ⟨vs, H1, I1, r1, q1⟩ => ?_) hs rfl))
  obtain ⟨x, ex, q⟩ := q1
  subst ex
  cases r1 with
  | cons r rr =>
    cases rr
    obtain ⟨t, rfl⟩ := r
    refine call_enumerate_str fun h' he hit hsz hk => wpAny_pyIter_enum he ?_
    have I2 : Inv X pins σ H1 { s1 with heap := h' } := I1.kept (t' := s1.toks) hk
    refine ⟨s1.heap.objs.size + 1, [s1.heap.objs.size + 1, s1.heap.objs.size], _, _, H1, rfl, I2, turn_enumS x t (strIterType x) ?_ (s1.heap.objs.size + 1) s1.heap.objs.size, ⟨⟨.none, he⟩, hit, Nat.succ_ne_self _, Nat.zero_le _⟩, fun b hb => ?_, q⟩
    · unfold strIterType; split <;> simp
    have e' : b = s1.heap.objs.size + 1 ∨ b = s1.heap.objs.size := by simpa using hb
    have hle : s1.heap.objs.size ≤ b := by
      rcases e' with z | z
      · rw [z]; exact Nat.le_add_right _ _
      · rw [z]; exact Nat.le_refl _
    exact I1.fpOk hle (I1.hok.fresh hle)
theorem walk_enumS {x : Str} : Walk (Ites x) x.cps.size (fun _ => True) (YPair (fun i => some (.int (i : Nat))) (fun i => x.cps[i]?.map fun c => .str ⟨#[c]⟩)) := by
  refine ⟨fun i _ hi _ => hi, fun _ _ => Nat.le_refl _, fun i H v H' _ _ y => ?_⟩
  obtain ⟨T, c, h1, h2, h3, h4⟩ := y
  exact ⟨T, .int (i : Nat), .str ⟨#[c]⟩, h1, h2, h3, rfl, by show x.cps[i]?.map _ = _; rw [h4]; rfl⟩
theorem op_in_seqK (K : PySem.W.Frag) (e : X.K = K := by rfl) : OpR X (compareOp .In) (rIn K false) := e ▸ op_in_seq
theorem op_notIn_seqK (K : PySem.W.Frag) (e : X.K = K := by rfl) : OpR X (compareOp .NotIn) (rIn K true) := e ▸ op_notIn_seq
theorem pg_tupK {pos : Pos} {es : List Expr} {k : Nat} {t : TGs} {n : Nat} (K : PySem.W.Frag) (hc : X.calm = true) (h : PGs X es t)
    (hn : (assignEach es X.env).length = n := by rfl) (hst : (assignEach es X.env).findIdx? (·.1) = none := by rfl) (e : X.K = K := by rfl) : PG X (.Tuple es k pos) (gTup K n t) := e ▸ pg_tup hc h hn hst
end
/-- a comprehension over any walk, with a test: its turns may make objects -/
theorem lc_filtW {J : It} {n : Nat} {G : Hp → Prop} {Y : Nat → Hp → V → Hp → Prop} (w : Walk J n G Y) {g : TG} {tt : TT} {te : TE} {vs : List Nat} {σ : L2.St} {H1 : Hp} {D : Addr} {Qd : Hp → Prop} (f : Nat → V) (p : Nat → Bool) (hD : H1 D = none) (hlen : n < 10000) (hG : ∀ H, Same H1 H → G H)
    (hs : ∀ (i : Nat) (x : V) (H H' : Hp) (R : V → Hp → Prop) (R0 : Hp → Prop), i < n → Same H1 H → Y i H x H' → (p i = true → ∀ H2, Same H H2 → R (f i) H2) → (p i = false → ∀ H2, Same H H2 → R0 H2) →
      g x (wipe σ vs) H' fun σ2 H2 => wipe σ2 vs = wipe σ vs ∧ tt σ2 H2 fun b H3 => if b = true then te σ2 H3 R else R0 H3)
    (hd : ∀ H, Same H1 H → H D = some (.lst (((List.range n).filter p).map f)) → Qd H) :
    ∃ W : Nat → Nat → Hp → Prop, (∃ m, W 0 m (upd H1 D (.lst []))) ∧ ∀ i m H, W i m H →
      (J.stop i H ∧ Qd H) ∨ (J.go i H ∧ ∃ Nx : Hp → Prop, (∀ H', Nx H' → ∃ m', m' < m ∧ W (i + 1) m' H') ∧ ∀ x H', J.yld i H x H' → g x (wipe σ vs) H' fun σ2 H2 => wipe σ2 vs = wipe σ vs ∧ tt σ2 H2 fun b H3 =>
        if b = true then te σ2 H3 fun y H4 => ∃ acc, H4 D = some (.lst acc) ∧ acc.length < sizeLine ∧ Nx (upd H4 D (.lst (acc ++ [y]))) else Nx H3) := by
  refine lc_it w (fun i H => Same H1 H ∧ H D = some (.lst (((List.range i).filter p).map f))) ⟨fun b u e => by rw [upd_ne (ne_of_none e hD)]; exact e, upd_same⟩ (fun i H _ h => hG H h.1) ?_ (fun H h => hd H h.1 h.2)
  rintro i x H H' hi ⟨hS, hL⟩ y
  have e1 : (List.range (i + 1)).filter p = (List.range i).filter p ++ (if p i = true then [i] else []) := by
    rw [List.range_succ, List.filter_append, List.filter_cons, List.filter_nil]
  have key := hs i x H H' (fun y H4 => ∃ acc, H4 D = some (.lst acc) ∧ acc.length < sizeLine ∧ (Same H1 (upd H4 D (.lst (acc ++ [y]))) ∧ upd H4 D (.lst (acc ++ [y])) D = some (.lst (((List.range (i + 1)).filter p).map f))))
    (fun H4 => Same H1 H4 ∧ H4 D = some (.lst (((List.range (i + 1)).filter p).map f))) hi hS y (fun hp H2 hS' => ⟨_, hS' _ _ hL, ?_, fun b u e => by rw [upd_ne (ne_of_none e hD)]; exact hS' _ _ (hS _ _ e), ?_⟩) (fun hp H2 hS' => ⟨hS.trans hS', ?_⟩)
  · exact key
  · rw [List.length_map]
    have : (10000 : Nat) ≤ sizeLine := by decide
    have h2 := List.length_filter_le p (List.range i)
    rw [List.length_range] at h2
    omega
  · rw [upd_same, e1, if_pos hp, List.map_append]; rfl
  · rw [hS' _ _ hL, e1, if_neg (by rw [hp]; exact Bool.false_ne_true), List.append_nil]
/-- .. without a test -/
theorem lc_mapW {J : It} {n : Nat} {G : Hp → Prop} {Y : Nat → Hp → V → Hp → Prop} (w : Walk J n G Y) {g : TG} {te : TE} {vs : List Nat} {σ : L2.St} {H1 : Hp} {D : Addr} {Qd : Hp → Prop} (f : Nat → V) (hD : H1 D = none) (hlen : n < 10000) (hG : ∀ H, Same H1 H → G H)
    (hs : ∀ (i : Nat) (x : V) (H H' : Hp) (R : V → Hp → Prop), i < n → Same H1 H → Y i H x H' → (∀ H2, Same H H2 → R (f i) H2) →
      g x (wipe σ vs) H' fun σ2 H2 => wipe σ2 vs = wipe σ vs ∧ te σ2 H2 R)
    (hd : ∀ H, Same H1 H → H D = some (.lst ((List.range n).map f)) → Qd H) :
    ∃ W : Nat → Nat → Hp → Prop, (∃ m, W 0 m (upd H1 D (.lst []))) ∧ ∀ i m H, W i m H →
      (J.stop i H ∧ Qd H) ∨ (J.go i H ∧ ∃ Nx : Hp → Prop, (∀ H', Nx H' → ∃ m', m' < m ∧ W (i + 1) m' H') ∧ ∀ x H', J.yld i H x H' → g x (wipe σ vs) H' fun σ2 H2 => wipe σ2 vs = wipe σ vs ∧ tYes σ2 H2 fun b H3 =>
        if b = true then te σ2 H3 fun y H4 => ∃ acc, H4 D = some (.lst acc) ∧ acc.length < sizeLine ∧ Nx (upd H4 D (.lst (acc ++ [y]))) else Nx H3) := by
  refine lc_filtW w f (fun _ => true) hD hlen hG (fun i x H H' R R0 hi hS y h1 _ => ?_) (fun H h1 h2 => hd H h1 (by rw [h2, List.filter_eq_self.mpr (fun _ _ => rfl)]))
  exact hs i x H H' R hi hS y (h1 rfl)
/-- the dict of a comprehension without a test: which keys it has -/
theorem dc_keysW {K : PySem.W.Frag} {a D : Addr} {ns : List Int} {g : TG} {tk tv : TE} {vs : List Nat} {σ : L2.St} {H1 : Hp} {Qd : Hp → Prop} (hx : SqL K H1 a (ns.map V.int)) (hD : H1 D = none) (hlen : ns.length < 10000)
    (hs : ∀ (i : Int) (H : Hp) (R : V → V → Hp → Prop), i ∈ ns → Same H1 H → (∀ z, R (.int i) z H) → g (.int i) (wipe σ vs) H fun σ2 H2 => wipe σ2 vs = wipe σ vs ∧ tk σ2 H2 fun y H3 => tv σ2 H3 fun z H4 => R y z H4)
    (hd : ∀ H kvs, Same H1 H → H D = some (.dK kvs) → (∀ k : Int, (valV kvs (Sum.inl k : Key)).isSome = decide (k ∈ ns)) → Qd H) :
    ∃ W : Nat → Nat → Hp → Prop, (∃ m, W 0 m (upd H1 D (.dK []))) ∧ ∀ i m H, W i m H →
      ((Itl K a).stop i H ∧ Qd H) ∨ ((Itl K a).go i H ∧ ∃ Nx : Hp → Prop, (∀ H', Nx H' → ∃ m', m' < m ∧ W (i + 1) m' H') ∧ ∀ x H', (Itl K a).yld i H x H' → g x (wipe σ vs) H' fun σ2 H2 => wipe σ2 vs = wipe σ vs ∧ tYes σ2 H2 fun b H3 =>
        if b = true then tk σ2 H3 fun y H4 => tv σ2 H4 fun z H5 => ∃ kvs k, y = kV k ∧ H5 D = some (.dK kvs) ∧ kvs.length < sizeLine ∧ Nx (upd H5 D (.dK (putK kvs k z))) else Nx H3) := by
  have w := walk_list (K := K) (a := a) (xs := ns.map V.int)
  let Pv : Nat → Hp → Prop := fun i H => Same H1 H ∧ ∃ kvs : List (Key × V), H D = some (.dK kvs) ∧ kvs.length ≤ i ∧ ∀ k : Int, (valV kvs (Sum.inl k : Key)).isSome = decide (k ∈ ns.take i)
  have hn : (ns.map V.int).length = ns.length := List.length_map _
  refine ⟨fun i m H => m = ns.length - i ∧ i ≤ ns.length ∧ Pv i H, ⟨ns.length, rfl, Nat.zero_le _, fun b u e => by rw [upd_ne (ne_of_none e hD)]; exact e, [], upd_same, Nat.le_refl _, fun k => by simp [valV]⟩, ?_⟩
  rintro i m H ⟨rfl, hi, hS, kvs, hk, hkl, hv⟩
  have q : SqL K H a (ns.map V.int) := Same.seq hS hx
  by_cases hlt : i < ns.length
  · refine .inr ⟨w.goes i H (by rw [hn]; exact hlt) q, Pv (i + 1), fun H' p' => ⟨ns.length - (i + 1), by omega, rfl, hlt, p'⟩, fun x H' y => ?_⟩
    obtain ⟨rfl, hy⟩ := w.yields i H x H' (by rw [hn]; exact hlt) q y
    rw [List.getElem?_map, List.getElem?_eq_getElem hlt] at hy
    obtain rfl : V.int ns[i] = x := Option.some.inj hy
    have key := hs ns[i] H' (fun y z H5 => ∃ kvs k, y = kV k ∧ H5 D = some (.dK kvs) ∧ kvs.length < sizeLine ∧ Pv (i + 1) (upd H5 D (.dK (putK kvs k z)))) (List.getElem_mem hlt) hS fun z => by
      refine ⟨kvs, .inl ns[i], rfl, hk, ?_, fun b u e => by rw [upd_ne (ne_of_none e hD)]; exact hS _ _ e, _, upd_same, ?_, fun k => ?_⟩
      · have : (10000 : Nat) ≤ sizeLine := by decide
        omega
      · have := length_putK kvs (Sum.inl ns[i] : Key) z
        omega
      · have e0 : ns.take (i + 1) = ns.take i ++ [ns[i]] := by rw [List.take_add_one, List.getElem?_eq_getElem hlt]; rfl
        rw [valV_put, e0]
        by_cases e : (k : Int) = ns[i]
        · subst e; rw [if_pos rfl, decide_eq_true (List.mem_append_right _ (List.mem_singleton.mpr rfl))]; rfl
        · rw [if_neg (fun z => e (Sum.inl.inj z)), hv k]
          refine decide_eq_decide.mpr ⟨fun h => List.mem_append_left _ h, fun h => ?_⟩
          rcases List.mem_append.mp h with h | h
          · exact h
          · exact absurd (List.mem_singleton.mp h) e
    exact key
  · have e : i = ns.length := by omega
    subst e
    exact .inl ⟨by have := w.stops H q; rw [hn] at this; exact this, hd H kvs hS hk fun k => by rw [hv k, List.take_length]⟩
theorem tcut_from {xs : List V} {f : Nat} : cutV xs (some (f : Int)) none = xs.drop f := by
  unfold cutV
  rw [HT.sIx_nat, HT.sIx_none]
  rcases Nat.le_total f xs.length with h | h
  · rw [Nat.min_eq_left h, List.take_of_length_le (by rw [List.length_drop]; omega)]
  · rw [Nat.min_eq_right h, List.drop_eq_nil_of_le (Nat.le_refl _), List.drop_eq_nil_of_le h]; simp
theorem tcut_to {xs : List V} {f : Nat} : cutV xs none (some (f : Int)) = xs.take f := by
  unfold cutV
  rw [HT.sIx_nat, HT.sIx_none, List.drop_zero, Nat.sub_zero]
  rcases Nat.le_total f xs.length with h | h
  · rw [Nat.min_eq_left h]
  · rw [Nat.min_eq_right h, List.take_of_length_le (Nat.le_refl _), List.take_of_length_le h]
theorem teqvAll_ints : ∀ (as bs : List Int), PyData.eqvAll (as.map PyData.int) (bs.map PyData.int) = decide (as = bs)
  | [], [] => by simp [PyData.eqvAll]
  | [], b :: bs => by simp [PyData.eqvAll]
  | a :: as, [] => by simp [PyData.eqvAll]
  | a :: as, b :: bs => by
    simp only [List.map_cons, PyData.eqvAll, PyData.eqv, teqvAll_ints as bs, List.cons.injEq]
    by_cases h : a = b
    · subst h; simp
    · simp [h]
theorem tdpAll_ints {K : PySem.W.Frag} {H : Hp} : ∀ (as : List Int), DpAll K H (as.map V.int) (as.map PyData.int)
  | [] => .nil
  | a :: as => .cons (.int a) (tdpAll_ints as)
theorem tlay_ints : ∀ (as : List Int), PyData.canLayAll0 (as.map PyData.int) = true
  | [] => rfl
  | a :: as => by simp only [List.map_cons, PyData.canLayAll0, PyData.canLay0, tlay_ints as]; rfl
theorem tdep_ints : ∀ (as : List Int), PyData.depthAll (as.map PyData.int) = 0
  | [] => rfl
  | a :: as => by simp only [List.map_cons, PyData.depthAll, PyData.depth, tdep_ints as]; rfl
theorem tshaped_lst (as : List Int) : SeqAt.shaped (.list (as.map PyData.int)) = true := by
  show (PyData.canLayAll0 (as.map PyData.int) && decide (PyData.depthAll (as.map PyData.int) + 1 ≤ 64)) = true
  rw [tlay_ints, tdep_ints]; rfl
theorem eqd_ints {K : PySem.W.Frag} {H : Hp} {a b : Addr} {as bs : List Int} {Q : VK} (ha : SqL K H a (as.map V.int)) (hb : SqL K H b (bs.map V.int)) (q : Q (.bl (decide (as = bs))) H) : rEqD K (.ref a) (.ref b) H Q :=
  ⟨.list (as.map .int), .list (bs.map .int), .lst ha (tdpAll_ints as), .lst hb (tdpAll_ints bs), tshaped_lst as, tshaped_lst bs, by
    show Q (.bl (PyData.eqvAll (as.map .int) (bs.map .int))) H
    rw [teqvAll_ints]; exact q⟩
theorem cutS_from {l : List Bool} {f : Nat} : cutS (tx l) (some (f : Int)) none = tx (l.drop f) := by
  apply str_ext
  unfold cutS
  rw [HT.sIx_nat, HT.sIx_none, tx_lst, tx_lst, tx_len, List.map_drop]
  rcases Nat.le_total f l.length with h | h
  · rw [Nat.min_eq_left h, List.take_of_length_le (by rw [List.length_drop, List.length_map]; omega)]
  · rw [Nat.min_eq_right h, List.drop_eq_nil_of_le (by rw [List.length_map]; exact Nat.le_refl _), List.drop_eq_nil_of_le (by rw [List.length_map]; exact h)]; simp
theorem cutS_to {l : List Bool} {f : Nat} : cutS (tx l) none (some (f : Int)) = tx (l.take f) := by
  apply str_ext
  unfold cutS
  rw [HT.sIx_nat, HT.sIx_none, tx_lst, tx_lst, tx_len, List.drop_zero, Nat.sub_zero, List.map_take]
  rcases Nat.le_total f l.length with h | h
  · rw [Nat.min_eq_left h]
  · rw [Nat.min_eq_right h, List.take_of_length_le (by rw [List.length_map]; exact Nat.le_refl _), List.take_of_length_le (by rw [List.length_map]; exact h)]
end Cl

/-! ### the checks that all laws share -/
namespace Cl
def top (i : Nat) : Stmt := PySem.Challenge.pw_carrylog_k55_rule_texts.main.body.getD i (.Pass ⟨0, 0, 0, 0⟩)
abbrev sWall : Stmt := top 0
abbrev sInvalidinputInit : Stmt := inClass (top 3) 0
abbrev sBadruleInit : Stmt := inClass (top 4) 0
abbrev sIsWhole : Stmt := top 6
abbrev sCheckLeast : Stmt := top 7
abbrev sConsistsOf : Stmt := top 8
abbrev sRoundInit : Stmt := inClass (top 10) 1
abbrev sRoundConstant : Stmt := inClass (top 10) 2
abbrev sRoundBudgets : Stmt := inClass (top 10) 3
abbrev sRoundLen : Stmt := inClass (top 10) 4
abbrev sRoundEq : Stmt := inClass (top 10) 5
abbrev sRoundAdd : Stmt := inClass (top 10) 6
abbrev sRoundAt : Stmt := inClass (top 10) 7
abbrev sRoundShifted : Stmt := inClass (top 10) 8
abbrev sRoundTotal : Stmt := inClass (top 10) 9
abbrev sRoundLeast : Stmt := inClass (top 10) 10
abbrev sRoundWorstStart : Stmt := inClass (top 10) 11
abbrev sRoundReach : Stmt := inClass (top 10) 12
abbrev sRoundTotals : Stmt := inClass (top 10) 13
abbrev sCheckRound : Stmt := top 11
abbrev sLiving : Stmt := top 13
abbrev sIsWord : Stmt := top 14
abbrev sCheckWord : Stmt := top 15
abbrev sKeeperChoose : Stmt := inClass (top 20) 0
abbrev sKeeperLabel : Stmt := inClass (top 20) 1
abbrev sRulekeeperInit : Stmt := inClass (top 21) 0
abbrev sRulekeeperChoose : Stmt := inClass (top 21) 1
abbrev sRulekeeperLabel : Stmt := inClass (top 21) 2
abbrev sMostCarries : Stmt := top 22
abbrev sCheckMoment : Stmt := top 23
abbrev sFacts : Stmt := top 24
abbrev sHolds : Stmt := top 25
abbrev sIsWhen : Stmt := top 26
abbrev sIsElse : Stmt := top 27
abbrev sIsNumber : Stmt := top 28
abbrev sIsAmount : Stmt := top 29
abbrev sLawIsCount : Stmt := top 31
abbrev sLawBox : Stmt := top 32
abbrev sLawTake : Stmt := top 33
abbrev sLawRound : Stmt := top 34
abbrev sLawPays : Stmt := top 35
abbrev sLawWord : Stmt := top 36
abbrev sLawStand : Stmt := top 37
abbrev sLawValue : Stmt := top 38
abbrev sLawDigits : Stmt := top 39
abbrev sLawAmountText : Stmt := top 40
abbrev sLawLine : Stmt := top 41
abbrev sLawOddWord : Stmt := top 42
abbrev sLawOddLine : Stmt := top 43
abbrev sLawSign : Stmt := top 44
abbrev sLawBent : Stmt := top 45
abbrev sLawText : Stmt := top 46
abbrev sLawNumber : Stmt := top 47
abbrev sLawAmount : Stmt := top 48
abbrev sLawRule : Stmt := top 49
abbrev sLawHolds : Stmt := top 50
abbrev sLawDue : Stmt := top 51
abbrev sLawFirstBad : Stmt := top 52
abbrev sLawRefused : Stmt := top 53
abbrev sLawHealed : Stmt := top 54
abbrev sLawChooses : Stmt := top 55
abbrev sLaw : Stmt := top 56
section
variable {P : Program} {w : World} {K : PySem.W.Frag} {mg : Str → Option Value} {base : Heap}
def spIsWhole : Sp := fun vs H Q _ => ∃ (v : Int), vs = [.int v] ∧ Q (.bl true) H
theorem kit_ii (K : PySem.W.Frag) : PySem.W.kitOne K (.type "int") (.type "int") = some true := kit_ty (by decide +kernel)
theorem kit_ib (K : PySem.W.Frag) : PySem.W.kitOne K (.type "int") (.type "bool") = some false := kit_ty (by decide +kernel)
theorem kit_ss (K : PySem.W.Frag) : PySem.W.kitOne K (.type "str") (.type "str") = some true := kit_ty (by decide +kernel)
theorem kit_ll (K : PySem.W.Frag) : PySem.W.kitOne K (.type "list") (.type "list") = some true := kit_ty (by decide +kernel)
theorem kit_bb (K : PySem.W.Frag) : PySem.W.kitOne K (.type "bool") (.type "bool") = some true := kit_ty (by decide +kernel)
theorem scIsWhole : FnScope ["value"] ["value"] (defScope sIsWhole) := ⟨rfl, rfl, rfl, by decide +kernel, rfl, by decide +kernel, by decide +kernel⟩
theorem ok_is_whole {f : Addr} {fd : FuncData} (F : Fun K "is_whole" "is_whole" sIsWhole f fd) (B : Bi mg) : FnOk P w K mg base CX0 1 f fd ["value"] spIsWhole := by
  refine F.ok scIsWhole (fun vs H Q E h => ?_) (fun cdv A outer s H vs Q E hr h => ?_)
  · obtain ⟨v, rfl, _⟩ := h
    rfl
  · obtain ⟨v, rfl, k⟩ := h
    refine ⟨_, (pss_one (ps_ret (pe_and (pe_callB call_isi (by rfl) B.isinstance (by decide +kernel) (pa_cons (pv 0) (pa_cons (pe_bltn (v := .ty "int") (by rfl) B.intT (by decide +kernel) rfl) pa_nil))) (pe_one (pe_not (pe_callB call_isi (by rfl) B.isinstance (by decide +kernel) (pa_cons (pv 0) (pa_cons (pe_bltn (v := .ty "bool") (by rfl) B.boolT (by decide +kernel) rfl) pa_nil)))))))), ?_⟩
    refine ⟨_, rfl, _, _, _, _, _, rfl, .ty _, .base (.int _), kit_ii _, _, rfl, iteT ?_⟩
    exact ⟨_, rfl, _, _, _, _, _, rfl, .ty _, .base (.int _), kit_ib _, _, rfl, k⟩
def spCheckLeast : Sp := fun vs H Q _ => ∃ (v l : Int) (x : Str), vs = [.int v, .int l, .str x] ∧ l ≤ v ∧ Q .non H
theorem scCheckLeast : FnScope ["value", "least", "field"] ["value", "least", "field"] (defScope sCheckLeast) := ⟨rfl, rfl, rfl, by decide +kernel, rfl, by decide +kernel, by decide +kernel⟩
theorem ok_check_least {f : Addr} {fd : FuncData} (F : Fun K "check_least" "check_least" sCheckLeast f fd) (D_is_whole : Dn P w K mg base "is_whole" 1 ["value"] spIsWhole) : FnOk P w K mg base CX0 2 f fd ["value", "least", "field"] spCheckLeast := by
  refine F.ok scCheckLeast (fun vs H Q E h => ?_) (fun cdv A outer s H vs Q E hr h => ?_)
  · obtain ⟨v, l, x, rfl, _⟩ := h
    rfl
  · obtain ⟨v, l, x, rfl, hl, k⟩ := h
    refine ⟨_, (pss_one (ps_if (PW.pt (pw_or (pt_not (pt_val (pe_dn D_is_whole (hr.mono (by decide)) (by rfl) pass0 (pa_cons (pv 0) pa_nil)))) (pw_or1 (pt_cmpR op_lt (pv 0) (pv 1) (nomark _))))) (pss_one ps_never)
  pss_nil)), ?_⟩
    refine ⟨_, rfl, v, rfl, _, rfl, iteF ?_⟩
    walk_at "rd"
    rw [decide_eq_false (by omega)]
    exact iteF k
end
end Cl

/-! ### the program's words -/
namespace Cl
/-- a word: empty, or a one ahead -/
def Wd (l : List Bool) : Prop := l = [] ∨ ∃ r, l = true :: r
theorem nrm_wd {l : List Bool} (h : Wd l) : nrm l = l := by
  rcases h with rfl | ⟨r, rfl⟩ <;> rfl
theorem nrm_is (l : List Bool) : Wd (nrm l) := by
  induction l with
  | nil => exact .inl rfl
  | cons b r ih =>
    cases b with
    | true => exact .inr ⟨r, rfl⟩
    | false => exact ih
theorem nrm_zeros (n : Nat) (l : List Bool) : nrm (List.replicate n false ++ l) = nrm l := by
  induction n with
  | zero => rfl
  | succ n ih => rw [List.replicate_succ]; exact ih
theorem small_le {n : Nat} (h : n ≤ 1000000) : n ≤ sizeLine := Nat.le_trans h (by decide)
theorem strV_ne {a b : Str} (h : a ≠ b) : decide (V.str a = V.str b) = false := decide_eq_false fun e => h (V.str.inj e)
theorem txV_eq {a b : List Bool} : decide (V.str (tx a) = V.str (tx b)) = decide (a = b) := by
  by_cases h : a = b
  · subst h; rw [decide_eq_true rfl, decide_eq_true rfl]
  · rw [decide_eq_false h, decide_eq_false fun e => h (tx_inj (V.str.inj e))]
theorem eqtx (l : List Bool) : decide (V.str (tx l) = V.str (tx l)) = true := decide_eq_true rfl
/-- the places of the ones -/
def onesAt (l : List Bool) : List Nat := (List.range l.length).filter fun k => l[k]? == some true
/-- the depths -/
def dps (l : List Bool) : List Int := (onesAt l).map fun (k : Nat) => (l.length : Int) - k
theorem at_tx {l : List Bool} {i : Nat} {b : Bool} (h : l[i]? = some b) : atI (tx l).cps.toList (i : Int) = some (bt b) := atI_nat (by rw [tx_lst, List.getElem?_map, h]; rfl)
theorem bt_eq {a b : Bool} : decide (V.str ⟨#[bt a]⟩ = V.str (tx [b])) = (a == b) := by
  show decide (V.str (tx [a]) = V.str (tx [b])) = _
  rw [txV_eq]
  cases a <;> cases b <;> decide
theorem onesAt_lt {l : List Bool} {k : Nat} (h : k ∈ onesAt l) : k < l.length := List.mem_range.mp (List.mem_filter.mp h).1
theorem onesAt_mem {l : List Bool} {k : Nat} : k ∈ onesAt l ↔ l[k]? = some true := by
  unfold onesAt
  rw [List.mem_filter, List.mem_range]
  constructor
  · rintro ⟨_, h⟩; exact by simpa using h
  · intro h
    exact ⟨(List.getElem?_eq_some_iff.mp h).1, by rw [h]; rfl⟩
theorem dps_mem {l : List Bool} {d : Int} : d ∈ dps l ↔ ∃ k : Nat, l[k]? = some true ∧ d = (l.length : Int) - k := by
  unfold dps
  rw [List.mem_map]
  exact ⟨fun ⟨k, h1, h2⟩ => ⟨k, onesAt_mem.mp h1, h2.symm⟩, fun ⟨k, h1, h2⟩ => ⟨k, onesAt_mem.mpr h1, h2.symm⟩⟩
theorem onesAt_cons (b : Bool) (r : List Bool) : onesAt (b :: r) = (if b = true then [0] else []) ++ (onesAt r).map (· + 1) := by
  unfold onesAt
  rw [List.length_cons, List.range_succ_eq_map, List.filter_cons, List.filter_map]
  have e : ((fun k => (b :: r)[k]? == some true) ∘ Nat.succ) = fun k => r[k]? == some true := by
    funext k
    show ((b :: r)[k + 1]? == some true) = _
    rw [List.getElem?_cons_succ]
  rw [e]
  cases b <;> rfl
theorem dps_cons (b : Bool) (r : List Bool) : dps (b :: r) = (if b = true then [(r.length : Int) + 1] else []) ++ dps r := by
  unfold dps
  rw [onesAt_cons, List.map_append, List.map_map]
  congr 1
  · cases b
    · rfl
    · simp
  · refine List.map_congr_left fun k _ => ?_
    show (((b :: r).length : Nat) : Int) - ((k + 1 : Nat) : Int) = (r.length : Int) - k
    rw [List.length_cons]; omega
theorem dps_nil : dps [] = [] := rfl
theorem dps_len (l : List Bool) : (dps l).length = l.count true := by
  induction l with
  | nil => rfl
  | cons b r ih =>
    rw [dps_cons, List.length_append, ih, List.count_cons]
    cases b <;> simp <;> omega
theorem dps_le {l : List Bool} {d : Int} (h : d ∈ dps l) : 1 ≤ d ∧ d ≤ l.length := by
  obtain ⟨k, h1, h2⟩ := dps_mem.mp h
  have := (List.getElem?_eq_some_iff.mp h1).1
  omega
theorem dps_desc (l : List Bool) : (dps l).Pairwise (· > ·) := by
  induction l with
  | nil => exact List.Pairwise.nil
  | cons b r ih =>
    rw [dps_cons]
    cases b
    · exact ih
    · refine List.pairwise_cons.mpr ⟨fun d hd => ?_, ih⟩
      have := (dps_le hd).2
      omega
theorem range_getD (l : List Bool) : (List.range l.length).map (fun i => l.getD i false) = l := by
  apply List.ext_getElem
  · rw [List.length_map, List.length_range]
  · intro i h1 h2
    rw [List.getElem_map, List.getElem_range, List.getD_eq_getElem?_getD, List.getElem?_eq_getElem h2]; rfl
theorem dps_empty {l : List Bool} (h : Wd l) : dps l = [] ↔ l = [] := by
  rcases h with rfl | ⟨r, rfl⟩
  · exact ⟨fun _ => rfl, fun _ => rfl⟩
  · rw [dps_cons]; simp
section
variable {P : Program} {w : World} {K : PySem.W.Frag} {mg : Str → Option Value} {base : Heap}
def spConsists : Sp := fun vs H Q _ => ∃ l, vs = [.str (tx l), .str "01"] ∧ l.length ≤ 1000000 ∧ Q (.bl true) H
theorem scConsistsOf : FnScope ["text", "characters"] ["text", "characters"] (defScope sConsistsOf) := ⟨rfl, rfl, rfl, by decide +kernel, rfl, by decide +kernel, by decide +kernel⟩
theorem ok_consists_of {f : Addr} {fd : FuncData} (F : Fun K "consists_of" "consists_of" sConsistsOf f fd) : FnOk P w K mg base CX0 1 f fd ["text", "characters"] spConsists := by
  refine F.ok scConsistsOf (fun vs H Q E h => ?_) (fun cdv A outer s H vs Q E hr h => ?_)
  · obtain ⟨l, rfl, _⟩ := h
    rfl
  · obtain ⟨l, rfl, hl, k⟩ := h
    refine ⟨_, (pss_one (ps_ret (pe_cmpR op_eq (pe_m1 PySem.F.slot_str_strip PySem.F.type_str_strip mt_stripChars (pv 0) (pv 1)) pe_str (nomark _)))), ?_⟩
    refine ⟨_, rfl, ⟨_, rfl⟩, _, rfl, _, _, rfl, rfl, small_le (by rw [tx_len]; exact hl), rfl, ?_⟩
    rw [t01, tx_strip, te, decide_eq_true rfl]
    exact k
def spNrm : Sp := fun vs H Q _ => ∃ l, vs = [.str (tx l)] ∧ l.length ≤ 1000000 ∧ Q (.str (tx (nrm l))) H
def spIsWord : Sp := fun vs H Q _ => ∃ l, vs = [.str (tx l)] ∧ l.length ≤ 1000000 ∧ Wd l ∧ Q (.bl true) H
theorem scIsWord : FnScope ["text"] ["text"] (defScope sIsWord) := ⟨rfl, rfl, rfl, by decide +kernel, rfl, by decide +kernel, by decide +kernel⟩
theorem ok_is_word {f : Addr} {fd : FuncData} (F : Fun K "is_word" "is_word" sIsWord f fd) (D_consists_of : Dn P w K mg base "consists_of" 1 ["text", "characters"] spConsists) : FnOk P w K mg base CX0 2 f fd ["text"] spIsWord := by
  refine F.ok scIsWord (fun vs H Q E h => ?_) (fun cdv A outer s H vs Q E hr h => ?_)
  · obtain ⟨l, rfl, _⟩ := h
    rfl
  · obtain ⟨l, rfl, hl, hw, k⟩ := h
    refine ⟨_, (pss_one (ps_ret (pe_or (pe_cmpR op_eq (pv 0) pe_str (nomark _)) (pe_one (pe_and (pe_cmpR op_eq (pe_ix ix_str (pv 0) pe_int (fun _ _ => rfl)) pe_str (nomark _)) (pe_one (pe_dn D_consists_of (hr.mono (by decide)) (by rfl) pass0 (pa_cons (pv 0) (pa_cons pe_str pa_nil))))))))), ?_⟩
    refine ⟨_, rfl, rfl, _, rfl, ?_⟩
    rw [te, txV_eq]
    rcases hw with rfl | ⟨r, rfl⟩
    · exact iteT k
    · refine iteF ?_
      refine ⟨_, rfl, _, _, _, rfl, rfl, small_le (by rw [tx_len]; exact hl), at_tx (i := 0) rfl, rfl, _, rfl, ?_⟩
      rw [t1, bt_eq]
      exact iteT ⟨_, rfl, _, rfl, hl, k⟩
def spCheckWord : Sp := fun vs H Q _ => ∃ l x, vs = [.str (tx l), .str x] ∧ l.length ≤ 1000000 ∧ Wd l ∧ Q .non H
theorem scCheckWord : FnScope ["word", "field"] ["word", "field"] (defScope sCheckWord) := ⟨rfl, rfl, rfl, by decide +kernel, rfl, by decide +kernel, by decide +kernel⟩
theorem ok_check_word {f : Addr} {fd : FuncData} (F : Fun K "check_word" "check_word" sCheckWord f fd) (D_is_word : Dn P w K mg base "is_word" 2 ["text"] spIsWord) : FnOk P w K mg base CX0 3 f fd ["word", "field"] spCheckWord := by
  refine F.ok scCheckWord (fun vs H Q E h => ?_) (fun cdv A outer s H vs Q E hr h => ?_)
  · obtain ⟨l, x, rfl, _⟩ := h
    rfl
  · obtain ⟨l, x, rfl, hl, hw, k⟩ := h
    refine ⟨_, (pss_one (ps_if (pt_not (pt_val (pe_dn D_is_word (hr.mono (by decide)) (by rfl) pass0 (pa_cons (pv 0) pa_nil)))) (pss_one ps_never)
  pss_nil)), ?_⟩
    exact ⟨_, rfl, _, rfl, hl, hw, _, rfl, iteF k⟩
def spLiving : Sp := fun vs H Q _ => ∃ l, vs = [.str (tx l)] ∧ l.length ≤ 1000000 ∧ Wd l ∧ Q (.int ((l.count true : Nat) : Int)) H
theorem scLiving : FnScope ["word"] ["word"] (defScope sLiving) := ⟨rfl, rfl, rfl, by decide +kernel, rfl, by decide +kernel, by decide +kernel⟩
theorem ok_living {f : Addr} {fd : FuncData} (F : Fun K "living" "living" sLiving f fd) (D_check_word : Dn P w K mg base "check_word" 3 ["word", "field"] spCheckWord) : FnOk P w K mg base CX0 4 f fd ["word"] spLiving := by
  refine F.ok scLiving (fun vs H Q E h => ?_) (fun cdv A outer s H vs Q E hr h => ?_)
  · obtain ⟨l, rfl, _⟩ := h
    rfl
  · obtain ⟨l, rfl, hl, hw, k⟩ := h
    refine ⟨_, (pss_cons (ps_expr (pe_dn D_check_word (hr.mono (by decide)) (by rfl) pass0 (pa_cons (pv 0) (pa_cons pe_str pa_nil))))
  (pss_one (ps_ret (pe_m1 PySem.F.slot_str_count PySem.F.type_str_count mt_count (pv 0) pe_str)))), ?_⟩
    refine ⟨_, rfl, _, _, rfl, hl, hw, ?_⟩
    refine ⟨_, rfl, ⟨_, rfl⟩, _, _, rfl, rfl, ?_⟩
    rw [t1, tx_count]
    exact k
def spNewest : Sp := fun vs H Q _ => ∃ l, vs = [.str (tx l)] ∧ l.length ≤ 1000000 ∧ Wd l ∧ Q (if l = [] then .non else .int ((l.count true : Nat) - 1 : Int)) H
def spBest : Sp := fun vs H Q _ => ∃ n : Int, vs = [.int n] ∧ 0 ≤ n ∧ n ≤ 1000000 ∧ Q (.str (tx (List.replicate n.toNat true))) H
def worst (n m : Int) : List Bool := List.replicate n.toNat true ++ List.replicate (m - n).toNat false
def spWorst : Sp := fun vs H Q _ => ∃ n m : Int, vs = [.int n, .int m] ∧ 0 ≤ n ∧ n ≤ m ∧ m ≤ 1000000 ∧ (n = 0 → m = 0) ∧ Q (.str (tx (worst n m))) H
theorem rep_len (n : Int) (b : Bool) : (tx (List.replicate n.toNat b)).length = n.toNat := by rw [tx_len, List.length_replicate]
def spOnes : Sp := fun vs H Q _ => ∃ l, vs = [.str (tx l)] ∧ l.length ≤ 9000 ∧ ∀ p H', H p = none → Same H H' → H' p = some (.lst (((onesAt l).map fun (k : Nat) => (k : Int)).map V.int)) → Q (.ref p) H'
def spDepths : Sp := fun vs H Q _ => ∃ l, vs = [.str (tx l)] ∧ l.length ≤ 9000 ∧ Wd l ∧ ∀ p H', H p = none → Same H H' → H' p = some (.lst ((dps l).map V.int)) → Q (.ref p) H'
def spWordOf (K : PySem.W.Frag) : Sp := fun vs H Q _ => ∃ a l, vs = [.ref a] ∧ l.length ≤ 9000 ∧ Wd l ∧ SqL K H a ((dps l).map V.int) ∧ ∀ H', Same H H' → Q (.str (tx l)) H'
end
end Cl

/-! ### an own error over an own base over ValueError: super().__init__(text), then one field -/
namespace PySem
namespace OwnX
open PySem.W PySem.Calls PyProof.Rows PySem.HandSPX
def iA (fl : Str) (p1 p2 : Pos) : Arguments := { posonlyargs := [], args := [{ arg := "self", annotation := none, pos := p1 }, { arg := fl, annotation := none, pos := p2 }], vararg := none, kwonlyargs := [], kw_defaults := [], kwarg := none, defaults := [] }
def iB (fl : Str) (me : Expr) (q1 q2 q3 q4 q5 q6 q7 q8 q9 : Pos) : List Stmt :=
  [.Expr (.Call (.Attribute (.Call (.Name "super" q1) [] [] q2) "__init__" q3) [me] [] q4) q5, .Assign [.Attribute (.Name "self" q6) fl q7] (.Name fl q8) q9]
def iS (fl : Str) : Scope := { kind := .function, names := [(PySem.Str.ofString "self", .local), (fl, .local), (PySem.Str.ofString "__class__", .free), (PySem.Str.ofString "super", .globalImplicit)], isGenerator := false, isCoroutine := false, more := [] }
abbrev ve : String := "ValueError.__init__"
/-- the text that the error hands on: a constant, or f'..{field}..' -/
inductive Msg (fl : Str) : Expr → Bool → Prop where
  | con (z : Str) (k : Nat) (p : Pos) : Msg fl (.Constant (.str z) k p) false
  | fmt (a b : Str) (j k : Nat) (p1 p2 p3 p4 p5 : Pos) (ha : a.length ≤ 1000) (hb : b.length ≤ 1000) :
    Msg fl (.JoinedStr [.Constant (.str a) j p1, .FormattedValue (.Name fl p2) (-1) none p3, .Constant (.str b) k p4] p5) true
/-- what is asked of the field's value: a text, where the message has it -/
def okF (ok : Bool) (v : Value) : Prop := ok = true → ∃ z t, v = .str z t ∧ z.length ≤ 1000
/-- what is reckoned for each field's name -/
structure FlOk (fl : Str) : Prop where
  bind : ∀ (qual : Str) (me : Expr) (p1 p2 q1 q2 q3 q4 q5 q6 q7 q8 q9 : Pos) (doc pm : Value) (an : Option Addr) (cd ct : Value) (cc : Addr) (a b : Value),
    bindArgs (ksFn "__init__" qual (iA fl p1 p2) (iB fl me q1 q2 q3 q4 q5 q6 q7 q8 q9) (iS fl) .none .none doc pm an cd ct cc) ⟨[a, b], []⟩ = pure [(("self" : Str), a), (fl, b)]
  lf : (iS fl).names.lookup fl = some .local
  lc : (iS fl).names.lookup ("__class__" : Str) = some .free
  lu : (iS fl).names.lookup ("super" : Str) = some .globalImplicit
  dbg : (fl == ("__debug__" : Str)) = false
  sf : (("self" : Str) == fl) = false
  cells : ∀ y ∈ (iS fl).names, y.2 ≠ .cell
  lk : ∀ v : Value, List.lookup fl [(fl, v)] = some v
/-- what the written part says of the class x at C, of its __init__ at fI -/
structure OwnTxt (prog : Program) (K : Frag) (C fI : Addr) (fl : Str) (ok : Bool) : Prop where
  cls : ∃ nm q N bs bm sn sub ab col dd k0 k1 k2 k3 k5, K.lookup C = some (excClassObj nm q C N bs bm true sn sub ab col dd k0 k1 k2 k3 k5 "ValueError.__new__") ∧ refsVE bm = true
  sa : findIn K (.ref C) "__setattr__" = some (some (.builtin "object.__setattr__"))
  noN : findIn K (.ref C) fl = some none
  iC : findIn K (.ref C) "__init__" = some (some (.ref fI))
  tC : typeIn K (.ref fI) = some (.type "function")
  su : ks_superIn K C C "__init__" = some (some (.builtin ve))
  sv : subIn K (.ref C) (.type "ValueError") = some true
  op : nsIn K cStatics "thirdparty.any" = some none
  ds : mroIn K C (.ref C) = some true
  fo : FlOk fl
  fn : ∃ (qual : Str) (oc : Value) (od : Option Addr) (doc pm : Value) (an : Option Addr) (cda : Addr) (ct : Value) (osl : Array (Option Value)) (me : Expr) (p1 p2 q1 q2 q3 q4 q5 q6 q7 q8 q9 : Pos) (cc : Addr) (cl : Value) (cld : Option Addr) (csl : Array (Option Value))
    (ccl : Value) (cdd : Option Addr) (ccs : Array (Option Value)) (vs : Array Value) (file : Str) (tf : Tok),
    K.lookup fI = some ⟨oc, od, .func (ksFn "__init__" qual (iA fl p1 p2) (iB fl me q1 q2 q3 q4 q5 q6 q7 q8 q9) (iS fl) .none .none doc pm an (.ref cda) ct cc), osl⟩ ∧ codeIn K (.ref cda) qual = true ∧ Msg fl me ok ∧
    K.lookup cc = some ⟨cl, cld, .cell (some (.ref C)), csl⟩ ∧ K.lookup cda = some ⟨ccl, cdd, .fields vs, ccs⟩ ∧ vs[2]? = some (.str file tf) ∧ ((prog.main.file : Str) == file) = true ∧ (q3.endLine == q4.line) = true
  main : (prog.main.scope.names.lookup ("super" : Str)).isSome = false
theorem one_size (v : Value) : [v].length ≤ sizeLine := by
  rw [sizeLine_eq]
  exact (by decide : 1 ≤ 16777216)
/-- what __init__ leaves of a fresh exception at x -/
structure InitEnd (h h' : Heap) (x C dx : Addr) (fl : Str) (v : Value) : Prop where
  keep : ∀ b o, b ≠ x → h.get? b = some o → h'.get? b = some o
  obj : ∃ t1 : Addr, h'.get? x = some { cls := .ref C, dict := some dx, data := .fields #[.ref t1, .none, .none, .none, .bool false, .none] }
  dbig : h.objs.size ≤ dx
  dne : dx ≠ x
  ns : h'.Ns1 dx (fun y => if y = fl then some v else none)
section
variable {prog : Program} {w : World} {M : Model} {A : Around} {E : Value → Shared → Prop} {h : Heap} {g : Array GenState} {d : Drawn} {t : Nat} {os : OsState}
variable {nm q : Str} {C N : Addr} {bs bm : List Value} {hdct : Bool} {sn : List Str} {sub : List Value} {ab : Bool} {col : Option Bool} {dd : Option Addr} {k0 k1 k2 k3 k5 : Option Value}
theorem call_mw {u e t0 : Addr} {rest : List Value} {Q : Value → Shared → Prop}
    (hC : h.get? C = some (excClassObj nm q C N bs bm hdct sn sub ab col dd k0 k1 k2 k3 k5 "ValueError.__new__")) (he : h.get? e = some (excO C t0)) (hu : h.get? u = some (kxs_mw ve e)) (hrest : rest.length ≤ sizeLine)
    (hq : ∀ h' t1, (∀ b o, b ≠ e → h.get? b = some o → h'.get? b = some o) → h'.get? e = some (excO C t1) → Q .none ⟨h', g, d, t, os⟩) :
    wpAny (model prog w) A (call (.ref u) rest) Q E ⟨h, g, d, t, os⟩ := by
  refine wpAny_call (codeAny_of_tree ?_)
  show wpAny _ A.in1 (callAny (.ref u) ⟨rest, []⟩) _ _ _
  simp only [callAny]
  refine wpAny_bind (wpAny_load hu ?_)
  simp only [kxs_mw, show (Value.type "method-wrapper" == Value.type "method" || Value.type "method-wrapper" == Value.type "builtin_function_or_method" || Value.type "method-wrapper" == Value.type "method-wrapper") = true by decide, if_true]
  refine W.KFB.if_so (by decide) ?_
  refine wpAny_bind (check_bound_init F.excBase_ValueError.toExcCallFacts hC he rfl ?_)
  refine wpAny_bind (wpAny_pure (wpAny_pure ?_))
  refine ⟨plainId_quiet F.excBase_ValueError.init.plain _, codeAny_builtin F.excBase_ValueError.initEntry ?_⟩
  exact exc_init_tree (cls := .ref C) (t0 := t0) (dv := none) (c2 := .none) (c3 := .none) (b4 := .bool false) he hrest fun h' k e' _ => hq h' _ k e'
end
section
variable {prog : Program} {w : World} {A : Around} {E : Value → Shared → Prop} {R : Result → Shared → Prop} {s : Shared} {K : Frag} {mg : Str → Option Value} {C fI : Addr} {fl : Str} {ok : Bool}
theorem msg_eval {me : Expr} {env : Env} {m : Str → Option Value} {v : Value} {Q : Value → Shared → Prop} (M : Msg fl me ok) (hv : okF ok v) (hns : s.heap.Ns env.locals m) (hm : m fl = some v) (hk : env.scope.kind = .function) (hl : env.kindOf fl = some .local) (hd : (fl == ("__debug__" : Str)) = false)
    (h : ∀ (z : Str) (t k : Nat), Q (.str z t) { s with toks := k }) : wpAny (model prog w) A (eval me env) Q E s := by
  cases M with
  | con z k p => exact Calls.Constant_str (h _ _ _)
  | fmt a b j k p1 p2 p3 p4 p5 ha hb =>
    obtain ⟨z, t, rfl, hz⟩ := hv rfl
    refine wpAny_JoinedStr ?_
    have big : (1000000 : Nat) ≤ sizeLine := by decide
    have e0 : (Str.empty ++ a).length = a.length := by rw [Str.length_append]; simp [Str.empty, Str.length]
    have e1 : (Str.empty ++ a ++ z).length = a.length + z.length := by rw [Str.length_append, e0]
    have e2 : (Str.empty ++ a ++ z ++ b).length = a.length + z.length + b.length := by rw [Str.length_append, e1]
    refine Calls.Constant_str ⟨a, _, rfl, by rw [e0]; omega, ?_⟩
    have nxt : ∀ (t2 k2 : Nat), wpAny (model prog w) A (eval (.Constant (.str b) k p4) env) (fun v s1 => ∃ (y : Str) (tk : Tok), v = .str y tk ∧ (Str.empty ++ a ++ z ++ y).length ≤ sizeLine ∧ Joins (model prog w) A E [] (Str.empty ++ a ++ z ++ y) (fun out s₁ => out.length ≤ sizeLine ∧ Q (.str out s₁.toks) { s₁ with toks := s₁.toks + 1 }) s1) E { s with toks := k2 } := fun t2 k2 => by
      refine Calls.Constant_str ⟨b, _, rfl, by rw [e2]; omega, ?_⟩
      exact ⟨by rw [e2]; omega, h _ _ _⟩
    refine wpAny_FormattedValue_plain (wpAny_Name (wpAny_loadName_local hk hl hns hm ?_) hd)
    exact wpAny_formatField_str ⟨z, t, rfl, by rw [e1]; omega, nxt t _⟩ ⟨z, _, rfl, by rw [e1]; omega, nxt t _⟩ (by omega)
theorem msg_call {me : Expr} {q1 q2 apos pos : Pos} {env : Env} (M : Msg fl me ok) (hline : (apos.endLine == pos.line) = true) : ∃ pl : Sem Bool, eval (.Call (.Attribute (.Call (.Name "super" q1) [] [] q2) "__init__" apos) [me] [] pos) env = (do
      let ov ← attributeBase (.Call (.Name "super" q1) [] [] q2) "__init__" env (eval (.Call (.Name "super" q1) [] [] q2) env)
      standAt apos.atName
      let (f, first) ← holding [ov] (getMethod ov "__init__" pl)
      callWith pos f first (backTo pos (starEach [me] env)) []) := by
  refine ⟨do return (← importBound (.Call (.Name "super" q1) [] [] q2) env).getD true, ?_⟩
  have few : methodCallForm ([me].length + ([] : List Keyword).length) (backTo pos (starEach [me] env)) (backToKw pos (keywordEach [] env)) = true := by cases M <;> rfl
  show (do
      let ov ← attributeBase (.Call (.Name "super" q1) [] [] q2) "__init__" env (eval (.Call (.Name "super" q1) [] [] q2) env)
      standAt apos.atName
      methodCall (.Call (.Name "super" q1) [] [] q2) "__init__" apos pos env ov ([me].length + ([] : List Keyword).length) (backTo pos (starEach [me] env)) (backToKw pos (keywordEach [] env))) = _
  unfold methodCall calleeOf methodCallPos
  rw [few, hline]
  rfl
theorem msg_star {me : Expr} {env : Env} (M : Msg fl me ok) : starEach [me] env = (false, eval me env) :: starEach [] env := by cases M <;> rfl
theorem msg_swap {me o : Expr} {apos pos : Pos} {env : Env} {line : Nat} (M : Msg fl me ok) : swapsWith (.Call (.Attribute o "__init__" apos) [me] [] pos) none line env = pure false := by cases M <;> rfl
theorem mw_callWith1 {u x : Addr} {pos : Pos} {env : Env} {e : Expr} {Q : Value → Shared → Prop} (he : starEach [e] env = (false, eval e env) :: starEach [] env)
    (h : wpAny (model prog w) A (eval e env) (fun v s₁ => KxsAt ve u x s₁.heap ∧ wpAny (model prog w) A (call (.ref u) [v]) Q E s₁) E s) :
    wpAny (model prog w) A (callWith pos (.ref u) [] (backTo pos (starEach [e] env)) []) Q E s := by
  have h2 : wpAny (model prog w) A (spliced (backTo pos (starEach [e] env))) (fun vs s₁ => KxsAt ve u x s₁.heap ∧ wpAny (model prog w) A (call (.ref u) vs) Q E s₁) E s := by
    exact spliced_more (wpAny_mono h (fun v s₁ h₁ => spliced_none h₁) fun _ _ z => z) he
  rw [he] at h2 ⊢
  refine kxs_callWith (i := ve) (x := x) rfl ?_
  exact evalArgs_plain h2
/-- the whole __init__ at a fresh exception -/
theorem own_init (T : OwnTxt prog K C fI fl ok) {x t0 : Addr} {v : Value} (X : K.In s.heap) (hlim : s.heap.NoLimit) (hgl : s.heap.Ns mainGlobals mg) (hms : mg "super" = none) (hbl : ∃ mb, s.heap.Ns builtinsNs mb ∧ ∀ y : Str, y ≠ "__name__" → mb y = bootBuiltins y)
    (hok : okF ok v) (hx : s.heap.get? x = some (excO C t0)) (hnx : K.lookup x = none) (hroom : A.depth < recursionLimit)
    (hq : ∀ h' tk dx, InitEnd s.heap h' x C dx fl v → R (.ok (.ret .none)) { s with heap := h', toks := tk }) :
    codeAny (model prog w) A (.call (.ref fI) ⟨[.ref x, v], []⟩) R s := by
  obtain ⟨qual, oc, od, doc, pm, an, cda, ct, osl, me, p1, p2, q1, q2, q3, q4, q5, q6, q7, q8, q9, cc, cl, cld, csl, ccl, cdd, ccs, vs, file, tf, ho, hcd, hM, hcell, hcode, hvs, hfile, hline⟩ := T.fn
  obtain ⟨nm, q, N, bs, bm, sn, sub, ab, col, dd, k0, k1, k2, k3, k5, hC, hbm⟩ := T.cls
  have hcl : clsIn K C = some { name := nm, bases := bs, mro := .ref C :: bm, ns := N, qualname := q, hasDict := true, slotNames := sn, subclasses := sub, abstract := ab, collection := col, hasDel := false } := by unfold clsIn; rw [hC] <;> rfl
  have FO := T.fo
  have env0 : ∀ L, (callEnv (ksFn "__init__" qual (iA fl p1 p2) (iB fl me q1 q2 q3 q4 q5 q6 q7 q8 q9) (iS fl) .none .none doc pm an (.ref cda) ct cc) L fI) = ksEnv qual (iS fl) L fI (.ref cda) cc := fun L => rfl
  refine ks_codeAny_call_defAt (fd := ksFn "__init__" qual (iA fl p1 p2) (iB fl me q1 q2 q3 q4 q5 q6 q7 q8 q9) (iS fl) .none .none doc pm an (.ref cda) ct cc) (body := iB fl me q1 q2 q3 q4 q5 q6 q7 q8 q9) (binds := [(("self" : Str), .ref x), (fl, v)])
    hroom (X _ _ ho) rfl hlim (codeRec_of X hcd) rfl (BindsTo.of_eq (FO.bind _ _ _ _ _ _ _ _ _ _ _ _ _ _ _ _ _ _ _ _ _)) FO.cells ?_ (fun h₁ hn k => ?_)
  · intro y hy
    rcases List.mem_cons.mp hy with rfl | hy
    · rfl
    · rw [List.mem_singleton.mp hy]; exact FO.lf
  have X₁ : K.In h₁ := X.keeps k
  have hx₁ := k _ _ hx
  have hxL : s.heap.objs.size ≠ x := Nat.ne_of_gt (Heap.lt_size hx)
  have mv : (fun y => List.lookup y ([(("self" : Str), Value.ref x), (fl, v)] : List (Str × Value)).reverse) fl = some v := by
    show List.lookup fl [(fl, v), (("self" : Str), Value.ref x)] = some v
    have := FO.lk v
    unfold List.lookup at this ⊢
    cases hb : (fl == fl)
    · rw [hb] at this; cases this
    · rfl
  have ms : (fun y => List.lookup y ([(("self" : Str), Value.ref x), (fl, v)] : List (Str × Value)).reverse) "self" = some (.ref x) := by
    show List.lookup ("self" : Str) [(fl, v), (("self" : Str), Value.ref x)] = some (.ref x)
    unfold List.lookup
    rw [FO.sf]
    rfl
  obtain ⟨mb, hb1, hb2⟩ := hbl
  obtain ⟨pl, hpl⟩ := msg_call (q1 := q1) (q2 := q2) (apos := q3) (pos := q4) (env := ksEnv qual (iS fl) s.heap.objs.size fI (.ref cda) cc) hM hline
  refine ks_wpAt_execs_cons (ks_wpAt_Expr_any (ks_wpAt_MethodCall (pl := pl) ?_ hpl) rfl (msg_swap hM))
  obtain ⟨hp, g, dr, tk, os⟩ := s
  obtain ⟨oD, cdD, hD1, hD2⟩ : ∃ (oD : Obj) (cdD : ClassData), h₁.get? C = some oD ∧ oD.data = .cls cdD := ⟨_, _, X₁ _ _ hC, rfl⟩
  refine ks_wpAt_super_base (env := ksEnv qual (iS fl) hp.objs.size fI (.ref cda) cc) (ar := { arg := "self", annotation := none, pos := p1 }) FO.lu FO.lc rfl rfl (X₁ _ _ ho) rfl rfl rfl (X₁ _ _ hcode) rfl hvs hfile T.main ?_
  refine ks_loadName_global rfl FO.lu (loadGlobal_builtin (env := ksEnv qual (iS fl) hp.objs.size fI (.ref cda) cc) (hgl.keeps k) hms (hb1.keeps k) ((hb2 _ (by decide +kernel)).trans (by decide +kernel : bootBuiltins "super" = some (.type "super"))) ⟨rfl, ?_⟩)
  refine wpAny_loadName_free rfl FO.lc rfl ⟨_, X₁ _ _ hcell, rfl⟩ ?_
  refine wpAny_loadName_local rfl rfl hn ms ?_
  refine ks_wpAny_isType_cls hD1 hD2 ⟨rfl, ?_⟩
  refine ks_wpAny_call_super hD1 hD2 hx₁ rfl (fun c e => nomatch e) (looks_mroIn X₁ T.ds) (fun h₂ hso k₂ => ?_)
  have X₂ : K.In h₂ := X₁.keeps k₂
  have hx₂ := k₂ _ _ hx₁
  have I₂ : InstAt h₂ x (excO C t0) C none := ⟨hx₂, rfl, rfl, trivial⟩
  have hsu := T.su
  unfold ks_superIn at hsu
  rw [hcl] at hsu
  refine kxs_getMethod kxs_ValueError hso (looks_opaque X₂ T.op) (l₀ := .ref C :: bm) ?_ rfl X₂ hsu (I₂.type.andThen (looks_subIn X₂ T.sv)) (ks_ne X₂ I₂ hcl) rfl ?_
  · exact fun A Q E s k q => wpAny_bind ((looks_clsIn X₂ hcl) A _ E s k (wpAny_pure q))
  have k₃ : ∀ b o, h₂.get? b = some o → (h₂.push (kxs_mw ve x)).get? b = some o := fun b o e => Heap.get?_push_of_some _ e
  have hu : (h₂.push (kxs_mw ve x)).get? h₂.objs.size = some (kxs_mw ve x) := Heap.get?_push_at rfl rfl
  have X₃ := X₂.keeps k₃
  have hx₃ := k₃ _ _ hx₂
  have n₃ := (hn.keeps k₂).keeps k₃
  generalize h₂.push (kxs_mw ve x) = h₃ at *
  refine mw_callWith1 (x := x) (msg_star hM) (msg_eval hM hok n₃ mv rfl FO.lf FO.dbg fun z tz kz => ⟨hu, ?_⟩)
  refine call_mw (X₃ _ _ hC) hx₃ hu (one_size _) fun h₄ t1 k₄ hx₄ => ?_
  have nxL : hp.objs.size ≠ x := hxL
  have n₄ : h₄.Ns hp.objs.size (fun y => List.lookup y ([(("self" : Str), Value.ref x), (fl, v)] : List (Str × Value)).reverse) := n₃.at fun o e => k₄ _ _ nxL e
  have X₄ : K.In h₄ := fun a o e => k₄ a o (fun z => by rw [z, hnx] at e; cases e) (X₃ a o e)
  show _root_.PySem.wpAt _ _ _ (execs _ _) _ _ _
  refine wpAt_of_wpAny (wpAny_execs_cons (plainObj_wpAny_Assign_Attribute ?_))
  refine wpAny_Name (wpAny_loadName_local rfl FO.lf n₄ mv ?_) FO.dbg
  refine wpAny_Name (wpAny_loadName_local rfl rfl n₄ ms ?_) (by decide)
  refine set_plain X₄ (ox := excO C t1) (od := none) ⟨hx₄, rfl, rfl, trivial⟩ T.sa ?_
  refine exc_osa X₄ hx₄ hcl (show refsVE (.ref C :: bm) = true from hbm) rfl T.noN (fun h₅ tk₅ dx k₅ dn dne hx₅ hn₅ => ?_)
  show wpAny _ _ (execs _ _) _ _ _
  have kk : ∀ b o, b ≠ x → hp.get? b = some o → h₅.get? b = some o := fun b o hb e => k₅ b o hb (k₄ b o hb (k₃ _ _ (k₂ _ _ (k _ _ e))))
  have z : hp.objs.size < h₄.objs.size := n₄.lt
  exact wpAny_execs_nil (hq h₅ tk₅ dx ⟨kk, ⟨t1, hx₅⟩, Nat.le_of_lt (Nat.lt_of_lt_of_le z dn), dne, hn₅⟩)
/-- a made error -/
structure ErrMade (h h' : Heap) (e C d : Addr) (fl : Str) (v : Value) : Prop where
  keep : ∀ b o, h.get? b = some o → h'.get? b = some o
  new : h.objs.size ≤ e
  obj : ∃ oe vs, h'.get? e = some oe ∧ oe.cls = .ref C ∧ oe.dict = some d ∧ oe.data = .fields vs ∧ vs[1]? = some .none
  dbig : h.objs.size ≤ d
  dne : d ≠ e
  ns : h'.Ns1 d (fun y => if y = fl then some v else none)
theorem err_made (T : OwnTxt prog K C fI fl ok) {v : Value} (X : K.In s.heap) (hlim : s.heap.NoLimit) (hgl : s.heap.Ns mainGlobals mg) (hms : mg "super" = none) (hbl : ∃ mb, s.heap.Ns builtinsNs mb ∧ ∀ y : Str, y ≠ "__name__" → mb y = bootBuiltins y) (hok : okF ok v)
    (hroom : A.depth + 1 < recursionLimit) (hq : ∀ h' tk e d, ErrMade s.heap h' e C d fl v → R (.ok (.ret (.ref e))) { s with heap := h', toks := tk }) :
    codeAny (model prog w) A (.call (.ref C) ⟨[v], []⟩) R s := by
  obtain ⟨nm, q, N, bs, bm, sn, sub, ab, col, dd, k0, k1, k2, k3, k5, hC, hbm⟩ := T.cls
  obtain ⟨hp, g, dr, tk, os⟩ := s
  have k : ∀ b o, hp.get? b = some o → ((hp.push (kdv_tup [v])).push (excO C hp.objs.size)).get? b = some o := fun b o e => Heap.get?_push_of_some _ (Heap.get?_push_of_some _ e)
  have hget : ((hp.push (kdv_tup [v])).push (excO C hp.objs.size)).get? (hp.objs.size + 1) = some (excO C hp.objs.size) := by heap_get
  have hnx : K.lookup (hp.objs.size + 1) = none := by
    cases e : K.lookup (hp.objs.size + 1) with
    | none => rfl
    | some o =>
      have z : hp.get? (hp.objs.size + 1) = some o := X _ _ e
      exact absurd (Nat.lt_of_succ_lt (Heap.lt_size z)) (Nat.lt_irrefl _)
  obtain ⟨mb, hb1, hb2⟩ := hbl
  refine call_own F.excBase_ValueError (fun X => refsVE_contains X bm hbm) (X _ _ hC) (looks_findIn X T.iC) (fun self => bind_fn X self T.tC) (one_size v) ?_
  refine own_init (s := ⟨(hp.push (kdv_tup [v])).push (excO C hp.objs.size), g, dr, tk, os⟩) T (X.keeps k) (hlim.keeps k) (hgl.keeps k) hms ⟨mb, hb1.keeps k, hb2⟩ hok hget hnx ?_ fun h' tk' dx ⟨k', ⟨t1, hx⟩, dn, dne, hns⟩ => ?_
  · show A.depth + 1 < recursionLimit
    exact hroom
  · have old : ∀ b o, hp.get? b = some o → h'.get? b = some o := fun b o e => k' b o (Nat.ne_of_lt (Nat.lt_succ_of_lt (Heap.lt_size e))) (k b o e)
    have z : hp.objs.size + 1 + 1 ≤ dx := by
      have q := dn
      rw [Heap.size_push, Heap.size_push] at q
      exact q
    exact ⟨rfl, hq h' tk' (hp.objs.size + 1) dx ⟨old, Nat.le_succ _, ⟨_, _, hx, rfl, rfl, rfl, rfl⟩, Nat.le_trans (Nat.le_trans (Nat.le_succ _) (Nat.le_succ _)) z, dne, hns⟩⟩
end
end OwnX
end PySem
namespace L2
open PySem PySem.Spec PyProof.Rows
theorem relO_fld {fl : Str} {v : V} {v' : Value} (r : RelV v v') (f : Str) : RelO (List.lookup f [(fl, v)]) (if f = fl then some v' else none) := by
  by_cases hw : f = fl
  · subst hw
    rw [if_pos rfl]
    have q : List.lookup f [(f, v)] = some v := by simp [List.lookup]
    rw [q]
    exact r
  · rw [if_neg hw]
    have qw : (f == fl) = false := by simpa using hw
    have q2 : List.lookup f [(fl, v)] = none := by simp [List.lookup, qw]
    rw [q2]
    trivial
def okV (ok : Bool) (v : V) : Prop := ok = true → ∃ z, v = .str z ∧ z.length ≤ 1000
section
variable {X : Cx} {C fI : Addr} {fl : Str} {ok : Bool}
/-- Err(e) -/
def tMkErr (C : Addr) (fl : Str) (ok : Bool) (ta : TA) : St → Hp → XK → Prop := fun σ H Q => ta σ H fun vs H1 => ∃ v, vs = [v] ∧ okV ok v ∧ ∀ d, H1 d = none → Q (.ref C) (some d) (upd H1 d (.xd [(fl, v)]))
theorem pmk_err {nm : Str} {a : Expr} {ta : TA} {p pos : Pos} {k : Nat} (T : PySem.OwnX.OwnTxt X.prog X.K C fI fl ok) (exC : PySem.W.subIn X.K (.ref C) (.type "BaseException") = some true) (tyC : PySem.W.typeIn X.K (.ref C) = some (.type "type")) (kC : PySem.W.keepIn X.K (.ref C) = true)
    (gC : X.mg nm = some (.ref C)) (hms : X.mg "super" = none) (hr : Room (k + 1) X.A) (ha : PA X [a] ta) (hg : Gl X nm) (hdb : (nm == ("__debug__" : Str)) = false)
    (he : starEach (a :: []) X.env = (false, eval a X.env) :: starEach [] X.env := by rfl) (hpl : (backTo pos (starEach [] X.env)).any (·.1) = false := by rfl) :
    PMk X (.Call (.Name nm p) [a] [] pos) (tMkErr C fl ok ta) := by
  intro pins s σ H Q I h
  refine wpAny_Call_Name_kw (ld_glob I hg gC ?_ hdb)
  refine PySem.W.callWith_K (h₀ := X.base) I.ok.mod.kin kC (thn (ha.run pos pins s σ H _ I h) fun us s1 hh => ?_) he hpl
  obtain ⟨vs, H1, I1, r1, v, ev, hok, q1⟩ := hh
  subst ev
  refine ⟨I1.kIn, ?_⟩
  cases r1 with
  | cons rv rn =>
    rename_i v' us'
    cases rn
    show wpAny _ _ (call (.ref C) [v']) _ _ _
    have hlim := I1.nolimit
    have hok' : PySem.OwnX.okF ok v' := fun e => by
      obtain ⟨z, rfl, hz⟩ := hok e
      obtain ⟨t, rfl⟩ := rv
      exact ⟨z, t, rfl, hz⟩
    obtain ⟨mb, hb1, hb2⟩ := I1.mod.blt
    have hgl := I1.mod.glob.keeps I1.bk
    have hbl := hb1.keeps I1.bk
    obtain ⟨hp, g, dr, tk, os⟩ := s1
    refine wpAny_call (PySem.OwnX.err_made T I1.kIn hlim hgl hms ⟨mb, hbl, hb2⟩ hok' (by have := hr.dp; omega) fun h' tk' e d M => ?_)
    show MkP X pins σ Q (.ref e) ⟨h', g, dr, tk', os⟩
    obtain ⟨oe, fv, hoe, hc, hd, hdat, h1⟩ := M.obj
    have hns := M.ns
    obtain ⟨G', g1, g2⟩ := restrict h' fun b => decide (b ≠ e)
    have gk : ∀ b, b ≠ e → G'.get? b = h'.get? b := fun b hb => g1 b (decide_eq_true hb)
    have ge : G'.get? e = none := g2 e (by simp)
    have old : ∀ b o, hp.get? b = some o → G'.get? b = some o := fun b o q => (gk b (Nat.ne_of_lt (Nat.lt_of_lt_of_le (Heap.lt_size q) M.new))).trans (M.keep b o q)
    have ob : ObjOk X.prog X.w (upd H1 d (.xd [(fl, v)])) G' d (.xd [(fl, v)]) :=
      ⟨_, hns.at (fun o q => (gk d M.dne).trans q), fun f => relO_fld rv f⟩
    have J : Inv X pins σ (upd H1 d (.xd [(fl, v)])) ⟨G', g, dr, tk', os⟩ := I1.laid (t' := tk') old M.dbig ob
    refine ⟨e, oe, fv, ⟨G', g, dr, tk', os⟩, _, .ref C, some d, rfl, J, fun b o q => ?_, ge, hoe, ⟨hc, hd⟩, hdat, h1, ?_, rfl, I1.bare, raises_own exC tyC, q1 d (I1.hok.fresh M.dbig)⟩
    · by_cases hb : b = e
      · have q' : G'.get? b = some o := q
        rw [hb, ge] at q'; cases q'
      · exact (gk b hb).symm.trans q
    · rw [upd_ne (Ne.symm M.dne)]
      exact I1.hok.fresh M.new
end
end L2

/-! ### own errors by their names -/
namespace Cl
open PySem L2 PyProof.Rows
theorem kit_err {K : PySem.W.Frag} {C S : Addr} {b : Bool} (ne : (Value.ref C == Value.ref S) = false) (c : (PySem.W.clsIn K S).isSome = true) (t : PySem.W.typeIn K (.ref S) = some (.type "type")) (s : PySem.W.subIn K (.ref C) (.ref S) = some b) : PySem.W.kitOne K (.ref C) (.ref S) = some b := by
  have e2 : ((PySem.W.clsIn K S).isSome && PySem.W.typeIn K (.ref S) == some (.type "type")) = true := by rw [c, t] <;> rfl
  unfold PySem.W.kitOne PySem.W.kitCls
  rw [ne, if_neg Bool.false_ne_true]
  show (if ((PySem.W.clsIn K S).isSome && PySem.W.typeIn K (.ref S) == some (.type "type")) = true then PySem.W.subIn K (.ref C) (.ref S) else none) = some b
  rw [if_pos e2]; exact s
theorem kit_self {K : PySem.W.Frag} {C : Addr} : PySem.W.kitOne K (.ref C) (.ref C) = some true := by
  unfold PySem.W.kitOne; simp
/-- the class x at C of the program's errors, its field fl -/
structure ErrC (P : Program) (K : PySem.W.Frag) (mg : Str → Option Value) (x : Str) (C : Addr) (fl : Str) (ok : Bool) : Prop where
  T : ∃ fI, PySem.OwnX.OwnTxt P K C fI fl ok
  g : mg x = some (.ref C)
  su : mg "super" = none
  kp : PySem.W.keepIn K (.ref C) = true
  exC : PySem.W.subIn K (.ref C) (.type "BaseException") = some true
  tyC : PySem.W.typeIn K (.ref C) = some (.type "type")
  ga : PySem.W.findIn K (.ref C) "__getattribute__" = some (some (.builtin "BaseException.__getattribute__"))
  gg : PySem.W.findIn K (.ref C) "__getattr__" = some none
  hd : PySem.W.hasDictIn K C = true
  ha : PySem.W.findIn K (.ref C) "__class__" = some (some (.builtin "object.__class__"))
  hn : PySem.W.specialIn K (.builtin "object.__class__") "__get__" = some (some (.builtin "getset_descriptor.__get__"))
  ht : PySem.W.takesIn K (.builtin "object.__class__") = some true
  hm : PySem.W.mroIn K C (.type "object") = some true
  nm : (x == ("__debug__" : Str)) = false
  is_ : (PySem.W.clsIn K C).isSome = true
/-- an error of the class at C with the field fl = v flies: its own dict at d -/
def Err (H : Hp) (C : Addr) (fl : Str) (v : V) (cls : Value) (d : Option Addr) : Prop := cls = .ref C ∧ ∃ dd, d = some dd ∧ H dd = some (.xd [(fl, v)])
/-- the promise that such an error leaves -/
def Out (C : Addr) (fl : Str) (v : V) (H : Hp) (E : XK) : Prop := ∀ d : Addr, H d = none → E (.ref C) (some d) (upd H d (.xd [(fl, v)]))
section
variable {X : Cx} {C : Addr} {fl x : Str} {ok : Bool} {ta : TA} {a : Expr} {p pos pos2 : Pos} {k : Nat} {W : WX}
def tRaiseE (C : Addr) (fl : Str) (ok : Bool) (W : WX) (ta : TA) : TS := fun _ σ H => ta σ H fun vs H1 => ∃ v, vs = [v] ∧ okV ok v ∧ Out C fl v H1 fun cls d H' => W cls d σ H'
theorem ps_raiseE (T : ErrC X.prog X.K X.mg x C fl ok) (hc : X.calm = true) (hr : Room (k + 1) X.A) (tk : Takes X W) (ha : PA X [a] ta) (hg : Gl X x := by rfl)
    (he : starEach (a :: []) X.env = (false, eval a X.env) :: starEach [] X.env := by rfl) (hpl : (backTo pos (starEach [] X.env)).any (·.1) = false := by rfl) :
    PS X (.Raise (some (.Call (.Name x p) [a] [] pos)) none pos2) (tRaiseE C fl ok W ta) := by
  obtain ⟨fI, t⟩ := T.T
  exact ps_raise hc tk (pmk_err t T.exC T.tyC T.kp T.g T.su hr ha hg T.nm he hpl)
end
section
variable {X : Cx} {a : Addr} {oe : Obj} {cls : Value} {d : Option Addr} {pn : List (Addr × Obj)}
/-- err.fl in a suite: the class is told by the reading -/
def tFldE (P : Program) (K : PySem.W.Frag) (mg : Str → Option Value) (fl : Str) (a : Addr) (cls : Value) (d : Option Addr) (te : TE) : TE := fun σ H Q => te σ H fun y H1 => y = .ref a ∧ ∃ (x : Str) (C : Addr) (ok : Bool) (v : V), ErrC P K mg x C fl ok ∧ Err H1 C fl v cls d ∧ Q v H1
theorem pe_fldE {e : Expr} {te : TE} {fl : Str} {pos : Pos} (hz : Zc cls d oe) (hf : ∃ vs, oe.data = .fields vs) (he : PE (X.suite a ((a, oe) :: pn)) e te) (hb : attributeBase e fl X.env (eval e X.env) = eval e X.env := by rfl) :
    PE (X.suite a ((a, oe) :: pn)) (.Attribute e fl pos) (tFldE X.prog X.K X.mg fl a cls d te) := by
  refine ⟨fun pins s σ H Q I h => ?_⟩
  refine attr_of hb (thn (he.run pins s σ H _ I h) fun u s1 hh => ?_)
  obtain ⟨y, H1, I1, rx, ey, x, C, ok, v, T, ⟨ec, dd, ed, ea⟩, q⟩ := hh
  obtain ⟨fI, t⟩ := T.T
  subst ey ec ed
  obtain rfl : u = Value.ref a := rx
  obtain ⟨hat, _⟩ := I1.pin (a, oe) (List.mem_append_left _ List.mem_cons_self)
  obtain ⟨vs, hdat⟩ := hf
  obtain ⟨mA, hns, hr⟩ := (show ObjOk X.prog X.w H1 s1.heap dd (.xd [(fl, v)]) from I1.hok dd _ ea)
  obtain ⟨od, ho, hl⟩ := lookIn_ns hns
  have l : List.lookup fl [(fl, v)] = some v := by simp [List.lookup]
  obtain ⟨u, hu, ru⟩ := RelO.some_of (v := v) (o := mA fl) (by rw [← l]; exact hr fl)
  have J : PySem.W.InstAt s1.heap a oe C (some od) := ⟨hat, hz.1, by unfold PySem.W.notCls; rw [hdat] <;> rfl, by rw [hz.2]; exact ho⟩
  exact HandSPX.exc_get I1.kIn J T.ga T.gg T.exC (PySem.W.findObj_own T.hd t.noN rfl (by rw [hl, hu])) (handed_of ru) ⟨v, H1, I1.tok _, ru, q⟩
/-- isinstance(err, c) in a suite -/
def rIsErr (P : Program) (K : PySem.W.Frag) (mg : Str → Option Value) (a : Addr) (cls : Value) (d : Option Addr) : List V → Hp → VK → Prop := fun xs H Q => ∃ (c : V) (cv : Value) (b : Bool) (x : Str) (C : Addr) (fl : Str) (ok : Bool) (v : V), xs = [.ref a, c] ∧ (∀ u, RelV c u → u = cv) ∧
  ErrC P K mg x C fl ok ∧ Err H C fl v cls d ∧ PySem.W.kitOne K (.ref C) cv = some b ∧ Q (.bl b) H
theorem call_isErr (hz : Zc cls d oe) (hf : ∃ vs, oe.data = .fields vs) : CallR (X.suite a ((a, oe) :: pn)) (.builtin "isinstance") (rIsErr X.prog X.K X.mg a cls d) := by
  intro pins s σ H xs us Q I r h
  obtain ⟨c, cv, b, x, C, fl, ok, v, rfl, hcv, T, ⟨ec, dd, ed, ea⟩, e, q⟩ := h
  subst ec ed
  cases r with
  | cons rx rr =>
    cases rr with
    | cons rt rr =>
      cases rr
      cases rx
      obtain rfl := hcv _ rt
      obtain ⟨hat, _⟩ := I.pin (a, oe) (List.mem_append_left _ List.mem_cons_self)
      obtain ⟨vs, hdat⟩ := hf
      obtain ⟨mA, hns, _⟩ := (show ObjOk X.prog X.w H s.heap dd (.xd [(fl, v)]) from I.hok dd _ ea)
      obtain ⟨od, ho, _⟩ := lookIn_ns hns
      have J : PySem.W.InstAt s.heap a oe C (some od) := ⟨hat, hz.1, by unfold PySem.W.notCls; rw [hdat] <;> rfl, by rw [hz.2]; exact ho⟩
      exact PySem.W.kia_one (PySem.W.kitx_exc T.is_ T.ga T.gg T.exC T.ha T.hn T.ht T.hm) I.kIn J e (fun z => nomatch z) fun tk => ⟨.bl b, H, I.kept (t' := tk) fun _ _ z => z, rfl, q⟩
end
/-- a def that may raise, by its name -/
structure Dx (P : Program) (w : World) (K : PySem.W.Frag) (mg : Str → Option Value) (base : Heap) (x : Str) (k : Nat) (ps : List Str) (sp : Sp) (dvs : List V := []) : Prop where
  ex : ∃ (f : Addr) (fd : FuncData) (ds : List Value), FnOk P w K mg base (L2.CX P w) k f fd ps sp ∧ mg x = some (.ref f) ∧ PySem.W.keepIn K (.ref f) = true ∧ Binds K fd ps ds ∧ Vals dvs ds
section
variable {X : Cx} {k : Nat} {ps : List Str} {sp : Sp} {dvs : List V} {x : Str} {p pos : Pos} {e : Expr} {es : List Expr} {t : TA} {W : WX} {E : XK}
theorem passX0 : Passes (L2.CX X.prog X.w) X E0 := fun _ _ _ _ _ _ _ c => by
  obtain ⟨_, _, _, _, _, _, _, _, _, _, _, _, z⟩ := c
  exact z.elim
/-- its call where nothing is raised, or where what is raised is this def's own -/
theorem pe_dx (D : Dx X.prog X.w X.K X.mg X.base x k ps sp dvs) (hr : Room k X.A) (hg : Gl X x) (hx : Passes (L2.CX X.prog X.w) X E) (ha : PA X (e :: es) t)
    (hdb : (x == ("__debug__" : Str)) = false := by decide) (he : starEach (e :: es) X.env = (false, eval e X.env) :: starEach es X.env := by rfl)
    (hpl : (backTo pos (starEach es X.env)).any (·.1) = false := by rfl) : PE X (.Call (.Name x p) (e :: es) [] pos) (tCall sp dvs E t) := by
  obtain ⟨f, fd, ds, G, m, kp, b, v⟩ := D.ex
  exact pe_call G hr hg m kp b v hx ha hdb he hpl
/-- its call in the body of a try -/
theorem pe_dxT (D : Dx X.prog X.w X.K X.mg X.base x k ps sp dvs) (hr : Room k X.A) (hg : Gl X x) (tk : Takes X W) (ha : PA X (e :: es) t)
    (hdb : (x == ("__debug__" : Str)) = false := by decide) (he : starEach (e :: es) X.env = (false, eval e X.env) :: starEach es X.env := by rfl)
    (hpl : (backTo pos (starEach es X.env)).any (·.1) = false := by rfl) : PE X (.Call (.Name x p) (e :: es) [] pos) (tCallSD sp dvs (WE W) t) := by
  obtain ⟨f, fd, ds, G, m, kp, b, v⟩ := D.ex
  exact pe_callSD G hr hg m kp b v (fun σ => passAt tk σ) ha hdb he hpl
end
section
variable {P : Program} {w : World} {K : PySem.W.Frag} {mg : Str → Option Value} {base : Heap} {x qual : Str} {st : Stmt} {ps : List Str} {k : Nat} {sp : Sp} {kws : List (Str × V)} {h : Heap}
theorem AtTop.dx (t : AtTop K x qual st kws) (X : K.In h) (G : h.Ns mainGlobals mg)
    (hb : ∀ (kV doc pm : Value) (an : Option Addr) (cdv ct : Value) (us : List Value), us.length = ps.length → bindArgs (PySem.W.fnOf x qual (defArgs st) (defBody st) (defScope st) .none kV doc pm an cdv ct) ⟨us, []⟩ = pure (ps.zip us))
    (ok : ∀ (f : Addr) (fd : FuncData), Fun K x qual st f fd → FnOk P w K mg base (L2.CX P w) k f fd ps sp) : Dx P w K mg base x k ps sp := by
  obtain ⟨f, fd, a, F, _⟩ := t.ex
  exact ⟨f, fd, [], ok f fd F, PySem.W.mg_of X G a, F.kp, F.binds hb, .nil⟩
end
end Cl

/-! ### own errors found in the written part -/
namespace Cl
open PySem PySem.W PySem.Calls PySem.HandSPX L2 PyProof.Rows
/-- the class x at C, told by its __init__'s statement -/
structure ErrAt (P : Program) (K : PySem.W.Frag) (x : Str) (C : Addr) (fl : Str) (ok : Bool) : Prop where
  T : ∃ fI, PySem.OwnX.OwnTxt P K C fI fl ok
  a : PySem.W.nsIn K mainGlobals x = some (some (.ref C))
  kp : PySem.W.keepIn K (.ref C) = true
  exC : PySem.W.subIn K (.ref C) (.type "BaseException") = some true
  tyC : PySem.W.typeIn K (.ref C) = some (.type "type")
  ga : PySem.W.findIn K (.ref C) "__getattribute__" = some (some (.builtin "BaseException.__getattribute__"))
  gg : PySem.W.findIn K (.ref C) "__getattr__" = some none
  hd : PySem.W.hasDictIn K C = true
  ha : PySem.W.findIn K (.ref C) "__class__" = some (some (.builtin "object.__class__"))
  hn : PySem.W.specialIn K (.builtin "object.__class__") "__get__" = some (some (.builtin "getset_descriptor.__get__"))
  ht : PySem.W.takesIn K (.builtin "object.__class__") = some true
  hm : PySem.W.mroIn K C (.type "object") = some true
  nm : (x == ("__debug__" : Str)) = false
  is_ : (PySem.W.clsIn K C).isSome = true
theorem ErrAt.ec {P : Program} {K : PySem.W.Frag} {x : Str} {C : Addr} {fl : Str} {ok : Bool} {h : Heap} {mg : Str → Option Value} (t : ErrAt P K x C fl ok) (X : K.In h) (G : h.Ns mainGlobals mg) (su : PySem.W.nsIn K mainGlobals "super" = some none) : ErrC P K mg x C fl ok :=
  ⟨t.T, PySem.W.mg_of X G t.a, PySem.W.mg_none_of X G su, t.kp, t.exC, t.tyC, t.ga, t.gg, t.hd, t.ha, t.hn, t.ht, t.hm, t.nm, t.is_⟩
/-- the text of its __init__, as a statement of the program -/
structure OwnSt (st : Stmt) (fl : Str) (ok : Bool) : Prop where
  ex : ∃ (me : Expr) (p1 p2 q1 q2 q3 q4 q5 q6 q7 q8 q9 : Pos), (q3.endLine == q4.line) = true ∧ defArgs st = PySem.OwnX.iA fl p1 p2 ∧ defBody st = PySem.OwnX.iB fl me q1 q2 q3 q4 q5 q6 q7 q8 q9 ∧ defScope st = PySem.OwnX.iS fl ∧ PySem.OwnX.Msg fl me ok
theorem errAt {P : Program} {K : PySem.W.Frag} {x qual : Str} {C fI N cda cc : Addr} {fl file : Str} {ok : Bool} {st : Stmt} {nm q : Str} {bs bm : List Value} {sn : List Str} {sub : List Value} {ab : Bool} {col : Option Bool} {dd : Option Addr} {k0 k1 k2 k3 k5 : Option Value}
    {oc cl ccl doc pm ct : Value} {od an cld cdd : Option Addr} {osl csl ccs : Array (Option Value)} {vs : Array Value} {tf : Tok}
    (so : OwnSt st fl ok) (fo : PySem.OwnX.FlOk fl) (a : PySem.W.nsIn K mainGlobals x = some (some (.ref C)))
    (cls : K.lookup C = some (excClassObj nm q C N bs bm true sn sub ab col dd k0 k1 k2 k3 k5 "ValueError.__new__")) (bm_ : refsVE bm = true)
    (sa : PySem.W.findIn K (.ref C) "__setattr__" = some (some (.builtin "object.__setattr__"))) (noN : PySem.W.findIn K (.ref C) fl = some none)
    (iC : PySem.W.findIn K (.ref C) "__init__" = some (some (.ref fI))) (tC : PySem.W.typeIn K (.ref fI) = some (.type "function"))
    (su : PySem.W.ks_superIn K C C "__init__" = some (some (.builtin PySem.OwnX.ve))) (sv : PySem.W.subIn K (.ref C) (.type "ValueError") = some true)
    (op : PySem.W.nsIn K cStatics "thirdparty.any" = some none) (ds : PySem.W.mroIn K C (.ref C) = some true)
    (l : K.lookup fI = some ⟨oc, od, .func (PySem.W.ksFn "__init__" qual (defArgs st) (defBody st) (defScope st) .none .none doc pm an (.ref cda) ct cc), osl⟩) (c : PySem.W.codeIn K (.ref cda) qual = true)
    (lc : K.lookup cc = some ⟨cl, cld, .cell (some (.ref C)), csl⟩) (lv : K.lookup cda = some ⟨ccl, cdd, .fields vs, ccs⟩) (hv : vs[2]? = some (.str file tf)) (hf : ((P.main.file : Str) == file) = true)
    (hm : (P.main.scope.names.lookup ("super" : Str)).isSome = false) (kp : PySem.W.keepIn K (.ref C) = true) (exC : PySem.W.subIn K (.ref C) (.type "BaseException") = some true) (tyC : PySem.W.typeIn K (.ref C) = some (.type "type"))
    (ga : PySem.W.findIn K (.ref C) "__getattribute__" = some (some (.builtin "BaseException.__getattribute__"))) (gg : PySem.W.findIn K (.ref C) "__getattr__" = some none) (hd : PySem.W.hasDictIn K C = true)
    (ha : PySem.W.findIn K (.ref C) "__class__" = some (some (.builtin "object.__class__"))) (hn : PySem.W.specialIn K (.builtin "object.__class__") "__get__" = some (some (.builtin "getset_descriptor.__get__")))
    (ht : PySem.W.takesIn K (.builtin "object.__class__") = some true) (hmo : PySem.W.mroIn K C (.type "object") = some true) (nd : (x == ("__debug__" : Str)) = false) (is_ : PySem.W.isClsIn K C = true) : ErrAt P K x C fl ok := by
  obtain ⟨me, p1, p2, q1, q2, q3, q4, q5, q6, q7, q8, q9, hl, e1, e2, e3, M⟩ := so.ex
  rw [e1, e2, e3] at l
  exact ⟨⟨fI, ⟨_, _, _, _, _, _, _, _, _, _, _, _, _, _, _, cls, bm_⟩, sa, noN, iC, tC, su, sv, op, ds, fo, ⟨_, _, _, _, _, _, _, _, _, me, _, _, _, _, _, _, _, _, _, _, _, _, _, _, _, _, _, _, _, _, _, l, c, M, lc, lv, hv, hf, hl⟩, hm⟩, a, kp, exC, tyC, ga, gg, hd, ha, hn, ht, hmo, nd, is_⟩
/-- a class that is only named -/
structure ClsN (K : PySem.W.Frag) (mg : Str → Option Value) (x : Str) (C : Addr) : Prop where
  g : mg x = some (.ref C)
structure NamAt (K : PySem.W.Frag) (x : Str) (C : Addr) : Prop where
  a : PySem.W.nsIn K mainGlobals x = some (some (.ref C))
theorem namAt {K : PySem.W.Frag} {x : Str} {C : Addr} (a : PySem.W.nsIn K mainGlobals x = some (some (.ref C))) : NamAt K x C := ⟨a⟩
theorem NamAt.cn {K : PySem.W.Frag} {x : Str} {C : Addr} {h : Heap} {mg : Str → Option Value} (t : NamAt K x C) (X : K.In h) (G : h.Ns mainGlobals mg) : ClsN K mg x C := ⟨PySem.W.mg_of X G t.a⟩
/-- except S: an error of C, told -/
theorem exm_mk {K : PySem.W.Frag} {C S : Addr} {b : Bool} (ex : PySem.W.subIn K (.ref S) (.type "BaseException") = some true) (hd : PySem.W.hasDictIn K S = true) (ty : PySem.W.typeIn K (.ref S) = some (.type "type")) (s : PySem.W.subIn K (.ref C) (.ref S) = some b) : PySem.W.exmOne K (.ref C) (.ref S) = some b :=
  PySem.W.exm_ref ex hd ty s
theorem kit_bin {K : PySem.W.Frag} {C : Addr} {t : String} {b : Bool} (m : PySem.W.kitMeta t = true) (e : PySem.W.subIn K (.ref C) (.type t) = some b) : PySem.W.kitOne K (.ref C) (.type t) = some b := by
  show (if PySem.W.kitMeta t = true then PySem.W.subIn K (.ref C) (.type t) else none) = some b
  rw [if_pos m]; exact e
theorem kit_own {K : PySem.W.Frag} {C S : Addr} {b : Bool} (ne : (Value.ref C == Value.ref S) = false) (c : PySem.W.isClsIn K S = true) (t : PySem.W.typeIn K (.ref S) = some (.type "type")) (s : PySem.W.subIn K (.ref C) (.ref S) = some b) : PySem.W.kitOne K (.ref C) (.ref S) = some b :=
  kit_err ne c t s
end Cl

/-! ### defs that may raise: positional defaults, keywords in a try body -/
namespace Cl
open PySem L2 PyProof.Rows
structure Dkx (P : Program) (w : World) (K : PySem.W.Frag) (mg : Str → Option Value) (base : Heap) (x : Str) (k : Nat) (ps : List Str) (sp : Sp) (n : Nat) (ks : List Str) (gV : List V → List V → List V) : Prop where
  ex : ∃ (f : Addr) (fd : FuncData) (g : List Value → List Value → List Value), FnOk P w K mg base (L2.CX P w) k f fd ps sp ∧ mg x = some (.ref f) ∧ PySem.W.keepIn K (.ref f) = true ∧ KBn K fd ps n ks g gV
def tCallNT (n m : Nat) (sp : Sp) (gV : List V → List V → List V) (E : L2.St → XK) (t tk : TA) : TE := fun σ H Q => t σ H fun vs H1 => tk σ H1 fun zs H2 => vs.length = n ∧ zs.length = m ∧ sp (gV vs zs) H2 Q (E σ)
section
variable {X : Cx} {k n : Nat} {ps ks : List Str} {sp : Sp} {x : Str} {p pos : Pos} {e : Expr} {es : List Expr} {kws : List Keyword} {t tk : TA} {gV : List V → List V → List V} {W : WX}
theorem pe_dkxT (D : Dkx X.prog X.w X.K X.mg X.base x k ps sp n ks gV) (hr : Room k X.A) (hg : Gl X x) (tw : Takes X W) (ha : PA X (e :: es) t) (hkw : PK X kws tk)
    (hall : (backToKw pos (keywordEach kws X.env)).all (·.1.isSome) = true := by rfl) (hks : (backToKw pos (keywordEach kws X.env)).filterMap (·.1) = ks := by rfl)
    (hdb : (x == ("__debug__" : Str)) = false := by decide) (he : starEach (e :: es) X.env = (false, eval e X.env) :: starEach es X.env := by rfl)
    (hpl : ((backTo pos (starEach (e :: es) X.env)).any (·.1) || (backToKw pos (keywordEach kws X.env)).any (·.1.isNone)) = false := by rfl) :
    PE X (.Call (.Name x p) (e :: es) kws pos) (tCallNT n ks.length sp gV (WE W) t tk) := by
  obtain ⟨f, fd, g, G, m, kp, b⟩ := D.ex
  refine ⟨fun pn st σ H Q J hyp => wpAny_Call_Name_kw (ld_glob J hg m (PySem.W.callWith_KW (h₀ := X.base) J.ok.mod.kin kp hall (thn (ha.run pos pn st σ H _ J hyp) fun us sA hA => ?_) hpl he) hdb)⟩
  obtain ⟨vs, HA, JA, rA, qA⟩ := hA
  refine thn (hkw.run pos pn sA σ HA _ JA qA) fun ws sB hB => ?_
  obtain ⟨zs, HB, JB, rB, l1, l2, qB⟩ := hB
  rw [hks]
  have to := b.to sB us ws JB.kIn (rA.length.symm.trans l1) (rB.length.symm.trans l2)
  have run := G.run X.A X.stack sB HB ⟨us, ks.zip ws⟩ (g us ws) (gV vs zs) Q (WE W σ) hr JB.env0 to (b.rel rA rB) qB
  refine ⟨JB.kIn, wpAny_call (codeAny_mono run fun r s' hq => ?_)⟩
  rcases r with e' | fl
  · exact passAt tw σ pn HB sB e' s' JB hq
  · rcases fl with _ | _ | _ | u
    · exact hq.elim
    · exact hq.elim
    · exact hq.elim
    · exact JB.after hq
end
section
variable {P : Program} {w : World} {K : PySem.W.Frag} {mg : Str → Option Value} {base : Heap} {x qual : Str} {st : Stmt} {ps : List Str} {k : Nat} {sp : Sp} {kws : List (Str × V)} {dvs : List V} {h : Heap}
theorem AtTop.ddx (t : AtTop K x qual st kws) (X : K.In h) (G : h.Ns mainGlobals mg) (n : Nat) (hk : kws ≠ []) (hn : n + kws.length = ps.length)
    (hb : ∀ (D : Addr) (doc pm : Value) (an : Option Addr) (cdv ct : Value) (us ks : List Value), us.length = n → ks.length = kws.length →
      KwChain D ((kws.map (·.1)).zip ks) (bindArgs (PySem.W.fnOf x qual (defArgs st) (defBody st) (defScope st) .none (.ref D) doc pm an cdv ct) ⟨us, []⟩) (ps.zip (us ++ ks)))
    (ok : ∀ (f : Addr) (fd : FuncData), Fun K x qual st f fd → FnOk P w K mg base (L2.CX P w) k f fd ps sp) : Dx P w K mg base x k ps sp (kws.map (·.2)) := by
  obtain ⟨f, fd, a, F, FD⟩ := t.ex
  obtain ⟨ds, v, b⟩ := FD.binds0 n hk hn hb
  exact ⟨f, fd, ds, ok f fd F, PySem.W.mg_of X G a, F.kp, b, v⟩
theorem AtTop.dkx (t : AtTop K x qual st kws) (X : K.In h) (G : h.Ns mainGlobals mg) (n : Nat) (ks : List Str)
    (hb : ∀ (kV doc pm : Value) (an : Option Addr) (cdv ct : Value) (us ws : List Value), us.length = n → ws.length = ks.length → bindArgs (PySem.W.fnOf x qual (defArgs st) (defBody st) (defScope st) .none kV doc pm an cdv ct) ⟨us, ks.zip ws⟩ = pure (ps.zip (us ++ ws)))
    (ok : ∀ (f : Addr) (fd : FuncData), Fun K x qual st f fd → FnOk P w K mg base (L2.CX P w) k f fd ps sp) : Dkx P w K mg base x k ps sp n ks (fun vs zs => vs ++ zs) := by
  obtain ⟨f, fd, a, F, _⟩ := t.ex
  obtain ⟨oc, od, kV, doc, pm, an, cdv, ct, osl, rfl, lk, hcd⟩ := F.ex
  exact ⟨f, _, fun us ws => us ++ ws, ok f _ F, PySem.W.mg_of X G a, F.kp, ⟨fun s us ws _ l1 l2 => .of_eq (hb kV doc pm an cdv ct us ws l1 l2), fun r1 r2 => r1.append r2⟩⟩
/-- a def with positional defaults -/
structure AtTopP (K : PySem.W.Frag) (x qual : Str) (st : Stmt) (dvs : List V) : Prop where
  ex : ∃ (f : Addr) (fd : FuncData), PySem.W.nsIn K mainGlobals x = some (some (.ref f)) ∧ FunD K x qual (defArgs st) (defBody st) (defScope st) dvs [] f fd
theorem atTopP1 {f T : Addr} {oc toc : Value} {od an tod : Option Addr} {osl tsl : Array (Option Value)} {kV doc pm cdv ct u : Value} {n : Nat} {v : V} (a : PySem.W.nsIn K mainGlobals x = some (some (.ref f)))
    (l : K.lookup f = some ⟨oc, od, .func (PySem.W.fnOf x qual (defArgs st) (defBody st) (defScope st) (.ref T) kV doc pm an cdv ct), osl⟩) (c : PySem.W.codeIn K cdv qual = true) (p : PySem.W.keepIn K (.ref f) = true)
    (lt : K.lookup T = some ⟨toc, tod, .seq #[u] n, tsl⟩) (r : RelV v u) : AtTopP K x qual st [v] :=
  ⟨f, _, a, ⟨oc, od, .ref T, kV, doc, pm, an, cdv, ct, osl, rfl, l, c, .inr ⟨by simp, T, _, [u], n, rfl, lt, rfl, .cons r .nil⟩, .inl rfl⟩, p⟩
theorem AtTopP.dx (t : AtTopP K x qual st dvs) (X : K.In h) (G : h.Ns mainGlobals mg) (n j : Nat) (hd : dvs ≠ []) (hn : n + (dvs.length - j) = ps.length)
    (hb : ∀ (T : Addr) (kV doc pm : Value) (an : Option Addr) (cdv ct : Value) (us its : List Value), us.length = n → its.length = dvs.length →
      ∃ k, bindArgs (PySem.W.fnOf x qual (defArgs st) (defBody st) (defScope st) (.ref T) kV doc pm an cdv ct) ⟨us, []⟩ = seqItems? (.ref T) >>= k ∧ k (some its.toArray) = pure (ps.zip (us ++ its.drop j)))
    (ok : ∀ (f : Addr) (fd : FuncData), FunD K x qual (defArgs st) (defBody st) (defScope st) dvs [] f fd → FnOk P w K mg base (L2.CX P w) k f fd ps sp) : Dx P w K mg base x k ps sp (dvs.drop j) := by
  obtain ⟨f, fd, a, FD⟩ := t.ex
  obtain ⟨ds, v, b⟩ := FD.binds1 n j hd hn hb
  exact ⟨f, fd, ds, ok f fd FD, PySem.W.mg_of X G a, FD.kp, b, v⟩
end
end Cl

/-! ### a caught error handed to a def -/
namespace Cl
open PySem L2 L2H PyProof.Rows
/-- a def that reads a caught error (its first parameter) and raises nothing -/
structure FnE (P : Program) (w : World) (K : PySem.W.Frag) (mg : Str → Option Value) (base : Heap) (k : Nat) (f : Addr) (fd : FuncData) (ps : List Str) (sp : Addr → Value → Option Addr → Sp) : Prop where
  len : ∀ a cls d vs H Q E, sp a cls d vs H Q E → vs.length = ps.length
  run : ∀ (A : Around) (outer : List Env) (s : Shared) (H : Hp) (us : List Value) (vs : List V) (Q : VK) (q : Addr × Obj) (cls : Value) (d : Option Addr), RoomH k A → PinOk outer H s q → Zc cls d q.2 → (∃ xs, q.2.data = .fields xs) →
    Env0 P w K mg base A outer s H → BindsTo s fd ⟨us, []⟩ (ps.zip us) → Vals vs us → sp q.1 cls d vs H Q E0 → codeAny (model P w) A (.call (.ref f) ⟨us, []⟩) (CR CX0 outer P w H s Q E0) s
theorem roomS {k : Nat} {A : Around} {v : Option Value} (r : Room k A) : RoomH k (A.mark v) := ⟨r.dp, r.un⟩
section
variable {P : Program} {w : World} {K : PySem.W.Frag} {mg : Str → Option Value} {base : Heap}
theorem _root_.L2.Fun.okE {x qual : Str} {st : Stmt} {f : Addr} {fd : FuncData} {N ps : List Str} {k : Nat} {sp : Addr → Value → Option Addr → Sp} (F : Fun K x qual st f fd) (S : FnScope N ps (defScope st)) (len : ∀ a cls d vs H Q E, sp a cls d vs H Q E → vs.length = ps.length)
    (hbody : ∀ (cdv : Value) (A : Around) (outer : List Env) (s : Shared) (H : Hp) (vs : List V) (Q : VK) (q : Addr × Obj) (cls : Value) (d : Option Addr), Zc cls d q.2 → (∃ xs, q.2.data = .fields xs) → RoomH k (A.deeper (envOfC qual (defScope st) s.heap.objs.size f cdv)) → sp q.1 cls d vs H Q E0 →
      ∃ t, PSs (cxH CX0 P w K mg base N qual (defScope st) f cdv A outer s H E0 q) (defBody st) t ∧ t { nx := fun _ H' => Q .non H', rt := Q } (L2.start N vs) H) : FnE P w K mg base (k + 1) f fd ps sp := by
  obtain ⟨c0, d0, v0, dc, md, an, cdv, ct, os0, rfl, lk0, cd0⟩ := F.ex
  refine ⟨len, fun A outer s H us vs Q q cls d room pin hz hf e0 hb r hsp => ?_⟩
  have hl := len _ _ _ _ _ _ _ hsp
  have kin : K.In s.heap := e0.mod.kin.keeps fun b o e => (e0.bs b o e).1
  have kinds : ∀ z ∈ ps.zip us, (defScope st).names.lookup z.1 = some .local ∨ ((defScope st).names.lookup z.1 = some .cell ∧ ((cellsFrom (s.heap.objs.size + 1) (defScope st).names []).lookup z.1).isSome = true) := by
    rintro ⟨n, v⟩ hz
    rcases S.par n (List.of_mem_zip hz).1 with h | h
    · exact .inl h
    · exact .inr ⟨h, PySem.W.cellsFrom_some _ _ _ (.inl h)⟩
  refine codeAny_call_function room.depth (kin _ _ lk0) rfl S.co S.gen rfl (PySem.W.codeRec_of kin cd0) (hb _ _ _ _ ?_)
  refine wpAny_newFunctionEnv_cells S.kind kinds fun env henv s1 made => ?_
  subst henv
  refine ⟨(e0.mod.nolimit.keeps fun b o e => (e0.bs b o e).1).keeps made.toInCall.keep, codeAny_func ?_⟩
  obtain ⟨t, run, post⟩ := hbody cdv A outer s H vs Q q cls d hz hf (room.deeper _) hsp
  have start : Inv (cxH CX0 P w K mg base N qual (defScope st) f cdv A outer s H E0 q) [] (L2.start N vs) H s1 := inv_startH S pin e0 hl r made
  refine wpAny_mono (run.run [] s1 _ H _ start post) (fun fl s2 hs => ?_) fun e s2 hs => hs
  cases fl with
  | ret u =>
    obtain ⟨v, σ2, H2, J, rv, z⟩ := hs
    exact ⟨v, H2, J.os, J.bare, J.base, J.hok, rv, z⟩
  | next =>
    obtain ⟨σ2, H2, J, z⟩ := hs
    exact ⟨V.non, H2, J.os, J.bare, J.base, J.hok, rfl, z⟩
  | brk =>
    obtain ⟨_, _, _, z⟩ := hs
    exact z.elim
  | cont =>
    obtain ⟨_, _, _, z⟩ := hs
    exact z.elim
/-- such a def, by its name -/
structure De (P : Program) (w : World) (K : PySem.W.Frag) (mg : Str → Option Value) (base : Heap) (x : Str) (k : Nat) (ps : List Str) (sp : Addr → Value → Option Addr → Sp) : Prop where
  ex : ∃ (f : Addr) (fd : FuncData), FnE P w K mg base k f fd ps sp ∧ mg x = some (.ref f) ∧ PySem.W.keepIn K (.ref f) = true ∧ Binds K fd ps []
theorem AtTop.de {x qual : Str} {st : Stmt} {ps : List Str} {k : Nat} {sp : Addr → Value → Option Addr → Sp} {kws : List (Str × V)} {h : Heap} (t : AtTop K x qual st kws) (X : K.In h) (G : h.Ns mainGlobals mg)
    (hb : ∀ (kV doc pm : Value) (an : Option Addr) (cdv ct : Value) (us : List Value), us.length = ps.length → bindArgs (PySem.W.fnOf x qual (defArgs st) (defBody st) (defScope st) .none kV doc pm an cdv ct) ⟨us, []⟩ = pure (ps.zip us))
    (ok : ∀ (f : Addr) (fd : FuncData), Fun K x qual st f fd → FnE P w K mg base k f fd ps sp) : De P w K mg base x k ps sp := by
  obtain ⟨f, fd, a, F, _⟩ := t.ex
  exact ⟨f, fd, ok f fd F, PySem.W.mg_of X G a, F.kp, F.binds hb⟩
end
def tCallE (sp : Addr → Value → Option Addr → Sp) (a : Addr) (cls : Value) (d : Option Addr) (t : TA) : TE := fun σ H Q => t σ H fun vs H1 => sp a cls d vs H1 Q E0
section
variable {X : Cx} {k : Nat} {ps : List Str} {sp : Addr → Value → Option Addr → Sp} {x : Str} {p pos : Pos} {e : Expr} {es : List Expr} {t : TA} {q : Addr × Obj} {cls : Value} {d : Option Addr}
theorem pe_dnE {a : Addr} {oe : Obj} (D : De X.prog X.w X.K X.mg X.base x k ps sp) (hr : RoomH k X.A) (hp : (a, oe) ∈ X.pn) (hz : Zc cls d oe) (hf : ∃ xs, oe.data = .fields xs) (hg : Gl X x) (ha : PA X (e :: es) t)
    (hdb : (x == ("__debug__" : Str)) = false := by decide) (he : starEach (e :: es) X.env = (false, eval e X.env) :: starEach es X.env := by rfl)
    (hpl : (backTo pos (starEach es X.env)).any (·.1) = false := by rfl) : PE X (.Call (.Name x p) (e :: es) [] pos) (tCallE sp a cls d t) := by
  obtain ⟨f, fd, G, m, kp, b⟩ := D.ex
  refine ⟨fun pins s σ H Q I h => ?_⟩
  refine wpAny_Call_Name_kw (ld_glob I hg m ?_ hdb)
  refine PySem.W.callWith_K (h₀ := X.base) I.ok.mod.kin kp (thn (ha.run pos pins s σ H _ I h) fun us s1 got => ?_) he hpl
  obtain ⟨vs, H1, J, rv, z⟩ := got
  refine ⟨J.kIn, ?_⟩
  have hl : us.length = ps.length := by rw [← rv.length]; exact G.len _ _ _ _ _ _ _ z
  have bb := b s1 us J.kIn (by rw [List.append_nil]; exact hl)
  rw [List.append_nil] at bb
  have at_ := J.pin (a, oe) (List.mem_append_left _ hp)
  have pk : PinOk X.stack H1 s1 (a, oe) := ⟨at_.1, at_.2.1, fun hm => (List.mem_cons.mp (J.stkSub a hm)).elim at_.2.2.1 at_.2.2.2.1, at_.2.2.2.2⟩
  refine wpAny_call (codeAny_mono (G.run X.A X.stack s1 H1 us vs Q (a, oe) cls d hr pk hz hf J.env0 bb rv z) fun res s2 hq => ?_)
  rcases res with e' | fl
  · exact False.elim hq
  · rcases fl with _ | _ | _ | u
    · exact hq.elim
    · exact hq.elim
    · exact hq.elim
    · exact J.after hq
/-- err.fl, err held by a pin -/
theorem pe_fldP {te : TE} {fl : Str} (hp : q ∈ X.pn) (hz : Zc cls d q.2) (hf : ∃ xs, q.2.data = .fields xs) (he : PE X e te) (hb : attributeBase e fl X.env (eval e X.env) = eval e X.env := by rfl) :
    PE X (.Attribute e fl pos) (tFldE X.prog X.K X.mg fl q.1 cls d te) := by
  refine ⟨fun pins s σ H Q I h => ?_⟩
  refine attr_of hb (thn (he.run pins s σ H _ I h) fun u s1 hh => ?_)
  obtain ⟨y, H1, I1, rx, ey, x, C, ok, v, T, ⟨ec, dd, ed, ea⟩, z⟩ := hh
  obtain ⟨fI, t⟩ := T.T
  subst ey ec ed
  obtain rfl : u = Value.ref q.1 := rx
  obtain ⟨hat, _⟩ := I1.pin q (List.mem_append_left _ hp)
  obtain ⟨vs, hdat⟩ := hf
  obtain ⟨mA, hns, hr⟩ := (show ObjOk X.prog X.w H1 s1.heap dd (.xd [(fl, v)]) from I1.hok dd _ ea)
  obtain ⟨od, ho, hl⟩ := lookIn_ns hns
  have l : List.lookup fl [(fl, v)] = some v := by simp [List.lookup]
  obtain ⟨u, hu, ru⟩ := RelO.some_of (v := v) (o := mA fl) (by rw [← l]; exact hr fl)
  have J : PySem.W.InstAt s1.heap q.1 q.2 C (some od) := ⟨hat, hz.1, by unfold PySem.W.notCls; rw [hdat] <;> rfl, by rw [hz.2]; exact ho⟩
  exact HandSPX.exc_get I1.kIn J T.ga T.gg T.exC (PySem.W.findObj_own T.hd t.noN rfl (by rw [hl, hu])) (handed_of ru) ⟨v, H1, I1.tok _, ru, z⟩
theorem call_isP (hp : q ∈ X.pn) (hz : Zc cls d q.2) (hf : ∃ xs, q.2.data = .fields xs) : CallR X (.builtin "isinstance") (rIsErr X.prog X.K X.mg q.1 cls d) := by
  intro pins s σ H xs us Q I r h
  obtain ⟨c, cv, b, x, C, fl, ok, v, rfl, hcv, T, ⟨ec, dd, ed, ea⟩, e, z⟩ := h
  subst ec ed
  cases r with
  | cons rx rr =>
    cases rr with
    | cons rt rr =>
      cases rr
      cases rx
      obtain rfl := hcv _ rt
      obtain ⟨hat, _⟩ := I.pin q (List.mem_append_left _ hp)
      obtain ⟨vs, hdat⟩ := hf
      obtain ⟨mA, hns, _⟩ := (show ObjOk X.prog X.w H s.heap dd (.xd [(fl, v)]) from I.hok dd _ ea)
      obtain ⟨od, ho, _⟩ := lookIn_ns hns
      have J : PySem.W.InstAt s.heap q.1 q.2 C (some od) := ⟨hat, hz.1, by unfold PySem.W.notCls; rw [hdat] <;> rfl, by rw [hz.2]; exact ho⟩
      exact PySem.W.kia_one (PySem.W.kitx_exc T.is_ T.ga T.gg T.exC T.ha T.hn T.ht T.hm) I.kIn J e (fun z => nomatch z) fun tk => ⟨.bl b, H, I.kept (t' := tk) fun _ _ z => z, rfl, z⟩
end
end Cl

/-! ### the class Round -/
namespace Cl
open StX ClX
/-- the budgets of a Round -/
structure Okb (bs : List Int) : Prop where
  l1 : 1 ≤ bs.length
  l2 : bs.length ≤ 12
  nn : ∀ b, b ∈ bs → 0 ≤ b ∧ b ≤ 10000000000000000000000000000000
def bF (t : Addr) : List (Str × V) := [("_budgets", .ref t)]
def RoundAt (C : Addr) (H : Hp) (r : Addr) (bs : List Int) : Prop := ∃ dx t, H r = some (.ins C dx (bF t)) ∧ H t = some (.tup (bs.map V.int))
theorem RoundAt.same {C r : Addr} {H H' : Hp} {bs : List Int} (h : RoundAt C H r bs) (x : Same H H') : RoundAt C H' r bs := by
  obtain ⟨dx, t, h1, h2⟩ := h
  exact ⟨dx, t, x _ _ h1, x _ _ h2⟩
theorem RoundAt.but {C a r : Addr} {H H' : Hp} {bs : List Int} (h : RoundAt C H r bs) (x : But a H H') (b : BagAt H a) : RoundAt C H' r bs := by
  obtain ⟨dx, t, h1, h2⟩ := h
  obtain ⟨_, _, _, e⟩ := b
  exact ⟨dx, t, x _ _ (ne_of h1 e (by intro q; cases q)) h1, x _ _ (ne_of h2 e (by intro q; cases q)) h2⟩
theorem no_ (m : Str) (h : (m == ("_budgets" : Str)) = false) (t : Addr) : (bF t).lookup m = none := by
  unfold bF
  rw [List.lookup_cons, h]
  rfl
structure CV (K : PySem.W.Frag) (C : Addr) (m : Str) (v : V) : Prop where
  ex : ∃ mc u, CRead K C mc ∧ CVal K C mc m v u
section
variable {P : Program} {w : World} {K : PySem.W.Frag} {mg : Str → Option Value} {base : Heap} {C : Addr}
/-! making one -/
def spInit (C : Addr) : Sp := fun vs H Q _ => ∃ (x dx : Addr) (bs : List Int), vs = .ref x :: bs.map V.int ∧ H x = some (.ins C dx []) ∧ Okb bs ∧
  ∀ (t : Addr) (H' : Hp), H t = none → H' x = some (.ins C dx (bF t)) → H' t = some (.tup (bs.map V.int)) → (∀ b o, b ≠ x → H b = some o → H' b = some o) → Q .non H'
theorem scRoundInit : FnScope ["self", "budgets", "budget"] ["self", "budgets"] (defScope sRoundInit) := ⟨rfl, rfl, rfl, by decide +kernel, rfl, by decide +kernel, by decide +kernel⟩
theorem ok_Round_init {f : Addr} {fd : FuncData} (F : Fun K "__init__" "Round.__init__" sRoundInit f fd) (B : Bi mg) (R_Round : ClsC K mg "Round" C) (N_Round : NoAttr K C "_budgets") (V_Round : CV K C "MOST" (.int 12))
    (D_check_least : Dn P w K mg base "check_least" 2 ["value", "least", "field"] spCheckLeast) : FnR P w K mg base CX0 3 f (spInit C) := by
  obtain ⟨oc, od, kV, doc, pm, an, cdv, ct, osl, rfl, lk, hcd⟩ := F.ex
  refine FnR.imp (fn_star (ps := ["self"]) (pv := "budgets") (sp := fun vs H Q _ => ∃ (x dx t : Addr) (bs : List Int), vs = [.ref x, .ref t] ∧ H x = some (.ins C dx []) ∧ H t = some (.tup (bs.map V.int)) ∧ Okb bs ∧
    ∀ (H' : Hp), H' x = some (.ins C dx (bF t)) → (∀ b o, b ≠ x → H b = some o → H' b = some o) → Q .non H') lk hcd scRoundInit cxUp_none (bind_star1 (B := fun us => bindArgs (PySem.W.fnOf "__init__" "Round.__init__" (defArgs sRoundInit) (defBody sRoundInit) (defScope sRoundInit) .none kV doc pm an cdv ct) ⟨us, []⟩) (p1 := "self") (pv := "budgets") (fun _ => rfl) (fun _ _ _ => rfl)) ?_) ?_
  · rintro A outer s H vs Q E hr ⟨x, dx, t, bs, rfl, hx, ht, ok, k⟩
    refine ⟨_, PSs.nox (pss_cons (ps_if (pt_not (pt_chain op_le op_le pe_int (pe_callB call_len_seq (by rfl) B.len PySem.boot_len (pa_cons (pv 1) pa_nil)) (pe_cval (pe_cls R_Round rfl)))) (pss_one ps_never)
  pss_nil)
  (pss_cons (ps_for PassesOwn.never rfl (pi_tup (pv 1)) (pg_name (i := 2) scRoundInit.nd rfl (Or.inl rfl))
  (pss_one (ps_expr (pe_dn D_check_least (hr.mono (by decide)) (by rfl) pass0 (pa_cons (pv 2) (pa_cons pe_int (pa_cons pe_str pa_nil)))))))
  (pss_one (ps_fld (pv 0) (pv 1) rfl)))), ?_⟩
    obtain ⟨mc, u, hrd, hcv⟩ := V_Round.ex
    have hl : (bs.map V.int).length = bs.length := List.length_map ..
    walk_at "rd"
    refine ⟨t, _, rfl, .inr (SqT.of ht), ?_⟩
    walk_at "rd"
    rw [decide_eq_true (by have := ok.l1; omega)]
    refine iteT ?_
    walk_at "rd"
    refine ⟨C, mc, _, u, rfl, hrd, hcv, ?_⟩
    walk_at "rd"
    rw [decide_eq_true (by have := ok.l2; omega)]
    walk_at "rd"
    refine ⟨⟨_, SqT.of ht⟩, for_tup (K := K) (a := t) (xs := bs.map V.int) (fun i σ H' => ∃ v, σ = [some (.ref x), some (.ref t), v] ∧ H' = H) ⟨_, rfl, rfl⟩ (fun i σ H' _ ⟨_, _, e⟩ => by rw [e]; exact SqT.of ht) ?_ ?_⟩
    · rintro i y σ H' hi ⟨v, rfl, rfl⟩
      obtain ⟨z, hz, rfl⟩ : ∃ z, bs[i]? = some z ∧ y = V.int z := by
        rw [List.getElem?_map] at hi
        cases e : bs[i]? with
        | none => rw [e] at hi; cases hi
        | some z => rw [e] at hi; exact ⟨z, rfl, (Option.some.inj hi).symm⟩
      walk_at "rd"
      exact ⟨(ok.nn z (List.mem_of_getElem? hz)).1, _, rfl, rfl⟩
    · rintro σ H' ⟨v, rfl, rfl⟩
      refine ⟨_, rfl, _, rfl, x, C, dx, _, rfl, hx, R_Round.cl, N_Round, (by show 0 < 1000; decide), ?_⟩
      exact k _ upd_same fun b o n e => by rw [upd_ne n]; exact e
  · rintro vs H Q E ⟨x, dx, bs, rfl, hx, ok, k⟩
    refine ⟨[.ref x], bs.map V.int, rfl, rfl, ?_, fun t ht => ⟨x, dx, t, bs, rfl, ?_, upd_same, ok, fun H' h1 h2 => ?_⟩⟩
    · rw [List.length_map]
      exact Nat.le_trans ok.l2 (by decide)
    · rw [upd_ne (ne_of_none hx ht)]; exact hx
    · have ntx : t ≠ x := (ne_of_none hx ht).symm
      refine k t H' ht h1 (h2 t _ ntx upd_same) fun b o n e => h2 b o n ?_
      rw [upd_ne (ne_of_none e ht)]; exact e
/-- what the reading of Round(..) asks, from what a caller has -/
theorem mkRound {vs : List V} {H : Hp} {Q : VK} {E : XK} (h : ∃ bs : List Int, vs = bs.map V.int ∧ Okb bs ∧ ∀ (x : Addr) (H' : Hp), H x = none → RoundAt C H' x bs → Same H H' → Q (.ref x) H') :
    ∀ x dx, H x = Option.none → H dx = Option.none → dx ≠ x → spInit C (V.ref x :: vs) (upd (upd H dx (.own x)) x (.ins C dx [])) (fun v H2 => v = .non ∧ Q (.ref x) H2) E := by
  obtain ⟨bs, rfl, ok, k⟩ := h
  intro x dx hx hdx nd
  refine ⟨x, dx, bs, rfl, upd_same, ok, fun t H' ht h1 h2 h3 => ⟨rfl, k x H' hx ⟨dx, t, h1, h2⟩ fun b o e => ?_⟩⟩
  refine h3 b o (ne_of_none e hx) ?_
  rw [upd_ne (ne_of_none e hx), upd_ne (ne_of_none e hdx)]
  exact e
theorem mkRoundX {vs : List V} {H : Hp} {Qx : Addr → Hp → Prop} {E : XK} (h : ∃ bs : List Int, vs = bs.map V.int ∧ Okb bs ∧ ∀ (x : Addr) (H' : Hp), H x = none → RoundAt C H' x bs → Same H H' → Qx x H') :
    ∀ x dx, H x = Option.none → H dx = Option.none → dx ≠ x → spInit C (V.ref x :: vs) (upd (upd H dx (.own x)) x (.ins C dx [])) (fun v H2 => v = .non ∧ Qx x H2) E := by
  obtain ⟨bs, rfl, ok, k⟩ := h
  intro x dx hx hdx nd
  refine ⟨x, dx, bs, rfl, upd_same, ok, fun t H' ht h1 h2 h3 => ⟨rfl, k x H' hx ⟨dx, t, h1, h2⟩ fun b o e => ?_⟩⟩
  refine h3 b o (ne_of_none e hx) ?_
  rw [upd_ne (ne_of_none e hx), upd_ne (ne_of_none e hdx)]
  exact e
def spConst (C : Addr) : Sp := fun vs H Q _ => ∃ (b : Int), vs = [.int b] ∧ 0 ≤ b ∧ b ≤ 10000000000000000000000000000000 ∧ ∀ (x : Addr) (H' : Hp), H x = none → RoundAt C H' x [b] → Same H H' → Q (.ref x) H'
theorem ok1 {b : Int} (h0 : 0 ≤ b) (h1 : b ≤ 10000000000000000000000000000000) : Okb [b] := ⟨by simp, by simp, fun x hx => by simp at hx; subst hx; exact ⟨h0, h1⟩⟩
/-! its properties and methods -/
def spBudgets (C : Addr) : Sp := fun vs H Q _ => ∃ (r : Addr) (bs : List Int), vs = [.ref r] ∧ RoundAt C H r bs ∧ ∀ (p : Addr), H p = none → Q (.ref p) (upd H p (.lst (bs.map V.int)))
theorem scRoundBudgets : FnScope ["self"] ["self"] (defScope sRoundBudgets) := ⟨rfl, rfl, rfl, by decide +kernel, rfl, by decide +kernel, by decide +kernel⟩
theorem ok_Round_budgets {f : Addr} {fd : FuncData} (F : Fun K "budgets" "Round.budgets" sRoundBudgets f fd) (B : Bi mg) (R_Round : ClsC K mg "Round" C) (N_Round : NoAttr K C "_budgets") : FnOk P w K mg base CX0 1 f fd ["self"] (spBudgets C) := by
  refine F.ok scRoundBudgets (fun vs H Q E h => ?_) (fun cdv A outer s H vs Q E hr h => ?_)
  · obtain ⟨r, bs, rfl, _⟩ := h
    rfl
  · obtain ⟨r, bs, rfl, ⟨dx, t, h1, h2⟩, k⟩ := h
    refine ⟨_, (pss_one (ps_ret (pe_callTy call_list_of (by rfl) B.listT (by decide +kernel) (pa_cons (pe_fld (pv 0) rfl) pa_nil)))), ?_⟩
    refine ⟨_, rfl, r, C, dx, _, _, rfl, h1, R_Round.cl, N_Round, rfl, t, _, rfl, .inr (SqT.of h2), k⟩
def spLen (C : Addr) : Sp := fun vs H Q _ => ∃ (r : Addr) (bs : List Int), vs = [.ref r] ∧ RoundAt C H r bs ∧ Q (.int bs.length) H
theorem scRoundLen : FnScope ["self"] ["self"] (defScope sRoundLen) := ⟨rfl, rfl, rfl, by decide +kernel, rfl, by decide +kernel, by decide +kernel⟩
theorem ok_Round_len {f : Addr} {fd : FuncData} (F : Fun K "__len__" "Round.__len__" sRoundLen f fd) (B : Bi mg) (R_Round : ClsC K mg "Round" C) (N_Round : NoAttr K C "_budgets") : FnOk P w K mg base CX0 1 f fd ["self"] (spLen C) := by
  refine F.ok scRoundLen (fun vs H Q E h => ?_) (fun cdv A outer s H vs Q E hr h => ?_)
  · obtain ⟨r, bs, rfl, _⟩ := h
    rfl
  · obtain ⟨r, bs, rfl, ⟨dx, t, h1, h2⟩, k⟩ := h
    refine ⟨_, (pss_one (ps_ret (pe_callB call_len_seq (by rfl) B.len PySem.boot_len (pa_cons (pe_fld (pv 0) rfl) pa_nil)))), ?_⟩
    refine ⟨_, rfl, r, C, dx, _, _, rfl, h1, R_Round.cl, N_Round, rfl, t, _, rfl, .inr (SqT.of h2), ?_⟩
    have e : ((bs.map V.int).length : Int) = bs.length := by rw [List.length_map]
    rw [e]
    exact k
theorem eqvAll_ints : ∀ (as bs : List Int), PyData.eqvAll (as.map PyData.int) (bs.map PyData.int) = decide (as = bs)
  | [], [] => by simp [PyData.eqvAll]
  | [], b :: bs => by simp [PyData.eqvAll]
  | a :: as, [] => by simp [PyData.eqvAll]
  | a :: as, b :: bs => by
    simp only [List.map_cons, PyData.eqvAll, PyData.eqv, eqvAll_ints as bs, List.cons.injEq]
    by_cases h : a = b
    · subst h; simp
    · simp [h]
theorem dpAll_ints {K : PySem.W.Frag} {H : Hp} : ∀ (as : List Int), DpAll K H (as.map V.int) (as.map PyData.int)
  | [] => .nil
  | a :: as => .cons (.int a) (dpAll_ints as)
theorem lay_ints : ∀ (as : List Int), PyData.canLayAll0 (as.map PyData.int) = true
  | [] => rfl
  | a :: as => by simp only [List.map_cons, PyData.canLayAll0, PyData.canLay0, lay_ints as]; rfl
theorem dep_ints : ∀ (as : List Int), PyData.depthAll (as.map PyData.int) = 0
  | [] => rfl
  | a :: as => by simp only [List.map_cons, PyData.depthAll, PyData.depth, dep_ints as]; rfl
theorem shaped_tup (as : List Int) : SeqAt.shaped (.tuple (as.map PyData.int)) = true := by
  show (PyData.canLayAll0 (as.map PyData.int) && decide (PyData.depthAll (as.map PyData.int) + 1 ≤ 64)) = true
  rw [lay_ints, dep_ints]; rfl
theorem shaped_lst (as : List Int) : SeqAt.shaped (.list (as.map PyData.int)) = true := by
  show (PyData.canLayAll0 (as.map PyData.int) && decide (PyData.depthAll (as.map PyData.int) + 1 ≤ 64)) = true
  rw [lay_ints, dep_ints]; rfl
def spEqR (C : Addr) : Sp := fun vs H Q _ => ∃ (r q : Addr) (as bs : List Int), vs = [.ref r, .ref q] ∧ RoundAt C H r as ∧ RoundAt C H q bs ∧ Q (.bl (decide (as = bs))) H
theorem scRoundEq : FnScope ["self", "other"] ["self", "other"] (defScope sRoundEq) := ⟨rfl, rfl, rfl, by decide +kernel, rfl, by decide +kernel, by decide +kernel⟩
theorem ok_Round_eq {f : Addr} {fd : FuncData} (F : Fun K "__eq__" "Round.__eq__" sRoundEq f fd) (B : Bi mg) (R_Round : ClsC K mg "Round" C) (N_Round : NoAttr K C "_budgets") : FnOk P w K mg base CX0 1 f fd ["self", "other"] (spEqR C) := by
  refine F.ok scRoundEq (fun vs H Q E h => ?_) (fun cdv A outer s H vs Q E hr h => ?_)
  · obtain ⟨r, q, as, bs, rfl, _⟩ := h
    rfl
  · obtain ⟨r, q, as, bs, rfl, ⟨dx, t, h1, h2⟩, ⟨dy, u, g1, g2⟩, k⟩ := h
    refine ⟨_, (pss_one (ps_ret (pe_and (pe_callB (C8.call_isC R_Round.ic) (by rfl) B.isinstance (by decide +kernel) (pa_cons (pv 1) (pa_cons (pe_cls R_Round rfl) pa_nil))) (pe_one (pe_cmpR (op_eqD hr.units) (pe_fld (pv 0) rfl) (pe_fld (pv 1) rfl) (nomark _)))))), ?_⟩
    refine ⟨_, rfl, q, dy, _, rfl, g1, _, rfl, iteT ?_⟩
    refine ⟨_, rfl, r, C, dx, _, _, rfl, h1, R_Round.cl, N_Round, rfl, _, rfl, q, C, dy, _, _, rfl, g1, R_Round.cl, N_Round, rfl, .tuple (as.map .int), .tuple (bs.map .int), .tup (SqT.of h2) (dpAll_ints as), .tup (SqT.of g2) (dpAll_ints bs), ?_, ?_, ?_⟩
    · exact shaped_tup as
    · exact shaped_tup bs
    · show Q (.bl (PyData.eqvAll (as.map .int) (bs.map .int))) H
      rw [eqvAll_ints]
      exact k
def spAddR (C : Addr) : Sp := fun vs H Q _ => ∃ (r q : Addr) (as bs : List Int), vs = [.ref r, .ref q] ∧ RoundAt C H r as ∧ RoundAt C H q bs ∧ Okb as ∧ Okb bs ∧ as.length + bs.length ≤ 12 ∧ ∀ (x : Addr) (H' : Hp), H x = none → RoundAt C H' x (as ++ bs) → Same H H' → Q (.ref x) H'
theorem Okb.app {as bs : List Int} (a : Okb as) (b : Okb bs) (h : as.length + bs.length ≤ 12) : Okb (as ++ bs) :=
  ⟨by rw [List.length_append]; have := a.l1; omega, by rw [List.length_append]; exact h, fun x hx => (List.mem_append.mp hx).elim (a.nn x) (b.nn x)⟩
theorem scRoundAdd : FnScope ["self", "other", "both"] ["self", "other"] (defScope sRoundAdd) := ⟨rfl, rfl, rfl, by decide +kernel, rfl, by decide +kernel, by decide +kernel⟩
theorem ok_Round_add {f : Addr} {fd : FuncData} (F : Fun K "__add__" "Round.__add__" sRoundAdd f fd) (B : Bi mg) (R_Round : ClsC K mg "Round" C) (N_Round : NoAttr K C "_budgets") (MK_Round : Cn P w K mg base C 3 (spInit C)) : FnOk P w K mg base CX0 5 f fd ["self", "other"] (spAddR C) := by
  refine F.ok scRoundAdd (fun vs H Q E h => ?_) (fun cdv A outer s H vs Q E hr h => ?_)
  · obtain ⟨r, q, as, bs, rfl, _⟩ := h
    rfl
  · obtain ⟨r, q, as, bs, rfl, ⟨dx, t, h1, h2⟩, ⟨dy, u, g1, g2⟩, oa, ob, hl, k⟩ := h
    refine ⟨_, (pss_cons (ps_if (pt_not (pt_val (pe_callB (C8.call_isC R_Round.ic) (by rfl) B.isinstance (by decide +kernel) (pa_cons (pv 1) (pa_cons (pe_cls R_Round rfl) pa_nil))))) (pss_one ps_never)
  pss_nil)
  (pss_cons (ps_set (i := 2) scRoundAdd.nd rfl (Or.inl rfl) (pe_op op_catE (pe_fld (pv 0) rfl) (pe_fld (pv 1) rfl)))
  (pss_one (ps_ret (pe_mkS MK_Round (hr.mono (by decide)) rfl R_Round.mg pass0 (pv 2)))))), ?_⟩
    refine ⟨_, rfl, q, dy, _, rfl, g1, ?_⟩
    walk_at "rd"
    refine ⟨r, C, dx, _, _, rfl, h1, R_Round.cl, N_Round, rfl, ?_⟩
    refine ⟨_, rfl, q, C, dy, _, _, rfl, g1, R_Round.cl, N_Round, rfl, ?_⟩
    refine ⟨_, _, _, _, rfl, rfl, SqT.of h2, SqT.of g2, by rw [List.length_map, List.length_map]; omega, fun p H1 hp e1 => ?_⟩
    walk_at "rd"
    refine ⟨p, _, rfl, .inl hp, ?_⟩
    intro x dx' hx hdx nd
    exact mkRound (E := E0) ⟨as ++ bs, by rw [List.map_append], oa.app ob hl, fun x H2 hx h3 e2 => k x H2 (e1.free hx) h3 (e1.trans e2)⟩ x dx' hx hdx nd
def spAt (C : Addr) : Sp := fun vs H Q _ => ∃ (r : Addr) (bs : List Int) (t v : Int), vs = [.ref r, .int t] ∧ RoundAt C H r bs ∧ Okb bs ∧ 0 ≤ t ∧ bs[(t % bs.length).toNat]? = some v ∧ Q (.int v) H
theorem scRoundAt : FnScope ["self", "t"] ["self", "t"] (defScope sRoundAt) := ⟨rfl, rfl, rfl, by decide +kernel, rfl, by decide +kernel, by decide +kernel⟩
theorem ok_Round_at {f : Addr} {fd : FuncData} (F : Fun K "at" "Round.at" sRoundAt f fd) (B : Bi mg) (R_Round : ClsC K mg "Round" C) (N_Round : NoAttr K C "_budgets") (D_check_least : Dn P w K mg base "check_least" 2 ["value", "least", "field"] spCheckLeast) :
    FnOk P w K mg base CX0 3 f fd ["self", "t"] (spAt C) := by
  refine F.ok scRoundAt (fun vs H Q E h => ?_) (fun cdv A outer s H vs Q E hr h => ?_)
  · obtain ⟨r, bs, t, v, rfl, _⟩ := h
    rfl
  · obtain ⟨r, bs, m, v, rfl, ⟨dx, t, h1, h2⟩, ok, m0, hv, k⟩ := h
    refine ⟨_, (pss_cons (ps_expr (pe_dn D_check_least (hr.mono (by decide)) (by rfl) pass0 (pa_cons (pv 1) (pa_cons pe_int (pa_cons pe_str pa_nil)))))
  (pss_one (ps_ret (pe_ix ix_tup (pe_fld (pv 0) rfl) (pe_op op_mod (pv 1) (pe_callB call_len_seq (by rfl) B.len PySem.boot_len (pa_cons (pe_fld (pv 0) rfl) pa_nil))) (fun _ _ => rfl))))), ?_⟩
    have hl : (bs.map V.int).length = bs.length := List.length_map ..
    have l1 := ok.l1
    walk_at "rd"
    refine ⟨m0, ?_⟩
    refine ⟨_, rfl, r, C, dx, _, _, rfl, h1, R_Round.cl, N_Round, rfl, ?_⟩
    refine ⟨_, rfl, _, rfl, r, C, dx, _, _, rfl, h1, R_Round.cl, N_Round, rfl, t, _, rfl, .inr (SqT.of h2), ?_⟩
    refine ⟨_, _, rfl, rfl, (by show (0 : Int) < ((bs.map V.int).length : Int); omega), ?_⟩
    refine ⟨t, _, _, _, rfl, rfl, SqT.of h2, at_of (j := (m % bs.length).toNat) (v := .int v) ?_ ?_, k⟩
    · rw [hl]
      have := Int.emod_nonneg m (show (bs.length : Int) ≠ 0 by omega)
      omega
    · rw [List.getElem?_map, hv]; rfl
/-- the list from this place on, around -/
def rot (bs : List Int) (f : Nat) : List Int := bs.drop f ++ bs.take f
theorem rot_len {bs : List Int} {f : Nat} (h : f ≤ bs.length) : (rot bs f).length = bs.length := by
  unfold rot
  rw [List.length_append, List.length_drop, List.length_take]; omega
theorem Okb.rot {bs : List Int} {f : Nat} (o : Okb bs) (h : f ≤ bs.length) : Okb (rot bs f) :=
  ⟨by rw [rot_len h]; exact o.l1, by rw [rot_len h]; exact o.l2, fun b hb => o.nn b ((List.mem_append.mp hb).elim List.mem_of_mem_drop List.mem_of_mem_take)⟩
theorem cut_from {xs : List V} {f : Nat} : cutV xs (some (f : Int)) none = xs.drop f := by
  unfold cutV
  rw [HT.sIx_nat, HT.sIx_none]
  by_cases h : f ≤ xs.length
  · rw [Nat.min_eq_left h, List.take_of_length_le (by rw [List.length_drop]; omega)]
  · rw [Nat.min_eq_right (by omega), List.drop_length, List.drop_eq_nil_iff.mpr (by omega)]; simp
theorem cut_to {xs : List V} {f : Nat} : cutV xs none (some (f : Int)) = xs.take f := by
  unfold cutV
  rw [HT.sIx_nat, HT.sIx_none, Nat.sub_zero, List.drop_zero]
  by_cases h : f ≤ xs.length
  · rw [Nat.min_eq_left h]
  · rw [Nat.min_eq_right (by omega), List.take_length, List.take_of_length_le (by omega)]
theorem cut_both {xs : List V} {f g : Nat} (h : g ≤ xs.length) (h2 : f ≤ g) : cutV xs (some (f : Int)) (some (g : Int)) = (xs.drop f).take (g - f) := by
  unfold cutV
  rw [HT.sIx_nat, HT.sIx_nat, Nat.min_eq_left h, Nat.min_eq_left (by omega)]
def spShifted (C : Addr) : Sp := fun vs H Q _ => ∃ (r : Addr) (bs : List Int) (m : Int), vs = [.ref r, .int m] ∧ RoundAt C H r bs ∧ Okb bs ∧ 0 ≤ m ∧ ∀ (x : Addr) (H' : Hp), H x = none → RoundAt C H' x (rot bs (m % bs.length).toNat) → Same H H' → Q (.ref x) H'
/-- what total reckons -/
def tot (bs : List Int) (s c : Int) : Int := c / bs.length * bs.sum + (((bs ++ bs).drop (s % bs.length).toNat).take (c % bs.length).toNat).sum
theorem sum_le : ∀ {bs : List Int} {M : Int}, (∀ b, b ∈ bs → 0 ≤ b ∧ b ≤ M) → 0 ≤ bs.sum ∧ bs.sum ≤ bs.length * M
  | [], M, _ => by simp
  | b :: bs, M, h => by
    have h1 := h b List.mem_cons_self
    have h2 := sum_le (bs := bs) (M := M) fun x hx => h x (List.mem_cons_of_mem _ hx)
    rw [List.sum_cons, List.length_cons]
    have e : ((bs.length + 1 : Nat) : Int) * M = bs.length * M + M := by rw [Int.natCast_add, Int.add_mul]; simp
    rw [e]
    omega
theorem Okb.sum_b {bs : List Int} (o : Okb bs) : 0 ≤ bs.sum ∧ bs.sum ≤ 1000000000000000000000000000000000 := by
  have h := sum_le o.nn
  have l2 := o.l2
  have : (bs.length : Int) * 10000000000000000000000000000000 ≤ 12 * 10000000000000000000000000000000 := Int.mul_le_mul_of_nonneg_right (by omega) (by decide)
  omega
def spTotal (C : Addr) : Sp := fun vs H Q _ => ∃ (r : Addr) (bs : List Int) (s c : Int), vs = [.ref r, .int s, .int c] ∧ RoundAt C H r bs ∧ Okb bs ∧ 0 ≤ s ∧ 0 ≤ c ∧ c ≤ 1000000000000000000000000000000000000000000000000000000000000 ∧ ∀ (H' : Hp), Same H H' → Q (.int (tot bs s c)) H'
theorem scRoundTotal : FnScope ["self", "start", "count", "whole", "rest", "first", "twice"] ["self", "start", "count"] (defScope sRoundTotal) := ⟨rfl, rfl, rfl, by decide +kernel, rfl, by decide +kernel, by decide +kernel⟩
theorem ok_Round_total {f : Addr} {fd : FuncData} (F : Fun K "total" "Round.total" sRoundTotal f fd) (B : Bi mg) (R_Round : ClsC K mg "Round" C) (N_Round : NoAttr K C "_budgets") (D_check_least : Dn P w K mg base "check_least" 2 ["value", "least", "field"] spCheckLeast) :
    FnOk P w K mg base CX0 3 f fd ["self", "start", "count"] (spTotal C) := by
  refine F.ok scRoundTotal (fun vs H Q E h => ?_) (fun cdv A outer s H vs Q E hr h => ?_)
  · obtain ⟨r, bs, s, c, rfl, _⟩ := h
    rfl
  · obtain ⟨r, bs, st, c, rfl, ⟨dx, t, h1, h2⟩, ok, s0, c0, c1, k⟩ := h
    refine ⟨_, (pss_cons (ps_expr (pe_dn D_check_least (hr.mono (by decide)) (by rfl) pass0 (pa_cons (pv 1) (pa_cons pe_int (pa_cons pe_str pa_nil)))))
  (pss_cons (ps_expr (pe_dn D_check_least (hr.mono (by decide)) (by rfl) pass0 (pa_cons (pv 2) (pa_cons pe_int (pa_cons pe_str pa_nil)))))
  (pss_cons (ps_asg (pe_callB call_divmod (by rfl) B.divmod (by decide +kernel) (pa_cons (pv 2) (pa_cons (pe_callB call_len_seq (by rfl) B.len PySem.boot_len (pa_cons (pe_fld (pv 0) rfl) pa_nil)) pa_nil))) (pg_tup (by rfl) (pgs_cons (pg_name (i := 3) scRoundTotal.nd rfl (Or.inl rfl)) (pgs_cons (pg_name (i := 4) scRoundTotal.nd rfl (Or.inl rfl)) pgs_nil))))
  (pss_cons (ps_set (i := 5) scRoundTotal.nd rfl (Or.inl rfl) (pe_op op_mod (pv 1) (pe_callB call_len_seq (by rfl) B.len PySem.boot_len (pa_cons (pe_fld (pv 0) rfl) pa_nil))))
  (pss_cons (ps_set (i := 6) scRoundTotal.nd rfl (Or.inl rfl) (pe_op op_catE (pe_fld (pv 0) rfl) (pe_fld (pv 0) rfl)))
  (pss_one (ps_ret (pe_op op_add (pe_op op_mulW (pv 3) (pe_callB (cr_sumT rfl) (by rfl) B.sum (by decide +kernel) (pa_cons (pe_fld (pv 0) rfl) pa_nil))) (pe_callB (cr_sumT rfl) (by rfl) B.sum (by decide +kernel) (pa_cons (pe_slice sl_tupE (pv 6) (po_some (pv 5)) (po_some (pe_op op_add (pv 5) (pv 4)))) pa_nil)))))))))), ?_⟩
    have hl : (bs.map V.int).length = bs.length := List.length_map ..
    have l1 := ok.l1
    have l2 := ok.l2
    have ln : (0 : Int) < bs.length := by omega
    walk_at "rd"
    refine ⟨s0, ?_⟩
    walk_at "rd"
    refine ⟨c0, ?_⟩
    refine ⟨_, rfl, _, rfl, r, C, dx, _, _, rfl, h1, R_Round.cl, N_Round, rfl, t, _, rfl, .inr (SqT.of h2), ?_⟩
    refine ⟨_, _, rfl, ⟨by omega, by omega⟩, fun p hp => ?_⟩
    refine ⟨p, _, rfl, SqT.of upd_same, rfl, _, _, rfl, _, _, rfl, rfl, ?_⟩
    have e1 : Same H (upd H p (.tup [V.int (c / ((bs.map V.int).length : Int)), V.int (c % ((bs.map V.int).length : Int))])) := Same.upd hp
    generalize upd H p (.tup [V.int (c / ((bs.map V.int).length : Int)), V.int (c % ((bs.map V.int).length : Int))]) = H1 at e1 ⊢
    refine ⟨_, rfl, _, rfl, r, C, dx, _, _, rfl, e1 _ _ h1, R_Round.cl, N_Round, rfl, t, _, rfl, .inr (SqT.of (e1 _ _ h2)), ?_⟩
    refine ⟨_, _, rfl, rfl, (by show (0 : Int) < ((bs.map V.int).length : Int); omega), ?_⟩
    refine ⟨_, rfl, r, C, dx, _, _, rfl, e1 _ _ h1, R_Round.cl, N_Round, rfl, _, rfl, r, C, dx, _, _, rfl, e1 _ _ h1, R_Round.cl, N_Round, rfl, t, t, _, _, rfl, rfl, SqT.of (e1 _ _ h2), SqT.of (e1 _ _ h2), by omega, fun q H2 hq e2 => ?_⟩
    refine ⟨_, rfl, _, rfl, r, C, dx, _, _, rfl, e2 _ _ (e1 _ _ h1), R_Round.cl, N_Round, rfl, t, bs, rfl, SqT.of (e2 _ _ (e1 _ _ h2)), ?_⟩
    have sb := ok.sum_b
    have f0 := Int.emod_nonneg st (show (bs.length : Int) ≠ 0 by omega)
    have f1 := Int.emod_lt_of_pos st ln
    have g0 := Int.emod_nonneg c (show (bs.length : Int) ≠ 0 by omega)
    have g1 := Int.emod_lt_of_pos c ln
    have d0 : 0 ≤ c / bs.length := Int.ediv_nonneg c0 (by omega)
    have d1 : c / bs.length ≤ c := Int.ediv_le_self _ c0
    rw [hl]
    refine ⟨_, _, rfl, rfl, mulB (by omega) (by omega) (by omega) (by omega), ?_⟩
    obtain ⟨a, ha⟩ : ∃ a : Nat, st % bs.length = (a : Int) := ⟨(st % bs.length).toNat, by omega⟩
    obtain ⟨b, hb⟩ : ∃ b : Nat, c % bs.length = (b : Int) := ⟨(c % bs.length).toNat, by omega⟩
    have ha' : a < bs.length := by omega
    have hb' : b < bs.length := by omega
    refine ⟨_, rfl, _, rfl, _, rfl, _, rfl, _, rfl, _, _, rfl, rfl, _, rfl, q, _, rfl, hq, fun o H3 ho e3 => ?_⟩
    rw [ha, hb] at ho
    have ecut : cutV (bs.map V.int ++ bs.map V.int) (some (a : Int)) (some ((a : Int) + (b : Int))) = (((bs ++ bs).drop a).take b).map V.int := by
      rw [← Int.natCast_add, cut_both (by rw [List.length_append, hl]; omega) (by omega), Nat.add_sub_cancel_left, ← List.map_append, List.map_take, List.map_drop]
    rw [ecut] at ho
    refine ⟨o, _, rfl, ho, _, _, rfl, rfl, ?_⟩
    have key := k H3 ((e1.trans e2).trans e3)
    unfold tot at key
    rw [ha, hb, Int.toNat_natCast, Int.toNat_natCast] at key
    exact key
end
end Cl

/-! ### words of a log (true: a living record), the newest play, and the rule of the ring -/
namespace Cl
def S (c : Nat → Nat) (s : Nat) : Nat → Nat
  | 0 => 0
  | k + 1 => S c s k + c (s + k)
def zer : List Bool → Nat
  | [] => 0
  | true :: u => zer u
  | false :: u => zer u + 1
def one : List Bool → Nat
  | [] => 0
  | true :: u => one u + 1
  | false :: u => one u
def trim : List Bool → List Bool
  | [] => []
  | true :: u => true :: u
  | false :: u => trim u
/-- nothing unneeded stands in front -/
def Hd : List Bool → Prop
  | [] => True
  | b :: _ => b = true
theorem wlen : ∀ u : List Bool, u.length = zer u + one u
  | [] => rfl
  | true :: u => by have := wlen u; simp only [List.length_cons, zer, one]; omega
  | false :: u => by have := wlen u; simp only [List.length_cons, zer, one]; omega
theorem zer_app : ∀ u v : List Bool, zer (u ++ v) = zer u + zer v
  | [], v => by simp [zer]
  | true :: u, v => by have := zer_app u v; simp only [List.cons_append, zer]; omega
  | false :: u, v => by have := zer_app u v; simp only [List.cons_append, zer]; omega
theorem one_app : ∀ u v : List Bool, one (u ++ v) = one u + one v
  | [], v => by simp [one]
  | true :: u, v => by have := one_app u v; simp only [List.cons_append, one]; omega
  | false :: u, v => by have := one_app u v; simp only [List.cons_append, one]; omega
theorem one_trim : ∀ u : List Bool, one (trim u) = one u
  | [] => rfl
  | true :: u => rfl
  | false :: u => by have := one_trim u; simp only [trim, one]; omega
theorem zer_trim : ∀ u : List Bool, zer (trim u) ≤ zer u
  | [] => Nat.le_refl _
  | true :: u => Nat.le_refl _
  | false :: u => by have := zer_trim u; simp only [trim, zer]; omega
theorem hd_trim : ∀ u : List Bool, Hd (trim u)
  | [] => trivial
  | true :: u => rfl
  | false :: u => hd_trim u
theorem trim_hd : ∀ {u : List Bool}, Hd u → trim u = u
  | [], _ => rfl
  | true :: u, _ => rfl
  | false :: u, h => by cases h
theorem hd_app : ∀ {u v : List Bool}, Hd u → u ≠ [] → Hd (u ++ v)
  | [], _, _, h => absurd rfl h
  | _ :: _, _, h, _ => h
/-- what stands in front of a living record may be trimmed first -/
theorem trim_app_one : ∀ (u v : List Bool), 0 < one u → trim (u ++ v) = trim u ++ v
  | [], _, h => by simp [one] at h
  | true :: u, v, _ => rfl
  | false :: u, v, h => trim_app_one u v (by simpa only [one] using h)
/-- the living records behind which at most j unneeded ones stand -/
def O (j : Nat) : List Bool → Nat
  | [] => 0
  | b :: u => if zer (b :: u) ≤ j then one (b :: u) else O j u
theorem O_all : ∀ {j : Nat} {u : List Bool}, zer u ≤ j → O j u = one u
  | _, [], _ => rfl
  | _, _ :: _, h => if_pos h
theorem O_le : ∀ {j : Nat} {u : List Bool}, O j u ≤ one u
  | _, [] => Nat.le_refl _
  | j, b :: u => by
    unfold O
    split
    · exact Nat.le_refl _
    · have := O_le (j := j) (u := u)
      cases b <;> simp only [one] <;> omega
theorem O_trim : ∀ {j : Nat} {u : List Bool}, O j (trim u) = O j u
  | _, [] => rfl
  | _, true :: _ => rfl
  | j, false :: u => by
    have ih := O_trim (j := j) (u := u)
    show O j (trim u) = if zer (false :: u) ≤ j then one (false :: u) else O j u
    rw [ih]
    split
    · rename_i h
      simp only [zer] at h
      exact O_all (by omega)
    · rfl
theorem O_one : ∀ {j : Nat} {u : List Bool}, O j (u ++ [true]) = O j u + 1
  | j, [] => by show (if 0 ≤ j then 1 else 0) = 1; rw [if_pos (Nat.zero_le _)]
  | j, b :: u => by
    have ih := O_one (j := j) (u := u)
    have e1 : zer ((b :: u) ++ [true]) = zer (b :: u) := by rw [zer_app]; rfl
    have e2 : one ((b :: u) ++ [true]) = one (b :: u) + 1 := by rw [one_app]; rfl
    show (if zer ((b :: u) ++ [true]) ≤ j then one ((b :: u) ++ [true]) else O j (u ++ [true])) = (if zer (b :: u) ≤ j then one (b :: u) else O j u) + 1
    rw [e1, e2, ih]
    split <;> rfl
theorem O_zero : ∀ {j : Nat} {u : List Bool}, O (j + 1) (u ++ [false]) = O j u
  | j, [] => by show (if 1 ≤ j + 1 then 0 else 0) = 0; split <;> rfl
  | j, b :: u => by
    have ih := O_zero (j := j) (u := u)
    have e1 : zer ((b :: u) ++ [false]) = zer (b :: u) + 1 := by rw [zer_app]; rfl
    have e2 : one ((b :: u) ++ [false]) = one (b :: u) := by rw [one_app]; rfl
    show (if zer ((b :: u) ++ [false]) ≤ j + 1 then one ((b :: u) ++ [false]) else O (j + 1) (u ++ [false])) = (if zer (b :: u) ≤ j then one (b :: u) else O j u)
    rw [e1, e2, ih]
    by_cases h : zer (b :: u) ≤ j
    · rw [if_pos (by omega), if_pos h]
    · rw [if_neg (by omega), if_neg h]
theorem O_last : ∀ {u : List Bool}, O 0 (u ++ [false]) = 0
  | [] => rfl
  | b :: u => by
    have e1 : zer ((b :: u) ++ [false]) = zer (b :: u) + 1 := by rw [zer_app]; rfl
    show (if zer ((b :: u) ++ [false]) ≤ 0 then one ((b :: u) ++ [false]) else O 0 (u ++ [false])) = 0
    rw [e1, if_neg (by omega)]
    exact O_last
theorem O_few {j : Nat} {u : List Bool} (h : Hd u) (e : O j u = one u) : zer u ≤ j := by
  cases u with
  | nil => exact Nat.zero_le _
  | cons b u =>
    have h : b = true := h
    subst h
    by_cases q : zer (true :: u) ≤ j
    · exact q
    · exfalso
      have e2 : O j (true :: u) = O j u := if_neg q
      have := O_le (j := j) (u := u)
      rw [e2] at e
      simp only [one] at e
      omega
def carry (u : List Bool) : List Bool := trim (u.tail ++ [true])
theorem hd_carry {u : List Bool} : Hd (carry u) := hd_trim _
theorem one_carry {u : List Bool} (h : Hd u) (h2 : u ≠ []) : one (carry u) = one u := by
  cases u with
  | nil => exact absurd rfl h2
  | cons b u =>
    have h : b = true := h
    subst h
    unfold carry
    rw [one_trim, List.tail_cons, one_app]; rfl
theorem zer_carry {u : List Bool} (h : Hd u) : zer (carry u) ≤ zer u := by
  have := zer_trim (u.tail ++ [true])
  cases u with
  | nil => exact Nat.le_refl _
  | cons b u =>
    have h : b = true := h
    subst h
    rw [List.tail_cons, zer_app] at this
    unfold carry
    exact this
theorem O_carry {j : Nat} {u : List Bool} (h : Hd u) (h2 : u ≠ []) : O j (carry u) = min (one u) (O j u + 1) := by
  cases u with
  | nil => exact absurd rfl h2
  | cons b u =>
    have h : b = true := h
    subst h
    unfold carry
    rw [O_trim, List.tail_cons, O_one]
    have l := O_le (j := j) (u := u)
    by_cases q : zer (true :: u) ≤ j
    · have e1 : O j (true :: u) = one u + 1 := if_pos q
      have e2 : O j u = one u := O_all (by simpa only [zer] using q)
      have e3 : one (true :: u) = one u + 1 := rfl
      rw [e1, e2, e3]; omega
    · have e1 : O j (true :: u) = O j u := if_neg q
      have e3 : one (true :: u) = one u + 1 := rfl
      rw [e1, e3]; omega
def carries : Nat → List Bool → List Bool
  | 0, u => u
  | n + 1, u => carry (carries n u)
theorem ne_of_one {u : List Bool} (h : 0 < one u) : u ≠ [] := fun e => by rw [e] at h; simp [one] at h
theorem carries_dat {u : List Bool} (h : Hd u) : ∀ {n : Nat}, (n = 0 ∨ 0 < one u) → Hd (carries n u) ∧ one (carries n u) = one u ∧ zer (carries n u) ≤ zer u ∧ ∀ j, O j (carries n u) = min (one u) (O j u + n)
  | 0, _ => ⟨h, rfl, Nat.le_refl _, fun j => by have := O_le (j := j) (u := u); show O j u = _; omega⟩
  | n + 1, h2 => by
    have p : 0 < one u := by omega
    obtain ⟨a, b, c, d⟩ := carries_dat h (n := n) (.inr p)
    have ne : carries n u ≠ [] := ne_of_one (by omega)
    refine ⟨hd_carry, ?_, ?_, fun j => ?_⟩
    · show one (carry (carries n u)) = _
      rw [one_carry a ne, b]
    · have := zer_carry a
      show zer (carry (carries n u)) ≤ _
      omega
    · show O j (carry (carries n u)) = _
      rw [O_carry a ne, b, d]; omega
def ones (n : Nat) : List Bool := List.replicate n true
theorem one_ones : ∀ n, one (ones n) = n
  | 0 => rfl
  | n + 1 => by have := one_ones n; show one (ones n) + 1 = n + 1; omega
theorem ones_succ (n : Nat) : ones (n + 1) = ones n ++ [true] := by unfold ones; rw [List.replicate_succ']
theorem ones_len (n : Nat) : (ones n).length = n := List.length_replicate
theorem hd_ones : ∀ n, Hd (ones n)
  | 0 => trivial
  | _ + 1 => rfl
theorem carry_ones {n : Nat} (h : 0 < n) : carry (ones n) = ones n := by
  obtain ⟨m, rfl⟩ : ∃ m, n = m + 1 := ⟨n - 1, by omega⟩
  have e : (ones (m + 1)).tail ++ [true] = ones (m + 1) := by
    rw [show (ones (m + 1)).tail = ones m from rfl, ones_succ]
  unfold carry
  rw [e, trim_hd (hd_ones _)]
theorem carries_ones {n : Nat} : ∀ {k : Nat}, k ≤ n → carries k (ones n) = ones n
  | 0, _ => rfl
  | k + 1, h => by
    show carry (carries k (ones n)) = _
    rw [carries_ones (by omega), carry_ones (by omega)]
/-- the word from which the records of a put are carried -/
def U (K : Nat) (w : List Bool) : List Bool := if K ≤ one w then trim (w.dropLast ++ [false]) else w
/-- the word after t puts of the newest play -/
def W (K : Nat) (b : Nat → Nat) : Nat → List Bool
  | 0 => []
  | t + 1 => carries (min (one (U K (W K b t))) (b t)) (U K (W K b t)) ++ [true]
section
variable {K N n : Nat} {b : Nat → Nat}
theorem W_new : ∀ {t : Nat}, t ≤ K → W K b t = ones t
  | 0, _ => rfl
  | t + 1, h => by
    have e := W_new (t := t) (by omega)
    have u : U K (W K b t) = ones t := by
      rw [e]; unfold U
      rw [one_ones, if_neg (by omega)]
    show carries (min (one (U K (W K b t))) (b t)) (U K (W K b t)) ++ [true] = _
    rw [u, one_ones, carries_ones (by omega), ones_succ]
theorem U_new {t : Nat} (h : t < K) : U K (W K b t) = ones t := by
  rw [W_new (by omega)]; unfold U
  rw [one_ones, if_neg (by omega)]
/-- a log of all keys: its newest record stands last -/
def Full (K : Nat) (w : List Bool) : Prop := ∃ v, w = v ++ [true] ∧ Hd v ∧ one v + 1 = K
theorem Full.u {w : List Bool} (h : Full K w) : ∃ v, w = v ++ [true] ∧ Hd v ∧ one v + 1 = K ∧ U K w = trim (v ++ [false]) := by
  obtain ⟨v, rfl, h1, h2⟩ := h
  refine ⟨v, rfl, h1, h2, ?_⟩
  unfold U
  rw [one_app, List.dropLast_concat, if_pos (by show K ≤ one v + 1; omega)]
theorem Full.dat {w : List Bool} (h : Full K w) : Hd (U K w) ∧ one (U K w) + 1 = K ∧ O 0 (U K w) = 0 := by
  obtain ⟨v, rfl, h1, h2, e⟩ := h.u
  rw [e]
  refine ⟨hd_trim _, ?_, ?_⟩
  · rw [one_trim, one_app]; exact h2
  · rw [O_trim]; exact O_last
/-- what a put makes of the word U -/
def V' (b : Nat) (u : List Bool) : List Bool := carries (min (one u) b) u
theorem V_dat {c : Nat} {u : List Bool} (h : Hd u) : Hd (V' c u) ∧ one (V' c u) = one u ∧ zer (V' c u) ≤ zer u ∧ ∀ j, O j (V' c u) = min (one u) (O j u + c) := by
  obtain ⟨a, b', c', d⟩ := carries_dat h (n := min (one u) c) (by omega)
  refine ⟨a, b', c', fun j => ?_⟩
  unfold V'
  rw [d]; omega
theorem W_full (hK : 1 ≤ K) : ∀ d, Full K (W K b (K + d))
  | 0 => by
    rw [Nat.add_zero, W_new (Nat.le_refl _)]
    obtain ⟨m, rfl⟩ : ∃ m, K = m + 1 := ⟨K - 1, by omega⟩
    exact ⟨ones m, ones_succ m, hd_ones m, by rw [one_ones]⟩
  | d + 1 => by
    obtain ⟨h1, h2, h3⟩ := (W_full hK d).dat
    obtain ⟨i1, i2, i3, i4⟩ := V_dat (c := b (K + d)) h1
    exact ⟨V' (b (K + d)) (U K (W K b (K + d))), rfl, i1, by omega⟩
theorem U_next (hK : 1 ≤ K) (d : Nat) : U K (W K b (K + (d + 1))) = trim (V' (b (K + d)) (U K (W K b (K + d))) ++ [false]) := by
  obtain ⟨v, e, h1, h2, q⟩ := (W_full (K := K) (b := b) hK (d + 1)).u
  rw [q]
  have e2 : W K b (K + (d + 1)) = V' (b (K + d)) (U K (W K b (K + d))) ++ [true] := rfl
  rw [e2] at e
  rw [List.append_cancel_right e]
theorem U_dat (hK : 1 ≤ K) (d : Nat) : Hd (U K (W K b (K + d))) ∧ one (U K (W K b (K + d))) + 1 = K ∧ O 0 (U K (W K b (K + d))) = 0 := (W_full hK d).dat
theorem U_zer (hK : 1 ≤ K) : ∀ d, zer (U K (W K b (K + d))) ≤ d + 1
  | 0 => by
    obtain ⟨v, e, h1, h2, q⟩ := (W_full (K := K) (b := b) hK 0).u
    rw [q]
    have := zer_trim (v ++ [false])
    rw [zer_app] at this
    have e2 : W K b (K + 0) = ones K := W_new (Nat.le_refl _)
    obtain ⟨m, rfl⟩ : ∃ m, K = m + 1 := ⟨K - 1, by omega⟩
    rw [e2, ones_succ] at e
    have e3 := List.append_cancel_right e
    subst e3
    have z : zer (ones m) = 0 := by have := wlen (ones m); rw [ones_len, one_ones] at this; omega
    have : zer [false] = 1 := rfl
    omega
  | d + 1 => by
    have ih := U_zer hK d
    obtain ⟨h1, h2, h3⟩ := U_dat (b := b) hK d
    obtain ⟨i1, i2, i3, i4⟩ := V_dat (c := b (K + d)) h1
    rw [U_next hK d]
    have := zer_trim (V' (b (K + d)) (U K (W K b (K + d))) ++ [false])
    rw [zer_app] at this
    have : zer [false] = 1 := rfl
    omega
/-- what was carried in the last j puts stands behind the last j unneeded records -/
theorem O_U (hK : 1 ≤ K) (d : Nat) : ∀ j, O j (U K (W K b (K + (d + j)))) = min (K - 1) (S b (K + d) j)
  | 0 => by
    obtain ⟨h1, h2, h3⟩ := U_dat (b := b) hK d
    show O 0 (U K (W K b (K + d))) = min (K - 1) 0
    omega
  | j + 1 => by
    have ih := O_U hK d j
    obtain ⟨h1, h2, h3⟩ := U_dat (b := b) hK (d + j)
    obtain ⟨i1, i2, i3, i4⟩ := V_dat (c := b (K + (d + j))) h1
    rw [show d + (j + 1) = (d + j) + 1 by omega, U_next hK, O_trim, O_zero, i4, ih]
    show _ = min (K - 1) (S b (K + d) j + b (K + d + j))
    rw [show K + d + j = K + (d + j) by omega]
    omega
theorem S_per (per : ∀ t u, t % n = u % n → b t = b u) {s u : Nat} (h : s % n = u % n) : ∀ k, S b s k = S b u k
  | 0 => rfl
  | k + 1 => by
    have ih := S_per per h k
    show S b s k + b (s + k) = S b u k + b (u + k)
    rw [ih, per (s + k) (u + k) (by rw [Nat.add_mod, h, ← Nat.add_mod])]
theorem same_start (hn : 1 ≤ n) (K s : Nat) : ∃ d, d < n ∧ (K + d) % n = s % n := by
  refine ⟨(s + (n - 1) * K) % n, Nat.mod_lt _ hn, ?_⟩
  rw [Nat.add_mod_mod]
  have : K + (s + (n - 1) * K) = s + n * K := by
    obtain ⟨m, rfl⟩ : ∃ m, n = m + 1 := ⟨n - 1, by omega⟩
    rw [Nat.add_sub_cancel, Nat.add_mul]; omega
  rw [this, Nat.add_mul_mod_self_left]
/-- the rule of the ring: the newest play never stalls exactly if every run of so many budgets as places are free carries all keys but one -/
theorem ring_iff (hK : 1 ≤ K) (hn : 1 ≤ n) (per : ∀ t u, t % n = u % n → b t = b u) : (∀ t, t < N + n + 2 → (U K (W K b t)).length < N) ↔ (K ≤ N ∧ ∀ s, K - 1 ≤ S b s (N - K)) := by
  constructor
  · intro h
    have hKN : K ≤ N := by
      rcases Nat.lt_or_ge N K with q | q
      · have := h N (by omega)
        rw [U_new q, ones_len] at this
        omega
      · exact q
    refine ⟨hKN, fun s => ?_⟩
    obtain ⟨d, d1, d2⟩ := same_start hn K s
    rw [← S_per per d2]
    have t := h (K + (d + (N - K))) (by omega)
    have e := O_U (b := b) hK d (N - K)
    obtain ⟨h1, h2, _⟩ := U_dat (b := b) hK (d + (N - K))
    rw [wlen] at t
    rw [O_all (by omega)] at e
    omega
  · rintro ⟨hKN, h⟩ t _
    rcases Nat.lt_or_ge t K with q | q
    · rw [U_new q, ones_len]; omega
    · obtain ⟨d, rfl⟩ := Nat.exists_eq_add_of_le q
      obtain ⟨h1, h2, _⟩ := U_dat (b := b) hK d
      rw [wlen]
      rcases Nat.lt_or_ge d (N - K) with q2 | q2
      · have := U_zer (b := b) hK d
        omega
      · obtain ⟨c, rfl⟩ : ∃ c, d = c + (N - K) := ⟨d - (N - K), by omega⟩
        have e := O_U (b := b) hK c (N - K)
        have := h (K + c)
        have := O_few (j := N - K) h1 (by omega)
        omega
/-! the played log of the law -/
theorem trim_snoc : ∀ x : List Bool, trim (x ++ [true]) = trim x ++ [true]
  | [] => rfl
  | true :: _ => rfl
  | false :: x => trim_snoc x
theorem carry_f {u f : List Bool} (hf : f = [] ∨ f = [true]) (h : u ≠ []) : trim ((u ++ f).drop 1 ++ [true]) = carry u ++ f := by
  cases u with
  | nil => exact absurd rfl h
  | cons b u =>
    unfold carry
    rcases hf with rfl | rfl
    · rw [List.append_nil, List.append_nil]; rfl
    · show trim ((u ++ [true]) ++ [true]) = trim (u ++ [true]) ++ [true]
      exact trim_snoc _
theorem W_cases (hK : 1 ≤ K) (t : Nat) : (t < K ∧ one (W K b t) = t ∧ U K (W K b t) = W K b t ∧ W K b t = ones t) ∨ (K ≤ one (W K b t) ∧ ∃ v, W K b t = v ++ [true] ∧ Hd v ∧ one v + 1 = K ∧ U K (W K b t) = trim (v ++ [false])) := by
  rcases Nat.lt_or_ge t K with h | h
  · refine .inl ⟨h, ?_, ?_, W_new (by omega)⟩
    · rw [W_new (by omega), one_ones]
    · rw [U_new h, W_new (by omega)]
  · obtain ⟨d, rfl⟩ := Nat.exists_eq_add_of_le h
    obtain ⟨v, e, h1, h2, q⟩ := (W_full (K := K) (b := b) hK d).u
    refine .inr ⟨?_, v, e, h1, h2, q⟩
    rw [e, one_app]
    show K ≤ one v + 1
    omega
theorem U_hd (hK : 1 ≤ K) (t : Nat) : Hd (U K (W K b t)) := by
  rcases W_cases (b := b) hK t with ⟨h, _, e, e2⟩ | ⟨_, v, _, _, _, e⟩
  · rw [e, e2]; exact hd_ones _
  · rw [e]; exact hd_trim _
theorem U_len (hK : 1 ≤ K) (t : Nat) : (U K (W K b t)).length ≤ (W K b t).length := by
  rcases W_cases (b := b) hK t with ⟨h, _, e, e2⟩ | ⟨_, v, e2, _, _, e⟩
  · rw [e]; exact Nat.le_refl _
  · rw [e, e2, wlen, wlen, one_trim, one_app, one_app, zer_app]
    have := zer_trim (v ++ [false])
    rw [zer_app] at this
    have : zer [false] = 1 := rfl
    have : one [false] = 0 := rfl
    have : zer [true] = 0 := rfl
    have : one [true] = 1 := rfl
    omega
theorem V_len {c : Nat} {u : List Bool} (h : Hd u) : (V' c u).length ≤ u.length := by
  obtain ⟨_, h2, h3, _⟩ := V_dat (c := c) h
  rw [wlen, wlen u]; omega
theorem carries_len {c : Nat} {u : List Bool} (h : Hd u) (h2 : c ≤ one u) : (carries c u).length ≤ u.length := by
  obtain ⟨_, h2, h3, _⟩ := carries_dat h (n := c) (by omega)
  rw [wlen, wlen u]; omega
theorem W_len (hK : 1 ≤ K) : ∀ t, (W K b t).length ≤ t
  | 0 => Nat.le_refl _
  | t + 1 => by
    have ih := W_len hK t
    have := U_len (b := b) hK t
    have := V_len (c := b t) (U_hd (b := b) hK t)
    show (V' (b t) (U K (W K b t)) ++ [true]).length ≤ t + 1
    rw [List.length_append]
    show _ + 1 ≤ t + 1
    omega
end
end Cl

/-! ### sums of budgets, step by step -/
namespace Cl
open StX ClX
theorem wrap_at {bs : List Int} {s : Int} {i : Nat} (hn : 0 < bs.length) (hi : i < bs.length) :
    ((bs ++ bs).drop (s % bs.length).toNat)[i]? = bs[((s + i) % bs.length).toNat]? := by
  have f0 := Int.emod_nonneg s (show (bs.length : Int) ≠ 0 by omega)
  have f1 := Int.emod_lt_of_pos s (show (0 : Int) < bs.length by omega)
  rw [List.getElem?_drop, Int.add_emod, Int.emod_eq_of_lt (a := (i : Int)) (by omega) (by omega)]
  obtain ⟨f, hf⟩ : ∃ f : Nat, s % bs.length = (f : Int) := ⟨(s % bs.length).toNat, by omega⟩
  rw [hf, Int.toNat_natCast]
  by_cases h : f + i < bs.length
  · rw [List.getElem?_append_left h]
    have e : ((f : Int) + (i : Int)) % (bs.length : Int) = ((f + i : Nat) : Int) := by rw [Int.emod_eq_of_lt (by omega) (by omega)]; omega
    rw [e, Int.toNat_natCast]
  · rw [List.getElem?_append_right (by omega)]
    have e : ((f : Int) + (i : Int)) % (bs.length : Int) = ((f + i - bs.length : Nat) : Int) := by
      have : ((f : Int) + (i : Int)) = ((f + i - bs.length : Nat) : Int) + bs.length := by omega
      rw [this, Int.add_emod_right, Int.emod_eq_of_lt (by omega) (by omega)]
    rw [e, Int.toNat_natCast]
theorem tot_more {bs : List Int} {s c w : Int} (h : 1 ≤ bs.length) : tot bs s (w * bs.length + c) = w * bs.sum + tot bs s c := by
  unfold tot
  have e1 : (w * bs.length + c) / bs.length = w + c / bs.length := by rw [Int.add_comm, Int.add_mul_ediv_right _ _ (by omega), Int.add_comm]
  have e2 : (w * bs.length + c) % bs.length = c % bs.length := by rw [Int.add_comm, Int.add_mul_emod_self_right]
  rw [e1, e2, Int.add_mul, Int.add_assoc]
def bud (bs : List Int) (phase : Int) (t : Nat) : Nat := (bs[((phase + t) % bs.length).toNat]?.getD 0).toNat
theorem sum_tk {l : List Int} {i : Nat} {z : Int} (h : l[i]? = some z) : (l.take (i + 1)).sum = (l.take i).sum + z := by
  rw [List.take_add_one, h, List.sum_append]; simp
theorem rot_sum {bs : List Int} {f : Nat} : (rot bs f).sum = bs.sum := by
  unfold rot
  rw [List.sum_append, Int.add_comm, ← List.sum_append, List.take_append_drop]
theorem wrap_full {bs : List Int} {f : Nat} (h : f ≤ bs.length) : ((bs ++ bs).drop f).take bs.length = rot bs f := by
  unfold rot
  rw [List.drop_append_of_le_length h, List.take_append, List.length_drop, List.take_of_length_le (by rw [List.length_drop]; omega)]
  congr 2; omega
theorem tot_step {bs : List Int} {s : Int} {k : Nat} {z : Int} (ok : Okb bs) (hz : bs[((s + k) % bs.length).toNat]? = some z) : tot bs s ((k + 1 : Nat) : Int) = tot bs s (k : Int) + z := by
  have l1 := ok.l1
  have key : ∀ r : Nat, r < bs.length → bs[((s + r) % bs.length).toNat]? = some z → tot bs s ((r + 1 : Nat) : Int) = tot bs s (r : Int) + z := fun r hr hz => by
    have e0 : tot bs s (r : Int) = (((bs ++ bs).drop (s % bs.length).toNat).take r).sum := by
      unfold tot
      rw [Int.ediv_eq_zero_of_lt (by omega) (by omega), Int.emod_eq_of_lt (by omega) (by omega), Int.toNat_natCast]; simp
    have e1 := sum_tk (l := (bs ++ bs).drop (s % bs.length).toNat) (i := r) (z := z) (by rw [wrap_at (by omega) hr]; exact hz)
    rcases Nat.lt_or_ge (r + 1) bs.length with q | q
    · have e2 : tot bs s ((r + 1 : Nat) : Int) = (((bs ++ bs).drop (s % bs.length).toNat).take (r + 1)).sum := by
        unfold tot
        rw [Int.ediv_eq_zero_of_lt (by omega) (by omega), Int.emod_eq_of_lt (by omega) (by omega), Int.toNat_natCast]; simp
      rw [e2, e1, e0]
    · have e3 : r + 1 = bs.length := by omega
      have f0 := Int.emod_nonneg s (show (bs.length : Int) ≠ 0 by omega)
      have f1 := Int.emod_lt_of_pos s (show (0 : Int) < bs.length by omega)
      have e2 : tot bs s ((r + 1 : Nat) : Int) = bs.sum := by
        rw [e3]
        unfold tot
        rw [Int.ediv_self (by omega), Int.emod_self]; simp
      rw [e2, e0, ← e1, e3, wrap_full (by omega), rot_sum]
  obtain ⟨q, r, hr, rfl⟩ : ∃ q r : Nat, r < bs.length ∧ k = q * bs.length + r := ⟨k / bs.length, k % bs.length, Nat.mod_lt _ (by omega), by rw [Nat.mul_comm]; exact (Nat.div_add_mod _ _).symm⟩
  have c1 : ((q * bs.length + r : Nat) : Int) = (q : Int) * bs.length + (r : Nat) := by simp
  have c2 : ((q * bs.length + r + 1 : Nat) : Int) = (q : Int) * bs.length + ((r + 1 : Nat) : Int) := by
    rw [Nat.add_assoc]; simp
  rw [c1, c2, tot_more l1, tot_more l1]
  have := key r hr (by
    rw [c1] at hz
    have e : (s + ((q : Int) * bs.length + (r : Nat))) % bs.length = (s + (r : Nat)) % bs.length := by
      rw [show s + ((q : Int) * bs.length + (r : Nat)) = (s + (r : Nat)) + (q : Int) * bs.length by omega, Int.add_mul_emod_self_right]
    rw [e] at hz
    exact hz)
  omega
theorem bud_at {bs : List Int} {ph : Int} (ok : Okb bs) (i : Nat) : ∃ z, bs[((ph + i) % bs.length).toNat]? = some z ∧ 0 ≤ z ∧ z = (bud bs ph i : Int) := by
  have l1 := ok.l1
  have m0 := Int.emod_nonneg (ph + i) (show (bs.length : Int) ≠ 0 by omega)
  have m1 := Int.emod_lt_of_pos (ph + i) (show (0 : Int) < bs.length by omega)
  obtain ⟨z, hz⟩ : ∃ z, bs[((ph + i) % bs.length).toNat]? = some z := ⟨_, List.getElem?_eq_getElem (by omega)⟩
  have z0 := (ok.nn z (List.mem_of_getElem? hz)).1
  refine ⟨z, hz, z0, ?_⟩
  unfold bud
  rw [hz]
  show z = ((z.toNat : Nat) : Int)
  omega
theorem S_tot {bs : List Int} {ph : Int} (ok : Okb bs) (s : Nat) : ∀ k, (S (bud bs ph) s k : Int) = tot bs (ph + s) (k : Nat)
  | 0 => by unfold S tot; simp
  | k + 1 => by
    obtain ⟨z, hz, _, e⟩ := bud_at (ph := ph) ok (s + k)
    have e2 : ph + ((s + k : Nat) : Int) = ph + s + (k : Nat) := by simp [Int.add_assoc]
    rw [e2] at hz
    rw [tot_step ok hz, ← S_tot ok s k, e]
    show ((S (bud bs ph) s k + bud bs ph (s + k) : Nat) : Int) = _
    omega
theorem tot_per {bs : List Int} {s u c : Int} (h : s % bs.length = u % bs.length) : tot bs s c = tot bs u c := by
  unfold tot; rw [h]
theorem bud_per {bs : List Int} {ph : Int} (ok : Okb bs) : ∀ t u : Nat, t % bs.length = u % bs.length → bud bs ph t = bud bs ph u := fun t u h => by
  unfold bud
  have e : (ph + t) % bs.length = (ph + u) % bs.length := by
    rw [Int.add_emod, Int.add_emod ph u]
    have : (t : Int) % bs.length = (u : Int) % bs.length := by exact_mod_cast congrArg (Nat.cast (R := Int)) h
    rw [this]
  rw [e]
theorem S_mono {c : Nat → Nat} {s : Nat} : ∀ {a b : Nat}, a ≤ b → S c s a ≤ S c s b
  | a, 0, h => by rw [show a = 0 by omega]; exact Nat.le_refl _
  | a, b + 1, h => by
    rcases Nat.lt_or_ge a (b + 1) with q | q
    · have := S_mono (c := c) (s := s) (a := a) (b := b) (by omega)
      show _ ≤ S c s b + c (s + b)
      omega
    · rw [show a = b + 1 by omega]; exact Nat.le_refl _
theorem tot_mono {bs : List Int} {ph : Int} (ok : Okb bs) {a b : Nat} (h : a ≤ b) : tot bs ph (a : Nat) ≤ tot bs ph (b : Nat) := by
  have h1 := S_tot (ph := ph) ok 0 a
  have h2 := S_tot (ph := ph) ok 0 b
  have h3 := S_mono (c := bud bs ph) (s := 0) h
  have e : ph + ((0 : Nat) : Int) = ph := by omega
  rw [e] at h1 h2
  omega
end Cl

/-! ### further classes: made by their own __init__, asked by isinstance with another class -/
namespace Cl
open PySem L2 PyProof.Rows StX ClX
structure Ci (P : Program) (w : World) (K : PySem.W.Frag) (mg : Str → Option Value) (base : Heap) (C : Addr) (k : Nat) (ps : List Str) (sp : Sp) (dvs : List V := []) : Prop where
  ex : ∃ (f : Addr) (fd : FuncData) (ds : List Value), Mk K C f ∧ FnOk P w K mg base CX0 k f fd ps sp ∧ Binds K fd ps ds ∧ Vals dvs ds
section
variable {X : Cx} {k : Nat} {C D : Addr} {ps : List Str} {sp : Sp} {dvs : List V} {E : XK} {x : Str} {pn pos : Pos} {e : Expr} {es : List Expr} {t : TA} {b : Bool}
theorem pe_mki (D : Ci X.prog X.w X.K X.mg X.base C k ps sp dvs) (hr : Room (k + 1) X.A) (hg : Gl X x) (hm : X.mg x = some (.ref C)) (hx : Passes CX0 X E) (ha : PA X (e :: es) t) (hdb : (x == ("__debug__" : Str)) = false := by decide)
    (he : starEach (e :: es) X.env = (false, eval e X.env) :: starEach es X.env := by rfl) (hpl : (backTo pos (starEach es X.env)).any (·.1) = false := by rfl) : PE X (.Call (.Name x pn) (e :: es) [] pos) (tMake C sp dvs E t) := by
  obtain ⟨f, fd, ds, M, F, b, v⟩ := D.ex
  exact pe_make M F hr hg hm b v hx ha hdb he hpl
theorem call_isD (c : C8.InsC X.K C) (me : PySem.W.kitOne X.K (.ref C) (.ref D) = some b) : CallR X (.builtin "isinstance") (fun xs H Q => ∃ a dx fs, xs = [.ref a, .ref D] ∧ H a = some (.ins C dx fs) ∧ Q (.bl b) H) := by
  intro pins s σ H xs us Q I r h
  obtain ⟨a, dx, fs, rfl, ha, q⟩ := h
  obtain ⟨u, w', rfl, ru, rw'⟩ := vals2 r
  cases rw'
  exact isinst_ok I ru (TyOf.ins ha c.cl c.ha c.hn c.htk c.hm) me fun tk => ⟨.bl b, H, I.tok _, rfl, q⟩
end
section
variable {P : Program} {w : World} {K : PySem.W.Frag} {mg : Str → Option Value} {base : Heap} {C : Addr} {x qual : Str} {st : Stmt} {ps : List Str} {k : Nat} {sp : Sp} {h : Heap}
theorem AtCls.ci (t : AtCls K C "__init__" qual st) (c : AtC K x C) (hb : Bd "__init__" qual st ps) (ok : ∀ (f : Addr) (fd : FuncData), Fun K "__init__" qual st f fd → FnOk P w K mg base CX0 k f fd ps sp) : Ci P w K mg base C k ps sp := by
  obtain ⟨f, fd, a, i, F⟩ := t.ex
  exact ⟨f, fd, [], ⟨c.made, a, i, c.kp⟩, ok f fd F, F.binds hb, .nil⟩
end
end Cl

/-! ### classes: methods that raise, methods with keywords, an own __contains__ -/
namespace Cl
open PySem PySem.Spec L2 PyProof.Rows
/-- a method that may raise; dvs: the values of its positional defaults that are not written -/
structure Mx (P : Program) (w : World) (K : PySem.W.Frag) (mg : Str → Option Value) (base : Heap) (C : Addr) (m : Str) (k : Nat) (ps : List Str) (sp : Sp) (dvs : List V := []) : Prop where
  ex : ∃ (f : Addr) (fd : FuncData) (ds : List Value), Meth K C m f ∧ FnOk P w K mg base (L2.CX P w) k f fd ps sp ∧ Binds K fd ps ds ∧ Vals dvs ds
/-- a method called with keywords -/
structure Mkx (P : Program) (w : World) (K : PySem.W.Frag) (mg : Str → Option Value) (base : Heap) (C : Addr) (m : Str) (k : Nat) (ps : List Str) (sp : Sp) (n : Nat) (ks : List Str) (gV : List V → List V → List V) : Prop where
  ex : ∃ (f : Addr) (fd : FuncData) (g : List Value → List Value → List Value), Meth K C m f ∧ FnOk P w K mg base (L2.CX P w) k f fd ps sp ∧ KBn K fd ps (n + 1) ks g gV
/-- a class made with keywords -/
structure Cik (P : Program) (w : World) (K : PySem.W.Frag) (mg : Str → Option Value) (base : Heap) (C : Addr) (k : Nat) (ps : List Str) (sp : Sp) (n : Nat) (ks : List Str) (gV : List V → List V → List V) : Prop where
  ex : ∃ (f : Addr) (fd : FuncData) (g : List Value → List Value → List Value), Mk K C f ∧ FnOk P w K mg base (L2.CX P w) k f fd ps sp ∧ KBn K fd ps (n + 1) ks g gV
def tMethT (C : Addr) (m : Str) (sp : Sp) (dvs : List V) (E : L2.St → XK) (ta : TE) (t : TA) : TE := fun σ H Q => ta σ H fun x H1 => ∃ a dx fs, x = .ref a ∧ H1 a = some (.ins C dx fs) ∧ fs.lookup m = none ∧ t σ H1 fun vs H2 => sp (.ref a :: vs ++ dvs) H2 Q (E σ)
def tMethK (C : Addr) (m : Str) (n j : Nat) (sp : Sp) (gV : List V → List V → List V) (E : L2.St → XK) (ta : TE) (t tk : TA) : TE := fun σ H Q => ta σ H fun x H1 => ∃ a dx fs, x = .ref a ∧ H1 a = some (.ins C dx fs) ∧ fs.lookup m = none ∧
  t σ H1 fun vs H2 => tk σ H2 fun zs H3 => vs.length = n ∧ zs.length = j ∧ sp (gV (.ref a :: vs) zs) H3 Q (E σ)
section
variable {X : Cx} {k n : Nat} {C : Addr} {ps ks : List Str} {sp : Sp} {dvs : List V} {E : XK} {x m : Str} {pn pos apos : Pos} {e o : Expr} {es : List Expr} {kws : List Keyword} {te ta : TE} {t tk : TA} {pl : Sem Bool} {W : WX} {gV : List V → List V → List V}
theorem pe_mx (D : Mx X.prog X.w X.K X.mg X.base C m k ps sp dvs) (cl : Cls X.K C) (hr : Room k X.A) (hx : Passes (L2.CX X.prog X.w) X E) (he : PE X o ta) (ha : PA X (e :: es) t)
    (hst : starEach (e :: es) X.env = (false, eval e X.env) :: starEach es X.env := by rfl) (hpl : (backTo pos (starEach es X.env)).any (·.1) = false := by rfl)
    (ht : eval (.Call (.Attribute o m apos) (e :: es) [] pos) X.env = (do
      let ov ← eval o X.env
      standAt apos.atName
      let (f, first) ← holding [ov] (getMethod ov m pl)
      callWith pos f first (backTo pos (starEach (e :: es) X.env)) (backToKw pos (keywordEach [] X.env))) := by rfl) :
    PE X (.Call (.Attribute o m apos) (e :: es) [] pos) (tMeth C m sp dvs E ta t) := by
  obtain ⟨f, fd, ds, M, F, b, v⟩ := D.ex
  exact pe_meth (pl := pl) he cl M F hr b v hx ha hst hpl ht
theorem pe_mx0 (D : Mx X.prog X.w X.K X.mg X.base C m k ps sp dvs) (cl : Cls X.K C) (hr : Room k X.A) (hx : Passes (L2.CX X.prog X.w) X E) (he : PE X o ta)
    (ht : eval (.Call (.Attribute o m apos) [] [] pos) X.env = (do
      let ov ← eval o X.env
      standAt apos.atName
      let (f, first) ← holding [ov] (getMethod ov m pl)
      callWith pos f first (backTo pos (starEach [] X.env)) (backToKw pos (keywordEach [] X.env))) := by rfl) :
    PE X (.Call (.Attribute o m apos) [] [] pos) (tMeth C m sp dvs E ta tNil) := by
  obtain ⟨f, fd, ds, M, F, b, v⟩ := D.ex
  exact pe_meth0 (pl := pl) he cl M F hr b v hx ht
/-- .. in a try's body -/
theorem pe_mxT (D : Mx X.prog X.w X.K X.mg X.base C m k ps sp dvs) (cl : Cls X.K C) (hr : Room k X.A) (tw : Takes X W) (he : PE X o ta) (ha : PA X (e :: es) t)
    (hst : starEach (e :: es) X.env = (false, eval e X.env) :: starEach es X.env := by rfl) (hpl : (backTo pos (starEach es X.env)).any (·.1) = false := by rfl)
    (ht : eval (.Call (.Attribute o m apos) (e :: es) [] pos) X.env = (do
      let ov ← eval o X.env
      standAt apos.atName
      let (f, first) ← holding [ov] (getMethod ov m pl)
      callWith pos f first (backTo pos (starEach (e :: es) X.env)) (backToKw pos (keywordEach [] X.env))) := by rfl) :
    PE X (.Call (.Attribute o m apos) (e :: es) [] pos) (tMethT C m sp dvs (WE W) ta t) := by
  obtain ⟨f, fd, ds, M, F, b, v⟩ := D.ex
  refine ⟨fun pins s σ H Q I h => ?_⟩
  refine PySem.W.methodCall_KW (pl := pl) (thn (he.run pins s σ H _ I h) fun u s1 ⟨x, H1, I1, rx, a, dx, fs, ex, ea, l, q⟩ => ?_) ht
  subst ex
  obtain rfl : u = Value.ref a := rx
  refine getmeth_ok I1 ea cl M l ?_
  refine PySem.W.callWith_K (first := [.ref a]) (h₀ := X.base) I.ok.mod.kin M.kp (thn (ha.run pos pins s1 σ H1 _ I1 q) fun us s2 ⟨vs, H2, I2, r, q2⟩ => ⟨I2.kIn, ?_⟩) hst hpl
  exact run_fnSD (us := .ref a :: us) (vs := .ref a :: vs) (E := WE W) F hr b v (passAt tw σ) I2 (.cons rfl r) q2
theorem pe_mx0T (D : Mx X.prog X.w X.K X.mg X.base C m k ps sp dvs) (cl : Cls X.K C) (hr : Room k X.A) (tw : Takes X W) (he : PE X o ta)
    (ht : eval (.Call (.Attribute o m apos) [] [] pos) X.env = (do
      let ov ← eval o X.env
      standAt apos.atName
      let (f, first) ← holding [ov] (getMethod ov m pl)
      callWith pos f first (backTo pos (starEach [] X.env)) (backToKw pos (keywordEach [] X.env))) := by rfl) :
    PE X (.Call (.Attribute o m apos) [] [] pos) (tMethT C m sp dvs (WE W) ta tNil) := by
  obtain ⟨f, fd, ds, M, F, b, v⟩ := D.ex
  refine ⟨fun pins s σ H Q I h => ?_⟩
  refine PySem.W.methodCall_KW (pl := pl) (thn (he.run pins s σ H _ I h) fun u s1 ⟨x, H1, I1, rx, a, dx, fs, ex, ea, l, q⟩ => ?_) ht
  subst ex
  obtain rfl : u = Value.ref a := rx
  refine getmeth_ok I1 ea cl M l ?_
  exact PySem.W.callWith_K0 (first := [.ref a]) I1.kIn M.kp (run_fnSD (us := [.ref a]) (vs := [.ref a]) (E := WE W) F hr b v (passAt tw σ) I1 (.cons rfl .nil) q)
/-- o.m(e, .., k = v, ..), whatever is wished of what it raises -/
theorem pe_mkxA {E : L2.St → XK} (D : Mkx X.prog X.w X.K X.mg X.base C m k ps sp n ks gV) (cl : Cls X.K C) (hr : Room k X.A) (hx : ∀ σ, PassesAt (L2.CX X.prog X.w) X σ (E σ)) (he : PE X o ta) (ha : PA X (e :: es) t) (hkw : PK X kws tk)
    (hall : (backToKw pos (keywordEach kws X.env)).all (·.1.isSome) = true := by rfl) (hks : (backToKw pos (keywordEach kws X.env)).filterMap (·.1) = ks := by rfl)
    (hst : starEach (e :: es) X.env = (false, eval e X.env) :: starEach es X.env := by rfl)
    (hpl : ((backTo pos (starEach (e :: es) X.env)).any (·.1) || (backToKw pos (keywordEach kws X.env)).any (·.1.isNone)) = false := by rfl)
    (ht : eval (.Call (.Attribute o m apos) (e :: es) kws pos) X.env = (do
      let ov ← eval o X.env
      standAt apos.atName
      let (f, first) ← holding [ov] (getMethod ov m pl)
      callWith pos f first (backTo pos (starEach (e :: es) X.env)) (backToKw pos (keywordEach kws X.env))) := by rfl) :
    PE X (.Call (.Attribute o m apos) (e :: es) kws pos) (tMethK C m n ks.length sp gV E ta t tk) := by
  obtain ⟨f, fd, g, M, F, b⟩ := D.ex
  refine ⟨fun pins s σ H Q I h => ?_⟩
  refine PySem.W.methodCall_KW (pl := pl) (thn (he.run pins s σ H _ I h) fun u s1 ⟨x, H1, I1, rx, a, dx, fs, ex, ea, l, q⟩ => ?_) ht
  subst ex
  obtain rfl : u = Value.ref a := rx
  refine getmeth_ok I1 ea cl M l ?_
  refine PySem.W.callWith_KW (first := [.ref a]) (h₀ := X.base) I.ok.mod.kin M.kp hall (thn (ha.run pos pins s1 σ H1 _ I1 q) fun us sA hA => ?_) hpl hst
  obtain ⟨vs, HA, JA, rA, qA⟩ := hA
  refine thn (hkw.run pos pins sA σ HA _ JA qA) fun ws sB hB => ?_
  obtain ⟨zs, HB, JB, rB, l1, l2, qB⟩ := hB
  rw [hks]
  have rA' : Vals (V.ref a :: vs) (Value.ref a :: us) := .cons rfl rA
  have to := b.to sB (.ref a :: us) ws JB.kIn (by rw [List.length_cons, ← rA.length, l1]) (rB.length.symm.trans l2)
  have run := F.run X.A X.stack sB HB ⟨.ref a :: us, ks.zip ws⟩ (g (.ref a :: us) ws) (gV (.ref a :: vs) zs) Q (E σ) hr JB.env0 to (b.rel rA' rB) qB
  refine ⟨JB.kIn, wpAny_call (codeAny_mono run fun r s' hq => ?_)⟩
  rcases r with e' | fl
  · exact hx σ pins HB sB e' s' JB hq
  · rcases fl with _ | _ | _ | u
    · exact hq.elim
    · exact hq.elim
    · exact hq.elim
    · exact JB.after hq
theorem pe_cik (D : Cik X.prog X.w X.K X.mg X.base C k ps sp n ks gV) (hr : Room (k + 1) X.A) (hg : Gl X x) (hm : X.mg x = some (.ref C)) (hx : Passes (L2.CX X.prog X.w) X E) (ha : PA X (e :: es) t) (hkw : PK X kws tk)
    (hall : (backToKw pos (keywordEach kws X.env)).all (·.1.isSome) = true := by rfl) (hks : (backToKw pos (keywordEach kws X.env)).filterMap (·.1) = ks := by rfl) (hdb : (x == ("__debug__" : Str)) = false := by decide)
    (he : starEach (e :: es) X.env = (false, eval e X.env) :: starEach es X.env := by rfl) (hpl : ((backTo pos (starEach (e :: es) X.env)).any (·.1) || (backToKw pos (keywordEach kws X.env)).any (·.1.isNone)) = false := by rfl) :
    PE X (.Call (.Name x pn) (e :: es) kws pos) (tMakeK C n ks.length sp gV E t tk) := by
  obtain ⟨f, fd, g, M, F, b⟩ := D.ex
  exact pe_makeK M F hr hg hm b hx ha hkw hall hks hdb he hpl
/-! x in o, o an instance with its own __contains__ -/
def rInO (C : Addr) (neg : Bool) (sp : Sp) (E : XK) : R2 := fun x y H Q => ∃ a dx fs, y = .ref a ∧ H a = some (.ins C dx fs) ∧ sp [.ref a, x] H (fun v H' => ∃ b, v = .bl b ∧ Q (.bl (b != neg)) H') E
theorem op_inO (D : On X.prog X.w X.K X.mg X.base C "__contains__" k ps sp) (hr : Room k X.A) : OpR X (compareOp .In) (rInO C false sp E0) := by
  obtain ⟨f, fd, hs, hf, F, hb⟩ := D.ex
  intro pins s σ H x y v u Q I rx ry h
  obtain ⟨a, dx, fs, rfl, ha, hq⟩ := h
  cases ry
  obtain ⟨mA, O, _⟩ := ins_get I.hok ha
  obtain ⟨od, J, _⟩ := O.look
  obtain ⟨mm, hF⟩ := I.fr
  have hl := F.len _ _ _ _ hq
  refine PySem.W.in_K hF I.ok.mod.kin J hs hf ?_
  refine wpAny_call (codeAny_mono (F.run X.A X.stack s H ⟨[.ref a, v], []⟩ [.ref a, v] [.ref a, x] _ E0 hr I.env0 (by
    have := hb s [.ref a, v] I.kIn (by simpa using hl)
    simpa using this) (.cons rfl (.cons rx .nil)) hq) fun r s' hq => ?_)
  cases r with
  | error e => exact pass0 pins σ H s e s' I hq
  | ok fl =>
    cases fl with
    | ret w =>
      obtain ⟨z, H', I', rz, b, ez, q⟩ := I.after hq
      subst ez
      cases rz
      exact wpAny_truthy_bool ⟨.bl _, H', I', rfl, by rw [Bool.bne_false] at q; exact q⟩
    | next => exact False.elim hq
    | brk => exact False.elim hq
    | cont => exact False.elim hq
theorem op_notInO (D : On X.prog X.w X.K X.mg X.base C "__contains__" k ps sp) (hr : Room k X.A) : OpR X (compareOp .NotIn) (rInO C true sp E0) := by
  obtain ⟨f, fd, hs, hf, F, hb⟩ := D.ex
  intro pins s σ H x y v u Q I rx ry h
  obtain ⟨a, dx, fs, rfl, ha, hq⟩ := h
  cases ry
  obtain ⟨mA, O, _⟩ := ins_get I.hok ha
  obtain ⟨od, J, _⟩ := O.look
  obtain ⟨mm, hF⟩ := I.fr
  have hl := F.len _ _ _ _ hq
  refine PySem.W.notIn_K hF I.ok.mod.kin J hs hf ?_
  refine wpAny_call (codeAny_mono (F.run X.A X.stack s H ⟨[.ref a, v], []⟩ [.ref a, v] [.ref a, x] _ E0 hr I.env0 (by
    have := hb s [.ref a, v] I.kIn (by simpa using hl)
    simpa using this) (.cons rfl (.cons rx .nil)) hq) fun r s' hq => ?_)
  cases r with
  | error e => exact pass0 pins σ H s e s' I hq
  | ok fl =>
    cases fl with
    | ret w =>
      obtain ⟨z, H', I', rz, b, ez, q⟩ := I.after hq
      subst ez
      cases rz
      exact wpAny_truthy_bool ⟨.bl _, H', I', rfl, by rw [Bool.bne_true] at q; exact q⟩
    | next => exact False.elim hq
    | brk => exact False.elim hq
    | cont => exact False.elim hq
end
section
variable {P : Program} {w : World} {K : PySem.W.Frag} {mg : Str → Option Value} {base : Heap} {C : Addr} {m qual : Str} {st : Stmt} {ps : List Str} {k : Nat} {sp : Sp}
theorem AtCls.mx (t : AtCls K C m qual st) (hb : Bd m qual st ps) (ok : ∀ (f : Addr) (fd : FuncData), Fun K m qual st f fd → FnOk P w K mg base (L2.CX P w) k f fd ps sp) : Mx P w K mg base C m k ps sp := by
  obtain ⟨f, fd, a, i, F⟩ := t.ex
  exact ⟨f, fd, [], ⟨a, i, F.kp⟩, ok f fd F, F.binds hb, .nil⟩
end
end Cl

/-! ### C() of a class that has no __init__; a call on an object of one of several classes -/
namespace Cl
open PySem PySem.W L2 PyProof.Rows StX ClX
structure Mz (K : PySem.W.Frag) (C : Addr) : Prop where
  makes : PySem.W.makesIn K C = true
  init : PySem.W.findIn K (.ref C) "__init__" = some (some (.builtin "object.__init__"))
  kp : PySem.W.keepIn K (.ref C) = true
def tMakeZ (C : Addr) : TE := fun _ H Q => ∀ x dx, H x = Option.none → H dx = Option.none → dx ≠ x → Q (.ref x) (upd (upd H dx (.own x)) x (.ins C dx []))
section
variable {X : Cx} {C : Addr} {x : Str} {p pos : Pos}
theorem run_mkz {pins : List (Addr × Obj)} {σ : L2.St} {H : Hp} {s : Shared} {Q : VK} (M : Mz X.K C) (I : Inv X pins σ H s) (h : tMakeZ C σ H Q) : wpAny (model X.prog X.w) X.A (call (.ref C) []) (EP X pins σ Q) X.xe s := by
  have hq := h (s.heap.objs.size + 1) s.heap.objs.size (I.hok.fresh (Nat.le_succ _)) (I.hok.fresh (Nat.le_refl _)) (Nat.ne_of_lt (Nat.lt_succ_self _))
  have I2 := Inv.made (C := C) I
  have Y := makes_of (M := model X.prog X.w) I.kIn M.makes
  have e2 : ((s.heap.push PySem.W.emptyDict).push (PySem.W.instObj C s.heap.objs.size)).get? (s.heap.objs.size + 1) = some (PySem.W.instObj C s.heap.objs.size) := by
    have := Heap.get?_push_size (s.heap.push PySem.W.emptyDict) (o := PySem.W.instObj C s.heap.objs.size) rfl
    rwa [Heap.size_push] at this
  refine wpAny_call (make_map0 I.kIn M.makes M.init (fun self => Looks.of_pure (oi_bind self)) ?_)
  have t1 : Looks (model X.prog X.w) ((s.heap.push emptyDict).push (instObj C s.heap.objs.size)) (typeOf (.ref (s.heap.objs.size + 1))) (.ref C) := (Looks.ld e2).andThen .now
  have t2 : Looks (model X.prog X.w) ((s.heap.push emptyDict).push (instObj C s.heap.objs.size)) (isInstance (.ref (s.heap.objs.size + 1)) (.type "object")) true := t1.andThen (Y.top.keeps fun b o e => Heap.get?_push_of_some _ (Heap.get?_push_of_some _ e))
  refine codeAny_call_builtin oi_plain entry_oi (@check_slot (model X.prog X.w) _ _ _ "object.__init__" "object" "__init__" (.ref (s.heap.objs.size + 1)) [] [] _ oi_kind oi_split t2 (oi_args (.ref (s.heap.objs.size + 1))) ?_)
  rw [oi_run]
  exact wpAny_pure (And.intro rfl ⟨V.ref (s.heap.objs.size + 1), _, I2, rfl, hq⟩)
theorem pe_mkz (M : Mz X.K C) (hg : Gl X x) (hm : X.mg x = some (.ref C)) (hdb : (x == ("__debug__" : Str)) = false := by decide) : PE X (.Call (.Name x p) [] [] pos) (tMakeZ C) := by
  refine ⟨fun pins s σ H Q I h => ?_⟩
  refine wpAny_Call_Name_kw (ld_glob I hg hm ?_ hdb)
  exact PySem.W.callWith_K0 I.kIn M.kp (run_mkz M I h)
end
/-- one of two: whichever promise holds -/
def tAlt (t1 t2 : TE) : TE := fun σ H Q => t1 σ H Q ∨ t2 σ H Q
theorem pe_alt {X : Cx} {e : Expr} {t1 t2 : TE} (h1 : PE X e t1) (h2 : PE X e t2) : PE X e (tAlt t1 t2) := ⟨fun pins s σ H Q I h => h.elim (h1.run pins s σ H Q I) (h2.run pins s σ H Q I)⟩
/-! a class made in a try's body, its __init__ may raise -/
structure Cix (P : Program) (w : World) (K : PySem.W.Frag) (mg : Str → Option Value) (base : Heap) (C : Addr) (k : Nat) (ps : List Str) (sp : Sp) (dvs : List V := []) : Prop where
  ex : ∃ (f : Addr) (fd : FuncData) (ds : List Value), Mk K C f ∧ FnOk P w K mg base (L2.CX P w) k f fd ps sp ∧ Binds K fd ps ds ∧ Vals dvs ds
def tMakeT (C : Addr) (sp : Sp) (dvs : List V) (E : L2.St → XK) (t : TA) : TE := fun σ H Q => t σ H fun vs H1 => ∀ x dx, H1 x = Option.none → H1 dx = Option.none → dx ≠ x →
  sp (.ref x :: (vs ++ dvs)) (upd (upd H1 dx (.own x)) x (.ins C dx [])) (fun v H2 => v = .non ∧ Q (.ref x) H2) (E σ)
section
variable {X : Cx} {W : WX} {k : Nat} {C f : Addr} {fd : FuncData} {ps : List Str} {sp : Sp} {dvs : List V} {ds : List Value} {E : L2.St → XK} {x : Str} {pn pos : Pos} {e : Expr} {es : List Expr} {t : TA}
theorem run_mkT {pins : List (Addr × Obj)} {σ : L2.St} {H : Hp} {s : Shared} {Q : VK} {us : List Value} {vs : List V} (M : Mk X.K C f) (F : FnOk X.prog X.w X.K X.mg X.base (L2.CX X.prog X.w) k f fd ps sp) (hr : Room (k + 1) X.A) (hb : Binds X.K fd ps ds) (hd : Vals dvs ds) (hx : PassesAt (L2.CX X.prog X.w) X σ (E σ)) (I : Inv X pins σ H s) (r : Vals vs us)
    (h : ∀ x dx, H x = Option.none → H dx = Option.none → dx ≠ x → sp (.ref x :: (vs ++ dvs)) (upd (upd H dx (.own x)) x (.ins C dx [])) (fun v H2 => v = .non ∧ Q (.ref x) H2) (E σ)) : wpAny (model X.prog X.w) X.A (call (.ref C) us) (EP X pins σ Q) X.xe s := by
  have g := h (s.heap.objs.size + 1) s.heap.objs.size (I.hok.fresh (Nat.le_succ _)) (I.hok.fresh (Nat.le_refl _)) (Nat.ne_of_lt (Nat.lt_succ_self _))
  have J := Inv.made (C := C) I
  have rr : Vals (V.ref (s.heap.objs.size + 1) :: (vs ++ dvs)) (Value.ref (s.heap.objs.size + 1) :: (us ++ ds)) := Paired.cons rfl (r.append hd)
  have hl : (Value.ref (s.heap.objs.size + 1) :: us ++ ds).length = ps.length := (rr.length.symm.trans (F.len _ _ _ _ g) : (Value.ref (s.heap.objs.size + 1) :: (us ++ ds)).length = ps.length)
  have run := F.run _ X.stack _ _ ⟨Value.ref (s.heap.objs.size + 1) :: us, []⟩ (Value.ref (s.heap.objs.size + 1) :: (us ++ ds)) _ _ (E σ) (hr.make C us []) (J.env0.make C us []) (hb _ (Value.ref (s.heap.objs.size + 1) :: us) J.kIn hl) rr g
  refine wpAny_call (make_map (f := f) I.kIn M.makes M.init (beq_iff_eq.mp M.fn) (codeAny_mono run fun r s' hq => ?_))
  rcases r with e | fl
  · exact hx pins _ _ e s' J hq
  · rcases fl with _ | _ | _ | u
    · exact hq.elim
    · exact hq.elim
    · exact hq.elim
    · obtain ⟨v, H', I3, rv, ev, q3⟩ := J.after hq
      rw [ev] at rv
      exact ⟨rv, V.ref (s.heap.objs.size + 1), H', I3, rfl, q3⟩
theorem pe_mkxT (D : Cix X.prog X.w X.K X.mg X.base C k ps sp dvs) (hr : Room (k + 1) X.A) (hg : Gl X x) (hm : X.mg x = some (.ref C)) (tw : Takes X W) (ha : PA X (e :: es) t) (hdb : (x == ("__debug__" : Str)) = false := by decide)
    (he : starEach (e :: es) X.env = (false, eval e X.env) :: starEach es X.env := by rfl) (hpl : (backTo pos (starEach es X.env)).any (·.1) = false := by rfl) : PE X (.Call (.Name x pn) (e :: es) [] pos) (tMakeT C sp dvs (WE W) t) := by
  obtain ⟨f, fd, ds, M, F, b, v⟩ := D.ex
  refine ⟨fun pins s σ H Q I h => ?_⟩
  refine wpAny_Call_Name_kw (ld_glob I hg hm ?_ hdb)
  refine PySem.W.callWith_K (h₀ := X.base) I.ok.mod.kin M.kp (thn (ha.run pos pins s σ H _ I h) fun us s1 ⟨vs, H1, I1, r, q⟩ => ⟨I1.kIn, ?_⟩) he hpl
  exact run_mkT (E := WE W) M F hr b v (passAt tw σ) I1 r q
end
section
variable {P : Program} {w : World} {K : PySem.W.Frag} {mg : Str → Option Value} {base : Heap} {C : Addr} {x qual : Str} {st : Stmt} {ps : List Str} {k : Nat} {sp : Sp} {h : Heap}
theorem AtCls.cix (t : AtCls K C "__init__" qual st) (c : AtC K x C) (hb : Bd "__init__" qual st ps) (ok : ∀ (f : Addr) (fd : FuncData), Fun K "__init__" qual st f fd → FnOk P w K mg base (L2.CX P w) k f fd ps sp) : Cix P w K mg base C k ps sp := by
  obtain ⟨f, fd, a, i, F⟩ := t.ex
  exact ⟨f, fd, [], ⟨c.made, a, i, c.kp⟩, ok f fd F, F.binds hb, .nil⟩
/-- a class with no __init__ of its own -/
theorem AtC.mz (c : AtC K x C) (i : PySem.W.findIn K (.ref C) "__init__" = some (some (.builtin "object.__init__"))) : Mz K C := ⟨c.made, i, c.kp⟩
end
end Cl

/-! ### keepers: a moment that is checked, the greatest number of carries (for the laws without lives; keepf.lean has the same) -/
namespace Cl
open PySem PySem.Spec PyProof.Rows L2 StX ClX PySem.Builtin PySem.Builtin.Str
def mostN (l : List Bool) (p : Int) (bs : List Int) (ph : Int) : Nat := if (l.length : Int) = p then 0 else min (bud bs ph 0) (l.count true)
section
variable {P : Program} {w : World} {K : PySem.W.Frag} {mg : Str → Option Value} {base : Heap} {C : Addr}
def spCkRound (C : Addr) : Sp := fun vs H Q _ => ∃ (r : Addr) (bs : List Int), vs = [.ref r] ∧ RoundAt C H r bs ∧ Q .non H
theorem scCheckRound : FnScope ["budgets"] ["budgets"] (defScope sCheckRound) := ⟨rfl, rfl, rfl, by decide +kernel, rfl, by decide +kernel, by decide +kernel⟩
theorem ok_check_round {f : Addr} {fd : FuncData} (F : Fun K "check_round" "check_round" sCheckRound f fd) (B : Bi mg) (R_Round : ClsC K mg "Round" C) : FnOk P w K mg base CX0 1 f fd ["budgets"] (spCkRound C) := by
  refine F.ok scCheckRound (fun vs H Q E h => ?_) (fun cdv A outer s H vs Q E hr h => ?_)
  · obtain ⟨r, bs, rfl, _⟩ := h
    rfl
  · obtain ⟨r, bs, rfl, ⟨dx, t, h1, h2⟩, k⟩ := h
    refine ⟨_, (pss_one (ps_if (pt_not (pt_val (pe_callB (C8.call_isC R_Round.ic) (by rfl) B.isinstance (by decide +kernel) (pa_cons (pv 0) (pa_cons (pe_cls R_Round rfl) pa_nil))))) (pss_one ps_never)
  pss_nil)), ?_⟩
    exact ⟨_, rfl, r, dx, _, rfl, h1, true, rfl, k⟩
def spMoment (C : Addr) : Sp := fun vs H Q _ => ∃ (l : List Bool) (p : Int) (r : Addr) (bs : List Int) (ph : Int), vs = [.str (tx l), .int p, .ref r, .int ph] ∧ Wd l ∧ l.length ≤ 9000 ∧ (l.length : Int) ≤ p ∧ 1 ≤ p ∧ RoundAt C H r bs ∧ 0 ≤ ph ∧ Q .non H
theorem scCheckMoment : FnScope ["word", "places", "budgets", "phase"] ["word", "places", "budgets", "phase"] (defScope sCheckMoment) := ⟨rfl, rfl, rfl, by decide +kernel, rfl, by decide +kernel, by decide +kernel⟩
theorem ok__check_moment {f : Addr} {fd : FuncData} (F : Fun K "_check_moment" "_check_moment" sCheckMoment f fd) (B : Bi mg) (D_check_word : Dn P w K mg base "check_word" 3 ["word", "field"] spCheckWord) (D_check_least : Dn P w K mg base "check_least" 2 ["value", "least", "field"] spCheckLeast) (D_check_round : Dn P w K mg base "check_round" 1 ["budgets"] (spCkRound C)) :
    FnOk P w K mg base CX0 4 f fd ["word", "places", "budgets", "phase"] (spMoment C) := by
  refine F.ok scCheckMoment (fun vs H Q E h => ?_) (fun cdv A outer s H vs Q E hr h => ?_)
  · obtain ⟨l, p, r, bs, ph, rfl, _⟩ := h
    rfl
  · obtain ⟨l, p, r, bs, ph, rfl, W, l9, lp, p1, hR, ph0, k⟩ := h
    refine ⟨_, (pss_cons (ps_expr (pe_dn D_check_word (hr.mono (by decide)) (by rfl) pass0 (pa_cons (pv 0) (pa_cons pe_str pa_nil))))
  (pss_cons (ps_expr (pe_dn D_check_least (hr.mono (by decide)) (by rfl) pass0 (pa_cons (pv 1) (pa_cons pe_int (pa_cons pe_str pa_nil)))))
  (pss_cons (ps_expr (pe_dn D_check_round (hr.mono (by decide)) (by rfl) pass0 (pa_cons (pv 2) pa_nil)))
  (pss_cons (ps_expr (pe_dn D_check_least (hr.mono (by decide)) (by rfl) pass0 (pa_cons (pv 3) (pa_cons pe_int (pa_cons pe_str pa_nil)))))
  (pss_one (ps_if (pt_cmpR op_gt (pe_callB call_len_str (by rfl) B.len PySem.boot_len (pa_cons (pv 0) pa_nil)) (pv 1) (nomark _)) (pss_one ps_never)
  pss_nil)))))), ?_⟩
    walk_at "rd"
    refine ⟨by omega, W, ?_⟩
    walk_at "rd"
    refine ⟨p1, ?_⟩
    walk_at "rd"
    refine ⟨r, bs, rfl, hR, ?_⟩
    walk_at "rd"
    refine ⟨ph0, ?_⟩
    walk_at "rd"
    refine ⟨small_le (by rw [tx_len]; have : (20000 : Nat) ≤ sizeLine := by decide
                         omega), ?_⟩
    walk_at "rd"
    rw [tx_len, decide_eq_false (by omega)]
    exact iteF k
def spMost (C : Addr) : Sp := fun vs H Q _ => ∃ (l : List Bool) (p : Int) (r : Addr) (bs : List Int) (ph : Int), vs = [.str (tx l), .int p, .ref r, .int ph] ∧ Wd l ∧ l.length ≤ 9000 ∧ Okb bs ∧ RoundAt C H r bs ∧ 0 ≤ ph ∧ Q (.int (mostN l p bs ph : Nat)) H
theorem scMostCarries : FnScope ["word", "places", "budgets", "phase"] ["word", "places", "budgets", "phase"] (defScope sMostCarries) := ⟨rfl, rfl, rfl, by decide +kernel, rfl, by decide +kernel, by decide +kernel⟩
theorem ok_most_carries {f : Addr} {fd : FuncData} (F : Fun K "most_carries" "most_carries" sMostCarries f fd) (B : Bi mg) (R_Round : ClsC K mg "Round" C) (M_Round_at : Mn P w K mg base C "at" 3 ["self", "t"] (spAt C)) (D_living : Dn P w K mg base "living" 4 ["word"] spLiving) :
    FnOk P w K mg base CX0 5 f fd ["word", "places", "budgets", "phase"] (spMost C) := by
  refine F.ok scMostCarries (fun vs H Q E h => ?_) (fun cdv A outer s H vs Q E hr h => ?_)
  · obtain ⟨l, p, r, bs, ph, rfl, _⟩ := h
    rfl
  · obtain ⟨l, p, r, bs, ph, rfl, W, l9, ok, hR, ph0, k⟩ := h
    refine ⟨_, (pss_cons (ps_if (pt_cmpR op_eq (pe_callB call_len_str (by rfl) B.len PySem.boot_len (pa_cons (pv 0) pa_nil)) (pv 1) (nomark _)) (pss_one (ps_ret pe_int))
  pss_nil)
  (pss_one (ps_ret (pe_callB (call_min2 rfl) (by rfl) B.min (by decide +kernel) (pa_cons (pe_mn M_Round_at R_Round.cl (hr.mono (by decide)) pass0 (pv 2) (pa_cons (pv 3) pa_nil)) (pa_cons (pe_dn D_living (hr.mono (by decide)) (by rfl) pass0 (pa_cons (pv 0) pa_nil)) pa_nil)))))), ?_⟩
    walk_at "rd"
    refine ⟨small_le (by rw [tx_len]; have : (20000 : Nat) ≤ sizeLine := by decide
                         omega), ?_⟩
    walk_at "rd"
    rw [tx_len]
    unfold mostN at k
    refine iti (fun e => ?_) (fun e => ?_)
    · rw [if_pos e] at k
      walk_at "rd"
      exact k
    · rw [if_neg e] at k
      obtain ⟨dx, t, hr1, hr2⟩ := hR
      have hR : RoundAt C H r bs := ⟨dx, t, hr1, hr2⟩
      obtain ⟨z, hz, z0, ez⟩ := bud_at (ph := ph) ok 0
      rw [show ph + ((0 : Nat) : Int) = ph by omega] at hz
      walk_at "rd"
      refine ⟨r, dx, _, rfl, hr1, no_ "at" (by decide) t, ?_⟩
      walk_at "rd"
      refine ⟨r, bs, ph, z, rfl, hR, ok, ph0, hz, ?_⟩
      walk_at "rd"
      refine ⟨by omega, W, ?_⟩
      walk_at "rd"
      have e2 : (if ((l.count true : Nat) : Int) < z then ((l.count true : Nat) : Int) else z) = ((min (bud bs ph 0) (l.count true) : Nat) : Int) := by
        split <;> omega
      rw [e2]
      exact k
end
end Cl

/-! ### what the laws of keepers share: the box that is drawn from beside the script -/
namespace Cl
open PySem PySem.Spec PyProof.Rows L2 StX ClX PySem.Builtin PySem.Builtin.Str
/-- a box stands at b, made behind the heap H0: drawn from, it stays one -/
def BoxS (H0 H : Hp) (b : Addr) : Prop := H0 b = none ∧ Same H0 H ∧ ∃ (c0 c1 c2 : Int) (c3 : Nat), H b = some (.lst [.int c0, .int c1, .int c2, .int (c3 : Nat)])
theorem BoxS.seq {K : PySem.W.Frag} {H0 H : Hp} {b a : Addr} {xs : List V} (h : BoxS H0 H b) (s : SqL K H0 a xs) : SqL K H a xs := h.2.1.seq s
theorem BoxS.same {H0 H H' : Hp} {b : Addr} (h : BoxS H0 H b) (x : Same H H') : BoxS H0 H' b := by
  obtain ⟨h0, h1, c0, c1, c2, c3, e⟩ := h
  exact ⟨h0, h1.trans x, c0, c1, c2, c3, x _ _ e⟩
theorem BoxS.ne {H0 H : Hp} {b p : Addr} (h : BoxS H0 H b) (hp : H p = none) : p ≠ b := fun z => by
  obtain ⟨h0, h1, c0, c1, c2, c3, e⟩ := h
  rw [z, e] at hp; cases hp
theorem BoxS.put {H0 H : Hp} {b p : Addr} {o : HO} (h : BoxS H0 H b) (hp : H p = none) : BoxS H0 (upd H p o) b := h.same (Same.upd hp)
/-- the other box stands while one is drawn from -/
theorem BoxS.but {H0 H H' : Hp} {a b : Addr} (h : BoxS H0 H b) (n : b ≠ a) (h0 : H0 a = none) (x : But a H H') : BoxS H0 H' b := by
  obtain ⟨h1, h2, c0, c1, c2, c3, e⟩ := h
  exact ⟨h1, fun c o hc => x c o (ne_of_none hc h0) (h2 c o hc), c0, c1, c2, c3, x _ _ n e⟩
theorem BoxS.set {H0 H : Hp} {b D : Addr} {o : HO} (h : BoxS H0 H b) (n : D ≠ b) (h0 : H0 D = none) : BoxS H0 (upd H D o) b := by
  obtain ⟨a1, a2, c0, c1, c2, c3, e⟩ := h
  exact ⟨a1, fun c u hc => by rw [upd_ne (ne_of_none hc h0)]; exact a2 c u hc, c0, c1, c2, c3, by rw [upd_ne n.symm]; exact e⟩
theorem But.grow {a D : Addr} {H G : Hp} {o : HO} (h : But a H G) (hD : H D = none) : But a H (L2.upd G D o) := fun c u n e => by
  rw [upd_ne (ne_of_none e hD)]; exact h c u n e
theorem BoxS.neL {H0 H : Hp} {b p : Addr} {xs : List V} (h : BoxS H0 H b) (hp : H p = some (.lst xs)) (hx : xs.length ≠ 4) : p ≠ b := fun z => by
  obtain ⟨h0, h1, c0, c1, c2, c3, e⟩ := h
  rw [z, e] at hp
  cases hp
  exact hx rfl
theorem BoxS.neI {H0 H : Hp} {b p C dx : Addr} {fs : List (Str × V)} (h : BoxS H0 H b) (hp : H p = some (.ins C dx fs)) : p ≠ b := fun z => by
  obtain ⟨h0, h1, c0, c1, c2, c3, e⟩ := h
  rw [z, e] at hp
  cases hp
theorem BoxS.neT {H0 H : Hp} {b p : Addr} {xs : List V} (h : BoxS H0 H b) (hp : H p = some (.tup xs)) : p ≠ b := fun z => by
  obtain ⟨h0, h1, c0, c1, c2, c3, e⟩ := h
  rw [z, e] at hp
  cases hp
theorem RoundAt.butS {C a r : Addr} {H0 H H' : Hp} {bs : List Int} (h : RoundAt C H r bs) (x : But a H H') (b : BoxS H0 H a) : RoundAt C H' r bs := by
  obtain ⟨dx, t, h1, h2⟩ := h
  exact ⟨dx, t, x _ _ (b.neI h1) h1, x _ _ (b.neT h2) h2⟩
section
variable {P : Program} {w : World} {K : PySem.W.Frag} {mg : Str → Option Value} {base : Heap} {C : Addr}
def spBoxS (K : PySem.W.Frag) : Sp := fun vs H Q _ => ∃ (sa : Addr) (ns : List Int) (i : Nat) (H0 : Hp), vs = [.ref sa, .int (i : Nat)] ∧ SqL K H0 sa (ns.map V.int) ∧ Same H0 H ∧ ns.length ≤ 63 ∧ ∀ (b : Addr) (H' : Hp), H b = none → BoxS H0 H' b → Same H H' → Q (.ref b) H'
theorem scLawBox : FnScope ["script", "at", "seed", "cell"] ["script", "at"] (defScope sLawBox) := ⟨rfl, rfl, rfl, by decide +kernel, rfl, by decide +kernel, by decide +kernel⟩
theorem ok__law_box {f : Addr} {fd : FuncData} (F : Fun K "_law_box" "_law_box" sLawBox f fd) (B : Bi mg) : FnOk P w K mg base CX0 1 f fd ["script", "at"] (spBoxS K) := by
  refine F.ok scLawBox (fun vs H Q E h => ?_) (fun cdv A outer s H vs Q E hr h => ?_)
  · obtain ⟨a, ns, i, H0, rfl, _⟩ := h
    rfl
  · obtain ⟨sa, ns, i, H0, rfl, hs0, hS0, hn, k⟩ := h
    refine ⟨_, (pss_cons (ps_set (i := 2) scLawBox.nd rfl (Or.inl rfl) (pe_callB (cr_sum rfl) (by rfl) B.sum (by decide +kernel) (pa_cons (pe_lc (own := [("cell", 3)]) (g := gName 3) rfl scLawBox.nd (pi_list (pe_slice sl_list (pv 0) po_none (po_some pe_int))) (blkOk_by (own := [("cell", 3)]) (N := ["script", "at", "seed", "cell"]) (sc := defScope sLawBox) (by decide +kernel)) (fun _ _ _ _ _ => (pg_name (i := 3) scLawBox.nd rfl (Or.inl rfl))) (fun _ _ _ _ _ => pts_nil) (fun _ _ _ _ _ => (pe_op op_mod (pe_callTy call_int1 (by rfl) B.intT (by decide +kernel) (pa_cons (pv 3) pa_nil)) pe_int))) pa_nil)))
  (pss_one (ps_ret (pe_lst (pa_cons pe_int (pa_cons (pe_op op_mod (pe_callTy call_int1 (by rfl) B.intT (by decide +kernel) (pa_cons (pe_op op_add (pe_op op_add (pv 2) (pe_op op_mul pe_int (pv 1))) pe_int) pa_nil)) pe_int) (pa_cons pe_int (pa_cons (pv 1) pa_nil)))))))), ?_⟩
    have hs := hS0.seq hs0
    walk_at "rd"
    refine ⟨sa, _, rfl, hs, fun u hu => ?_⟩
    rw [show cutV (ns.map V.int) none (some (63 : Int)) = (ns.take 63).map V.int from (tcut_to (f := 63)).trans (List.map_take ..).symm]
    rw [List.take_of_length_le hn]
    refine ⟨u, rfl, ⟨_, SqL.of upd_same⟩, fun D hD => ?_⟩
    refine lc_growL (fun x => match x with | .int i => .int (i % 1000003) | v => v) (SqL.of upd_same) hD (by rw [List.length_map]; omega) ?_ ?_
    · intro x H2 R hx hS2 h
      obtain ⟨e, he, rfl⟩ := List.mem_map.mp hx
      refine ⟨rfl, ?_⟩
      walk_at "rd"
      exact h _ (Same.refl _)
    · intro H2 hS2 hD2
      rw [List.map_map] at hD2
      walk_at "rd"
      refine ⟨D, ns.map (fun e => e % 1000003), rfl, SqL.of (by rw [hD2, List.map_map]; rfl), ?_⟩
      walk_at "rd"
      refine ⟨by show 4 ≤ sizeLine; decide, fun b hb => ?_⟩
      have S2 := (Same.upd (o := .lst (ns.map V.int)) hu).trans hS2
      exact k b _ (S2.free hb) ⟨(hS0.trans S2).free hb, (hS0.trans S2).trans (Same.upd hb), _, _, _, i, upd_same⟩ (S2.trans (Same.upd hb))
def spTakeX (K : PySem.W.Frag) : Sp := fun vs H Q _ => ∃ (sa b : Addr) (z : Int) (ns : List Int) (H0 : Hp), vs = [.ref sa, .ref b, .int z] ∧ SqL K H0 sa (ns.map V.int) ∧ BoxS H0 H b ∧ 1 ≤ z ∧ z ≤ 100000000000000000000000000000000000000000000000000000000000000 ∧ ∀ (d : Int) (H' : Hp), 0 ≤ d → d < z → BoxS H0 H' b → But b H H' → Q (.int d) H'
theorem scLawTake : FnScope ["script", "box", "many", "cell", "digit"] ["script", "box", "many"] (defScope sLawTake) := ⟨rfl, rfl, rfl, by decide +kernel, rfl, by decide +kernel, by decide +kernel⟩
set_option maxHeartbeats 0 in
theorem ok__law_take {f : Addr} {fd : FuncData} (F : Fun K "_law_take" "_law_take" sLawTake f fd) (B : Bi mg) : FnOk P w K mg base CX0 1 f fd ["script", "box", "many"] (spTakeX K) := by
  refine F.ok scLawTake (fun vs H Q E h => ?_) (fun cdv A outer s H vs Q E hr h => ?_)
  · obtain ⟨sa, b, z, ns, H0, rfl, _⟩ := h
    rfl
  · obtain ⟨sa, b, z, ns, H0, rfl, hs, ⟨hb0, hS0, c0, c1, c2, c3, hb⟩, z1, z2, k⟩ := h
    refine ⟨_, (C8.pss_cut (ps_if (PW.pt (pw_and (pt_cmpR op_eq (pe_ix ix_list (pv 1) pe_int (fun _ _ => rfl)) pe_int (nomark _)) (pw_and1 (pt_cmpR op_lt (pe_ix ix_list (pv 1) pe_int (fun _ _ => rfl)) (pe_callB (call_min2 rfl) (by rfl) B.min (by decide +kernel) (pa_cons pe_int (pa_cons (pe_callB call_len_seq (by rfl) B.len PySem.boot_len (pa_cons (pv 0) pa_nil)) pa_nil))) (nomark _))))) (pss_cons (ps_set (i := 3) scLawTake.nd rfl (Or.inl rfl) (pe_callTy call_int1 (by rfl) B.intT (by decide +kernel) (pa_cons (pe_ix ix_list (pv 0) (pe_ix ix_list (pv 1) pe_int (fun _ _ => rfl)) (fun _ _ => rfl)) pa_nil)))
  (pss_cons (ps_asg (pe_op op_add (pe_ix ix_list (pv 1) pe_int (fun _ _ => rfl)) pe_int) (pg_sub (pv 1) pe_int set_list))
  (pss_cons (ps_asg (pe_op op_mod (pe_callTy call_int1 (by rfl) B.intT (by decide +kernel) (pa_cons (pe_op op_add (pe_op op_add (pe_op op_mul (pe_ix ix_list (pv 1) pe_int (fun _ _ => rfl)) pe_int) (pv 3)) pe_int) pa_nil)) pe_int) (pg_sub (pv 1) pe_int set_list))
  (pss_one (ps_if (pt_cmpR op_ge (pe_callB call_abs (by rfl) B.abs (by decide +kernel) (pa_cons (pv 3) pa_nil)) (pe_op op_pow pe_int pe_int) (nomark _)) (pss_one (ps_asg (pe_callB call_abs (by rfl) B.abs (by decide +kernel) (pa_cons (pv 3) pa_nil)) (pg_sub (pv 1) pe_int set_list)))
  pss_nil)))))
  pss_nil)
  (pss_cons (ps_if (pt_cmpR op_gt (pe_ix ix_list (pv 1) pe_int (fun _ _ => rfl)) pe_int (nomark _)) (pss_cons (ps_set (i := 4) scLawTake.nd rfl (Or.inl rfl) (pe_op op_mod (pe_callTy call_int1 (by rfl) B.intT (by decide +kernel) (pa_cons (pe_ix ix_list (pv 1) pe_int (fun _ _ => rfl)) pa_nil)) (pv 2)))
  (pss_cons (ps_asg (pe_op op_fdivW (pe_ix ix_list (pv 1) pe_int (fun _ _ => rfl)) (pv 2)) (pg_sub (pv 1) pe_int set_list))
  (pss_one (ps_ret (pv 4)))))
  pss_nil)
  (pss_cons (ps_asg (pe_op op_add (pe_ix ix_list (pv 1) pe_int (fun _ _ => rfl)) pe_int) (pg_sub (pv 1) pe_int set_list))
  (pss_cons (ps_asg (pe_op op_mod (pe_callTy call_int1 (by rfl) B.intT (by decide +kernel) (pa_cons (pe_op op_add (pe_op op_add (pe_op op_mul (pe_ix ix_list (pv 1) pe_int (fun _ _ => rfl)) pe_int) (pe_op op_mul (pe_ix ix_list (pv 1) pe_int (fun _ _ => rfl)) pe_int)) pe_int) pa_nil)) pe_int) (pg_sub (pv 1) pe_int set_list))
  (pss_one (ps_ret (pe_op op_mod (pe_op op_fdiv (pe_op op_mod (pe_callTy call_int1 (by rfl) B.intT (by decide +kernel) (pa_cons (pe_op op_add (pe_op op_mul (pe_op op_fdiv (pe_ix ix_list (pv 1) pe_int (fun _ _ => rfl)) pe_int) pe_int) (pe_op op_mul (pe_ix ix_list (pv 1) pe_int (fun _ _ => rfl)) pe_int)) pa_nil)) pe_int) pe_int) (pv 2)))))))), ?_⟩
    have go : ∀ H1 : Hp, But b H H1 → Same H0 H1 := fun H1 x c o hc => x c o (ne_of_none hc hb0) (hS0 c o hc)
    refine ⟨fun σ H1 => ∃ (x : Option V) (c0 c1 c2 : Int) (c3 : Nat), σ = [some (.ref sa), some (.ref b), some (.int z), x, none] ∧ H1 b = some (.lst [.int c0, .int c1, .int c2, .int (c3 : Nat)]) ∧ But b H H1, ?_, ?_⟩
    · walk_at "rd"
      refine ⟨b, _, _, _, rfl, rfl, SqL.of hb, rfl, ?_⟩
      walk_at "rd"
      refine iti (fun e0 => ?_) (fun e0 => ?_)
      · walk_at "rd"
        refine ⟨b, _, _, _, rfl, rfl, SqL.of hb, rfl, ?_⟩
        walk_at "rd"
        refine ⟨sa, _, rfl, .inl (hS0.seq hs), ?_⟩
        walk_at "rd"
        rw [List.length_map]
        refine itd (fun e1 => ?_) (fun e1 => ?_)
        · have hc : c3 < ns.length := by
            split at e1 <;> omega
          walk_at "rd"
          refine ⟨b, _, _, _, rfl, rfl, SqL.of hb, rfl, ?_⟩
          have hat : (ns.map V.int)[c3]? = some (V.int ns[c3]) := by rw [List.getElem?_map, List.getElem?_eq_getElem hc]; rfl
          refine ⟨sa, _, _, _, rfl, rfl, hS0.seq hs, atI_nat hat, ?_⟩
          generalize ns[c3] = cell
          walk_at "rd"
          refine ⟨b, _, _, _, rfl, rfl, SqL.of hb, rfl, ?_⟩
          walk_at "rd"
          refine ⟨b, _, _, 3, rfl, rfl, hb, rfl, ?_⟩
          have hb1 : upd H b (.lst [V.int c0, .int c1, .int c2, .int ((c3 : Nat) + 5)]) b = some (.lst [.int c0, .int c1, .int c2, .int ((c3 + 5 : Nat) : Int)]) := by rw [upd_same]; rfl
          have b1 : But b H (upd H b (.lst [V.int c0, .int c1, .int c2, .int ((c3 : Nat) + 5)])) := But.upd
          walk_at "rd"
          refine ⟨b, _, _, _, rfl, rfl, SqL.of hb1, rfl, ?_⟩
          walk_at "rd"
          refine ⟨b, _, _, 1, rfl, rfl, hb1, rfl, ?_⟩
          have hb2 : ∀ y : Int, upd (upd H b (.lst [V.int c0, .int c1, .int c2, .int ((c3 : Nat) + 5)])) b (.lst [V.int c0, .int y, .int c2, .int ((c3 + 5 : Nat) : Int)]) b = some (.lst [.int c0, .int y, .int c2, .int ((c3 + 5 : Nat) : Int)]) := fun y => upd_same
          walk_at "rd"
          refine itd (fun e2 => ?_) (fun e2 => ?_)
          · walk_at "rd"
            refine ⟨b, _, _, 0, rfl, rfl, hb2 _, rfl, ?_⟩
            exact ⟨_, _, _, _, c3 + 5, rfl, upd_same, (b1.trans But.upd).trans But.upd⟩
          · exact ⟨_, _, _, _, c3 + 5, rfl, hb2 _, b1.trans But.upd⟩
        · exact ⟨_, _, _, _, _, rfl, hb, But.refl _ _⟩
      · exact ⟨_, _, _, _, _, rfl, hb, But.refl _ _⟩
    · rintro σ H1 ⟨x, c0, c1, c2, c3, rfl, hb, hB⟩
      walk_at "rd"
      refine ⟨b, _, _, _, rfl, rfl, SqL.of hb, rfl, ?_⟩
      walk_at "rd"
      refine itd (fun e => ?_) (fun e => ?_)
      · walk_at "rd"
        refine ⟨b, _, _, _, rfl, rfl, SqL.of hb, rfl, ?_⟩
        walk_at "rd"
        refine ⟨by show (0 : Int) < z; omega, ?_⟩
        walk_at "rd"
        refine ⟨b, _, _, _, rfl, rfl, SqL.of hb, rfl, ?_⟩
        walk_at "rd"
        refine ⟨divB (by omega) z2, ?_⟩
        walk_at "rd"
        refine ⟨b, _, _, 0, rfl, rfl, hb, rfl, ?_⟩
        walk_at "rd"
        exact k _ _ (Int.emod_nonneg _ (by omega)) (Int.emod_lt_of_pos _ (by omega)) ⟨hb0, go _ (hB.trans But.upd), _, _, _, c3, upd_same⟩ (hB.trans But.upd)
      · walk_at "rd"
        refine ⟨b, _, _, _, rfl, rfl, SqL.of hb, rfl, ?_⟩
        walk_at "rd"
        refine ⟨b, _, _, 2, rfl, rfl, hb, rfl, ?_⟩
        have hb1 : upd H1 b (.lst [V.int c0, .int c1, .int (c2 + 1), .int ((c3 : Nat))]) b = some (.lst [.int c0, .int c1, .int (c2 + 1), .int ((c3 : Nat) : Int)]) := upd_same
        walk_at "rd"
        refine ⟨b, _, _, _, rfl, rfl, SqL.of hb1, rfl, ?_⟩
        walk_at "rd"
        refine ⟨b, _, _, _, rfl, rfl, SqL.of hb1, rfl, ?_⟩
        walk_at "rd"
        refine ⟨b, _, _, 1, rfl, rfl, hb1, rfl, ?_⟩
        have hb2 : ∀ y : Int, upd (upd H1 b (.lst [V.int c0, .int c1, .int (c2 + 1), .int ((c3 : Nat))])) b (.lst [V.int c0, .int y, .int (c2 + 1), .int (c3 : Nat)]) b = some (.lst [.int c0, .int y, .int (c2 + 1), .int (c3 : Nat)]) := fun y => upd_same
        walk_at "rd"
        refine ⟨b, _, _, _, rfl, rfl, SqL.of (hb2 _), rfl, ?_⟩
        walk_at "rd"
        refine ⟨b, _, _, _, rfl, rfl, SqL.of (hb2 _), rfl, ?_⟩
        walk_at "rd"
        refine ⟨by show (0 : Int) < z; omega, ?_⟩
        have bb := fun (o : HO) => hB.trans ((But.upd (a := b) (o := .lst [V.int c0, .int c1, .int (c2 + 1), .int ((c3 : Nat))])).trans (But.upd (o := o)))
        exact k _ _ (Int.emod_nonneg _ (by omega)) (Int.emod_lt_of_pos _ (by omega)) ⟨hb0, go _ (bb _), _, _, _, c3, hb2 _⟩ (bb _)
end
end Cl

/-! ### a law's counts and rounds (kcnt.lean, for the laws without lawb.lean) -/
namespace Cl
open PySem PySem.Spec PyProof.Rows L2 StX ClX PySem.Builtin PySem.Builtin.Str
theorem sck0 {x0 : V} {r : List V} : atI (x0 :: r) 0 = some x0 := atI_nat (j := 0) rfl
theorem int_of_map2 {ns : List Int} {i : Nat} {y : V} (h : (ns.map V.int)[i]? = some y) : ∃ z, ns[i]? = some z ∧ y = V.int z := by
  rw [List.getElem?_map] at h
  obtain ⟨z, hz, rfl⟩ := Option.map_eq_some_iff.mp h
  exact ⟨z, hz, rfl⟩
theorem But.none2 {a p : Addr} {H H1 : Hp} (x : But a H H1) (n : p ≠ a) (h : H1 p = Option.none) : H p = Option.none := by
  cases q : H p with
  | none => rfl
  | some o => rw [x p o n q] at h; cases h
/-- a comprehension whose element draws: St holds of the heap all the while -/
theorem made_same {H H1 : Hp} {x dx C : Addr} {fs : List (Str × V)} (hx : H x = none) (hdx : H dx = none) (h3 : ∀ b o, b ≠ x → upd (upd H dx (.own x)) x (.ins C dx fs) b = some o → H1 b = some o) : Same H H1 := fun b o e => by
  refine h3 b o (ne_of_none e hx) ?_
  rw [upd_ne (ne_of_none e hx), upd_ne (ne_of_none e hdx)]
  exact e
section
variable {P : Program} {w : World} {K : PySem.W.Frag} {mg : Str → Option Value} {base : Heap} {C : Addr}
def spCount : Sp := fun vs H Q _ => ∃ n : Int, vs = [.int n] ∧ Q (.bl true) H
theorem scLawIsCount : FnScope ["thing"] ["thing"] (defScope sLawIsCount) := ⟨rfl, rfl, rfl, by decide +kernel, rfl, by decide +kernel, by decide +kernel⟩
theorem ok__law_is_count {f : Addr} {fd : FuncData} (F : Fun K "_law_is_count" "_law_is_count" sLawIsCount f fd) (B : Bi mg) : FnOk P w K mg base CX0 1 f fd ["thing"] spCount := by
  refine F.ok scLawIsCount (fun vs H Q E h => ?_) (fun cdv A outer s H vs Q E hr h => ?_)
  · obtain ⟨n, rfl, _⟩ := h
    rfl
  · obtain ⟨n, rfl, k⟩ := h
    refine ⟨_, (pss_one (ps_ret (pe_and (pe_callB call_isi (by rfl) B.isinstance (by decide +kernel) (pa_cons (pv 0) (pa_cons (pe_bltn (v := .ty "int") (by rfl) B.intT (by decide +kernel) rfl) pa_nil))) (pe_one (pe_not (pe_callB call_isi (by rfl) B.isinstance (by decide +kernel) (pa_cons (pv 0) (pa_cons (pe_bltn (v := .ty "bool") (by rfl) B.boolT (by decide +kernel) rfl) pa_nil)))))))), ?_⟩
    walk_at "rd"
    refine ⟨_, _, _, _, _, rfl, .ty _, .base (.int _), kit_ii _, true, rfl, iteT ?_⟩
    refine ⟨_, rfl, _, _, _, _, _, rfl, .ty _, .base (.int _), kit_ib _, false, rfl, k⟩
def spRoundL (C : Addr) : Sp := fun vs H Q _ => ∃ (p : Addr) (bs : List Int), vs = [.ref p] ∧ H p = some (.lst (bs.map V.int)) ∧ Okb bs ∧ ∀ (x : Addr) (H' : Hp), RoundAt C H' x bs → Same H H' → Q (.ref x) H'
theorem scLawRound : FnScope ["pays", "made", "pay"] ["pays"] (defScope sLawRound) := ⟨rfl, rfl, rfl, by decide +kernel, rfl, by decide +kernel, by decide +kernel⟩
theorem ok__law_round {f : Addr} {fd : FuncData} (F : Fun K "_law_round" "_law_round" sLawRound f fd) (B : Bi mg) (R_Round : ClsC K mg "Round" C) (MK_Round : Cn P w K mg base C 3 (spInit C)) (O_Round___add__ : On P w K mg base C "__add__" 5 ["self", "other"] (spAddR C)) : FnOk P w K mg base CX0 7 f fd ["pays"] (spRoundL C) := by
  refine F.ok scLawRound (fun vs H Q E h => ?_) (fun cdv A outer s H vs Q E hr h => ?_)
  · obtain ⟨p, bs, rfl, _⟩ := h
    rfl
  · obtain ⟨p, bs, rfl, hp, ok, k⟩ := h
    refine ⟨_, (pss_cons (ps_set (i := 1) scLawRound.nd rfl (Or.inl rfl) (pe_mkR MK_Round (hr.mono (by decide)) rfl R_Round.mg pass0 (pa_cons (pe_ix ix_list (pv 0) pe_int (fun _ _ => rfl)) pa_nil)))
  (pss_cons (ps_for PassesOwn.never rfl (pi_list (pe_slice sl_list (pv 0) (po_some pe_int) po_none)) (pg_name (i := 2) scLawRound.nd rfl (Or.inl rfl))
  (pss_one (ps_set (i := 1) scLawRound.nd rfl (Or.inl rfl) (pe_op (op_addN O_Round___add__ R_Round (hr.mono (by decide))) (pv 1) (pe_mkR MK_Round (hr.mono (by decide)) rfl R_Round.mg pass0 (pa_cons (pv 2) pa_nil))))))
  (pss_one (ps_ret (pv 1))))), ?_⟩
    obtain ⟨b0, br, rfl⟩ : ∃ b0 br, bs = b0 :: br := by
      cases bs with
      | nil => exact absurd ok.l1 (by decide)
      | cons b r => exact ⟨b, r, rfl⟩
    have l2 : br.length + 1 ≤ 12 := ok.l2
    have sub : ∀ m, Okb (b0 :: br.take m) := fun m => ⟨by simp, by rw [List.length_cons, List.length_take]; omega, fun b hb => ok.nn b (by
      rcases List.mem_cons.mp hb with h | h
      · rw [h]; exact List.mem_cons_self
      · exact List.mem_cons_of_mem _ (List.mem_of_mem_take h))⟩
    walk_at "rd"
    refine ⟨p, _, _, _, rfl, rfl, SqL.of hp, sck0, ?_⟩
    intro x dx' hx hdx nd
    refine ⟨x, dx', [b0], rfl, upd_same, sub 0, fun t H1 ht h1 h2 h3 => ⟨rfl, ?_⟩⟩
    have hR : RoundAt C H1 x [b0] := ⟨dx', t, h1, h2⟩
    have S1 := made_same hx hdx h3
    have hp1 := S1 _ _ hp
    walk_at "rd"
    refine ⟨p, _, rfl, SqL.of hp1, fun u hu => ?_⟩
    rw [show cutV ((b0 :: br).map V.int) (some (1 : Int)) none = br.map V.int from (tcut_from (f := 1)).trans (by rw [List.map_cons]; rfl)]
    refine ⟨u, rfl, ⟨_, SqL.of upd_same⟩, ?_⟩
    refine for_list (xs := br.map V.int) (fun i σ H' => ∃ (y : Addr) (v : Option V), σ = [some (.ref p), some (.ref y), v] ∧ RoundAt C H' y (b0 :: br.take i) ∧ Same (upd H1 u (.lst (br.map V.int))) H') ⟨x, _, rfl, hR.same (Same.upd hu), Same.refl _⟩ ?_ ?_ ?_
    · rintro i σ G hi ⟨y, v, rfl, gR, gS⟩
      exact SqL.of (gS _ _ upd_same)
    · rintro i v σ G hv ⟨y, v0, rfl, gR, gS⟩
      obtain ⟨b, hb, rfl⟩ := int_of_map2 hv
      have hb2 := ok.nn b (List.mem_cons_of_mem _ (List.mem_of_getElem? hb))
      have hi : i < br.length := (List.getElem?_eq_some_iff.mp hb).1
      walk_at "rd"
      intro x2 dx2 hx2 hdx2 nd2
      refine ⟨x2, dx2, [b], rfl, upd_same, ok1 hb2.1 hb2.2, fun t2 G2 ht2 g1 g2 g3 => ⟨rfl, ?_⟩⟩
      have gR2 : RoundAt C G2 x2 [b] := ⟨dx2, t2, g1, g2⟩
      have S2 := made_same hx2 hdx2 g3
      have gRy := gR.same S2
      obtain ⟨dy, ty, y1, y2⟩ := id gRy
      refine ⟨y, x2, dy, dx2, _, _, rfl, rfl, y1, g1, y, x2, b0 :: br.take i, [b], rfl, gRy, gR2, sub i, ok1 hb2.1 hb2.2, by rw [List.length_cons, List.length_take]; show _ + 1 ≤ 12; omega, fun z G3 hz gR3 S3 => ?_⟩
      refine ⟨z, _, rfl, ?_, (gS.trans S2).trans S3⟩
      have e : b0 :: br.take (i + 1) = (b0 :: br.take i) ++ [b] := by rw [List.take_add_one, hb]; rfl
      rw [e]; exact gR3
    · rintro σ G ⟨y, v, rfl, gR, gS⟩
      rw [List.length_map, List.take_length] at gR
      exact ⟨_, rfl, k y G gR ((S1.trans (Same.upd hu)).trans gS)⟩
end
end Cl

/-! ### law k54: draws -/
namespace Cl
open PySem PySem.Spec PyProof.Rows L2 StX ClX PySem.Builtin PySem.Builtin.Str
section
variable {P : Program} {w : World} {K : PySem.W.Frag} {mg : Str → Option Value} {base : Heap} {C : Addr}
def spPaysZ (K : PySem.W.Frag) : Sp := fun vs H Q _ => ∃ (sa b : Addr) (ns : List Int) (H0 : Hp), vs = [.ref sa, .ref b] ∧ SqL K H0 sa (ns.map V.int) ∧ BoxS H0 H b ∧
  ∀ (g : Addr) (bs : List Int) (H' : Hp), H g = none → H' g = some (.lst (bs.map V.int)) → Okb bs → BoxS H0 H' b → But b H H' → Q (.ref g) H'
theorem scLawPays : FnScope ["script", "box", "pays", "k", "top"] ["script", "box"] (defScope sLawPays) := ⟨rfl, rfl, rfl, by decide +kernel, rfl, by decide +kernel, by decide +kernel⟩
set_option maxHeartbeats 0 in
theorem ok__law_pays {f : Addr} {fd : FuncData} (F : Fun K "_law_pays" "_law_pays" sLawPays f fd) (B : Bi mg) (D__law_take : Dn P w K mg base "_law_take" 1 ["script", "box", "many"] (spTakeX K)) : FnOk P w K mg base CX0 2 f fd ["script", "box"] (spPaysZ K) := by
  refine F.ok scLawPays (fun vs H Q E h => ?_) (fun cdv A outer s H vs Q E hr h => ?_)
  · obtain ⟨sa, b, ns, H0, rfl, _⟩ := h
    rfl
  · obtain ⟨sa, b, ns, H0, rfl, hs, hB, k⟩ := h
    refine ⟨_, (pss_cons (ps_set (i := 2) scLawPays.nd rfl (Or.inl rfl) (pe_lst pa_nil))
  (pss_cons (ps_for PassesOwn.never rfl (pi_range1 rfl B.range (pa_cons (pe_op op_add pe_int (pe_dn D__law_take (hr.mono (by decide)) (by rfl) pass0 (pa_cons (pv 0) (pa_cons (pv 1) (pa_cons pe_int pa_nil))))) pa_nil)) (pg_name (i := 3) scLawPays.nd rfl (Or.inl rfl))
  (pss_cons (ps_set (i := 4) scLawPays.nd rfl (Or.inl rfl) (pe_ix ix_list (pe_lst (pa_cons pe_int (pa_cons pe_int (pa_cons pe_int (pa_cons pe_int (pa_cons pe_int (pa_cons (pe_op op_add (pe_op op_pow pe_int pe_int) pe_int) pa_nil))))))) (pe_dn D__law_take (hr.mono (by decide)) (by rfl) pass0 (pa_cons (pv 0) (pa_cons (pv 1) (pa_cons pe_int pa_nil)))) (fun _ _ => rfl)))
  (pss_one (ps_expr (pe_bm PySem.F.plainAttrs_list PySem.F.slot_list_append PySem.F.type_list_append mt_append (pv 2) (pa_cons (pe_dn D__law_take (hr.mono (by decide)) (by rfl) pass0 (pa_cons (pv 0) (pa_cons (pv 1) (pa_cons (pv 4) pa_nil)))) pa_nil))))))
  (pss_one (ps_ret (pv 2))))), ?_⟩
    walk_at "rd"
    refine ⟨by show 0 ≤ sizeLine; decide, fun D hD => ?_⟩
    have Db := hB.ne hD
    have hB1 := hB.put (o := .lst []) hD
    walk_at "rd"
    refine ⟨sa, b, 12, ns, H0, rfl, hs, hB1, by decide, by decide, fun d H2 d0 d1 hB2 b2 => ?_⟩
    have hD2 := b2 _ _ Db (upd_same (o := .lst []))
    have b02 := (But.of (a := b) (Same.upd (o := .lst []) hD)).trans b2
    walk_at "rd"
    refine ⟨by omega, by omega, ?_⟩
    refine for_range (fun i σ H' => ∃ (bs : List Int) (x y : Option V), σ = [some (.ref sa), some (.ref b), some (.ref D), x, y] ∧ H' D = some (.lst (bs.map V.int)) ∧ bs.length = i ∧ (∀ x ∈ bs, 0 ≤ x ∧ x ≤ 10 ^ 30) ∧ BoxS H0 H' b ∧ But b H H') ⟨[], none, none, rfl, hD2, rfl, (fun x hx => nomatch hx), hB2, b02⟩ ?_ ?_
    · rintro i σ G hi ⟨bs, x, y, rfl, gD, bl, bb, gB, gb⟩
      walk_at "rd"
      refine ⟨by show 6 ≤ sizeLine; decide, fun u hu => ?_⟩
      have ub := gB.ne hu
      have uD : u ≠ D := fun e => by rw [e, gD] at hu; cases hu
      have gB1 := gB.put (o := .lst [V.int 2, .int 4, .int 9, .int 70, .int 70, .int (10 ^ 30 + 1)]) hu
      walk_at "rd"
      refine ⟨sa, b, 6, ns, H0, rfl, hs, gB1, by decide, by decide, fun e G2 e0 e1 gB2 gb2 => ?_⟩
      have hu2 := gb2 _ _ ub (upd_same (o := .lst [V.int 2, .int 4, .int 9, .int 70, .int 70, .int (10 ^ 30 + 1)]))
      have gD2 := gb2 _ _ Db (Same.upd hu _ _ gD)
      obtain ⟨tp, ht, t1, t2⟩ : ∃ tp : Int, atI [V.int 2, .int 4, .int 9, .int 70, .int 70, .int (10 ^ 30 + 1)] e = some (.int tp) ∧ 1 ≤ tp ∧ tp ≤ 10 ^ 30 + 1 := by
        rcases (show e = 0 ∨ e = 1 ∨ e = 2 ∨ e = 3 ∨ e = 4 ∨ e = 5 by omega) with rfl | rfl | rfl | rfl | rfl | rfl
        · exact ⟨2, rfl, by decide, by decide⟩
        · exact ⟨4, rfl, by decide, by decide⟩
        · exact ⟨9, rfl, by decide, by decide⟩
        · exact ⟨70, rfl, by decide, by decide⟩
        · exact ⟨70, rfl, by decide, by decide⟩
        · exact ⟨10 ^ 30 + 1, rfl, by decide, by decide⟩
      refine ⟨u, _, _, _, rfl, rfl, SqL.of hu2, ht, ?_⟩
      walk_at "rd"
      refine ⟨.inl ⟨rfl, _, SqL.of gD2⟩, ?_⟩
      walk_at "rd"
      have t3 : tp ≤ 100000000000000000000000000000000000000000000000000000000000000 := Int.le_trans t2 (by decide)
      refine ⟨sa, b, tp, ns, H0, rfl, hs, gB2, t1, t3, fun v G3 v0 v1 gB3 gb3 => ?_⟩
      have gD3 := gb3 _ _ Db gD2
      have big : (20000 : Nat) ≤ sizeLine := by decide
      refine ⟨D, _, _, rfl, rfl, gD3, by rw [List.length_map]; omega, ?_⟩
      refine ⟨bs ++ [v], some (.int (0 + (i : Nat))), some (.int tp), rfl, by rw [upd_same, List.map_append]; rfl, by rw [List.length_append, bl]; rfl, fun x hx => ?_, ?_, ?_⟩
      · rcases List.mem_append.mp hx with h | h
        · exact bb x h
        · rw [List.mem_singleton.mp h]
          exact ⟨v0, Int.le_of_lt_add_one (Int.lt_of_lt_of_le v1 t2)⟩
      · obtain ⟨a1, a2, a3, a4, a5, a6, a7⟩ := gB3
        have hH0D : H0 D = none := (hB.2.1).free hD
        exact ⟨a1, fun c o hc => by rw [upd_ne (ne_of_none hc hH0D)]; exact a2 c o hc, a3, a4, a5, a6, by rw [upd_ne Db.symm]; exact a7⟩
      · intro c o hc h
        rw [upd_ne (ne_of_none h hD)]
        exact (((gb.trans (But.of (Same.upd hu))).trans gb2).trans gb3) c o hc h
    · rintro σ G ⟨bs, x, y, rfl, gD, bl, bb, gB, gb⟩
      walk_at "rd"
      exact k D bs G hD gD ⟨by omega, by omega, fun x hx => ⟨(bb x hx).1, Int.le_trans (bb x hx).2 (by decide)⟩⟩ gB gb
def spWordZ (K : PySem.W.Frag) : Sp := fun vs H Q _ => ∃ (sa b : Addr) (p : Int) (ns : List Int) (H0 : Hp), vs = [.ref sa, .ref b, .int p] ∧ SqL K H0 sa (ns.map V.int) ∧ BoxS H0 H b ∧ 1 ≤ p ∧ p ≤ 64 ∧
  ∀ (l : List Bool) (H' : Hp), Wd l → (l.length : Int) ≤ p → BoxS H0 H' b → But b H H' → Q (.str (tx l)) H'
theorem scLawWord : FnScope ["script", "box", "wide", "size", "way", "kind", "text", "k", "digit"] ["script", "box", "wide"] (defScope sLawWord) := ⟨rfl, rfl, rfl, by decide +kernel, rfl, by decide +kernel, by decide +kernel⟩
set_option maxHeartbeats 0 in
theorem ok__law_word {f : Addr} {fd : FuncData} (F : Fun K "_law_word" "_law_word" sLawWord f fd) (B : Bi mg) (D__law_take : Dn P w K mg base "_law_take" 1 ["script", "box", "many"] (spTakeX K)) : FnOk P w K mg base CX0 2 f fd ["script", "box", "wide"] (spWordZ K) := by
  refine F.ok scLawWord (fun vs H Q E h => ?_) (fun cdv A outer s H vs Q E hr h => ?_)
  · obtain ⟨sa, b, p, ns, H0, rfl, _⟩ := h
    rfl
  · obtain ⟨sa, b, p, ns, H0, rfl, hs, hB, p1, p64, k⟩ := h
    refine ⟨_, (pss_cons (ps_set (i := 3) scLawWord.nd rfl (Or.inl rfl) (pe_dn D__law_take (hr.mono (by decide)) (by rfl) pass0 (pa_cons (pv 0) (pa_cons (pv 1) (pa_cons (pe_op op_add (pv 2) pe_int) pa_nil)))))
  (pss_cons (ps_set (i := 4) scLawWord.nd rfl (Or.inl rfl) (pe_dn D__law_take (hr.mono (by decide)) (by rfl) pass0 (pa_cons (pv 0) (pa_cons (pv 1) (pa_cons pe_int pa_nil)))))
  (C8.pss_cut (ps_if (pt_cmpR op_eq (pv 4) pe_int (nomark _)) (pss_one (ps_set (i := 3) scLawWord.nd rfl (Or.inl rfl) (pv 2)))
  pss_nil)
  (C8.pss_cut (ps_if (PW.pt (pw_or (pt_cmpR op_eq (pv 4) pe_int (nomark _)) (pw_or1 (pt_cmpR op_eq (pv 4) pe_int (nomark _))))) (pss_one (ps_set (i := 3) scLawWord.nd rfl (Or.inl rfl) (pe_callB (call_max2 rfl) (by rfl) B.max (by decide +kernel) (pa_cons pe_int (pa_cons (pe_op op_sub (pe_op op_sub (pv 2) pe_int) (pe_op op_fdiv (pv 3) pe_int)) pa_nil)))))
  pss_nil)
  (pss_cons (ps_if (pt_cmpR op_eq (pv 3) pe_int (nomark _)) (pss_one (ps_ret pe_str))
  pss_nil)
  (pss_cons (ps_set (i := 5) scLawWord.nd rfl (Or.inl rfl) (pe_dn D__law_take (hr.mono (by decide)) (by rfl) pass0 (pa_cons (pv 0) (pa_cons (pv 1) (pa_cons pe_int pa_nil)))))
  (pss_cons (ps_set (i := 6) scLawWord.nd rfl (Or.inl rfl) pe_str)
  (pss_cons (ps_for PassesOwn.never rfl (pi_range1 rfl B.range (pa_cons (pe_op op_sub (pv 3) pe_int) pa_nil)) (pg_name (i := 7) scLawWord.nd rfl (Or.inl rfl))
  (pss_cons (ps_set (i := 8) scLawWord.nd rfl (Or.inl rfl) (pe_dn D__law_take (hr.mono (by decide)) (by rfl) pass0 (pa_cons (pv 0) (pa_cons (pv 1) (pa_cons (pe_ix ix_list (pe_lst (pa_cons pe_int (pa_cons pe_int (pa_cons pe_int pa_nil)))) (pv 5) (fun _ _ => rfl)) pa_nil)))))
  (pss_one (ps_set (i := 6) scLawWord.nd rfl (Or.inl rfl) (pe_op op_add_str (pv 6) (pe_ix ix_str pe_str (pe_callTy call_int1 (by rfl) B.intT (by decide +kernel) (pa_cons (pe_or (pe_cmpR op_eq (pv 8) pe_int (nomark _)) (pe_one (pe_and (pe_cmpR op_eq (pv 5) pe_int (nomark _)) (pe_one (pe_cmpR op_gt (pv 8) pe_int (nomark _)))))) pa_nil)) (fun _ _ => rfl)))))))
  (pss_one (ps_ret (pv 6))))))))))), ?_⟩
    have big : (20000 : Nat) ≤ sizeLine := by decide
    walk_at "rd"
    refine ⟨sa, b, p + 1, ns, H0, rfl, hs, hB, by omega, by omega, fun sz H1 s0 s1 hB1 b1 => ?_⟩
    walk_at "rd"
    refine ⟨sa, b, 5, ns, H0, rfl, hs, hB1, by decide, by decide, fun wy H2 w0 w1 hB2 b2 => ?_⟩
    have b12 := b1.trans b2
    refine ⟨fun σ H' => ∃ z : Int, σ = [some (.ref sa), some (.ref b), some (.int p), some (.int z), some (.int wy), none, none, none, none] ∧ 0 ≤ z ∧ z ≤ p ∧ H' = H2, ?_, ?_⟩
    · walk_at "rd"
      refine iti (fun e => ?_) (fun e => ?_)
      · walk_at "rd"
        exact ⟨by omega, by omega, rfl⟩
      · exact ⟨sz, rfl, s0, by omega, rfl⟩
    rintro σ H3 ⟨z, rfl, z0, zp, rfl⟩
    refine ⟨fun σ H' => ∃ z : Int, σ = [some (.ref sa), some (.ref b), some (.int p), some (.int z), some (.int wy), none, none, none, none] ∧ 0 ≤ z ∧ z ≤ p ∧ H' = H3, ?_, ?_⟩
    · have f1 : 0 ≤ (if p - 1 - z / 4 > 0 then p - 1 - z / 4 else 0) := by split <;> omega
      have f2 : (if p - 1 - z / 4 > 0 then p - 1 - z / 4 else 0) ≤ p := by split <;> omega
      walk_at "rd"
      refine iti (fun e => ?_) (fun e => ?_)
      · refine iteT ?_
        walk_at "rd"
        exact ⟨f1, f2, rfl⟩
      walk_at "rd"
      refine iti (fun e => ?_) (fun e => ?_)
      · walk_at "rd"
        exact ⟨f1, f2, rfl⟩
      · exact ⟨z, rfl, z0, zp, rfl⟩
    rintro σ H4 ⟨z, rfl, z0, zp, rfl⟩
    walk_at "rd"
    refine iti (fun e => ?_) (fun e => ?_)
    · walk_at "rd"
      rw [te]
      exact k [] H4 (.inl rfl) (by show (0 : Int) ≤ p; omega) hB2 b12
    walk_at "rd"
    refine ⟨sa, b, 3, ns, H0, rfl, hs, hB2, by decide, by decide, fun kd H5 kd0 kd1 hB5 b5 => ?_⟩
    have b15 := b12.trans b5
    walk_at "rd"
    refine ⟨by omega, by omega, ?_⟩
    refine for_range (fun i σ H' => ∃ (l : List Bool) (x y : Option V), σ = [some (.ref sa), some (.ref b), some (.int p), some (.int z), some (.int wy), some (.int kd), some (.str (tx l)), x, y] ∧ Wd l ∧ l.length = 1 + i ∧ BoxS H0 H' b ∧ But b H H')
      ⟨[true], none, none, by rw [t1]; rfl, .inr ⟨[], rfl⟩, rfl, hB5, b15⟩ ?_ ?_
    · rintro i σ G hi ⟨l, x, y, rfl, W, ll, gB, gb⟩
      walk_at "rd"
      refine ⟨by show 3 ≤ sizeLine; decide, fun u hu => ?_⟩
      have gB1 := gB.put (o := .lst [V.int 2, .int 5, .int 5]) hu
      have gb1 := gb.trans (But.of (a := b) (Same.upd (o := .lst [V.int 2, .int 5, .int 5]) hu))
      obtain ⟨tp, ht, t1, t2⟩ : ∃ tp : Int, atI [V.int 2, .int 5, .int 5] kd = some (.int tp) ∧ 1 ≤ tp ∧ tp ≤ 5 := by
        rcases (show kd = 0 ∨ kd = 1 ∨ kd = 2 by omega) with rfl | rfl | rfl
        · exact ⟨2, rfl, by decide, by decide⟩
        · exact ⟨5, rfl, by decide, by decide⟩
        · exact ⟨5, rfl, by decide, by decide⟩
      walk_at "rd"
      refine ⟨u, _, _, _, rfl, rfl, SqL.of upd_same, ht, ?_⟩
      walk_at "rd"
      refine ⟨sa, b, tp, ns, H0, rfl, hs, gB1, t1, by omega, fun dg G2 dg0 dg1 gB2 gb2 => ?_⟩
      have gb12 := gb1.trans gb2
      have e01 : (Str.ofString "01") = tx [false, true] := by decide +kernel
      have hix : ∀ kk : Bool, atI (tx [false, true]).cps.toList (if kk = true then 1 else 0) = some (bt kk) := fun kk => by
        cases kk
        · exact at_tx (l := [false, true]) (i := 0) rfl
        · exact at_tx (l := [false, true]) (i := 1) rfl
      have Wn : ∀ kk : Bool, Wd (l ++ [kk]) := fun kk => by
        rcases W with rfl | ⟨r, rfl⟩
        · have : ([] : List Bool).length = 1 + i := ll
          have : (0 : Nat) = 1 + i := this
          omega
        · exact .inr ⟨r ++ [kk], rfl⟩
      walk_at "rd"
      refine itd (fun _ => ?_) (fun _ => ?_)
      · walk_at "rd"
        rw [e01]
        refine ⟨_, _, _, rfl, rfl, by decide +kernel, hix _, ?_⟩
        refine ⟨_, _, rfl, rfl, by rw [tx_len]; show _ + 1 ≤ _; omega, ?_⟩
        exact ⟨l ++ [_], _, _, by rw [← tx_app]; rfl, Wn _, by rw [List.length_append, ll]; rfl, gB2, gb12⟩
      walk_at "rd"
      refine itd (fun _ => ?_) (fun _ => ?_)
      · walk_at "rd"
        rw [e01]
        refine ⟨_, _, _, rfl, rfl, by decide +kernel, hix _, ?_⟩
        refine ⟨_, _, rfl, rfl, by rw [tx_len]; show _ + 1 ≤ _; omega, ?_⟩
        exact ⟨l ++ [_], _, _, by rw [← tx_app]; rfl, Wn _, by rw [List.length_append, ll]; rfl, gB2, gb12⟩
      · walk_at "rd"
        rw [e01]
        refine ⟨_, _, _, rfl, rfl, by decide +kernel, hix _, ?_⟩
        refine ⟨_, _, rfl, rfl, by rw [tx_len]; show _ + 1 ≤ _; omega, ?_⟩
        exact ⟨l ++ [_], _, _, by rw [← tx_app]; rfl, Wn _, by rw [List.length_append, ll]; rfl, gB2, gb12⟩
    · rintro σ G ⟨l, x, y, rfl, W, ll, gB, gb⟩
      walk_at "rd"
      exact k l G W (by omega) gB gb
def Std5 (H : Hp) (g : Addr) (l : List Bool) (p ph : Int) : Prop := H g = some (.lst [.str (tx l), .int p, .int ph]) ∧ Wd l ∧ (l.length : Int) ≤ p ∧ 1 ≤ p ∧ p ≤ 64 ∧ 0 ≤ ph ∧ ph ≤ 1000000
theorem Std5.but {H H' : Hp} {a g : Addr} {l : List Bool} {p ph : Int} (h : Std5 H g l p ph) (x : But a H H') (ne : g ≠ a) : Std5 H' g l p ph := ⟨x _ _ ne h.1, h.2⟩
theorem Std5.same {H H' : Hp} {g : Addr} {l : List Bool} {p ph : Int} (h : Std5 H g l p ph) (x : Same H H') : Std5 H' g l p ph := ⟨x _ _ h.1, h.2⟩
def spStandZ (K : PySem.W.Frag) : Sp := fun vs H Q _ => ∃ (sa b : Addr) (ns : List Int) (H0 : Hp), vs = [.ref sa, .ref b] ∧ SqL K H0 sa (ns.map V.int) ∧ BoxS H0 H b ∧
  ∀ (g : Addr) (l : List Bool) (p ph : Int) (H' : Hp), H g = none → Std5 H' g l p ph → BoxS H0 H' b → But b H H' → Q (.ref g) H'
theorem scLawStand : FnScope ["script", "box", "wide", "beat"] ["script", "box"] (defScope sLawStand) := ⟨rfl, rfl, rfl, by decide +kernel, rfl, by decide +kernel, by decide +kernel⟩
set_option maxHeartbeats 0 in
theorem ok__law_stand {f : Addr} {fd : FuncData} (F : Fun K "_law_stand" "_law_stand" sLawStand f fd) (D__law_take : Dn P w K mg base "_law_take" 1 ["script", "box", "many"] (spTakeX K)) (D__law_word : Dn P w K mg base "_law_word" 2 ["script", "box", "wide"] (spWordZ K)) :
    FnOk P w K mg base CX0 3 f fd ["script", "box"] (spStandZ K) := by
  refine F.ok scLawStand (fun vs H Q E h => ?_) (fun cdv A outer s H vs Q E hr h => ?_)
  · obtain ⟨sa, b, ns, H0, rfl, _⟩ := h
    rfl
  · obtain ⟨sa, b, ns, H0, rfl, hs, hB, k⟩ := h
    refine ⟨_, (pss_cons (ps_set (i := 2) scLawStand.nd rfl (Or.inl rfl) (pe_op op_add pe_int (pe_dn D__law_take (hr.mono (by decide)) (by rfl) pass0 (pa_cons (pv 0) (pa_cons (pv 1) (pa_cons (pe_ix ix_list (pe_lst (pa_cons pe_int (pa_cons pe_int (pa_cons pe_int pa_nil)))) (pe_dn D__law_take (hr.mono (by decide)) (by rfl) pass0 (pa_cons (pv 0) (pa_cons (pv 1) (pa_cons pe_int pa_nil)))) (fun _ _ => rfl)) pa_nil))))))
  (pss_cons (ps_set (i := 3) scLawStand.nd rfl (Or.inl rfl) (pe_dn D__law_take (hr.mono (by decide)) (by rfl) pass0 (pa_cons (pv 0) (pa_cons (pv 1) (pa_cons (pe_ix ix_list (pe_lst (pa_cons pe_int (pa_cons pe_int (pa_cons (pe_op op_pow pe_int pe_int) pa_nil)))) (pe_dn D__law_take (hr.mono (by decide)) (by rfl) pass0 (pa_cons (pv 0) (pa_cons (pv 1) (pa_cons pe_int pa_nil)))) (fun _ _ => rfl)) pa_nil)))))
  (pss_one (ps_ret (pe_lst (pa_cons (pe_dn D__law_word (hr.mono (by decide)) (by rfl) pass0 (pa_cons (pv 0) (pa_cons (pv 1) (pa_cons (pv 2) pa_nil)))) (pa_cons (pv 2) (pa_cons (pv 3) pa_nil)))))))), ?_⟩
    walk_at "rd"
    refine ⟨by show 3 ≤ sizeLine; decide, fun u hu => ?_⟩
    have ub := hB.ne hu
    walk_at "rd"
    refine ⟨sa, b, 3, ns, H0, rfl, hs, hB.put hu, by decide, by decide, fun d H2 d0 d1 hB2 b2 => ?_⟩
    have hu2 := b2 _ _ ub (upd_same (o := .lst [V.int 6, .int 64, .int 64]))
    have c2 := (But.of (a := b) (Same.upd (o := .lst [V.int 6, .int 64, .int 64]) hu)).trans b2
    obtain ⟨tp, ht, t1, t2⟩ : ∃ tp : Int, atI [V.int 6, .int 64, .int 64] d = some (.int tp) ∧ 1 ≤ tp ∧ tp ≤ 64 := by
      rcases (show d = 0 ∨ d = 1 ∨ d = 2 by omega) with rfl | rfl | rfl
      · exact ⟨6, rfl, by decide, by decide⟩
      · exact ⟨64, rfl, by decide, by decide⟩
      · exact ⟨64, rfl, by decide, by decide⟩
    refine ⟨u, _, _, _, rfl, rfl, SqL.of hu2, ht, ?_⟩
    walk_at "rd"
    refine ⟨sa, b, tp, ns, H0, rfl, hs, hB2, t1, by omega, fun e H3 e0 e1 hB3 b3 => ?_⟩
    have c3 := c2.trans b3
    walk_at "rd"
    refine ⟨by show 3 ≤ sizeLine; decide, fun u2 hu2 => ?_⟩
    have ub2 := hB3.ne hu2
    walk_at "rd"
    refine ⟨sa, b, 3, ns, H0, rfl, hs, hB3.put hu2, by decide, by decide, fun d4 H4 d40 d41 hB4 b4 => ?_⟩
    have hv := b4 _ _ ub2 (upd_same (o := .lst [V.int 12, .int 12, .int 1000000]))
    have c4 := c3.trans ((But.of (a := b) (Same.upd (o := .lst [V.int 12, .int 12, .int 1000000]) hu2)).trans b4)
    obtain ⟨tq, hq, q1, q2⟩ : ∃ tp : Int, atI [V.int 12, .int 12, .int 1000000] d4 = some (.int tp) ∧ 1 ≤ tp ∧ tp ≤ 1000000 := by
      rcases (show d4 = 0 ∨ d4 = 1 ∨ d4 = 2 by omega) with rfl | rfl | rfl
      · exact ⟨12, rfl, by decide, by decide⟩
      · exact ⟨12, rfl, by decide, by decide⟩
      · exact ⟨1000000, rfl, by decide, by decide⟩
    refine ⟨u2, _, _, _, rfl, rfl, SqL.of hv, hq, ?_⟩
    walk_at "rd"
    refine ⟨sa, b, tq, ns, H0, rfl, hs, hB4, q1, by omega, fun ph H5 ph0 ph1 hB5 b5 => ?_⟩
    have c5 := c4.trans b5
    walk_at "rd"
    refine ⟨sa, b, 1 + e, ns, H0, rfl, hs, hB5, by omega, by omega, fun l H6 W lp hB6 b6 => ?_⟩
    have c6 := c5.trans b6
    walk_at "rd"
    refine ⟨by show 3 ≤ sizeLine; decide, fun g hg => ?_⟩
    exact k g l (1 + e) ph _ (But.none2 c6 (hB6.ne hg) hg) ⟨upd_same, W, lp, by omega, by omega, ph0, by omega⟩ (hB6.put hg) (c6.trans (But.of (Same.upd hg)))
end
end Cl

/-! ### global constants (as in rngF.lean, for the laws without rings) -/
namespace Cl
open PySem PySem.Spec PyProof.Rows L2
def Gv (mg : Str → Option Value) (x : Str) (v : V) : Prop := ∃ u, mg x = some u ∧ RelV v u
theorem pe_globX {X : Cx} {x : Str} {v : V} {pos : Pos} (hg : Gl X x) (hm : Gv X.mg x v) (hd : (x == ("__debug__" : Str)) = false := by decide) : PE X (.Name x pos) (tC v) := by
  obtain ⟨u, hm, r⟩ := hm
  exact pe_glob hg hm r hd
end Cl

/-! ### rule texts: what a line says, and who tells -/
namespace Cl
open PySem PySem.Spec PyProof.Rows L2 StX ClX PySem.Builtin PySem.Builtin.Str
/-- a constant of the module that is a tuple -/
def GvT (K : PySem.W.Frag) (mg : Str → Option Value) (x : Str) (xs : List V) : Prop := ∃ a : Addr, mg x = some (.ref a) ∧ ∀ H, SqT K H a xs
theorem pe_globT {X : Cx} {x : Str} {xs : List V} {pos : Pos} (hg : Gl X x) (hm : GvT X.K X.mg x xs) (hd : (x == ("__debug__" : Str)) = false := by decide) : PE X (.Name x pos) (fun _ H Q => ∀ a : Addr, (∀ H', SqT X.K H' a xs) → Q (.ref a) H) := by
  obtain ⟨a, e, s⟩ := hm
  exact ⟨fun pins sh σ H Q I h => (pe_glob (v := .ref a) hg e rfl hd).run pins sh σ H Q I (h a s)⟩
def dgs : Str := "0123456789"
/-- digits alone -/
def allDg (s : Str) : Bool := s.cps.toList.all fun c => decide (48 ≤ c) && decide (c ≤ 57)
/-- a number of one to three digits -/
def isNb (s : Str) : Bool := decide (1 ≤ (s.length : Int)) && (decide ((s.length : Int) ≤ 3) && allDg s)
def isAm (s : Str) : Bool := decide (V.str s = V.str "all") || isNb s
def nms : List Str := ["free", "living", "dead", "gap", "budget"]
def sgns : List Str := ["<=", ">=", "=="]
/-- a line with a condition, one without -/
def isWh : List Str → Bool
  | [a, n, g, b, c, m] => decide (V.str a = V.str "when") && (decide (V.str c = V.str "carry") && (inV (.str n) (nms.map V.str) && (inV (.str g) (sgns.map V.str) && (isNb b && isAm m))))
  | _ => false
def isEl : List Str → Bool
  | [a, b, m] => decide (V.str a = V.str "else") && (decide (V.str b = V.str "carry") && isAm m)
  | _ => false
theorem hasDg (c : Nat) : dgs.cps.contains c = (decide (48 ≤ c) && decide (c ≤ 57)) := by
  have e : dgs = ⟨#[48, 49, 50, 51, 52, 53, 54, 55, 56, 57]⟩ := by decide +kernel
  rw [e]
  show (#[48, 49, 50, 51, 52, 53, 54, 55, 56, 57] : Array Nat).contains c = _
  rw [Bool.eq_iff_iff]
  simp [Array.contains_iff_mem]
  omega
theorem sub_len (x : Str) (i j : Nat) : (strSub x i j).length = min (j - i) (x.length - i) := by
  have := congrArg List.length (StrLaws.strSub_toList x i j)
  rw [List.length_take, List.length_drop] at this
  simpa [Str.length] using this
theorem strip_zero (s cs : Str) : (Txt.stripChars s cs).length = 0 ↔ ∀ k, k < s.length → cs.cps.contains (s.cps.getD k 0) = true := by
  unfold Txt.stripChars
  rw [stripBy_eq, sub_len]
  obtain ⟨l1, l2, l3⟩ := lo_facts cs.cps.contains s
  generalize stripLo cs.cps.contains true s = lo at *
  obtain ⟨h1, h2, h3, h4⟩ := hi_facts cs.cps.contains s lo l1
  generalize stripHi cs.cps.contains true s lo = hi at *
  constructor
  · intro e k hk
    rcases Nat.lt_or_ge k lo with q | q
    · exact l2 k q
    · exact h3 k (by omega) hk
  · intro e
    have : lo = s.length := by
      rcases l3 with z | z
      · exact z
      · rcases Nat.lt_or_ge lo s.length with q | q
        · rw [e lo q] at z; cases z
        · omega
    omega
theorem allDg_get (s : Str) : allDg s = true ↔ ∀ k, k < s.length → dgs.cps.contains (s.cps.getD k 0) = true := by
  unfold allDg
  rw [List.all_eq_true]
  constructor
  · intro h k hk
    have hk' : k < s.cps.size := by simpa [Str.length] using hk
    rw [hasDg, Array.getD_eq_getD_getElem?, Array.getElem?_eq_getElem hk']
    exact h s.cps[k] (by simp)
  · intro h c hc
    obtain ⟨k, hk, rfl⟩ := List.getElem_of_mem hc
    have hk' : k < s.length := by simpa [Str.length] using hk
    have := h k hk'
    rw [hasDg, Array.getD_eq_getD_getElem?, Array.getElem?_eq_getElem (by simpa [Str.length] using hk')] at this
    rw [Array.getElem_toList]
    exact this
theorem strip_dg (s : Str) : decide (V.str (Txt.stripChars s dgs) = V.str (tx [])) = allDg s := by
  have key := strip_zero s dgs
  rw [← allDg_get] at key
  cases h : allDg s
  · refine decide_eq_false fun e => ?_
    have := key.mp (by rw [V.str.inj e]; rfl)
    rw [h] at this; cases this
  · have := key.mpr h
    refine decide_eq_true (congrArg V.str (str_ext (List.eq_nil_of_length_eq_zero ?_)))
    simpa [Str.length] using this
theorem len6 {ws : List Str} (h : ws.length = 6) : ∃ a b c d e f, ws = [a, b, c, d, e, f] := by
  match ws, h with
  | [a, b, c, d, e, f], _ => exact ⟨a, b, c, d, e, f, rfl⟩
theorem len3 {ws : List Str} (h : ws.length = 3) : ∃ a b c, ws = [a, b, c] := by
  match ws, h with
  | [a, b, c], _ => exact ⟨a, b, c, rfl⟩
theorem isWh_len {ws : List Str} (h : ws.length ≠ 6) : isWh ws = false := by
  unfold isWh
  split
  · exact absurd rfl h
  · rfl
theorem isEl_len {ws : List Str} (h : ws.length ≠ 3) : isEl ws = false := by
  unfold isEl
  split
  · exact absurd rfl h
  · rfl
theorem inV_str (n : Str) (ns : List Str) : inV (.str n) (ns.map V.str) = true ↔ n ∈ ns := by
  unfold inV
  rw [List.any_map, List.any_eq_true]
  constructor
  · rintro ⟨x, hx, e⟩
    have : x = n := eq_of_beq e
    exact this ▸ hx
  · intro h
    exact ⟨n, h, beq_self_eq_true n⟩
section
variable {P : Program} {w : World} {K : PySem.W.Frag} {mg : Str → Option Value} {base : Heap} {C C_BadRule C_RuleKeeper : Addr}
def spConsD : Sp := fun vs H Q _ => ∃ s : Str, vs = [.str s, .str dgs] ∧ s.length ≤ 1000000 ∧ Q (.bl (allDg s)) H
theorem ok_consists_of_x {f : Addr} {fd : FuncData} (F : Fun K "consists_of" "consists_of" sConsistsOf f fd) : FnOk P w K mg base CX0 1 f fd ["text", "characters"] spConsD := by
  refine F.ok scConsistsOf (fun vs H Q E h => ?_) (fun cdv A outer s H vs Q E hr h => ?_)
  · obtain ⟨z, rfl, _⟩ := h
    rfl
  · obtain ⟨z, rfl, hl, k⟩ := h
    refine ⟨_, (pss_one (ps_ret (pe_cmpR op_eq (pe_m1 PySem.F.slot_str_strip PySem.F.type_str_strip mt_stripChars (pv 0) (pv 1)) pe_str (nomark _)))), ?_⟩
    refine ⟨_, rfl, ⟨_, rfl⟩, _, rfl, _, _, rfl, rfl, small_le hl, rfl, ?_⟩
    rw [te, strip_dg]
    exact k
def spNumB : Sp := fun vs H Q _ => ∃ s : Str, vs = [.str s] ∧ s.length ≤ 1000000 ∧ Q (.bl (isNb s)) H
theorem scIsNumber : FnScope ["text"] ["text"] (defScope sIsNumber) := ⟨rfl, rfl, rfl, by decide +kernel, rfl, by decide +kernel, by decide +kernel⟩
theorem ok__is_number {f : Addr} {fd : FuncData} (F : Fun K "_is_number" "_is_number" sIsNumber f fd) (B : Bi mg) (G_MOST_DIGITS : Gv mg "MOST_DIGITS" (.int 3)) (XD_consists_of : Dn P w K mg base "consists_of" 1 ["text", "characters"] spConsD) : FnOk P w K mg base CX0 2 f fd ["text"] spNumB := by
  refine F.ok scIsNumber (fun vs H Q E h => ?_) (fun cdv A outer s H vs Q E hr h => ?_)
  · obtain ⟨z, rfl, _⟩ := h
    rfl
  · obtain ⟨z, rfl, hl, k⟩ := h
    refine ⟨_, (pss_one (ps_ret (pe_and (pe_chain op_le op_le pe_int (pe_callB call_len_str (by rfl) B.len PySem.boot_len (pa_cons (pv 0) pa_nil)) (pe_globX rfl G_MOST_DIGITS)) (pe_one (pe_dn XD_consists_of (hr.mono (by decide)) (by rfl) pass0 (pa_cons (pv 0) (pa_cons pe_str pa_nil))))))), ?_⟩
    unfold isNb at k
    walk_at "rd"
    refine ⟨small_le (by omega), ?_⟩
    walk_at "rd"
    by_cases h1 : (1 : Int) ≤ (z.length : Int)
    · rw [decide_eq_true h1] at k ⊢
      refine iteT ?_
      walk_at "rd"
      by_cases h2 : (z.length : Int) ≤ 3
      · rw [decide_eq_true h2] at k ⊢
        refine iteT ?_
        walk_at "rd"
        exact ⟨hl, k⟩
      · rw [decide_eq_false h2] at k ⊢
        exact iteF k
    · rw [decide_eq_false h1] at k ⊢
      exact iteF ⟨false, rfl, iteF k⟩
def spAmB : Sp := fun vs H Q _ => ∃ s : Str, vs = [.str s] ∧ s.length ≤ 1000000 ∧ Q (.bl (isAm s)) H
theorem scIsAmount : FnScope ["text"] ["text"] (defScope sIsAmount) := ⟨rfl, rfl, rfl, by decide +kernel, rfl, by decide +kernel, by decide +kernel⟩
theorem ok__is_amount {f : Addr} {fd : FuncData} (F : Fun K "_is_amount" "_is_amount" sIsAmount f fd) (D__is_number : Dn P w K mg base "_is_number" 2 ["text"] spNumB) : FnOk P w K mg base CX0 3 f fd ["text"] spAmB := by
  refine F.ok scIsAmount (fun vs H Q E h => ?_) (fun cdv A outer s H vs Q E hr h => ?_)
  · obtain ⟨z, rfl, _⟩ := h
    rfl
  · obtain ⟨z, rfl, hl, k⟩ := h
    refine ⟨_, (pss_one (ps_ret (pe_or (pe_cmpR op_eq (pv 0) pe_str (nomark _)) (pe_one (pe_dn D__is_number (hr.mono (by decide)) (by rfl) pass0 (pa_cons (pv 0) pa_nil)))))), ?_⟩
    unfold isAm at k
    walk_at "rd"
    by_cases h : V.str z = V.str (Str.ofString "all")
    · rw [decide_eq_true h] at k ⊢
      exact iteT k
    · rw [decide_eq_false h] at k ⊢
      refine iteF ?_
      walk_at "rd"
      exact ⟨hl, k⟩
def spWhB (K : PySem.W.Frag) : Sp := fun vs H Q _ => ∃ (a : Addr) (ws : List Str), vs = [.ref a] ∧ SqL K H a (ws.map V.str) ∧ (∀ s ∈ ws, s.length ≤ 1000000) ∧ Q (.bl (isWh ws)) H
theorem scIsWhen : FnScope ["words"] ["words"] (defScope sIsWhen) := ⟨rfl, rfl, rfl, by decide +kernel, rfl, by decide +kernel, by decide +kernel⟩
set_option maxHeartbeats 0 in
theorem ok__is_when {f : Addr} {fd : FuncData} (F : Fun K "_is_when" "_is_when" sIsWhen f fd) (B : Bi mg) (G_NAMES : GvT K mg "NAMES" (nms.map V.str)) (G_SIGNS : GvT K mg "SIGNS" (sgns.map V.str)) (D__is_number : Dn P w K mg base "_is_number" 2 ["text"] spNumB) (D__is_amount : Dn P w K mg base "_is_amount" 3 ["text"] spAmB) :
    FnOk P w K mg base CX0 4 f fd ["words"] (spWhB K) := by
  refine F.ok scIsWhen (fun vs H Q E h => ?_) (fun cdv A outer s H vs Q E hr h => ?_)
  · obtain ⟨a, ws, rfl, _⟩ := h
    rfl
  · obtain ⟨a, ws, rfl, ha, hl, k⟩ := h
    refine ⟨_, (pss_cons (ps_if (PW.pt (pw_or (pt_cmpR op_ne (pe_callB call_len_seq (by rfl) B.len PySem.boot_len (pa_cons (pv 0) pa_nil)) pe_int (nomark _)) (pw_or (pt_cmpR op_ne (pe_ix ix_list (pv 0) pe_int (fun _ _ => rfl)) pe_str (nomark _)) (pw_or1 (pt_cmpR op_ne (pe_ix ix_list (pv 0) pe_int (fun _ _ => rfl)) pe_str (nomark _)))))) (pss_one (ps_ret pe_bl))
  pss_nil)
  (pss_one (ps_ret (pe_and (pe_cmpR op_in_seq (pe_ix ix_list (pv 0) pe_int (fun _ _ => rfl)) (pe_globT rfl G_NAMES) (by with_unfolding_all rfl)) (pe_and (pe_cmpR op_in_seq (pe_ix ix_list (pv 0) pe_int (fun _ _ => rfl)) (pe_globT rfl G_SIGNS) (by with_unfolding_all rfl)) (pe_and (pe_dn D__is_number (hr.mono (by decide)) (by rfl) pass0 (pa_cons (pe_ix ix_list (pv 0) pe_int (fun _ _ => rfl)) pa_nil)) (pe_one (pe_dn D__is_amount (hr.mono (by decide)) (by rfl) pass0 (pa_cons (pe_ix ix_list (pv 0) pe_int (fun _ _ => rfl)) pa_nil))))))))), ?_⟩
    walk_at "rd"
    refine ⟨a, _, rfl, .inl ha, ?_⟩
    rw [List.length_map]
    by_cases h6 : ws.length = 6
    · obtain ⟨w0, w1, w2, w3, w4, w5, rfl⟩ := len6 h6
      have l3 := hl w3 (by simp)
      have l5 := hl w5 (by simp)
      unfold isWh at k
      dsimp only at k
      walk_at "rd"
      refine ⟨a, _, _, _, rfl, rfl, ha, rfl, ?_⟩
      refine ⟨rfl, _, rfl, ?_⟩
      dsimp only
      by_cases h0 : V.str w0 = V.str (Str.ofString "when")
      · rw [decide_eq_true h0] at k ⊢
        walk_at "rd"
        refine ⟨a, _, _, _, rfl, rfl, ha, rfl, ?_⟩
        refine ⟨rfl, _, rfl, ?_⟩
        dsimp only
        by_cases h4 : V.str w4 = V.str (Str.ofString "carry")
        · rw [decide_eq_true h4] at k ⊢
          walk_at "rd"
          refine ⟨a, _, _, _, rfl, rfl, ha, rfl, ?_⟩
          walk_at "rd"
          intro gn hgn
          refine ⟨gn, _, rfl, .inr (hgn _), rfl, by decide +kernel, ?_⟩
          refine ⟨_, rfl, ?_⟩
          cases hn : inV (.str w1) (nms.map V.str) with
          | false =>
            rw [hn] at k
            exact iteF k
          | true =>
            rw [hn] at k
            refine iteT ?_
            walk_at "rd"
            refine ⟨a, _, _, _, rfl, rfl, ha, rfl, ?_⟩
            walk_at "rd"
            intro gs hgs
            refine ⟨gs, _, rfl, .inr (hgs _), rfl, by decide +kernel, ?_⟩
            refine ⟨_, rfl, ?_⟩
            cases hg : inV (.str w2) (sgns.map V.str) with
            | false =>
              rw [hg] at k
              exact iteF k
            | true =>
              rw [hg] at k
              refine iteT ?_
              walk_at "rd"
              refine ⟨a, _, _, _, rfl, rfl, ha, rfl, ?_⟩
              walk_at "rd"
              refine ⟨l3, _, rfl, ?_⟩
              cases hb : isNb w3 with
              | false =>
                rw [hb] at k
                exact iteF k
              | true =>
                rw [hb] at k
                refine iteT ?_
                walk_at "rd"
                refine ⟨a, _, _, _, rfl, rfl, ha, rfl, ?_⟩
                walk_at "rd"
                exact ⟨l5, k⟩
        · rw [decide_eq_false h4] at k ⊢
          refine iteT ?_
          walk_at "rd"
          exact k
      · rw [decide_eq_false h0] at k ⊢
        refine iteT ?_
        walk_at "rd"
        exact k
    · rw [isWh_len h6] at k
      refine ⟨rfl, _, rfl, ?_⟩
      dsimp only
      rw [decide_eq_false (fun z => h6 (by have := V.int.inj z; omega))]
      refine iteT ?_
      walk_at "rd"
      exact k
def spElB (K : PySem.W.Frag) : Sp := fun vs H Q _ => ∃ (a : Addr) (ws : List Str), vs = [.ref a] ∧ SqL K H a (ws.map V.str) ∧ (∀ s ∈ ws, s.length ≤ 1000000) ∧ Q (.bl (isEl ws)) H
theorem scIsElse : FnScope ["words"] ["words"] (defScope sIsElse) := ⟨rfl, rfl, rfl, by decide +kernel, rfl, by decide +kernel, by decide +kernel⟩
set_option maxHeartbeats 0 in
theorem ok__is_else {f : Addr} {fd : FuncData} (F : Fun K "_is_else" "_is_else" sIsElse f fd) (B : Bi mg) (D__is_amount : Dn P w K mg base "_is_amount" 3 ["text"] spAmB) : FnOk P w K mg base CX0 4 f fd ["words"] (spElB K) := by
  refine F.ok scIsElse (fun vs H Q E h => ?_) (fun cdv A outer s H vs Q E hr h => ?_)
  · obtain ⟨a, ws, rfl, _⟩ := h
    rfl
  · obtain ⟨a, ws, rfl, ha, hl, k⟩ := h
    refine ⟨_, (pss_one (ps_ret (pe_and (pe_cmpR op_eq (pe_callB call_len_seq (by rfl) B.len PySem.boot_len (pa_cons (pv 0) pa_nil)) pe_int (nomark _)) (pe_and (pe_cmpR op_eq (pe_ix ix_list (pv 0) pe_int (fun _ _ => rfl)) pe_str (nomark _)) (pe_and (pe_cmpR op_eq (pe_ix ix_list (pv 0) pe_int (fun _ _ => rfl)) pe_str (nomark _)) (pe_one (pe_dn D__is_amount (hr.mono (by decide)) (by rfl) pass0 (pa_cons (pe_ix ix_list (pv 0) pe_int (fun _ _ => rfl)) pa_nil)))))))), ?_⟩
    walk_at "rd"
    refine ⟨a, _, rfl, .inl ha, ?_⟩
    rw [List.length_map]
    by_cases h3 : ws.length = 3
    · obtain ⟨w0, w1, w2, rfl⟩ := len3 h3
      have l2 := hl w2 (by simp)
      unfold isEl at k
      dsimp only at k
      walk_at "rd"
      refine ⟨a, _, _, _, rfl, rfl, ha, rfl, ?_⟩
      walk_at "rd"
      by_cases h0 : V.str w0 = V.str (Str.ofString "else")
      · rw [decide_eq_true h0] at k ⊢
        refine iteT ?_
        walk_at "rd"
        refine ⟨a, _, _, _, rfl, rfl, ha, rfl, ?_⟩
        walk_at "rd"
        by_cases h1 : V.str w1 = V.str (Str.ofString "carry")
        · rw [decide_eq_true h1] at k ⊢
          refine iteT ?_
          walk_at "rd"
          refine ⟨a, _, _, _, rfl, rfl, ha, rfl, ?_⟩
          walk_at "rd"
          exact ⟨l2, k⟩
        · rw [decide_eq_false h1] at k ⊢
          exact iteF k
      · rw [decide_eq_false h0] at k ⊢
        exact iteF k
    · rw [isEl_len h3] at k
      walk_at "rd"
      rw [decide_eq_false (fun z => h3 (by have := V.int.inj z; omega))]
      exact iteF k
/-! the keeper made from a text -/
def lnsOf (z : Str) : List Str := Txt.split z ("\n" : Str)
def wdsOf (x : Str) : List Str := Txt.split x (" " : Str)
def rlsOf (z : Str) : List (List Str) := (lnsOf z).map wdsOf
def goodW (ws : List Str) : Bool := isWh ws || isEl ws
def RksAt (CR : Addr) (H : Hp) (a : Addr) (wss : List (List Str)) : Prop := ∃ (dx b : Addr) (prs : List (Addr × List Str)), H a = some (.ins CR dx [("_rules", .ref b)]) ∧ H b = some (.lst (prs.map fun q => V.ref q.1)) ∧ (∀ q ∈ prs, H q.1 = some (.lst (q.2.map V.str))) ∧ prs.map (·.2) = wss
theorem RksAt.same {CR : Addr} {H H' : Hp} {a : Addr} {wss : List (List Str)} (h : RksAt CR H a wss) (x : Same H H') : RksAt CR H' a wss := by
  obtain ⟨dx, b, prs, h1, h2, h3, h4⟩ := h
  exact ⟨dx, b, prs, x _ _ h1, x _ _ h2, fun q hq => x _ _ (h3 q hq), h4⟩
/-- .. all of it made behind H -/
def RksNew (CR : Addr) (H H' : Hp) (a : Addr) (wss : List (List Str)) : Prop := ∃ (dx b : Addr) (prs : List (Addr × List Str)), H' a = some (.ins CR dx [("_rules", .ref b)]) ∧ H' b = some (.lst (prs.map fun q => V.ref q.1)) ∧ (∀ q ∈ prs, H' q.1 = some (.lst (q.2.map V.str)) ∧ H q.1 = none) ∧ prs.map (·.2) = wss ∧ H b = none
theorem RksNew.at {CR : Addr} {H H' : Hp} {a : Addr} {wss : List (List Str)} (h : RksNew CR H H' a wss) : RksAt CR H' a wss := by
  obtain ⟨dx, b, prs, h1, h2, h3, h4, _⟩ := h
  exact ⟨dx, b, prs, h1, h2, fun q hq => (h3 q hq).1, h4⟩
theorem joinL_le {S : List Nat} : ∀ {ps : List (List Nat)} {p : List Nat}, p ∈ ps → p.length ≤ (TL.joinL S ps).length
  | [], _, h => nomatch h
  | [q], p, h => by
    rw [List.mem_singleton.mp h]
    exact Nat.le_refl _
  | q :: r :: t, p, h => by
    show p.length ≤ (q ++ (S ++ TL.joinL S (r :: t))).length
    rw [List.length_append, List.length_append]
    rcases List.mem_cons.mp h with e | e
    · rw [e]; omega
    · have := joinL_le (S := S) e
      omega
theorem joinL_cnt {S : List Nat} (hS : 1 ≤ S.length) : ∀ ps : List (List Nat), ps.length ≤ (TL.joinL S ps).length + 1
  | [] => Nat.zero_le _
  | [q] => Nat.le_add_left _ _
  | q :: r :: t => by
    show (r :: t).length + 1 ≤ (q ++ (S ++ TL.joinL S (r :: t))).length + 1
    rw [List.length_append, List.length_append]
    have := joinL_cnt hS (r :: t)
    omega
theorem split_len {z y p : Str} (h : p ∈ Txt.split z y) : p.length ≤ z.length := by
  have e := congrArg TL.tl (StrLaws.join_split z y)
  rw [TL.tl_join] at e
  rw [TL.len_tl, TL.len_tl, ← e]
  exact joinL_le (List.mem_map_of_mem h)
theorem split_cnt {z y : Str} (hy : 1 ≤ y.length) : (Txt.split z y).length ≤ z.length + 1 := by
  have e := congrArg TL.tl (StrLaws.join_split z y)
  rw [TL.tl_join] at e
  rw [TL.len_tl z, ← e]
  have := joinL_cnt (S := TL.tl y) (by rw [← TL.len_tl]; exact hy) ((Txt.split z y).map TL.tl)
  rwa [List.length_map] at this
def spRksInit (CR : Addr) : Sp := fun vs H Q _ => ∃ (x dx : Addr) (z : Str), vs = [.ref x, .str z] ∧ z.length ≤ 1000000 ∧ H x = some (.ins CR dx []) ∧ (∀ ws ∈ rlsOf z, goodW ws = true) ∧ ∀ H', But x H H' → RksNew CR H H' x (rlsOf z) → Q .non H'
theorem scRulekeeperInit : FnScope ["self", "text", "at", "line", "words"] ["self", "text"] (defScope sRulekeeperInit) := ⟨rfl, rfl, rfl, by decide +kernel, rfl, by decide +kernel, by decide +kernel⟩
set_option maxHeartbeats 0 in
theorem ok_RuleKeeper_init {f : Addr} {fd : FuncData} (F : Fun K "__init__" "RuleKeeper.__init__" sRulekeeperInit f fd) (B : Bi mg) (R_RuleKeeper : ClsC K mg "RuleKeeper" C_RuleKeeper) (N_RuleKeeper : NoAttr K C_RuleKeeper "_rules") (D__is_when : Dn P w K mg base "_is_when" 4 ["words"] (spWhB K)) (D__is_else : Dn P w K mg base "_is_else" 4 ["words"] (spElB K)) :
    FnOk P w K mg base CX0 5 f fd ["self", "text"] (spRksInit C_RuleKeeper) := by
  refine F.ok scRulekeeperInit (fun vs H Q E h => ?_) (fun cdv A outer s H vs Q E hr h => ?_)
  · obtain ⟨x, dx, z, rfl, _⟩ := h
    rfl
  · obtain ⟨x, dx, z, rfl, hz, hx, hg, k⟩ := h
    refine ⟨_, (pss_cons (ps_fld (pv 0) (pe_lst pa_nil) rfl)
  (pss_one (ps_for PassesOwn.never rfl (pi_enum rfl B.enumerate (pa_cons (pe_split (pv 1) pe_str) pa_nil)) (pg_tup (by rfl) (pgs_cons (pg_name (i := 2) scRulekeeperInit.nd rfl (Or.inl rfl)) (pgs_cons (pg_name (i := 3) scRulekeeperInit.nd rfl (Or.inl rfl)) pgs_nil)))
  (pss_cons (ps_set (i := 4) scRulekeeperInit.nd rfl (Or.inl rfl) (pe_split (pv 3) pe_str))
  (pss_cons (ps_if (PW.pt (pw_and (pt_not (pt_val (pe_dn D__is_when (hr.mono (by decide)) (by rfl) pass0 (pa_cons (pv 4) pa_nil)))) (pw_and1 (pt_not (pt_val (pe_dn D__is_else (hr.mono (by decide)) (by rfl) pass0 (pa_cons (pv 4) pa_nil))))))) (pss_one ps_never)
  pss_nil)
  (pss_one (ps_expr (pe_bm PySem.F.plainAttrs_list PySem.F.slot_list_append PySem.F.type_list_append mt_append (pe_fld (pv 0) rfl) (pa_cons (pv 4) pa_nil))))))))), ?_⟩
    have sl : (2000000 : Nat) ≤ sizeLine := by decide
    refine ⟨by decide, fun b hb => ?_⟩
    have xb : x ≠ b := fun e => by rw [e, hb] at hx; cases hx
    refine ⟨_, rfl, x, C_RuleKeeper, dx, _, rfl, (upd_ne xb).trans hx, R_RuleKeeper.cl, N_RuleKeeper, by decide, ?_⟩
    walk_at "rd"
    refine ⟨⟨_, rfl⟩, ?_⟩
    walk_at "rd"
    have nl1 : 1 ≤ (Str.ofString "\n").length := by decide
    have sp1 : 1 ≤ (Str.ofString " ").length := by decide
    refine ⟨by omega, fun L hL => ?_⟩
    obtain ⟨H2, hH2⟩ : ∃ H2 : Hp, H2 = upd (upd H b (.lst [])) x (.ins C_RuleKeeper dx (putF "_rules" (.ref b) [])) := ⟨_, rfl⟩
    have x2 : H2 x = some (.ins C_RuleKeeper dx [("_rules", .ref b)]) := by rw [hH2]; exact upd_same
    have b2 : H2 b = some (.lst []) := by rw [hH2, upd_ne xb.symm]; exact upd_same
    have s2 : But x H H2 := fun c o nc hc => by
      have cb : c ≠ b := fun e => by rw [e, hb] at hc; cases hc
      rw [hH2, upd_ne nc, upd_ne cb]; exact hc
    rw [← hH2] at hL ⊢
    have bL : b ≠ L := fun e => by rw [e, hL] at b2; cases b2
    obtain ⟨H3, hH3⟩ : ∃ H3 : Hp, H3 = upd H2 L (.lst ((Txt.split z (Str.ofString "\n")).map V.str)) := ⟨_, rfl⟩
    rw [← hH3]
    have L3 : H3 L = some (.lst ((lnsOf z).map V.str)) := by rw [hH3]; exact upd_same
    have s3 : Same H2 H3 := fun c o hc => by rw [hH3, upd_ne (ne_of_none hc hL)]; exact hc
    have x3 := s3 _ _ x2
    have b3 := s3 _ _ b2
    have bu3 : But x H H3 := s2.trans (But.of s3)
    clear hH3 hH2 s3 s2 hL x2 b2
    have bx : b ≠ x := fun e => xb e.symm
    have cnt : (lnsOf z).length ≤ z.length + 1 := split_cnt nl1
    refine ⟨L, _, rfl, SqL.of L3, ?_⟩
    refine for_it (walk_enum (K := K) (a := L) (xs := (lnsOf z).map V.str)) (fun i σ H' => ∃ (v2 v3 v4 : Option V) (prs : List (Addr × List Str)), σ = [some (.ref x), some (.str z), v2, v3, v4] ∧ H' L = some (.lst ((lnsOf z).map V.str)) ∧ But x H H' ∧ H' x = some (.ins C_RuleKeeper dx [("_rules", .ref b)]) ∧
      H' b = some (.lst (prs.map fun q => V.ref q.1)) ∧ (∀ q ∈ prs, H' q.1 = some (.lst (q.2.map V.str)) ∧ q.1 ≠ b ∧ H q.1 = none) ∧ prs.map (·.2) = (rlsOf z).take i ∧ prs.length = i) ⟨none, none, none, [], rfl, L3, bu3, x3, b3, (fun q hq => nomatch hq), rfl, rfl⟩ (fun i σ G _ ⟨_, _, _, _, _, h, _⟩ => SqL.of h) ?_ ?_
    · rintro i x9 σ G G' hi ⟨v2, v3, v4, prs, rfl, gL, gB, gx, gb, gq, ge, gi⟩ ⟨T, u1, u2, rfl, hT, rfl, e1, hx⟩
      cases e1
      rw [List.length_map] at hi
      have hx : ((lnsOf z).map V.str)[i]? = some u2 := hx
      rw [List.getElem?_map] at hx
      obtain ⟨ln, eln, rfl⟩ := Option.map_eq_some_iff.mp hx
      have lmem : ln ∈ lnsOf z := List.mem_of_getElem? eln
      have ll : ln.length ≤ z.length := split_len lmem
      have er : (rlsOf z)[i]? = some (wdsOf ln) := by
        unfold rlsOf
        rw [List.getElem?_map, eln]; rfl
      have wl : ∀ s ∈ wdsOf ln, s.length ≤ 1000000 := fun s hs => by
        have := split_len hs
        omega
      have good : goodW (wdsOf ln) = true := hg _ (List.mem_of_getElem? er)
      refine ⟨T, _, rfl, SqT.of upd_same, rfl, ?_⟩
      walk_at "rd"
      refine ⟨⟨_, rfl⟩, ?_⟩
      walk_at "rd"
      refine ⟨by omega, fun D hD => ?_⟩
      obtain ⟨H5, hH5⟩ : ∃ H5 : Hp, H5 = upd (upd G T (.tup [.int (i : Nat), .str ln])) D (.lst ((Txt.split ln (Str.ofString " ")).map V.str)) := ⟨_, rfl⟩
      rw [← hH5]
      have sT : Same G (upd G T (.tup [.int (i : Nat), .str ln])) := Same.upd hT
      have D5 : H5 D = some (.lst ((wdsOf ln).map V.str)) := by rw [hH5]; exact upd_same
      have s5 : Same G H5 := fun c o hc => by
        have := sT _ _ hc
        rw [hH5, upd_ne (ne_of_none this hD)]; exact this
      have Db : D ≠ b := fun e => by rw [e, sT _ _ gb] at hD; cases hD
      have D0 : H D = none := by
        cases e : H D with
        | none => rfl
        | some o =>
          by_cases dx2 : D = x
          · rw [dx2, sT _ _ gx] at hD; cases hD
          · rw [sT _ _ (gB D o dx2 e)] at hD; cases hD
      clear hH5 hD sT hT
      walk_at "rd"
      refine ⟨D, wdsOf ln, rfl, SqL.of D5, wl, ?_⟩
      refine ⟨_, rfl, ?_⟩
      unfold goodW at good
      cases hW : isWh (wdsOf ln)
      · rw [hW, Bool.false_or] at good
        walk_at "rd"
        refine ⟨D, wdsOf ln, rfl, SqL.of D5, wl, ?_⟩
        rw [good]
        walk_at "rd"
        refine ⟨x, C_RuleKeeper, dx, _, _, rfl, s5 _ _ gx, R_RuleKeeper.cl, N_RuleKeeper, rfl, ?_⟩
        have b5 := s5 _ _ gb
        refine ⟨.inl ⟨rfl, _, SqL.of b5⟩, ?_⟩
        refine ⟨_, rfl, ?_⟩
        refine ⟨b, _, _, rfl, rfl, b5, by rw [List.length_map]; omega, ?_⟩
        refine ⟨_, _, _, prs ++ [(D, wdsOf ln)], rfl, (upd_ne bL.symm).trans (s5 _ _ gL), fun c o nc hc => ?_, (upd_ne xb).trans (s5 _ _ gx), by rw [upd_same, List.map_append]; rfl, fun q hq => ?_, by rw [List.map_append, ge, List.take_add_one, er]; rfl, by rw [List.length_append, gi]; rfl⟩
        · have cb : c ≠ b := fun e => by rw [e, hb] at hc; cases hc
          exact (upd_ne cb).trans (s5 _ _ (gB c o nc hc))
        · rcases List.mem_append.mp hq with h | h
          · exact ⟨(upd_ne (gq q h).2.1).trans (s5 _ _ (gq q h).1), (gq q h).2⟩
          · rw [List.mem_singleton.mp h]
            exact ⟨(upd_ne Db).trans D5, Db, D0⟩
      · walk_at "rd"
        refine ⟨x, C_RuleKeeper, dx, _, _, rfl, s5 _ _ gx, R_RuleKeeper.cl, N_RuleKeeper, rfl, ?_⟩
        have b5 := s5 _ _ gb
        refine ⟨.inl ⟨rfl, _, SqL.of b5⟩, ?_⟩
        refine ⟨_, rfl, ?_⟩
        refine ⟨b, _, _, rfl, rfl, b5, by rw [List.length_map]; omega, ?_⟩
        refine ⟨_, _, _, prs ++ [(D, wdsOf ln)], rfl, (upd_ne bL.symm).trans (s5 _ _ gL), fun c o nc hc => ?_, (upd_ne xb).trans (s5 _ _ gx), by rw [upd_same, List.map_append]; rfl, fun q hq => ?_, by rw [List.map_append, ge, List.take_add_one, er]; rfl, by rw [List.length_append, gi]; rfl⟩
        · have cb : c ≠ b := fun e => by rw [e, hb] at hc; cases hc
          exact (upd_ne cb).trans (s5 _ _ (gB c o nc hc))
        · rcases List.mem_append.mp hq with h | h
          · exact ⟨(upd_ne (gq q h).2.1).trans (s5 _ _ (gq q h).1), (gq q h).2⟩
          · rw [List.mem_singleton.mp h]
            exact ⟨(upd_ne Db).trans D5, Db, D0⟩
    · rintro σ G ⟨v2, v3, v4, prs, rfl, gL, gB, gx, gb, gq, ge, gi⟩
      rw [List.length_map, List.take_of_length_le (by unfold rlsOf; rw [List.length_map]; exact Nat.le_refl _)] at ge
      exact k G gB ⟨dx, b, prs, gx, gb, fun q hq => ⟨(gq q hq).1, (gq q hq).2.2⟩, ge, hb⟩
/-- the first bad line -/
def BadAt (z : Str) (k : Nat) : Prop := k < (rlsOf z).length ∧ (∀ i ws, i < k → (rlsOf z)[i]? = some ws → goodW ws = true) ∧ ∀ ws, (rlsOf z)[k]? = some ws → goodW ws = false
def spRksInitX (CB CR : Addr) : Sp := fun vs H Q E => ∃ (x dx : Addr) (z : Str) (kb : Nat), vs = [.ref x, .str z] ∧ z.length ≤ 1000000 ∧ H x = some (.ins CR dx []) ∧ BadAt z kb ∧ ∀ H', But x H H' → Out CB "line" (.int ((kb : Nat) + 1)) H' E
set_option maxHeartbeats 0 in
theorem ok_RuleKeeper_init_x {f : Addr} {fd : FuncData} (F : Fun K "__init__" "RuleKeeper.__init__" sRulekeeperInit f fd) (B : Bi mg) (R_RuleKeeper : ClsC K mg "RuleKeeper" C_RuleKeeper) (N_RuleKeeper : NoAttr K C_RuleKeeper "_rules") (E_BadRule : ErrC P K mg "BadRule" C_BadRule "line" false) (D__is_when : Dn P w K mg base "_is_when" 4 ["words"] (spWhB K)) (D__is_else : Dn P w K mg base "_is_else" 4 ["words"] (spElB K)) :
    FnOk P w K mg base (L2.CX P w) 5 f fd ["self", "text"] (spRksInitX C_BadRule C_RuleKeeper) := by
  refine F.okX scRulekeeperInit (fun vs H Q E h => ?_) (fun cdv A outer s H vs Q E hr h => ?_)
  · obtain ⟨x, dx, z, kb, rfl, _⟩ := h
    rfl
  · obtain ⟨x, dx, z, kb, rfl, hz, hx, ⟨hk1, hk2, hk3⟩, k⟩ := h
    refine ⟨_, (pss_cons (ps_fld (pv 0) (pe_lst pa_nil) rfl)
  (pss_one (ps_for (passes_of rfl) rfl (pi_enum rfl B.enumerate (pa_cons (pe_split (pv 1) pe_str) pa_nil)) (pg_tup (by rfl) (pgs_cons (pg_name (i := 2) scRulekeeperInit.nd rfl (Or.inl rfl)) (pgs_cons (pg_name (i := 3) scRulekeeperInit.nd rfl (Or.inl rfl)) pgs_nil)))
  (pss_cons (ps_set (i := 4) scRulekeeperInit.nd rfl (Or.inl rfl) (pe_split (pv 3) pe_str))
  (pss_cons (ps_if (PW.pt (pw_and (pt_not (pt_val (pe_dn D__is_when (hr.mono (by decide)) (by rfl) pass0 (pa_cons (pv 4) pa_nil)))) (pw_and1 (pt_not (pt_val (pe_dn D__is_else (hr.mono (by decide)) (by rfl) pass0 (pa_cons (pv 4) pa_nil))))))) (pss_one (ps_raiseE (k := 0) E_BadRule rfl (hr.mono (by decide)) (takes_of rfl rfl rfl rfl) (pa_cons (pe_op op_add (pv 2) pe_int) pa_nil)))
  pss_nil)
  (pss_one (ps_expr (pe_bm PySem.F.plainAttrs_list PySem.F.slot_list_append PySem.F.type_list_append mt_append (pe_fld (pv 0) rfl) (pa_cons (pv 4) pa_nil))))))))), ?_⟩
    have sl : (2000000 : Nat) ≤ sizeLine := by decide
    refine ⟨by decide, fun b hb => ?_⟩
    have xb : x ≠ b := fun e => by rw [e, hb] at hx; cases hx
    refine ⟨_, rfl, x, C_RuleKeeper, dx, _, rfl, (upd_ne xb).trans hx, R_RuleKeeper.cl, N_RuleKeeper, by decide, ?_⟩
    walk_at "rd"
    refine ⟨⟨_, rfl⟩, ?_⟩
    walk_at "rd"
    have nl1 : 1 ≤ (Str.ofString "\n").length := by decide
    have sp1 : 1 ≤ (Str.ofString " ").length := by decide
    refine ⟨by omega, fun L hL => ?_⟩
    obtain ⟨H2, hH2⟩ : ∃ H2 : Hp, H2 = upd (upd H b (.lst [])) x (.ins C_RuleKeeper dx (putF "_rules" (.ref b) [])) := ⟨_, rfl⟩
    have x2 : H2 x = some (.ins C_RuleKeeper dx [("_rules", .ref b)]) := by rw [hH2]; exact upd_same
    have b2 : H2 b = some (.lst []) := by rw [hH2, upd_ne xb.symm]; exact upd_same
    have s2 : But x H H2 := fun c o nc hc => by
      have cb : c ≠ b := fun e => by rw [e, hb] at hc; cases hc
      rw [hH2, upd_ne nc, upd_ne cb]; exact hc
    rw [← hH2] at hL ⊢
    have bL : b ≠ L := fun e => by rw [e, hL] at b2; cases b2
    obtain ⟨H3, hH3⟩ : ∃ H3 : Hp, H3 = upd H2 L (.lst ((Txt.split z (Str.ofString "\n")).map V.str)) := ⟨_, rfl⟩
    rw [← hH3]
    have L3 : H3 L = some (.lst ((lnsOf z).map V.str)) := by rw [hH3]; exact upd_same
    have s3 : Same H2 H3 := fun c o hc => by rw [hH3, upd_ne (ne_of_none hc hL)]; exact hc
    have x3 := s3 _ _ x2
    have b3 := s3 _ _ b2
    have bu3 : But x H H3 := s2.trans (But.of s3)
    clear hH3 hH2 s3 s2 hL x2 b2
    have bx : b ≠ x := fun e => xb e.symm
    have cnt : (lnsOf z).length ≤ z.length + 1 := split_cnt nl1
    refine ⟨L, _, rfl, SqL.of L3, ?_⟩
    refine for_it (walk_enum (K := K) (a := L) (xs := (lnsOf z).map V.str)) (fun i σ H' => ∃ (v2 v3 v4 : Option V) (prs : List (Addr × List Str)), σ = [some (.ref x), some (.str z), v2, v3, v4] ∧ H' L = some (.lst ((lnsOf z).map V.str)) ∧ But x H H' ∧ H' x = some (.ins C_RuleKeeper dx [("_rules", .ref b)]) ∧
      H' b = some (.lst (prs.map fun q => V.ref q.1)) ∧ (∀ q ∈ prs, H' q.1 = some (.lst (q.2.map V.str)) ∧ q.1 ≠ b) ∧ prs.map (·.2) = (rlsOf z).take i ∧ prs.length = i ∧ i ≤ kb) ⟨none, none, none, [], rfl, L3, bu3, x3, b3, (fun q hq => nomatch hq), rfl, rfl, Nat.zero_le _⟩ (fun i σ G _ ⟨_, _, _, _, _, h, _⟩ => SqL.of h) ?_ ?_
    · rintro i x9 σ G G' hi ⟨v2, v3, v4, prs, rfl, gL, gB, gx, gb, gq, ge, gi, gk⟩ ⟨T, u1, u2, rfl, hT, rfl, e1, hx⟩
      cases e1
      rw [List.length_map] at hi
      have hx : ((lnsOf z).map V.str)[i]? = some u2 := hx
      rw [List.getElem?_map] at hx
      obtain ⟨ln, eln, rfl⟩ := Option.map_eq_some_iff.mp hx
      have lmem : ln ∈ lnsOf z := List.mem_of_getElem? eln
      have ll : ln.length ≤ z.length := split_len lmem
      have er : (rlsOf z)[i]? = some (wdsOf ln) := by
        unfold rlsOf
        rw [List.getElem?_map, eln]; rfl
      have wl : ∀ s ∈ wdsOf ln, s.length ≤ 1000000 := fun s hs => by
        have := split_len hs
        omega
      refine ⟨T, _, rfl, SqT.of upd_same, rfl, ?_⟩
      walk_at "rd"
      refine ⟨⟨_, rfl⟩, ?_⟩
      walk_at "rd"
      refine ⟨by omega, fun D hD => ?_⟩
      obtain ⟨H5, hH5⟩ : ∃ H5 : Hp, H5 = upd (upd G T (.tup [.int (i : Nat), .str ln])) D (.lst ((Txt.split ln (Str.ofString " ")).map V.str)) := ⟨_, rfl⟩
      rw [← hH5]
      have sT : Same G (upd G T (.tup [.int (i : Nat), .str ln])) := Same.upd hT
      have D5 : H5 D = some (.lst ((wdsOf ln).map V.str)) := by rw [hH5]; exact upd_same
      have s5 : Same G H5 := fun c o hc => by
        have := sT _ _ hc
        rw [hH5, upd_ne (ne_of_none this hD)]; exact this
      have Db : D ≠ b := fun e => by rw [e, sT _ _ gb] at hD; cases hD
      clear hH5 hD sT hT
      walk_at "rd"
      refine ⟨D, wdsOf ln, rfl, SqL.of D5, wl, ?_⟩
      refine ⟨_, rfl, ?_⟩
      rcases Nat.lt_or_ge i kb with ik | ik
      rotate_left
      · obtain rfl : i = kb := by omega
        have bad := hk3 _ er
        unfold goodW at bad
        rw [Bool.or_eq_false_iff] at bad
        rw [bad.1]
        walk_at "rd"
        refine ⟨D, wdsOf ln, rfl, SqL.of D5, wl, ?_⟩
        rw [bad.2]
        walk_at "rd"
        exact ⟨(fun z => nomatch z), k H5 (gB.trans (But.of s5))⟩
      have good := hk2 i _ ik er
      unfold goodW at good
      cases hW : isWh (wdsOf ln)
      · rw [hW, Bool.false_or] at good
        walk_at "rd"
        refine ⟨D, wdsOf ln, rfl, SqL.of D5, wl, ?_⟩
        rw [good]
        walk_at "rd"
        refine ⟨x, C_RuleKeeper, dx, _, _, rfl, s5 _ _ gx, R_RuleKeeper.cl, N_RuleKeeper, rfl, ?_⟩
        have b5 := s5 _ _ gb
        refine ⟨.inl ⟨rfl, _, SqL.of b5⟩, ?_⟩
        refine ⟨_, rfl, ?_⟩
        refine ⟨b, _, _, rfl, rfl, b5, by rw [List.length_map]; omega, ?_⟩
        refine ⟨_, _, _, prs ++ [(D, wdsOf ln)], rfl, (upd_ne bL.symm).trans (s5 _ _ gL), fun c o nc hc => ?_, (upd_ne xb).trans (s5 _ _ gx), by rw [upd_same, List.map_append]; rfl, fun q hq => ?_, by rw [List.map_append, ge, List.take_add_one, er]; rfl, by rw [List.length_append, gi]; rfl, by omega⟩
        · have cb : c ≠ b := fun e => by rw [e, hb] at hc; cases hc
          exact (upd_ne cb).trans (s5 _ _ (gB c o nc hc))
        · rcases List.mem_append.mp hq with h | h
          · exact ⟨(upd_ne (gq q h).2).trans (s5 _ _ (gq q h).1), (gq q h).2⟩
          · rw [List.mem_singleton.mp h]
            exact ⟨(upd_ne Db).trans D5, Db⟩
      · walk_at "rd"
        refine ⟨x, C_RuleKeeper, dx, _, _, rfl, s5 _ _ gx, R_RuleKeeper.cl, N_RuleKeeper, rfl, ?_⟩
        have b5 := s5 _ _ gb
        refine ⟨.inl ⟨rfl, _, SqL.of b5⟩, ?_⟩
        refine ⟨_, rfl, ?_⟩
        refine ⟨b, _, _, rfl, rfl, b5, by rw [List.length_map]; omega, ?_⟩
        refine ⟨_, _, _, prs ++ [(D, wdsOf ln)], rfl, (upd_ne bL.symm).trans (s5 _ _ gL), fun c o nc hc => ?_, (upd_ne xb).trans (s5 _ _ gx), by rw [upd_same, List.map_append]; rfl, fun q hq => ?_, by rw [List.map_append, ge, List.take_add_one, er]; rfl, by rw [List.length_append, gi]; rfl, by omega⟩
        · have cb : c ≠ b := fun e => by rw [e, hb] at hc; cases hc
          exact (upd_ne cb).trans (s5 _ _ (gB c o nc hc))
        · rcases List.mem_append.mp hq with h | h
          · exact ⟨(upd_ne (gq q h).2).trans (s5 _ _ (gq q h).1), (gq q h).2⟩
          · rw [List.mem_singleton.mp h]
            exact ⟨(upd_ne Db).trans D5, Db⟩
    · rintro σ G ⟨v2, v3, v4, prs, rfl, gL, gB, gx, gb, gq, ge, gi, gk⟩
      rw [List.length_map] at gk
      unfold rlsOf at hk1
      rw [List.length_map] at hk1
      omega
/-! what is chosen -/
def gapB (l : List Bool) : Int := ((l.drop 1).length : Int) - ((nrm (l.drop 1)).length : Int)
def fct (n : Str) (l : List Bool) (p : Int) (bs : List Int) (ph : Int) : Int :=
  if V.str n = V.str "free" then p - (l.length : Int) else if V.str n = V.str "living" then ((l.count true : Nat) : Int) else if V.str n = V.str "dead" then ((l.count false : Nat) : Int) else if V.str n = V.str "gap" then gapB l else ((bud bs ph 0 : Nat) : Int)
def fctK (l : List Bool) (p : Int) (bs : List Int) (ph : Int) : List (Key × V) := [(.inr "free", .int (p - (l.length : Int))), (.inr "living", .int ((l.count true : Nat) : Int)), (.inr "dead", .int ((l.count false : Nat) : Int)), (.inr "gap", .int (gapB l)), (.inr "budget", .int ((bud bs ph 0 : Nat) : Int))]
theorem fctK_get {n : Str} {l : List Bool} {p : Int} {bs : List Int} {ph : Int} (h : n ∈ nms) : valV (mergeK [] (fctK l p bs ph)) (.inr n) = some (.int (fct n l p bs ph)) := by
  unfold nms at h
  simp only [List.mem_cons, List.not_mem_nil, or_false] at h
  rcases h with rfl | rfl | rfl | rfl | rfl <;> kernel_rfl
def spFacts (C : Addr) : Sp := fun vs H Q _ => ∃ (l : List Bool) (p : Int) (r : Addr) (bs : List Int) (ph : Int), vs = [.str (tx l), .int p, .ref r, .int ph] ∧ Wd l ∧ l.length ≤ 9000 ∧ Okb bs ∧ RoundAt C H r bs ∧ 0 ≤ ph ∧ ∀ (d : Addr) (H' : Hp), H' d = some (.dK (mergeK [] (fctK l p bs ph))) → Same H H' → Q (.ref d) H'
theorem scFacts : FnScope ["word", "places", "budgets", "phase", "behind"] ["word", "places", "budgets", "phase"] (defScope sFacts) := ⟨rfl, rfl, rfl, by decide +kernel, rfl, by decide +kernel, by decide +kernel⟩
set_option maxHeartbeats 0 in
theorem ok__facts {f : Addr} {fd : FuncData} (F : Fun K "_facts" "_facts" sFacts f fd) (B : Bi mg) (R_Round : ClsC K mg "Round" C) (M_Round_at : Mn P w K mg base C "at" 3 ["self", "t"] (spAt C)) (D_living : Dn P w K mg base "living" 4 ["word"] spLiving) : FnOk P w K mg base CX0 5 f fd ["word", "places", "budgets", "phase"] (spFacts C) := by
  refine F.ok scFacts (fun vs H Q E h => ?_) (fun cdv A outer s H vs Q E hr h => ?_)
  · obtain ⟨l, p, r, bs, ph, rfl, _⟩ := h
    rfl
  · obtain ⟨l, p, r, bs, ph, rfl, W, l9, ok, hR, ph0, k⟩ := h
    refine ⟨_, (pss_cons (ps_set (i := 4) scFacts.nd rfl (Or.inl rfl) (pe_slice sl_str (pv 0) (po_some pe_int) po_none))
  (pss_one (ps_ret (pe_disp (pps_cons pe_str (pe_op op_sub (pv 1) (pe_callB call_len_str (by rfl) B.len PySem.boot_len (pa_cons (pv 0) pa_nil))) (pps_cons pe_str (pe_dn D_living (hr.mono (by decide)) (by rfl) pass0 (pa_cons (pv 0) pa_nil)) (pps_cons pe_str (pe_m1 PySem.F.slot_str_count PySem.F.type_str_count mt_count (pv 0) pe_str) (pps_cons pe_str (pe_op op_sub (pe_callB call_len_str (by rfl) B.len PySem.boot_len (pa_cons (pv 4) pa_nil)) (pe_callB call_len_str (by rfl) B.len PySem.boot_len (pa_cons (pe_m1 PySem.F.slot_str_lstrip PySem.F.type_str_lstrip mt_lstripChars (pv 4) pe_str) pa_nil))) (pps_cons pe_str (pe_mn M_Round_at R_Round.cl (hr.mono (by decide)) pass0 (pv 2) (pa_cons (pv 3) pa_nil)) pps_nil))))) (by rfl) (by rfl) (fun z => by cases z) (by decide))))), ?_⟩
    walk_at "rd"
    have sl : (20000 : Nat) ≤ sizeLine := by decide
    refine ⟨by rw [tx_len]; omega, ?_⟩
    rw [show cutS (tx l) (some (1 : Int)) none = tx (l.drop 1) from cutS_from (f := 1)]
    walk_at "rd"
    intro d hd
    simp only [tPairs]
    have S1 := Same.upd (o := .dK []) hd
    obtain ⟨dr, tr, hr1, hr2⟩ := hR.same S1
    have hR1 : RoundAt C (upd H d (.dK [])) r bs := ⟨dr, tr, hr1, hr2⟩
    obtain ⟨z, hz, z0, ez⟩ := bud_at (ph := ph) ok 0
    rw [show ph + ((0 : Nat) : Int) = ph by omega] at hz
    walk_at "rd"
    refine ⟨by rw [tx_len]; omega, ?_⟩
    rw [tx_len]
    walk_at "rd"
    refine ⟨by omega, W, ?_⟩
    walk_at "rd"
    refine ⟨⟨_, rfl⟩, _, _, rfl, rfl, ?_⟩
    rw [t0, tx_count]
    walk_at "rd"
    have dl : (l.drop 1).length ≤ l.length := by rw [List.length_drop]; omega
    have dn : (nrm (l.drop 1)).length ≤ l.length := Nat.le_trans (List.dropWhile_sublist _).length_le dl
    refine ⟨by rw [tx_len]; omega, ?_⟩
    rw [tx_len]
    walk_at "rd"
    refine ⟨⟨_, rfl⟩, _, _, rfl, rfl, by rw [tx_len]; omega, ?_⟩
    rw [tx_lstrip]
    walk_at "rd"
    refine ⟨by rw [tx_len]; omega, ?_⟩
    rw [tx_len]
    walk_at "rd"
    refine ⟨r, dr, _, rfl, hr1, no_ "at" (by decide) tr, ?_⟩
    walk_at "rd"
    refine ⟨r, bs, ph, z, rfl, hR1, ok, ph0, hz, ?_⟩
    exact ⟨upd_same, fctK l p bs ph, by rw [ez]; rfl, by show 5 ≤ 15; decide, k d _ upd_same fun c o hc => by rw [upd_ne (ne_of_none hc hd)]; exact S1 c o hc⟩
def hold (g : Str) (v b : Int) : Bool := if V.str g = V.str "<=" then decide (v ≤ b) else if V.str g = V.str ">=" then decide (v ≥ b) else decide (v = b)
def spHolds : Sp := fun vs H Q _ => ∃ (g : Str) (v b : Int), vs = [.int v, .str g, .int b] ∧ Q (.bl (hold g v b)) H
theorem scHolds : FnScope ["number", "sign", "bound"] ["number", "sign", "bound"] (defScope sHolds) := ⟨rfl, rfl, rfl, by decide +kernel, rfl, by decide +kernel, by decide +kernel⟩
theorem ok__holds {f : Addr} {fd : FuncData} (F : Fun K "_holds" "_holds" sHolds f fd) : FnOk P w K mg base CX0 1 f fd ["number", "sign", "bound"] spHolds := by
  refine F.ok scHolds (fun vs H Q E h => ?_) (fun cdv A outer s H vs Q E hr h => ?_)
  · obtain ⟨g, v, b, rfl, _⟩ := h
    rfl
  · obtain ⟨g, v, b, rfl, k⟩ := h
    refine ⟨_, (pss_cons (ps_if (pt_cmpR op_eq (pv 1) pe_str (nomark _)) (pss_one (ps_ret (pe_cmpR op_le (pv 0) (pv 2) (nomark _))))
  pss_nil)
  (pss_cons (ps_if (pt_cmpR op_eq (pv 1) pe_str (nomark _)) (pss_one (ps_ret (pe_cmpR op_ge (pv 0) (pv 2) (nomark _))))
  pss_nil)
  (pss_one (ps_ret (pe_cmpR op_eq (pv 0) (pv 2) (nomark _)))))), ?_⟩
    unfold hold at k
    walk_at "rd"
    by_cases e : V.str g = V.str (Str.ofString "<=")
    · rw [if_pos e] at k
      rw [decide_eq_true e]
      walk_at "rd"
      exact k
    · rw [if_neg e] at k
      rw [decide_eq_false e]
      walk_at "rd"
      by_cases e2 : V.str g = V.str (Str.ofString ">=")
      · rw [if_pos e2] at k
        rw [decide_eq_true e2]
        walk_at "rd"
        exact k
      · rw [if_neg e2] at k
        rw [decide_eq_false e2]
        walk_at "rd"
        have ev : decide (V.int v = V.int b) = decide (v = b) := by
          by_cases z : v = b
          · rw [decide_eq_true z, decide_eq_true (congrArg V.int z)]
          · rw [decide_eq_false z, decide_eq_false fun y => z (V.int.inj y)]
        rw [ev]
        exact k
def numV (s : Str) : Int := ((NumText.digitsVal s.cps.toList : Nat) : Int)
theorem isNb_num {s : Str} (h : isNb s = true) : PySem.intText? s = some (numV s) ∧ s.length ≤ 3 := by
  unfold isNb at h
  simp only [Bool.and_eq_true, decide_eq_true_eq] at h
  obtain ⟨h1, h2, h3⟩ := h
  have l3 : s.length ≤ 3 := by omega
  refine ⟨intText_digits (fun c hc => ?_) (fun e => ?_) (by omega), l3⟩
  · unfold allDg at h3
    rw [List.all_eq_true] at h3
    have := h3 c hc
    simp only [Bool.and_eq_true, decide_eq_true_eq] at this
    exact this
  · have : s.length = 0 := by rw [TL.len_tl, show TL.tl s = s.cps.toList from rfl, e]; rfl
    omega
/-- a good line: of which form -/
theorem good_cases {ws : List Str} (h : goodW ws = true) : (∃ n g b m : Str, ws = [("when" : Str), n, g, b, ("carry" : Str), m] ∧ n ∈ nms ∧ g ∈ sgns ∧ isNb b = true ∧ isAm m = true) ∨ ∃ m : Str, ws = [("else" : Str), ("carry" : Str), m] ∧ isAm m = true := by
  unfold goodW at h
  rw [Bool.or_eq_true] at h
  rcases h with h | h
  · unfold isWh at h
    split at h
    · rename_i a n g b c m
      simp only [Bool.and_eq_true, decide_eq_true_eq] at h
      obtain ⟨h1, h2, h3, h4, h5, h6⟩ := h
      rw [V.str.inj h1, V.str.inj h2]
      exact .inl ⟨n, g, b, m, rfl, (inV_str _ _).mp h3, (inV_str _ _).mp h4, h5, h6⟩
    · cases h
  · unfold isEl at h
    split at h
    · rename_i a b m
      simp only [Bool.and_eq_true, decide_eq_true_eq] at h
      obtain ⟨h1, h2, h3⟩ := h
      rw [V.str.inj h1, V.str.inj h2]
      exact .inr ⟨m, rfl, h3⟩
    · cases h
theorem isAm_nb {m : Str} (h : isAm m = true) (n : ¬ V.str m = V.str (Str.ofString "all")) : isNb m = true := by
  unfold isAm at h
  rw [decide_eq_false n, Bool.false_or] at h
  exact h
def amtW (m : Str) (most : Int) : Int := if V.str m = V.str "all" then most else if numV m < most then numV m else most
def fire (l : List Bool) (p : Int) (bs : List Int) (ph : Int) : List Str → Bool
  | [_, n, g, b, _, _] => hold g (fct n l p bs ph) (numV b)
  | _ => true
def rdue (l : List Bool) (p : Int) (bs : List Int) (ph : Int) : List (List Str) → Int
  | [] => 0
  | ws :: r => if fire l p bs ph ws = true then amtW (ws.getLastD "") (mostN l p bs ph : Nat) else rdue l p bs ph r
def spRksChoose (C CR : Addr) : Sp := fun vs H Q _ => ∃ (a : Addr) (l : List Bool) (p : Int) (r : Addr) (bs : List Int) (ph : Int) (wss : List (List Str)), vs = [.ref a, .str (tx l), .int p, .ref r, .int ph] ∧ RksAt CR H a wss ∧ (∀ ws ∈ wss, goodW ws = true) ∧ Wd l ∧ (l.length : Int) ≤ p ∧ 1 ≤ p ∧ p ≤ 5000 ∧ Okb bs ∧ RoundAt C H r bs ∧ 0 ≤ ph ∧
  ∀ H', Same H H' → Q (.int (rdue l p bs ph wss)) H'
theorem scRulekeeperChoose : FnScope ["self", "word", "places", "budgets", "phase", "facts", "most", "words"] ["self", "word", "places", "budgets", "phase"] (defScope sRulekeeperChoose) := ⟨rfl, rfl, rfl, by decide +kernel, rfl, by decide +kernel, by decide +kernel⟩
set_option maxHeartbeats 0 in
theorem ok_RuleKeeper_choose {f : Addr} {fd : FuncData} (F : Fun K "choose" "RuleKeeper.choose" sRulekeeperChoose f fd) (B : Bi mg) (R_RuleKeeper : ClsC K mg "RuleKeeper" C_RuleKeeper) (N_RuleKeeper : NoAttr K C_RuleKeeper "_rules") (D__check_moment : Dn P w K mg base "_check_moment" 4 ["word", "places", "budgets", "phase"] (spMoment C))
    (D__facts : Dn P w K mg base "_facts" 5 ["word", "places", "budgets", "phase"] (spFacts C)) (D_most_carries : Dn P w K mg base "most_carries" 5 ["word", "places", "budgets", "phase"] (spMost C)) (D__holds : Dn P w K mg base "_holds" 1 ["number", "sign", "bound"] spHolds) :
    FnOk P w K mg base CX0 6 f fd ["self", "word", "places", "budgets", "phase"] (spRksChoose C C_RuleKeeper) := by
  refine F.ok scRulekeeperChoose (fun vs H Q E h => ?_) (fun cdv A outer s H vs Q E hr h => ?_)
  · obtain ⟨a, l, p, r, bs, ph, wss, rfl, _⟩ := h
    rfl
  · obtain ⟨a, l, p, r, bs, ph, wss, rfl, hK, hg, W, lp, p1, p5, ok, hR, ph0, k⟩ := h
    refine ⟨_, (pss_cons (ps_expr (pe_dn D__check_moment (hr.mono (by decide)) (by rfl) pass0 (pa_cons (pv 1) (pa_cons (pv 2) (pa_cons (pv 3) (pa_cons (pv 4) pa_nil))))))
  (pss_cons (ps_set (i := 5) scRulekeeperChoose.nd rfl (Or.inl rfl) (pe_dn D__facts (hr.mono (by decide)) (by rfl) pass0 (pa_cons (pv 1) (pa_cons (pv 2) (pa_cons (pv 3) (pa_cons (pv 4) pa_nil))))))
  (pss_cons (ps_set (i := 6) scRulekeeperChoose.nd rfl (Or.inl rfl) (pe_dn D_most_carries (hr.mono (by decide)) (by rfl) pass0 (pa_cons (pv 1) (pa_cons (pv 2) (pa_cons (pv 3) (pa_cons (pv 4) pa_nil))))))
  (pss_cons (ps_for PassesOwn.never rfl (pi_list (pe_fld (pv 0) rfl)) (pg_name (i := 7) scRulekeeperChoose.nd rfl (Or.inl rfl))
  (pss_one (ps_if (PW.pt (pw_or (pt_cmpR op_eq (pe_ix ix_list (pv 7) pe_int (fun _ _ => rfl)) pe_str (nomark _)) (pw_or1 (pt_val (pe_dn D__holds (hr.mono (by decide)) (by rfl) pass0 (pa_cons (pe_dget (hu_of hr) (pv 5) (pe_ix ix_list (pv 7) pe_int (fun _ _ => rfl)) (fun _ _ => rfl)) (pa_cons (pe_ix ix_list (pv 7) pe_int (fun _ _ => rfl)) (pa_cons (pe_callTy call_int_str (by rfl) B.intT (by decide +kernel) (pa_cons (pe_ix ix_list (pv 7) pe_int (fun _ _ => rfl)) pa_nil)) pa_nil)))))))) (pss_one (ps_ret (pe_ifExp (pt_cmpR op_eq (pe_ix ix_list (pv 7) (pe_un un_neg pe_int) (fun _ _ => rfl)) pe_str (nomark _)) (pv 6) (pe_callB (call_min2 rfl) (by rfl) B.min (by decide +kernel) (pa_cons (pv 6) (pa_cons (pe_callTy call_int_str (by rfl) B.intT (by decide +kernel) (pa_cons (pe_ix ix_list (pv 7) (pe_un un_neg pe_int) (fun _ _ => rfl)) pa_nil)) pa_nil))))))
  pss_nil)))
  (pss_one (ps_ret pe_int)))))), ?_⟩
    obtain ⟨dx, b, prs, k1, k2, k3, rfl⟩ := hK
    walk_at "rd"
    refine ⟨l, p, r, bs, ph, rfl, W, by omega, lp, p1, hR, ph0, ?_⟩
    walk_at "rd"
    refine ⟨l, p, r, bs, ph, rfl, W, by omega, ok, hR, ph0, fun d H1 hd S1 => ?_⟩
    walk_at "rd"
    refine ⟨l, p, r, bs, ph, rfl, W, by omega, ok, hR.same S1, ph0, ?_⟩
    walk_at "rd"
    refine ⟨a, C_RuleKeeper, dx, _, _, rfl, S1 _ _ k1, R_RuleKeeper.cl, N_RuleKeeper, rfl, ?_⟩
    have kb := S1 _ _ k2
    refine ⟨b, rfl, ⟨_, SqL.of kb⟩, for_list (K := K) (a := b) (xs := prs.map fun q => V.ref q.1) (fun i σ H' => ∃ y : Option V, σ = [some (.ref a), some (.str (tx l)), some (.int p), some (.ref r), some (.int ph), some (.ref d), some (.int (mostN l p bs ph : Nat)), y] ∧ H' = H1 ∧ rdue l p bs ph (prs.map (·.2)) = rdue l p bs ph ((prs.drop i).map (·.2)))
      ⟨none, rfl, rfl, rfl⟩ (fun i σ H' _ ⟨_, _, e, _⟩ => e ▸ SqL.of kb) ?_ ?_⟩
    · rintro i x σ G hi ⟨y, rfl, rfl, hd2⟩
      rw [List.getElem?_map] at hi
      obtain ⟨q, eq, rfl⟩ := Option.map_eq_some_iff.mp hi
      have qm := List.mem_of_getElem? eq
      have hq := S1 _ _ (k3 q qm)
      have dr : prs.drop i = q :: prs.drop (i + 1) := by
        have hlt : i < prs.length := (List.getElem?_eq_some_iff.mp eq).1
        rw [List.drop_eq_getElem_cons hlt, (List.getElem?_eq_some_iff.mp eq).2]
      rw [dr, List.map_cons] at hd2
      have hv : rdue l p bs ph (prs.map (·.2)) = if fire l p bs ph q.2 = true then amtW (q.2.getLastD "") (mostN l p bs ph : Nat) else rdue l p bs ph ((prs.drop (i + 1)).map (·.2)) := hd2
      rcases good_cases (hg q.2 (List.mem_map_of_mem qm)) with ⟨n, g, bb, m, ews, hn, hgs, hbb, hM⟩ | ⟨m, ews, hM⟩
      · rw [ews] at hq hv
        obtain ⟨j1, j2⟩ := isNb_num hbb
        walk_at "rd"
        refine ⟨q.1, _, _, _, rfl, rfl, SqL.of hq, rfl, ?_⟩
        refine ⟨rfl, _, rfl, ?_⟩
        rw [decide_eq_false (by decide +kernel)]
        walk_at "rd"
        refine ⟨q.1, _, _, _, rfl, rfl, SqL.of hq, rfl, ?_⟩
        refine ⟨d, _, rfl, (fctK_get hn) ▸ DGet.k (k := .inr n) hd, ?_⟩
        walk_at "rd"
        refine ⟨q.1, _, _, _, rfl, rfl, SqL.of hq, rfl, ?_⟩
        walk_at "rd"
        refine ⟨q.1, _, _, _, rfl, rfl, SqL.of hq, rfl, ?_⟩
        walk_at "rd"
        refine ⟨bb, _, rfl, j1, by omega, ?_⟩
        walk_at "rd"
        cases hf : hold g (fct n l p bs ph) (numV bb) with
        | false =>
          have hv : rdue l p bs ph (prs.map (·.2)) = rdue l p bs ph ((prs.drop (i + 1)).map (·.2)) := by
            rw [hv]
            show (if hold g (fct n l p bs ph) (numV bb) = true then _ else _) = _
            rw [hf]; rfl
          walk_at "rd"
          exact hv
        | true =>
          have hv : rdue l p bs ph (prs.map (·.2)) = amtW m (mostN l p bs ph : Nat) := by
            rw [hv]
            show (if hold g (fct n l p bs ph) (numV bb) = true then _ else _) = _
            rw [hf]; rfl
          walk_at "rd"
          refine ⟨q.1, _, _, _, rfl, rfl, SqL.of hq, rfl, ?_⟩
          walk_at "rd"
          unfold amtW at hv
          by_cases hm : V.str m = V.str (Str.ofString "all")
          · rw [if_pos hm] at hv
            rw [decide_eq_true hm]
            refine iteT ?_
            walk_at "rd"
            have kk := k G S1
            rw [hv] at kk
            exact kk
          · rw [if_neg hm] at hv
            rw [decide_eq_false hm]
            refine iteF ?_
            walk_at "rd"
            obtain ⟨i1, i2⟩ := isNb_num (isAm_nb hM hm)
            refine ⟨q.1, _, _, _, rfl, rfl, SqL.of hq, rfl, ?_⟩
            walk_at "rd"
            refine ⟨m, _, rfl, i1, by omega, ?_⟩
            walk_at "rd"
            have kk := k G S1
            rw [hv] at kk
            exact kk
      · rw [ews] at hq hv
        have hv : rdue l p bs ph (prs.map (·.2)) = amtW m (mostN l p bs ph : Nat) := hv
        walk_at "rd"
        refine ⟨q.1, _, _, _, rfl, rfl, SqL.of hq, rfl, ?_⟩
        walk_at "rd"
        refine ⟨q.1, _, _, _, rfl, rfl, SqL.of hq, rfl, ?_⟩
        walk_at "rd"
        unfold amtW at hv
        by_cases hm : V.str m = V.str (Str.ofString "all")
        · rw [if_pos hm] at hv
          rw [decide_eq_true hm]
          refine iteT ?_
          walk_at "rd"
          have kk := k G S1
          rw [hv] at kk
          exact kk
        · rw [if_neg hm] at hv
          rw [decide_eq_false hm]
          refine iteF ?_
          walk_at "rd"
          obtain ⟨i1, i2⟩ := isNb_num (isAm_nb hM hm)
          refine ⟨q.1, _, _, _, rfl, rfl, SqL.of hq, rfl, ?_⟩
          walk_at "rd"
          refine ⟨m, _, rfl, i1, by omega, ?_⟩
          walk_at "rd"
          have kk := k G S1
          rw [hv] at kk
          exact kk
    · rintro σ G ⟨y, rfl, rfl, hd2⟩
      rw [List.length_map, List.drop_length] at hd2
      walk_at "rd"
      have kk := k G S1
      rw [hd2] at kk
      exact kk
theorem lg9 {n : Nat} (h : n ≤ 9001) : ((n : Nat) : Int).natAbs.log2 < 1920 := by
  rw [Int.natAbs_natCast]
  by_cases z : n = 0
  · rw [z]; decide
  · exact Nat.lt_trans ((Nat.log2_lt z).mpr (Nat.lt_of_le_of_lt h (show 9001 < 2 ^ 14 by decide))) (by decide)
def rlTx (n : Nat) : Str := ("rule " : Str) ++ Str.ofString (toString ((n : Nat) : Int))
def spRksLabel (CR : Addr) : Sp := fun vs H Q _ => ∃ (a : Addr) (wss : List (List Str)), vs = [.ref a] ∧ RksAt CR H a wss ∧ wss.length ≤ 9001 ∧ Q (.str (rlTx wss.length)) H
theorem scRulekeeperLabel : FnScope ["self"] ["self"] (defScope sRulekeeperLabel) := ⟨rfl, rfl, rfl, by decide +kernel, rfl, by decide +kernel, by decide +kernel⟩
theorem ok_RuleKeeper_label {f : Addr} {fd : FuncData} (F : Fun K "label" "RuleKeeper.label" sRulekeeperLabel f fd) (B : Bi mg) (R_RuleKeeper : ClsC K mg "RuleKeeper" C_RuleKeeper) (N_RuleKeeper : NoAttr K C_RuleKeeper "_rules") : FnOk P w K mg base CX0 1 f fd ["self"] (spRksLabel C_RuleKeeper) := by
  refine F.ok scRulekeeperLabel (fun vs H Q E h => ?_) (fun cdv A outer s H vs Q E hr h => ?_)
  · obtain ⟨a, wss, rfl, _⟩ := h
    rfl
  · obtain ⟨a, wss, rfl, ⟨dx, b, prs, h1, h2, h3, rfl⟩, hn, k⟩ := h
    refine ⟨_, (pss_one (ps_ret (pe_joined (PJ.cons pe_str (PJ.cons (pe_fmt (pe_callB call_len_seq (by rfl) B.len PySem.boot_len (pa_cons (pe_fld (pv 0) rfl) pa_nil))) PJ.nil))))), ?_⟩
    walk_at "rd"
    refine ⟨by decide, ?_⟩
    refine ⟨_, rfl, a, C_RuleKeeper, dx, _, _, rfl, h1, R_RuleKeeper.cl, N_RuleKeeper, rfl, ?_⟩
    walk_at "rd"
    refine ⟨b, _, rfl, .inl (SqL.of h2), ?_⟩
    rw [List.length_map] at hn k ⊢
    have tl := toString_length_le (show (0 : Int) ≤ ((prs.length : Nat) : Int) by omega) (k := 31) (by decide) (Int.lt_of_le_of_lt (show ((prs.length : Nat) : Int) ≤ 9001 by omega) (by decide))
    have sl : (20000 : Nat) ≤ sizeLine := by decide
    refine .inr ⟨_, rfl, lg9 hn, ?_⟩
    refine ⟨_, rfl, ?_, ?_⟩
    · rw [Str.length_append, show (Str.empty ++ ("rule " : Str)).length = 5 by decide]
      omega
    · rw [show Str.empty ++ ("rule " : Str) = ("rule " : Str) by decide]
      exact k
end
end Cl

/-! ### law k55: values, drawn words and lines -/
namespace Cl
open PySem PySem.Spec PyProof.Rows L2 StX ClX PySem.Builtin PySem.Builtin.Str
theorem zfill_len (a : Str) (i : Int) : (Txt.zfill a i).length ≤ max a.length i.toNat := by
  unfold Txt.zfill
  split
  · omega
  · unfold zfilled
    split
    all_goals rename_i hq
    all_goals first
      | (have hz : 0 < a.cps.size := (Array.getElem?_eq_some_iff.mp hq).1
         have hz2 : a.cps.size = a.length := rfl
         rw [Str.length_append, size_padded]
         have a1 := congrArg List.length (StrLaws.strSub_toList a 0 1)
         rw [List.length_take, List.length_drop] at a1
         have a2 := congrArg List.length (StrLaws.strSub_toList a 1 a.length)
         rw [List.length_take, List.length_drop] at a2
         have e1 : (strSub a 0 1).length = (strSub a 0 1).cps.toList.length := by simp [Str.length]
         have e2 : (strSub a 1 a.length).length = (strSub a 1 a.length).cps.toList.length := by simp [Str.length]
         have e3 : a.cps.toList.length = a.length := by simp [Str.length]
         omega)
      | (rw [size_padded]; omega)
/-- all texts of a list together -/
def totS (ys : List Str) : Nat := (ys.map (·.length)).sum
theorem joinL_len {S : List Nat} : ∀ ps : List (List Nat), (TL.joinL S ps).length ≤ (ps.map List.length).sum + ps.length * S.length
  | [] => Nat.zero_le _
  | [q] => by
    show q.length ≤ (q.length + 0) + 1 * S.length
    omega
  | q :: r :: t => by
    show (q ++ (S ++ TL.joinL S (r :: t))).length ≤ (q.length + ((r :: t).map List.length).sum) + ((r :: t).length + 1) * S.length
    rw [List.length_append, List.length_append, Nat.succ_mul]
    have := joinL_len (S := S) (r :: t)
    omega
theorem joinL_tot {S : List Nat} : ∀ ps : List (List Nat), (ps.map List.length).sum ≤ (TL.joinL S ps).length
  | [] => Nat.zero_le _
  | [q] => by
    show q.length + 0 ≤ q.length
    omega
  | q :: r :: t => by
    show q.length + ((r :: t).map List.length).sum ≤ (q ++ (S ++ TL.joinL S (r :: t))).length
    rw [List.length_append, List.length_append]
    have := joinL_tot (S := S) (r :: t)
    omega
theorem totS_tl (ys : List Str) : ((ys.map TL.tl).map List.length).sum = totS ys := by
  unfold totS
  rw [List.map_map]
  congr 1
theorem join_len (y : Str) (ys : List Str) : (Txt.join y ys).length ≤ totS ys + ys.length * y.length := by
  rw [TL.join_eq, TL.len_tl, TL.tl_join, ← totS_tl, TL.len_tl y]
  have := joinL_len (S := TL.tl y) (ys.map TL.tl)
  rwa [List.length_map] at this
theorem split_tot (z y : Str) : totS (Txt.split z y) ≤ z.length := by
  have e := congrArg TL.tl (StrLaws.join_split z y)
  rw [TL.tl_join] at e
  rw [TL.len_tl, ← e, ← totS_tl]
  exact joinL_tot _
section
variable {P : Program} {w : World} {K : PySem.W.Frag} {mg : Str → Option Value} {base : Heap} {C : Addr}
def spValue : Sp := fun vs H Q _ => ∃ (n : Str) (g q : Addr) (l : List Bool) (p ph : Int) (bs : List Int), vs = [.str n, .ref g, .ref q] ∧ Std5 H g l p ph ∧ H q = some (.lst (bs.map V.int)) ∧ Okb bs ∧ ∀ H', Same H H' → Q (.int (fct n l p bs ph)) H'
theorem scLawValue : FnScope ["name", "stand", "pays", "word"] ["name", "stand", "pays"] (defScope sLawValue) := ⟨rfl, rfl, rfl, by decide +kernel, rfl, by decide +kernel, by decide +kernel⟩
set_option maxHeartbeats 0 in
theorem ok__law_value {f : Addr} {fd : FuncData} (F : Fun K "_law_value" "_law_value" sLawValue f fd) (B : Bi mg) : FnOk P w K mg base CX0 1 f fd ["name", "stand", "pays"] spValue := by
  refine F.ok scLawValue (fun vs H Q E h => ?_) (fun cdv A outer s H vs Q E hr h => ?_)
  · obtain ⟨n, g, q, l, p, ph, bs, rfl, _⟩ := h
    rfl
  · obtain ⟨n, g, q, l, p, ph, bs, rfl, gg, hq, ok, k⟩ := h
    refine ⟨_, (pss_cons (ps_set (i := 3) scLawValue.nd rfl (Or.inl rfl) (pe_ix ix_list (pv 1) pe_int (fun _ _ => rfl)))
  (pss_cons (ps_if (pt_cmpR op_eq (pv 0) pe_str (nomark _)) (pss_one (ps_ret (pe_op op_sub (pe_ix ix_list (pv 1) pe_int (fun _ _ => rfl)) (pe_callB call_len_str (by rfl) B.len PySem.boot_len (pa_cons (pv 3) pa_nil)))))
  pss_nil)
  (pss_cons (ps_if (pt_cmpR op_eq (pv 0) pe_str (nomark _)) (pss_one (ps_ret (pe_m1 PySem.F.slot_str_count PySem.F.type_str_count mt_count (pv 3) pe_str)))
  pss_nil)
  (pss_cons (ps_if (pt_cmpR op_eq (pv 0) pe_str (nomark _)) (pss_one (ps_ret (pe_m1 PySem.F.slot_str_count PySem.F.type_str_count mt_count (pv 3) pe_str)))
  pss_nil)
  (pss_cons (ps_if (pt_cmpR op_eq (pv 0) pe_str (nomark _)) (pss_one (ps_ret (pe_op op_sub (pe_callB call_len_str (by rfl) B.len PySem.boot_len (pa_cons (pe_slice sl_str (pv 3) (po_some pe_int) po_none) pa_nil)) (pe_callB call_len_str (by rfl) B.len PySem.boot_len (pa_cons (pe_m1 PySem.F.slot_str_lstrip PySem.F.type_str_lstrip mt_lstripChars (pe_slice sl_str (pv 3) (po_some pe_int) po_none) pe_str) pa_nil)))))
  pss_nil)
  (pss_one (ps_ret (pe_ix ix_list (pv 2) (pe_op op_mod (pe_callTy call_int1 (by rfl) B.intT (by decide +kernel) (pa_cons (pe_ix ix_list (pv 1) pe_int (fun _ _ => rfl)) pa_nil)) (pe_callB call_len_seq (by rfl) B.len PySem.boot_len (pa_cons (pv 2) pa_nil))) (fun _ _ => rfl))))))))), ?_⟩
    obtain ⟨hg, W, lp, p1, p64, ph0, ph1⟩ := id gg
    unfold fct at k
    have sl : (20000 : Nat) ≤ sizeLine := by decide
    have ll : (tx l).length ≤ 64 := by rw [tx_len]; omega
    walk_at "rd"
    refine ⟨g, _, _, _, rfl, rfl, SqL.of hg, rfl, ?_⟩
    walk_at "rd"
    by_cases e1 : V.str n = V.str (Str.ofString "free")
    · rw [if_pos e1] at k
      rw [decide_eq_true e1]
      walk_at "rd"
      refine ⟨g, _, _, _, rfl, rfl, SqL.of hg, rfl, ?_⟩
      walk_at "rd"
      refine ⟨by omega, ?_⟩
      rw [tx_len]
      walk_at "rd"
      exact k _ (Same.refl _)
    rw [if_neg e1] at k
    rw [decide_eq_false e1]
    walk_at "rd"
    by_cases e2 : V.str n = V.str (Str.ofString "living")
    · rw [if_pos e2] at k
      rw [decide_eq_true e2]
      walk_at "rd"
      refine ⟨⟨_, rfl⟩, _, _, rfl, rfl, ?_⟩
      rw [t1, tx_count]
      exact k _ (Same.refl _)
    rw [if_neg e2] at k
    rw [decide_eq_false e2]
    walk_at "rd"
    by_cases e3 : V.str n = V.str (Str.ofString "dead")
    · rw [if_pos e3] at k
      rw [decide_eq_true e3]
      walk_at "rd"
      refine ⟨⟨_, rfl⟩, _, _, rfl, rfl, ?_⟩
      rw [t0, tx_count]
      exact k _ (Same.refl _)
    rw [if_neg e3] at k
    rw [decide_eq_false e3]
    walk_at "rd"
    by_cases e4 : V.str n = V.str (Str.ofString "gap")
    · rw [if_pos e4] at k
      rw [decide_eq_true e4]
      walk_at "rd"
      have dl : (l.drop 1).length ≤ l.length := by rw [List.length_drop]; omega
      have dn : (nrm (l.drop 1)).length ≤ l.length := Nat.le_trans (List.dropWhile_sublist _).length_le dl
      refine ⟨by omega, ?_⟩
      rw [show cutS (tx l) (some (1 : Int)) none = tx (l.drop 1) from cutS_from (f := 1)]
      walk_at "rd"
      refine ⟨by rw [tx_len]; omega, ?_⟩
      rw [tx_len]
      walk_at "rd"
      refine ⟨by omega, ?_⟩
      rw [show cutS (tx l) (some (1 : Int)) none = tx (l.drop 1) from cutS_from (f := 1)]
      walk_at "rd"
      refine ⟨⟨_, rfl⟩, _, _, rfl, rfl, by rw [tx_len]; omega, ?_⟩
      rw [t0, tx_lstrip]
      walk_at "rd"
      refine ⟨by rw [tx_len]; omega, ?_⟩
      rw [tx_len]
      walk_at "rd"
      exact k _ (Same.refl _)
    rw [decide_eq_false e4]
    walk_at "rd"
    obtain ⟨z, hz, z0, ez⟩ := bud_at (ph := ph) ok 0
    rw [show ph + ((0 : Nat) : Int) = ph by omega] at hz
    rw [if_neg e4] at k
    have l1 := ok.l1
    have l2 := ok.l2
    refine ⟨g, _, _, _, rfl, rfl, SqL.of hg, rfl, ?_⟩
    walk_at "rd"
    refine ⟨q, _, rfl, .inl (SqL.of hq), ?_⟩
    rw [List.length_map]
    walk_at "rd"
    refine ⟨(by show (0 : Int) < (bs.length : Int); omega), ?_⟩
    have at2 : (bs.map V.int)[(ph % (bs.length : Int)).toNat]? = some (V.int z) := by
      rw [List.getElem?_map]
      rw [hz]; rfl
    have m0 := Int.emod_nonneg ph (show (bs.length : Int) ≠ 0 by omega)
    refine ⟨q, _, _, _, rfl, rfl, SqL.of hq, by rw [← Int.toNat_of_nonneg m0]; exact atI_nat at2, ?_⟩
    walk_at "rd"
    rw [ez]
    exact k _ (Same.refl _)
def spDigits (K : PySem.W.Frag) : Sp := fun vs H Q _ => ∃ (sa b : Addr) (n : Int) (ns : List Int) (H0 : Hp), vs = [.ref sa, .ref b, .int n] ∧ SqL K H0 sa (ns.map V.int) ∧ BoxS H0 H b ∧ 0 ≤ n ∧ n ≤ 999 ∧ ∀ (s : Str) (H' : Hp), s.length ≤ 3 → BoxS H0 H' b → But b H H' → Q (.str s) H'
theorem scLawDigits : FnScope ["script", "box", "number"] ["script", "box", "number"] (defScope sLawDigits) := ⟨rfl, rfl, rfl, by decide +kernel, rfl, by decide +kernel, by decide +kernel⟩
theorem ok__law_digits {f : Addr} {fd : FuncData} (F : Fun K "_law_digits" "_law_digits" sLawDigits f fd) (B : Bi mg) (D__law_take : Dn P w K mg base "_law_take" 1 ["script", "box", "many"] (spTakeX K)) : FnOk P w K mg base CX0 2 f fd ["script", "box", "number"] (spDigits K) := by
  refine F.ok scLawDigits (fun vs H Q E h => ?_) (fun cdv A outer s H vs Q E hr h => ?_)
  · obtain ⟨sa, b, n, ns, H0, rfl, _⟩ := h
    rfl
  · obtain ⟨sa, b, n, ns, H0, rfl, hs, hB, n0, n9, k⟩ := h
    refine ⟨_, (pss_one (ps_ret (pe_bm PySem.F.plainAttrs_str PySem.F.slot_str_zfill PySem.F.type_str_zfill mt_zfill (pe_callTy call_str_int (by rfl) B.strT (by decide +kernel) (pa_cons (pv 2) pa_nil)) (pa_cons (pe_dn D__law_take (hr.mono (by decide)) (by rfl) pass0 (pa_cons (pv 0) (pa_cons (pv 1) (pa_cons pe_int pa_nil)))) pa_nil)))), ?_⟩
    have tl := toString_length_le n0 (k := 3) (by decide) (Int.lt_of_le_of_lt n9 (by decide))
    walk_at "rd"
    have lg : n.natAbs.log2 < 1920 := by
      have := lg9 (n := n.toNat) (by omega)
      rwa [Int.toNat_of_nonneg n0] at this
    refine ⟨lg, ?_⟩
    walk_at "rd"
    refine ⟨sa, b, 4, ns, H0, rfl, hs, hB, by decide, by decide, fun d H1 d0 d1 hB1 c1 => ?_⟩
    walk_at "rd"
    have zl := zfill_len (Str.ofString (toString n)) d
    refine ⟨?_, k _ H1 (by omega) hB1 c1⟩
    rcases (show d = 0 ∨ d = 1 ∨ d = 2 ∨ d = 3 by omega) with rfl | rfl | rfl | rfl <;> decide
def spAmtT (K : PySem.W.Frag) : Sp := fun vs H Q _ => ∃ (sa b : Addr) (ns : List Int) (H0 : Hp), vs = [.ref sa, .ref b] ∧ SqL K H0 sa (ns.map V.int) ∧ BoxS H0 H b ∧ ∀ (s : Str) (H' : Hp), s.length ≤ 3 → BoxS H0 H' b → But b H H' → Q (.str s) H'
theorem scLawAmountText : FnScope ["script", "box", "way", "number"] ["script", "box"] (defScope sLawAmountText) := ⟨rfl, rfl, rfl, by decide +kernel, rfl, by decide +kernel, by decide +kernel⟩
theorem ok__law_amount_text {f : Addr} {fd : FuncData} (F : Fun K "_law_amount_text" "_law_amount_text" sLawAmountText f fd) (D__law_take : Dn P w K mg base "_law_take" 1 ["script", "box", "many"] (spTakeX K)) (D__law_digits : Dn P w K mg base "_law_digits" 2 ["script", "box", "number"] (spDigits K)) :
    FnOk P w K mg base CX0 3 f fd ["script", "box"] (spAmtT K) := by
  refine F.ok scLawAmountText (fun vs H Q E h => ?_) (fun cdv A outer s H vs Q E hr h => ?_)
  · obtain ⟨sa, b, ns, H0, rfl, _⟩ := h
    rfl
  · obtain ⟨sa, b, ns, H0, rfl, hs, hB, k⟩ := h
    refine ⟨_, (pss_cons (ps_set (i := 2) scLawAmountText.nd rfl (Or.inl rfl) (pe_dn D__law_take (hr.mono (by decide)) (by rfl) pass0 (pa_cons (pv 0) (pa_cons (pv 1) (pa_cons pe_int pa_nil)))))
  (pss_cons (ps_set (i := 3) scLawAmountText.nd rfl (Or.inl rfl) (pe_dn D__law_take (hr.mono (by decide)) (by rfl) pass0 (pa_cons (pv 0) (pa_cons (pv 1) (pa_cons (pe_ix ix_list (pe_lst (pa_cons pe_int (pa_cons pe_int (pa_cons pe_int (pa_cons pe_int pa_nil))))) (pv 2) (fun _ _ => rfl)) pa_nil)))))
  (pss_cons (ps_if (pt_cmpR op_eq (pv 2) pe_int (nomark _)) (pss_one (ps_ret pe_str))
  pss_nil)
  (pss_one (ps_ret (pe_dn D__law_digits (hr.mono (by decide)) (by rfl) pass0 (pa_cons (pv 0) (pa_cons (pv 1) (pa_cons (pv 3) pa_nil))))))))), ?_⟩
    walk_at "rd"
    refine ⟨sa, b, 4, ns, H0, rfl, hs, hB, by decide, by decide, fun d H1 d0 d1 hB1 c1 => ?_⟩
    walk_at "rd"
    refine ⟨by show 4 ≤ sizeLine; decide, fun u hu => ?_⟩
    obtain ⟨tp, htp, q1, q2⟩ : ∃ tp : Int, atI [V.int 5, .int 5, .int 30, .int 1000] d = some (.int tp) ∧ 1 ≤ tp ∧ tp ≤ 1000 := by
      rcases (show d = 0 ∨ d = 1 ∨ d = 2 ∨ d = 3 by omega) with rfl | rfl | rfl | rfl
      · exact ⟨5, rfl, by decide, by decide⟩
      · exact ⟨5, rfl, by decide, by decide⟩
      · exact ⟨30, rfl, by decide, by decide⟩
      · exact ⟨1000, rfl, by decide, by decide⟩
    walk_at "rd"
    refine ⟨u, _, _, _, rfl, rfl, SqL.of upd_same, htp, ?_⟩
    walk_at "rd"
    refine ⟨sa, b, tp, ns, H0, rfl, hs, hB1.put hu, q1, Int.le_trans q2 (by decide), fun n H2 n0 n1 hB2 c2 => ?_⟩
    have k2 := c1.trans ((But.of (a := b) (Same.upd (o := .lst [V.int 5, .int 5, .int 30, .int 1000]) hu)).trans c2)
    walk_at "rd"
    dsimp only
    refine iti (fun e => ?_) (fun e => ?_)
    · walk_at "rd"
      exact k _ _ (by decide) hB2 k2
    · walk_at "rd"
      refine ⟨sa, b, n, ns, H0, rfl, hs, hB2, n0, by omega, fun s H3 sl hB3 c3 => ?_⟩
      exact k s H3 sl hB3 (k2.trans c3)
end
end Cl

/-! ### law k55: a drawn line -/
namespace Cl
open PySem PySem.Spec PyProof.Rows L2 StX ClX PySem.Builtin PySem.Builtin.Str
/-- the three standings -/
def Std3 (H : Hp) (t : Addr) : Prop := ∃ gs : List Addr, H t = some (.lst (gs.map V.ref)) ∧ gs.length = 3 ∧ ∀ g ∈ gs, ∃ (l : List Bool) (p ph : Int), Std5 H g l p ph
theorem Std3.same {H H' : Hp} {t : Addr} (h : Std3 H t) (x : Same H H') : Std3 H' t := by
  obtain ⟨gs, h1, h2, h3⟩ := h
  refine ⟨gs, x _ _ h1, h2, fun g hg => ?_⟩
  obtain ⟨l, p, ph, e⟩ := h3 g hg
  exact ⟨l, p, ph, e.same x⟩
theorem Std3.butS {H0 H H' : Hp} {t b : Addr} (h : Std3 H t) (x : But b H H') (hB : BoxS H0 H b) : Std3 H' t := by
  obtain ⟨gs, h1, h2, h3⟩ := h
  refine ⟨gs, x _ _ (hB.neL h1 (by rw [List.length_map]; omega)) h1, h2, fun g hg => ?_⟩
  obtain ⟨l, p, ph, e⟩ := h3 g hg
  exact ⟨l, p, ph, e.but x (hB.neL e.1 (by show 3 ≠ 4; decide))⟩
theorem Std3.at {H : Hp} {t : Addr} (h : Std3 H t) {d : Int} (d0 : 0 ≤ d) (d1 : d < 3) : ∃ (gs : List Addr) (g : Addr) (l : List Bool) (p ph : Int), H t = some (.lst (gs.map V.ref)) ∧ atI (gs.map V.ref) d = some (.ref g) ∧ Std5 H g l p ph := by
  obtain ⟨gs, h1, h2, h3⟩ := h
  obtain ⟨k, rfl⟩ : ∃ k : Nat, d = k := ⟨d.toNat, by omega⟩
  have hk : k < gs.length := by omega
  obtain ⟨l, p, ph, e⟩ := h3 gs[k] (List.getElem_mem hk)
  exact ⟨gs, gs[k], l, p, ph, h1, atI_nat (by rw [List.getElem?_map, List.getElem?_eq_getElem hk]; rfl), e⟩
/-- a written list of texts, one drawn -/
theorem atI_strs {ys : List Str} {d : Int} (d0 : 0 ≤ d) (d1 : d < (ys.length : Int)) : ∃ x, x ∈ ys ∧ atI (ys.map V.str) d = some (.str x) := by
  obtain ⟨k, rfl⟩ : ∃ k : Nat, d = k := ⟨d.toNat, by omega⟩
  have hk : k < ys.length := by omega
  exact ⟨ys[k], List.getElem_mem hk, atI_nat (by rw [List.getElem?_map, List.getElem?_eq_getElem hk]; rfl)⟩
def oddW : List Str := ["", "when", "else", "carry", "all", "free", "living", "dead", "gap", "budget", "<=", ">=", "==", "<", ">", "=", "!=", "=<", "0000", "1000", "-1", "+1", "007", "1.0", "x", "age", "none"]
def oddL : List Str := ["", " ", "else", "when", "carry all", "else all", "else carry", "else carry all all", "when free carry 1", "when free <= 1", "when free <= carry 1", "when free <= 1 carry", "else when free <= 1 carry 1", "when free <= 1 carry 1 else carry 2", "else carries 1", "when free <= 1 and gap >= 1 carry 1", "when 1 >= free carry 1", "free <= 1 carry 1", "When free <= 1 carry 1", "when free <= 1 carry -1", "when free <=1 carry 1", "else: carry 1", "else carry 0001"]
theorem oddW_le : ∀ x ∈ oddW, decide (x.length ≤ 60) = true := by decide +kernel
theorem oddL_le : ∀ x ∈ oddL, decide (x.length ≤ 60) = true := by decide +kernel
theorem atI_sign {z : Str} {d : Int} (d0 : 0 ≤ d) (d1 : d < (z.length : Int)) : ∃ c, atI z.cps.toList d = some c := by
  obtain ⟨k, rfl⟩ : ∃ k : Nat, d = k := ⟨d.toNat, by omega⟩
  have hk : k < z.cps.toList.length := by
    have e : z.cps.toList.length = z.length := by simp [Str.length]
    omega
  exact ⟨z.cps.toList[k], atI_nat (List.getElem?_eq_getElem hk)⟩
section
variable {P : Program} {w : World} {K : PySem.W.Frag} {mg : Str → Option Value} {base : Heap} {C : Addr}
def spLineT (K : PySem.W.Frag) : Sp := fun vs H Q _ => ∃ (sa b t q : Addr) (bs ns : List Int) (H0 : Hp), vs = [.ref sa, .ref b, .ref t, .ref q] ∧ SqL K H0 sa (ns.map V.int) ∧ BoxS H0 H b ∧ Std3 H t ∧ H q = some (.lst (bs.map V.int)) ∧ q ≠ b ∧ Okb bs ∧
  ∀ (s : Str) (H' : Hp), s.length ≤ 60 → BoxS H0 H' b → But b H H' → Q (.str s) H'
theorem scLawLine : FnScope ["script", "box", "stands", "pays", "end", "name", "sign", "stand", "number"] ["script", "box", "stands", "pays"] (defScope sLawLine) := ⟨rfl, rfl, rfl, by decide +kernel, rfl, by decide +kernel, by decide +kernel⟩
set_option maxHeartbeats 0 in
theorem ok__law_line {f : Addr} {fd : FuncData} (F : Fun K "_law_line" "_law_line" sLawLine f fd) (B : Bi mg) (D__law_take : Dn P w K mg base "_law_take" 1 ["script", "box", "many"] (spTakeX K)) (D__law_amount_text : Dn P w K mg base "_law_amount_text" 3 ["script", "box"] (spAmtT K)) (D__law_digits : Dn P w K mg base "_law_digits" 2 ["script", "box", "number"] (spDigits K))
    (D__law_value : Dn P w K mg base "_law_value" 1 ["name", "stand", "pays"] spValue) : FnOk P w K mg base CX0 4 f fd ["script", "box", "stands", "pays"] (spLineT K) := by
  refine F.ok scLawLine (fun vs H Q E h => ?_) (fun cdv A outer s H vs Q E hr h => ?_)
  · obtain ⟨sa, b, t, q, bs, ns, H0, rfl, _⟩ := h
    rfl
  · obtain ⟨sa, b, t, q, bs, ns, H0, rfl, hs, hB, hT, hq, qb, ok, k⟩ := h
    refine ⟨_, (pss_cons (ps_set (i := 4) scLawLine.nd rfl (Or.inl rfl) (pe_lst (pa_cons pe_str (pa_cons (pe_dn D__law_amount_text (hr.mono (by decide)) (by rfl) pass0 (pa_cons (pv 0) (pa_cons (pv 1) pa_nil))) pa_nil))))
  (pss_cons (ps_if (pt_cmpR op_eq (pe_dn D__law_take (hr.mono (by decide)) (by rfl) pass0 (pa_cons (pv 0) (pa_cons (pv 1) (pa_cons pe_int pa_nil)))) pe_int (nomark _)) (pss_one (ps_ret (pe_join pe_str (pe_op op_cat (pe_lst (pa_cons pe_str pa_nil)) (pv 4)))))
  pss_nil)
  (pss_cons (ps_set (i := 5) scLawLine.nd rfl (Or.inl rfl) (pe_ix ix_list (pe_lst (pa_cons pe_str (pa_cons pe_str (pa_cons pe_str (pa_cons pe_str (pa_cons pe_str pa_nil)))))) (pe_dn D__law_take (hr.mono (by decide)) (by rfl) pass0 (pa_cons (pv 0) (pa_cons (pv 1) (pa_cons pe_int pa_nil)))) (fun _ _ => rfl)))
  (pss_cons (ps_set (i := 6) scLawLine.nd rfl (Or.inl rfl) (pe_ix ix_list (pe_lst (pa_cons pe_str (pa_cons pe_str (pa_cons pe_str pa_nil)))) (pe_dn D__law_take (hr.mono (by decide)) (by rfl) pass0 (pa_cons (pv 0) (pa_cons (pv 1) (pa_cons pe_int pa_nil)))) (fun _ _ => rfl)))
  (pss_cons (ps_set (i := 7) scLawLine.nd rfl (Or.inl rfl) (pe_ix ix_list (pv 2) (pe_dn D__law_take (hr.mono (by decide)) (by rfl) pass0 (pa_cons (pv 0) (pa_cons (pv 1) (pa_cons pe_int pa_nil)))) (fun _ _ => rfl)))
  (pss_cons (ps_set (i := 8) scLawLine.nd rfl (Or.inl rfl) (pe_op op_sub (pe_op op_add (pe_dn D__law_value (hr.mono (by decide)) (by rfl) pass0 (pa_cons (pv 5) (pa_cons (pv 7) (pa_cons (pv 3) pa_nil)))) (pe_dn D__law_take (hr.mono (by decide)) (by rfl) pass0 (pa_cons (pv 0) (pa_cons (pv 1) (pa_cons pe_int pa_nil))))) pe_int))
  (C8.pss_cut (ps_if (pt_cmpR op_eq (pe_dn D__law_take (hr.mono (by decide)) (by rfl) pass0 (pa_cons (pv 0) (pa_cons (pv 1) (pa_cons pe_int pa_nil)))) pe_int (nomark _)) (pss_one (ps_set (i := 8) scLawLine.nd rfl (Or.inl rfl) (pe_dn D__law_take (hr.mono (by decide)) (by rfl) pass0 (pa_cons (pv 0) (pa_cons (pv 1) (pa_cons pe_int pa_nil))))))
  pss_nil)
  (pss_cons (ps_set (i := 8) scLawLine.nd rfl (Or.inl rfl) (pe_callB (call_max2 rfl) (by rfl) B.max (by decide +kernel) (pa_cons pe_int (pa_cons (pe_callB (call_min2 rfl) (by rfl) B.min (by decide +kernel) (pa_cons pe_int (pa_cons (pv 8) pa_nil))) pa_nil))))
  (pss_one (ps_ret (pe_join pe_str (pe_op op_cat (pe_lst (pa_cons pe_str (pa_cons (pv 5) (pa_cons (pv 6) (pa_cons (pe_dn D__law_digits (hr.mono (by decide)) (by rfl) pass0 (pa_cons (pv 0) (pa_cons (pv 1) (pa_cons (pv 8) pa_nil)))) pa_nil))))) (pv 4))))))))))))), ?_⟩
    have sl : (20000 : Nat) ≤ sizeLine := by decide
    walk_at "rd"
    refine ⟨sa, b, ns, H0, rfl, hs, hB, fun am H1 al hB1 c1 => ?_⟩
    have hT1 := hT.butS c1 hB
    have hq1 := c1 _ _ qb hq
    walk_at "rd"
    refine ⟨by show 2 ≤ sizeLine; decide, fun e he => ?_⟩
    have Se := Same.upd (o := .lst [V.str "carry", .str am]) he
    have eb := hB1.ne he
    obtain ⟨H2, e2⟩ : ∃ H2 : Hp, H2 = upd H1 e (.lst [V.str "carry", .str am]) := ⟨_, rfl⟩
    have he2 : H2 e = some (.lst [V.str "carry", .str am]) := by rw [e2]; exact upd_same
    have hB2 := hB1.put (o := .lst [V.str "carry", .str am]) he
    rw [← e2] at Se hB2 ⊢
    have k2 := c1.trans (But.of (a := b) Se)
    have hT2 := hT1.same Se
    have hq2 := Se _ _ hq1
    clear e2 he hB1 hT1 hq1 Se c1 hT hq
    walk_at "rd"
    refine ⟨sa, b, 6, ns, H0, rfl, hs, hB2, by decide, by decide, fun d H3 d0 d1 hB3 c3 => ?_⟩
    have k3 := k2.trans c3
    have he3 := c3 _ _ eb he2
    have hT3 := hT2.butS c3 hB2
    have hq3 := c3 _ _ qb hq2
    clear hB2 hT2 hq2 he2 k2 c3
    walk_at "rd"
    refine iti (fun _ => ?_) (fun _ => ?_)
    · walk_at "rd"
      refine ⟨⟨_, rfl⟩, ?_⟩
      walk_at "rd"
      refine ⟨by show 1 ≤ sizeLine; decide, fun u hu => ?_⟩
      have Su := Same.upd (o := .lst [V.str "else"]) hu
      walk_at "rd"
      refine ⟨u, e, _, _, rfl, rfl, upd_same, Su _ _ he3, by show 3 ≤ sizeLine; decide, fun L hL => ?_⟩
      have jl := join_len (Str.ofString " ") ["else", "carry", am]
      have jt : totS ["else", "carry", am] = 9 + am.length := by
        show 4 + (5 + (am.length + 0)) = _
        omega
      refine ⟨_, L, ["else", "carry", am], rfl, rfl, .inl (SqL.of upd_same), ?_, ?_⟩
      · show totS ["else", "carry", am] + 3 * 1 ≤ 16777216
        omega
      · have SL := Su.trans (Same.upd (o := .lst ([V.str "else"] ++ [V.str "carry", .str am])) hL)
        refine k _ _ ?_ (hB3.same SL) (k3.trans (But.of SL))
        rw [jt] at jl
        have : (Str.ofString " ").length = 1 := by decide
        rw [this] at jl
        show _ ≤ 60
        have jl : _ ≤ 9 + am.length + 3 * 1 := jl
        omega
    refine ⟨by show 5 ≤ sizeLine; decide, fun u hu => ?_⟩
    have Su := Same.upd (o := .lst ((nms).map V.str)) hu
    have ub := hB3.ne hu
    walk_at "rd"
    refine ⟨sa, b, 5, ns, H0, rfl, hs, hB3.put hu, by decide, by decide, fun d5 H4 d50 d51 hB4 c4 => ?_⟩
    have hu4 : H4 u = some (.lst (nms.map V.str)) := c4 _ _ ub upd_same
    have k4 := k3.trans ((But.of (a := b) Su).trans c4)
    obtain ⟨nm, hnm, enm⟩ := atI_strs (ys := nms) d50 d51
    have he4 := c4 _ _ eb (Su _ _ he3)
    have hT4 := (hT3.same Su).butS c4 (hB3.put hu)
    have hq4 := c4 _ _ qb (Su _ _ hq3)
    refine ⟨u, _, _, _, rfl, rfl, SqL.of hu4, enm, ?_⟩
    clear hB3 hT3 hq3 he3 k3 c4 hu Su hu4
    walk_at "rd"
    refine ⟨by show 3 ≤ sizeLine; decide, fun u2 hu => ?_⟩
    have Su := Same.upd (o := .lst ((sgns).map V.str)) hu
    have ub2 := hB4.ne hu
    walk_at "rd"
    refine ⟨sa, b, 3, ns, H0, rfl, hs, hB4.put hu, by decide, by decide, fun d6 H5 d60 d61 hB5 c5 => ?_⟩
    have hu5 : H5 u2 = some (.lst (sgns.map V.str)) := c5 _ _ ub2 upd_same
    have k5 := k4.trans ((But.of (a := b) Su).trans c5)
    obtain ⟨sg, hsg, esg⟩ := atI_strs (ys := sgns) d60 d61
    have he5 := c5 _ _ eb (Su _ _ he4)
    have hT5 := (hT4.same Su).butS c5 (hB4.put hu)
    have hq5 := c5 _ _ qb (Su _ _ hq4)
    refine ⟨u2, _, _, _, rfl, rfl, SqL.of hu5, esg, ?_⟩
    clear hB4 hT4 hq4 he4 k4 c5 hu Su hu5
    walk_at "rd"
    refine ⟨sa, b, 3, ns, H0, rfl, hs, hB5, by decide, by decide, fun d7 H6 d70 d71 hB6 c6 => ?_⟩
    have k6 := k5.trans c6
    have he6 := c6 _ _ eb he5
    have hT6 := hT5.butS c6 hB5
    have hq6 := c6 _ _ qb hq5
    obtain ⟨gs, g, l, p, ph, ht6, eg, gg⟩ := hT6.at d70 d71
    refine ⟨t, _, _, _, rfl, rfl, SqL.of ht6, eg, ?_⟩
    clear hB5 hT5 hq5 he5 k5 c6 ht6 hT6
    walk_at "rd"
    refine ⟨nm, g, q, l, p, ph, bs, rfl, gg, hq6, ok, fun H7 S7 => ?_⟩
    walk_at "rd"
    refine ⟨sa, b, 3, ns, H0, rfl, hs, hB6.same S7, by decide, by decide, fun d8 H8 d80 d81 hB8 c8 => ?_⟩
    have k8 := k6.trans ((But.of (a := b) S7).trans c8)
    have he8 := c8 _ _ eb (S7 _ _ he6)
    clear hB6 hq6 he6 k6 c8 S7 gg
    walk_at "rd"
    refine ⟨fun σ H' => ∃ n : Int, σ = [some (V.ref sa), some (.ref b), some (.ref t), some (.ref q), some (.ref e), some (.str nm), some (.str sg), some (.ref g), some (.int n)] ∧ BoxS H0 H' b ∧ But b H H' ∧ H' e = some (.lst [V.str "carry", .str am]), ?_, ?_⟩
    · walk_at "rd"
      refine ⟨sa, b, 4, ns, H0, rfl, hs, hB8, by decide, by decide, fun d9 H9 d90 d91 hB9 c9 => ?_⟩
      walk_at "rd"
      refine iti (fun _ => ?_) (fun _ => ?_)
      · walk_at "rd"
        refine ⟨sa, b, 1000, ns, H0, rfl, hs, hB9, by decide, by decide, fun dA HA dA0 dA1 hBA cA => ?_⟩
        exact ⟨_, rfl, hBA, k8.trans (c9.trans cA), cA _ _ eb (c9 _ _ eb he8)⟩
      · exact ⟨_, rfl, hB9, k8.trans c9, c9 _ _ eb he8⟩
    clear k8 he8 hB8
    rintro σ HC ⟨n, rfl, hBC, kC, heC⟩
    walk_at "rd"
    generalize hm : (if (if n < 999 then n else 999) > 0 then if n < 999 then n else 999 else 0) = m
    have m2 : 0 ≤ m ∧ m ≤ 999 := by
      rw [← hm]
      split <;> split <;> omega
    have nl : nm.length ≤ 6 := by
      unfold nms at hnm
      simp only [List.mem_cons, List.not_mem_nil, or_false] at hnm
      rcases hnm with rfl | rfl | rfl | rfl | rfl <;> decide
    have gl : sg.length ≤ 2 := by
      unfold sgns at hsg
      simp only [List.mem_cons, List.not_mem_nil, or_false] at hsg
      rcases hsg with rfl | rfl | rfl <;> decide
    walk_at "rd"
    refine ⟨⟨_, rfl⟩, ?_⟩
    walk_at "rd"
    refine ⟨sa, b, m, ns, H0, rfl, hs, hBC, m2.1, m2.2, fun dg HD dl hBD cD => ?_⟩
    have kD := kC.trans cD
    have heD := cD _ _ eb heC
    walk_at "rd"
    refine ⟨by show 4 ≤ sizeLine; decide, fun u hu => ?_⟩
    have Su := Same.upd (o := .lst [V.str "when", .str nm, .str sg, .str dg]) hu
    walk_at "rd"
    refine ⟨u, e, _, _, rfl, rfl, upd_same, Su _ _ heD, by show 6 ≤ sizeLine; decide, fun L hL => ?_⟩
    have jl := join_len (Str.ofString " ") ["when", nm, sg, dg, "carry", am]
    have jt : totS ["when", nm, sg, dg, "carry", am] = 9 + nm.length + sg.length + dg.length + am.length := by
      show 4 + (nm.length + (sg.length + (dg.length + (5 + (am.length + 0))))) = _
      omega
    refine ⟨_, L, ["when", nm, sg, dg, "carry", am], rfl, rfl, .inl (SqL.of upd_same), ?_, ?_⟩
    · show totS ["when", nm, sg, dg, "carry", am] + 6 * 1 ≤ 16777216
      omega
    · have SL := Su.trans (Same.upd (o := .lst ([V.str "when", .str nm, .str sg, .str dg] ++ [V.str "carry", .str am])) hL)
      refine k _ _ ?_ (hBD.same SL) (kD.trans (But.of SL))
      rw [jt] at jl
      have : (Str.ofString " ").length = 1 := by decide
      rw [this] at jl
      show _ ≤ 60
      have jl : _ ≤ 9 + nm.length + sg.length + dg.length + am.length + 6 * 1 := jl
      omega
def spTxt (K : PySem.W.Frag) (m : Nat) : Sp := fun vs H Q _ => ∃ (sa b : Addr) (ns : List Int) (H0 : Hp), vs = [.ref sa, .ref b] ∧ SqL K H0 sa (ns.map V.int) ∧ BoxS H0 H b ∧ ∀ (s : Str) (H' : Hp), s.length ≤ m → BoxS H0 H' b → But b H H' → Q (.str s) H'
theorem scLawSign : FnScope ["script", "box", "signs"] ["script", "box"] (defScope sLawSign) := ⟨rfl, rfl, rfl, by decide +kernel, rfl, by decide +kernel, by decide +kernel⟩
set_option maxHeartbeats 0 in
theorem ok__law_sign {f : Addr} {fd : FuncData} (F : Fun K "_law_sign" "_law_sign" sLawSign f fd) (B : Bi mg) (D__law_take : Dn P w K mg base "_law_take" 1 ["script", "box", "many"] (spTakeX K)) : FnOk P w K mg base CX0 2 f fd ["script", "box"] (spTxt K 1) := by
  refine F.ok scLawSign (fun vs H Q E h => ?_) (fun cdv A outer s H vs Q E hr h => ?_)
  · obtain ⟨sa, b, ns, H0, rfl, _⟩ := h
    rfl
  · obtain ⟨sa, b, ns, H0, rfl, hs, hB, k⟩ := h
    refine ⟨_, (pss_cons (ps_set (i := 2) scLawSign.nd rfl (Or.inl rfl) pe_str)
  (pss_cons (ps_set (i := 2) scLawSign.nd rfl (Or.inl rfl) (pe_op op_add_str (pv 2) pe_str))
  (pss_one (ps_ret (pe_ix ix_str (pv 2) (pe_dn D__law_take (hr.mono (by decide)) (by rfl) pass0 (pa_cons (pv 0) (pa_cons (pv 1) (pa_cons (pe_callB call_len_str (by rfl) B.len PySem.boot_len (pa_cons (pv 2) pa_nil)) pa_nil)))) (fun _ _ => rfl)))))), ?_⟩
    walk_at "rd"
    refine ⟨by decide +kernel, ?_⟩
    walk_at "rd"
    refine ⟨by decide +kernel, ?_⟩
    walk_at "rd"
    refine ⟨sa, b, _, ns, H0, rfl, hs, hB, by decide +kernel, by decide +kernel, fun d H1 d0 d1 hB1 c1 => ?_⟩
    obtain ⟨c, hc⟩ := atI_sign d0 d1
    exact ⟨_, d, c, rfl, rfl, by decide +kernel, hc, k _ H1 (Nat.le_refl 1) hB1 c1⟩
theorem scLawOddWord : FnScope ["script", "box", "words"] ["script", "box"] (defScope sLawOddWord) := ⟨rfl, rfl, rfl, by decide +kernel, rfl, by decide +kernel, by decide +kernel⟩
set_option maxHeartbeats 0 in
theorem ok__law_odd_word {f : Addr} {fd : FuncData} (F : Fun K "_law_odd_word" "_law_odd_word" sLawOddWord f fd) (B : Bi mg) (D__law_take : Dn P w K mg base "_law_take" 1 ["script", "box", "many"] (spTakeX K)) : FnOk P w K mg base CX0 2 f fd ["script", "box"] (spTxt K 60) := by
  refine F.ok scLawOddWord (fun vs H Q E h => ?_) (fun cdv A outer s H vs Q E hr h => ?_)
  · obtain ⟨sa, b, ns, H0, rfl, _⟩ := h
    rfl
  · obtain ⟨sa, b, ns, H0, rfl, hs, hB, k⟩ := h
    refine ⟨_, (pss_cons (ps_set (i := 2) scLawOddWord.nd rfl (Or.inl rfl) (pe_lst (pa_cons pe_str (pa_cons pe_str (pa_cons pe_str (pa_cons pe_str (pa_cons pe_str (pa_cons pe_str (pa_cons pe_str (pa_cons pe_str (pa_cons pe_str (pa_cons pe_str (pa_cons pe_str (pa_cons pe_str (pa_cons pe_str pa_nil)))))))))))))))
  (pss_cons (ps_set (i := 2) scLawOddWord.nd rfl (Or.inl rfl) (pe_op op_cat (pv 2) (pe_lst (pa_cons pe_str (pa_cons pe_str (pa_cons pe_str (pa_cons pe_str (pa_cons pe_str (pa_cons pe_str (pa_cons pe_str (pa_cons pe_str (pa_cons pe_str (pa_cons pe_str (pa_cons pe_str (pa_cons pe_str (pa_cons pe_str (pa_cons pe_str pa_nil)))))))))))))))))
  (pss_one (ps_ret (pe_ix ix_list (pv 2) (pe_dn D__law_take (hr.mono (by decide)) (by rfl) pass0 (pa_cons (pv 0) (pa_cons (pv 1) (pa_cons (pe_callB call_len_seq (by rfl) B.len PySem.boot_len (pa_cons (pv 2) pa_nil)) pa_nil)))) (fun _ _ => rfl)))))), ?_⟩
    walk_at "rd"
    refine ⟨by show 13 ≤ sizeLine; decide, fun u0 hu0 => ?_⟩
    have a0 := Same.upd (o := .lst [V.str "", V.str "when", V.str "else", V.str "carry", V.str "all", V.str "free", V.str "living", V.str "dead", V.str "gap", V.str "budget", V.str "<=", V.str ">=", V.str "=="]) hu0
    obtain ⟨G0, eG⟩ : ∃ G : Hp, G = upd H u0 (.lst [V.str "", V.str "when", V.str "else", V.str "carry", V.str "all", V.str "free", V.str "living", V.str "dead", V.str "gap", V.str "budget", V.str "<=", V.str ">=", V.str "=="]) := ⟨_, rfl⟩
    have g0 : G0 u0 = some (.lst ((oddW.take 13).map V.str)) := by rw [eG]; exact upd_same
    rw [← eG] at a0 ⊢
    clear eG hu0
    walk_at "rd"
    refine ⟨by show 14 ≤ sizeLine; decide, fun v1 hv => ?_⟩
    have b1 := Same.upd (o := .lst [V.str "<", V.str ">", V.str "=", V.str "!=", V.str "=<", V.str "0000", V.str "1000", V.str "-1", V.str "+1", V.str "007", V.str "1.0", V.str "x", V.str "age", V.str "none"]) hv
    walk_at "rd"
    refine ⟨u0, v1, _, _, rfl, rfl, b1 _ _ g0, upd_same, by show 27 ≤ sizeLine; decide, fun u1 hu => ?_⟩
    have c1 := Same.upd (o := .lst (((oddW.take 13).map V.str) ++ [V.str "<", V.str ">", V.str "=", V.str "!=", V.str "=<", V.str "0000", V.str "1000", V.str "-1", V.str "+1", V.str "007", V.str "1.0", V.str "x", V.str "age", V.str "none"])) hu
    obtain ⟨G1, eG⟩ : ∃ G : Hp, G = upd (upd G0 v1 (.lst [V.str "<", V.str ">", V.str "=", V.str "!=", V.str "=<", V.str "0000", V.str "1000", V.str "-1", V.str "+1", V.str "007", V.str "1.0", V.str "x", V.str "age", V.str "none"])) u1 (.lst (((oddW.take 13).map V.str) ++ [V.str "<", V.str ">", V.str "=", V.str "!=", V.str "=<", V.str "0000", V.str "1000", V.str "-1", V.str "+1", V.str "007", V.str "1.0", V.str "x", V.str "age", V.str "none"])) := ⟨_, rfl⟩
    have g1 : G1 u1 = some (.lst ((oddW.take 27).map V.str)) := by rw [eG]; exact upd_same
    rw [← eG] at c1 ⊢
    have a1 := a0.trans (b1.trans c1)
    clear eG hu hv b1 c1 g0
    walk_at "rd"
    refine ⟨u1, _, rfl, .inl (SqL.of g1), ?_⟩
    refine ⟨sa, b, 27, ns, H0, rfl, hs, hB.same a1, by decide, by decide, fun d H1 d0 d1 hB1 c1 => ?_⟩
    have ub : u1 ≠ b := (hB.same a1).neL g1 (by decide)
    obtain ⟨x, hx, ex⟩ := atI_strs (ys := oddW) d0 d1
    refine ⟨u1, _, _, _, rfl, rfl, SqL.of (c1 _ _ ub g1), ex, ?_⟩
    exact k x H1 (of_decide_eq_true (oddW_le x hx)) hB1 ((But.of a1).trans c1)
theorem scLawOddLine : FnScope ["script", "box", "lines"] ["script", "box"] (defScope sLawOddLine) := ⟨rfl, rfl, rfl, by decide +kernel, rfl, by decide +kernel, by decide +kernel⟩
set_option maxHeartbeats 0 in
theorem ok__law_odd_line {f : Addr} {fd : FuncData} (F : Fun K "_law_odd_line" "_law_odd_line" sLawOddLine f fd) (B : Bi mg) (D__law_take : Dn P w K mg base "_law_take" 1 ["script", "box", "many"] (spTakeX K)) : FnOk P w K mg base CX0 2 f fd ["script", "box"] (spTxt K 60) := by
  refine F.ok scLawOddLine (fun vs H Q E h => ?_) (fun cdv A outer s H vs Q E hr h => ?_)
  · obtain ⟨sa, b, ns, H0, rfl, _⟩ := h
    rfl
  · obtain ⟨sa, b, ns, H0, rfl, hs, hB, k⟩ := h
    refine ⟨_, (pss_cons (ps_set (i := 2) scLawOddLine.nd rfl (Or.inl rfl) (pe_lst (pa_cons pe_str (pa_cons pe_str (pa_cons pe_str (pa_cons pe_str (pa_cons pe_str (pa_cons pe_str (pa_cons pe_str (pa_cons pe_str pa_nil))))))))))
  (pss_cons (ps_set (i := 2) scLawOddLine.nd rfl (Or.inl rfl) (pe_op op_cat (pv 2) (pe_lst (pa_cons pe_str (pa_cons pe_str (pa_cons pe_str (pa_cons pe_str pa_nil)))))))
  (pss_cons (ps_set (i := 2) scLawOddLine.nd rfl (Or.inl rfl) (pe_op op_cat (pv 2) (pe_lst (pa_cons pe_str (pa_cons pe_str (pa_cons pe_str pa_nil))))))
  (pss_cons (ps_set (i := 2) scLawOddLine.nd rfl (Or.inl rfl) (pe_op op_cat (pv 2) (pe_lst (pa_cons pe_str (pa_cons pe_str (pa_cons pe_str pa_nil))))))
  (pss_cons (ps_set (i := 2) scLawOddLine.nd rfl (Or.inl rfl) (pe_op op_cat (pv 2) (pe_lst (pa_cons pe_str (pa_cons pe_str (pa_cons pe_str pa_nil))))))
  (pss_cons (ps_set (i := 2) scLawOddLine.nd rfl (Or.inl rfl) (pe_op op_cat (pv 2) (pe_lst (pa_cons pe_str (pa_cons pe_str pa_nil)))))
  (pss_one (ps_ret (pe_ix ix_list (pv 2) (pe_dn D__law_take (hr.mono (by decide)) (by rfl) pass0 (pa_cons (pv 0) (pa_cons (pv 1) (pa_cons (pe_callB call_len_seq (by rfl) B.len PySem.boot_len (pa_cons (pv 2) pa_nil)) pa_nil)))) (fun _ _ => rfl)))))))))), ?_⟩
    walk_at "rd"
    refine ⟨by show 8 ≤ sizeLine; decide, fun u0 hu0 => ?_⟩
    have a0 := Same.upd (o := .lst [V.str "", V.str " ", V.str "else", V.str "when", V.str "carry all", V.str "else all", V.str "else carry", V.str "else carry all all"]) hu0
    obtain ⟨G0, eG⟩ : ∃ G : Hp, G = upd H u0 (.lst [V.str "", V.str " ", V.str "else", V.str "when", V.str "carry all", V.str "else all", V.str "else carry", V.str "else carry all all"]) := ⟨_, rfl⟩
    have g0 : G0 u0 = some (.lst ((oddL.take 8).map V.str)) := by rw [eG]; exact upd_same
    rw [← eG] at a0 ⊢
    clear eG hu0
    walk_at "rd"
    refine ⟨by show 4 ≤ sizeLine; decide, fun v1 hv => ?_⟩
    have b1 := Same.upd (o := .lst [V.str "when free carry 1", V.str "when free <= 1", V.str "when free <= carry 1", V.str "when free <= 1 carry"]) hv
    walk_at "rd"
    refine ⟨u0, v1, _, _, rfl, rfl, b1 _ _ g0, upd_same, by show 12 ≤ sizeLine; decide, fun u1 hu => ?_⟩
    have c1 := Same.upd (o := .lst (((oddL.take 8).map V.str) ++ [V.str "when free carry 1", V.str "when free <= 1", V.str "when free <= carry 1", V.str "when free <= 1 carry"])) hu
    obtain ⟨G1, eG⟩ : ∃ G : Hp, G = upd (upd G0 v1 (.lst [V.str "when free carry 1", V.str "when free <= 1", V.str "when free <= carry 1", V.str "when free <= 1 carry"])) u1 (.lst (((oddL.take 8).map V.str) ++ [V.str "when free carry 1", V.str "when free <= 1", V.str "when free <= carry 1", V.str "when free <= 1 carry"])) := ⟨_, rfl⟩
    have g1 : G1 u1 = some (.lst ((oddL.take 12).map V.str)) := by rw [eG]; exact upd_same
    rw [← eG] at c1 ⊢
    have a1 := a0.trans (b1.trans c1)
    clear eG hu hv b1 c1 g0
    walk_at "rd"
    refine ⟨by show 3 ≤ sizeLine; decide, fun v2 hv => ?_⟩
    have b2 := Same.upd (o := .lst [V.str "else when free <= 1 carry 1", V.str "when free <= 1 carry 1 else carry 2", V.str "else carries 1"]) hv
    walk_at "rd"
    refine ⟨u1, v2, _, _, rfl, rfl, b2 _ _ g1, upd_same, by show 15 ≤ sizeLine; decide, fun u2 hu => ?_⟩
    have c2 := Same.upd (o := .lst (((oddL.take 12).map V.str) ++ [V.str "else when free <= 1 carry 1", V.str "when free <= 1 carry 1 else carry 2", V.str "else carries 1"])) hu
    obtain ⟨G2, eG⟩ : ∃ G : Hp, G = upd (upd G1 v2 (.lst [V.str "else when free <= 1 carry 1", V.str "when free <= 1 carry 1 else carry 2", V.str "else carries 1"])) u2 (.lst (((oddL.take 12).map V.str) ++ [V.str "else when free <= 1 carry 1", V.str "when free <= 1 carry 1 else carry 2", V.str "else carries 1"])) := ⟨_, rfl⟩
    have g2 : G2 u2 = some (.lst ((oddL.take 15).map V.str)) := by rw [eG]; exact upd_same
    rw [← eG] at c2 ⊢
    have a2 := a1.trans (b2.trans c2)
    clear eG hu hv b2 c2 g1
    walk_at "rd"
    refine ⟨by show 3 ≤ sizeLine; decide, fun v3 hv => ?_⟩
    have b3 := Same.upd (o := .lst [V.str "when free <= 1 and gap >= 1 carry 1", V.str "when 1 >= free carry 1", V.str "free <= 1 carry 1"]) hv
    walk_at "rd"
    refine ⟨u2, v3, _, _, rfl, rfl, b3 _ _ g2, upd_same, by show 18 ≤ sizeLine; decide, fun u3 hu => ?_⟩
    have c3 := Same.upd (o := .lst (((oddL.take 15).map V.str) ++ [V.str "when free <= 1 and gap >= 1 carry 1", V.str "when 1 >= free carry 1", V.str "free <= 1 carry 1"])) hu
    obtain ⟨G3, eG⟩ : ∃ G : Hp, G = upd (upd G2 v3 (.lst [V.str "when free <= 1 and gap >= 1 carry 1", V.str "when 1 >= free carry 1", V.str "free <= 1 carry 1"])) u3 (.lst (((oddL.take 15).map V.str) ++ [V.str "when free <= 1 and gap >= 1 carry 1", V.str "when 1 >= free carry 1", V.str "free <= 1 carry 1"])) := ⟨_, rfl⟩
    have g3 : G3 u3 = some (.lst ((oddL.take 18).map V.str)) := by rw [eG]; exact upd_same
    rw [← eG] at c3 ⊢
    have a3 := a2.trans (b3.trans c3)
    clear eG hu hv b3 c3 g2
    walk_at "rd"
    refine ⟨by show 3 ≤ sizeLine; decide, fun v4 hv => ?_⟩
    have b4 := Same.upd (o := .lst [V.str "When free <= 1 carry 1", V.str "when free <= 1 carry -1", V.str "when free <=1 carry 1"]) hv
    walk_at "rd"
    refine ⟨u3, v4, _, _, rfl, rfl, b4 _ _ g3, upd_same, by show 21 ≤ sizeLine; decide, fun u4 hu => ?_⟩
    have c4 := Same.upd (o := .lst (((oddL.take 18).map V.str) ++ [V.str "When free <= 1 carry 1", V.str "when free <= 1 carry -1", V.str "when free <=1 carry 1"])) hu
    obtain ⟨G4, eG⟩ : ∃ G : Hp, G = upd (upd G3 v4 (.lst [V.str "When free <= 1 carry 1", V.str "when free <= 1 carry -1", V.str "when free <=1 carry 1"])) u4 (.lst (((oddL.take 18).map V.str) ++ [V.str "When free <= 1 carry 1", V.str "when free <= 1 carry -1", V.str "when free <=1 carry 1"])) := ⟨_, rfl⟩
    have g4 : G4 u4 = some (.lst ((oddL.take 21).map V.str)) := by rw [eG]; exact upd_same
    rw [← eG] at c4 ⊢
    have a4 := a3.trans (b4.trans c4)
    clear eG hu hv b4 c4 g3
    walk_at "rd"
    refine ⟨by show 2 ≤ sizeLine; decide, fun v5 hv => ?_⟩
    have b5 := Same.upd (o := .lst [V.str "else: carry 1", V.str "else carry 0001"]) hv
    walk_at "rd"
    refine ⟨u4, v5, _, _, rfl, rfl, b5 _ _ g4, upd_same, by show 23 ≤ sizeLine; decide, fun u5 hu => ?_⟩
    have c5 := Same.upd (o := .lst (((oddL.take 21).map V.str) ++ [V.str "else: carry 1", V.str "else carry 0001"])) hu
    obtain ⟨G5, eG⟩ : ∃ G : Hp, G = upd (upd G4 v5 (.lst [V.str "else: carry 1", V.str "else carry 0001"])) u5 (.lst (((oddL.take 21).map V.str) ++ [V.str "else: carry 1", V.str "else carry 0001"])) := ⟨_, rfl⟩
    have g5 : G5 u5 = some (.lst ((oddL.take 23).map V.str)) := by rw [eG]; exact upd_same
    rw [← eG] at c5 ⊢
    have a5 := a4.trans (b5.trans c5)
    clear eG hu hv b5 c5 g4
    walk_at "rd"
    refine ⟨u5, _, rfl, .inl (SqL.of g5), ?_⟩
    refine ⟨sa, b, 23, ns, H0, rfl, hs, hB.same a5, by decide, by decide, fun d H1 d0 d1 hB1 c1 => ?_⟩
    have ub : u5 ≠ b := (hB.same a5).neL g5 (by decide)
    obtain ⟨x, hx, ex⟩ := atI_strs (ys := oddL) d0 d1
    refine ⟨u5, _, _, _, rfl, rfl, SqL.of (c1 _ _ ub g5), ex, ?_⟩
    exact k x H1 (of_decide_eq_true (oddL_le x hx)) hB1 ((But.of a5).trans c1)
end
end Cl

/-! ### law k55: a bent line -/
namespace Cl
open PySem PySem.Spec PyProof.Rows L2 StX ClX PySem.Builtin PySem.Builtin.Str
theorem totS_app (a b : List Str) : totS (a ++ b) = totS a + totS b := by
  unfold totS
  rw [List.map_append, List.sum_append]
theorem totS_one (a : Str) : totS [a] = a.length := by
  show a.length + 0 = _
  omega
theorem totS_sub {a b : List Str} (h : a.Sublist b) : totS a ≤ totS b := by
  induction h with
  | slnil => exact Nat.le_refl _
  | cons x _ ih =>
    show totS _ ≤ x.length + totS _
    omega
  | cons_cons x _ ih =>
    show x.length + totS _ ≤ x.length + totS _
    omega
theorem mem_tot {x : Str} {ys : List Str} (h : x ∈ ys) : x.length ≤ totS ys := by
  have := totS_sub (List.singleton_sublist.mpr h)
  rwa [totS_one] at this
theorem cut_sub (wl : List Str) (lo hi : Option Int) : ∃ ys : List Str, cutV (wl.map V.str) lo hi = ys.map V.str ∧ totS ys ≤ totS wl ∧ ys.length ≤ wl.length := by
  have h : ((wl.drop (HT.sIx (wl.map V.str).length 0 lo)).take (HT.sIx (wl.map V.str).length (wl.map V.str).length hi - HT.sIx (wl.map V.str).length 0 lo)).Sublist wl := (List.take_sublist ..).trans (List.drop_sublist ..)
  exact ⟨_, by unfold cutV; rw [List.map_take, List.map_drop], totS_sub h, h.length_le⟩
theorem cutS_len (z : Str) (lo hi : Option Int) : (cutS z lo hi).length ≤ z.length := by
  unfold cutS
  have e : z.cps.toList.length = z.length := by simp [Str.length]
  show ((List.take _ _).toArray).size ≤ _
  rw [List.size_toArray, List.length_take, List.length_drop]
  omega
section
variable {P : Program} {w : World} {K : PySem.W.Frag} {mg : Str → Option Value} {base : Heap} {C : Addr}
def spBent (K : PySem.W.Frag) : Sp := fun vs H Q _ => ∃ (sa b : Addr) (z : Str) (ns : List Int) (H0 : Hp), vs = [.ref sa, .ref b, .str z] ∧ SqL K H0 sa (ns.map V.int) ∧ BoxS H0 H b ∧ 1 ≤ z.length ∧ z.length ≤ 2000 ∧ ∀ (s : Str) (H' : Hp), s.length ≤ 8 * z.length + 70 → BoxS H0 H' b → But b H H' → Q (.str s) H'
theorem scLawBent : FnScope ["script", "box", "line", "way", "words", "k", "spot"] ["script", "box", "line"] (defScope sLawBent) := ⟨rfl, rfl, rfl, by decide +kernel, rfl, by decide +kernel, by decide +kernel⟩
set_option maxHeartbeats 0 in
set_option linter.unusedSimpArgs false in
theorem ok__law_bent {f : Addr} {fd : FuncData} (F : Fun K "_law_bent" "_law_bent" sLawBent f fd) (B : Bi mg) (D__law_take : Dn P w K mg base "_law_take" 1 ["script", "box", "many"] (spTakeX K)) (D__law_sign : Dn P w K mg base "_law_sign" 2 ["script", "box"] (spTxt K 1)) (D__law_odd_word : Dn P w K mg base "_law_odd_word" 2 ["script", "box"] (spTxt K 60)) (D__law_odd_line : Dn P w K mg base "_law_odd_line" 2 ["script", "box"] (spTxt K 60)) :
    FnOk P w K mg base CX0 3 f fd ["script", "box", "line"] (spBent K) := by
  refine F.ok scLawBent (fun vs H Q E h => ?_) (fun cdv A outer s H vs Q E hr h => ?_)
  · obtain ⟨sa, b, z, ns, H0, rfl, _⟩ := h
    rfl
  · obtain ⟨sa, b, z, ns, H0, rfl, hs, hB, z1, z2, k⟩ := h
    refine ⟨_, (pss_cons (ps_set (i := 3) scLawBent.nd rfl (Or.inl rfl) (pe_dn D__law_take (hr.mono (by decide)) (by rfl) pass0 (pa_cons (pv 0) (pa_cons (pv 1) (pa_cons pe_int pa_nil)))))
  (pss_cons (ps_set (i := 4) scLawBent.nd rfl (Or.inl rfl) (pe_split (pv 2) pe_str))
  (pss_cons (ps_set (i := 5) scLawBent.nd rfl (Or.inl rfl) (pe_dn D__law_take (hr.mono (by decide)) (by rfl) pass0 (pa_cons (pv 0) (pa_cons (pv 1) (pa_cons (pe_callB call_len_seq (by rfl) B.len PySem.boot_len (pa_cons (pv 4) pa_nil)) pa_nil)))))
  (pss_cons (ps_set (i := 6) scLawBent.nd rfl (Or.inl rfl) (pe_dn D__law_take (hr.mono (by decide)) (by rfl) pass0 (pa_cons (pv 0) (pa_cons (pv 1) (pa_cons (pe_callB call_len_str (by rfl) B.len PySem.boot_len (pa_cons (pv 2) pa_nil)) pa_nil)))))
  (pss_cons (ps_if (pt_cmpR op_eq (pv 3) pe_int (nomark _)) (pss_one (ps_ret (pe_join pe_str (pe_op op_cat (pe_slice sl_list (pv 4) po_none (po_some (pv 5))) (pe_slice sl_list (pv 4) (po_some (pe_op op_add (pv 5) pe_int)) po_none)))))
  pss_nil)
  (pss_cons (ps_if (pt_cmpR op_eq (pv 3) pe_int (nomark _)) (pss_one (ps_ret (pe_join pe_str (pe_op op_cat (pe_slice sl_list (pv 4) po_none (po_some (pe_op op_add (pv 5) pe_int))) (pe_slice sl_list (pv 4) (po_some (pv 5)) po_none)))))
  pss_nil)
  (pss_cons (ps_if (pt_cmpR op_eq (pv 3) pe_int (nomark _)) (pss_one (ps_ret (pe_join pe_str (pe_op op_cat (pe_op op_cat (pe_slice sl_list (pv 4) po_none (po_some (pv 5))) (pe_lst (pa_cons (pe_dn D__law_odd_word (hr.mono (by decide)) (by rfl) pass0 (pa_cons (pv 0) (pa_cons (pv 1) pa_nil))) pa_nil))) (pe_slice sl_list (pv 4) (po_some (pe_op op_add (pv 5) pe_int)) po_none)))))
  pss_nil)
  (pss_cons (ps_if (pt_cmpR op_eq (pv 3) pe_int (nomark _)) (pss_one (ps_ret (pe_join pe_str (pe_op op_cat (pe_op op_cat (pe_slice sl_list (pv 4) po_none (po_some (pv 5))) (pe_lst (pa_cons (pe_upper (pe_ix ix_list (pv 4) (pv 5) (fun _ _ => rfl))) pa_nil))) (pe_slice sl_list (pv 4) (po_some (pe_op op_add (pv 5) pe_int)) po_none)))))
  pss_nil)
  (pss_cons (ps_if (pt_cmpR op_eq (pv 3) pe_int (nomark _)) (pss_one (ps_ret (pe_join pe_str (pe_op op_cat (pe_op op_cat (pe_op op_cat (pe_slice sl_list (pv 4) po_none (po_some (pv 5))) (pe_slice sl_list (pv 4) (po_some (pe_op op_add (pv 5) pe_int)) (po_some (pe_op op_add (pv 5) pe_int)))) (pe_lst (pa_cons (pe_ix ix_list (pv 4) (pv 5) (fun _ _ => rfl)) pa_nil))) (pe_slice sl_list (pv 4) (po_some (pe_op op_add (pv 5) pe_int)) po_none)))))
  pss_nil)
  (pss_cons (ps_if (pt_cmpR op_eq (pv 3) pe_int (nomark _)) (pss_one (ps_ret (pe_join pe_str (pe_op op_cat (pe_op op_cat (pe_slice sl_list (pv 4) po_none (po_some (pv 5))) (pe_lst (pa_cons pe_str pa_nil))) (pe_slice sl_list (pv 4) (po_some (pv 5)) po_none)))))
  pss_nil)
  (pss_cons (ps_if (pt_cmpR op_eq (pv 3) pe_int (nomark _)) (pss_one (ps_ret (pe_op op_add_str (pv 2) pe_str)))
  pss_nil)
  (pss_cons (ps_if (pt_cmpR op_eq (pv 3) pe_int (nomark _)) (pss_one (ps_ret (pe_join pe_str (pe_op op_cat (pe_op op_cat (pe_slice sl_list (pv 4) po_none (po_some (pv 5))) (pe_lst (pa_cons (pe_join pe_str (pe_slice sl_list (pv 4) (po_some (pv 5)) (po_some (pe_op op_add (pv 5) pe_int)))) pa_nil))) (pe_slice sl_list (pv 4) (po_some (pe_op op_add (pv 5) pe_int)) po_none)))))
  pss_nil)
  (pss_cons (ps_if (pt_cmpR op_eq (pv 3) pe_int (nomark _)) (pss_one (ps_ret (pe_op op_add_str (pe_op op_add_str (pe_slice sl_str (pv 2) po_none (po_some (pv 6))) (pe_dn D__law_sign (hr.mono (by decide)) (by rfl) pass0 (pa_cons (pv 0) (pa_cons (pv 1) pa_nil)))) (pe_slice sl_str (pv 2) (po_some (pv 6)) po_none))))
  pss_nil)
  (pss_cons (ps_if (pt_cmpR op_eq (pv 3) pe_int (nomark _)) (pss_one (ps_ret (pe_op op_add_str (pe_slice sl_str (pv 2) po_none (po_some (pv 6))) (pe_slice sl_str (pv 2) (po_some (pe_op op_add (pv 6) pe_int)) po_none))))
  pss_nil)
  (pss_cons (ps_if (pt_cmpR op_eq (pv 3) pe_int (nomark _)) (pss_one (ps_ret (pe_op op_add_str (pv 2) (pe_dn D__law_sign (hr.mono (by decide)) (by rfl) pass0 (pa_cons (pv 0) (pa_cons (pv 1) pa_nil))))))
  pss_nil)
  (pss_one (ps_ret (pe_dn D__law_odd_line (hr.mono (by decide)) (by rfl) pass0 (pa_cons (pv 0) (pa_cons (pv 1) pa_nil)))))))))))))))))))), ?_⟩
    have sl : (200000 : Nat) ≤ sizeLine := by decide
    have sp1 : (Str.ofString " ").length = 1 := by decide
    walk_at "rd"
    refine ⟨sa, b, 12, ns, H0, rfl, hs, hB, by decide, by decide, fun wy H1 w0 w1 hB1 c1 => ?_⟩
    walk_at "rd"
    refine ⟨⟨_, rfl⟩, ?_⟩
    walk_at "rd"
    refine ⟨by omega, fun W hW => ?_⟩
    obtain ⟨wl, ewl⟩ : ∃ wl : List Str, wl = Txt.split z (Str.ofString " ") := ⟨_, rfl⟩
    have wc : wl.length ≤ z.length + 1 := by rw [ewl]; exact split_cnt (by omega)
    have wt : totS wl ≤ z.length := by rw [ewl]; exact split_tot _ _
    have wp : 1 ≤ wl.length := by rw [ewl]; exact split_pos _ _
    rw [← ewl]
    have Wb := hB1.ne hW
    have hB2 := hB1.put (o := .lst (wl.map V.str)) hW
    have c2 := c1.trans (But.of (a := b) (Same.upd (o := .lst (wl.map V.str)) hW))
    walk_at "rd"
    refine ⟨W, _, rfl, .inl (SqL.of upd_same), ?_⟩
    rw [List.length_map]
    refine ⟨sa, b, ((wl.length : Nat) : Int), ns, H0, rfl, hs, hB2, by omega, Int.le_trans (show ((wl.length : Nat) : Int) ≤ 3000 by omega) (by decide), fun kk H3 k0 k1 hB3 c3 => ?_⟩
    have hW3 := c3 _ _ Wb (upd_same (o := .lst (wl.map V.str)))
    walk_at "rd"
    refine ⟨by omega, ?_⟩
    refine ⟨sa, b, ((z.length : Nat) : Int), ns, H0, rfl, hs, hB3, by omega, Int.le_trans (show ((z.length : Nat) : Int) ≤ 3000 by omega) (by decide), fun sp H4 sp0 sq1 hB4 c34 => ?_⟩
    have hW4 := c34 _ _ Wb hW3
    have c4 := c2.trans (c3.trans c34)
    clear hB hB1 hB2 hB3 c1 c2 c3 c34 hW3 hW
    walk_at "rd"
    refine iti (fun _ => ?_) (fun _ => ?_)
    · walk_at "rd"
      refine ⟨⟨_, rfl⟩, ?_⟩
      walk_at "rd"
      refine ⟨W, _, rfl, SqL.of hW4, fun g1 hg1 => ?_⟩
      obtain ⟨y1, ey1, yt1, yl1⟩ := cut_sub wl none (some kk)
      rw [ey1]
      have S1 := Same.upd (o := .lst (y1.map V.str)) hg1
      obtain ⟨G1, eG⟩ : ∃ G : Hp, G = upd H4 g1 (.lst (y1.map V.str)) := ⟨_, rfl⟩
      have ng1 : G1 g1 = some (.lst (y1.map V.str)) := by rw [eG]; exact upd_same
      have eg1 := hB4.ne hg1
      rw [← eG] at S1 ⊢
      clear eG hg1
      have hB1_ := hB4.same S1
      have k1_ := c4.trans (But.of (a := b) S1)
      have nW_1 := S1 _ _ hW4
      walk_at "rd"
      refine ⟨W, _, rfl, SqL.of nW_1, fun g2 hg2 => ?_⟩
      obtain ⟨y2, ey2, yt2, yl2⟩ := cut_sub wl (some (kk + 1)) none
      rw [ey2]
      have S2 := Same.upd (o := .lst (y2.map V.str)) hg2
      obtain ⟨G2, eG⟩ : ∃ G : Hp, G = upd G1 g2 (.lst (y2.map V.str)) := ⟨_, rfl⟩
      have ng2 : G2 g2 = some (.lst (y2.map V.str)) := by rw [eG]; exact upd_same
      have eg2 := hB1_.ne hg2
      rw [← eG] at S2 ⊢
      clear eG hg2
      have hB2_ := hB1_.same S2
      have k2_ := k1_.trans (But.of (a := b) S2)
      have nW_2 := S2 _ _ nW_1
      have ng1_2 := S2 _ _ ng1
      refine ⟨g1, g2, _, _, rfl, rfl, ng1_2, ng2, by rw [List.length_map, List.length_map]; (try simp only [List.length_append, List.length_cons, List.length_nil]); omega, fun g3 hg3 => ?_⟩
      rw [← List.map_append]
      have S3 := Same.upd (o := .lst ((y1 ++ y2).map V.str)) hg3
      obtain ⟨G3, eG⟩ : ∃ G : Hp, G = upd G2 g3 (.lst ((y1 ++ y2).map V.str)) := ⟨_, rfl⟩
      have ng3 : G3 g3 = some (.lst ((y1 ++ y2).map V.str)) := by rw [eG]; exact upd_same
      have eg3 := hB2_.ne hg3
      rw [← eG] at S3 ⊢
      clear eG hg3
      have hB3_ := hB2_.same S3
      have k3_ := k2_.trans (But.of (a := b) S3)
      have nW_3 := S3 _ _ nW_2
      have ng1_3 := S3 _ _ ng1_2
      have ng2_3 := S3 _ _ ng2
      have jl := join_len (Str.ofString " ") (y1 ++ y2)
      rw [sp1] at jl
      have jb : totS (y1 ++ y2) + (y1 ++ y2).length ≤ 8 * z.length + 70 := by
        simp only [totS_app, totS_one, List.length_append, List.length_cons, List.length_nil]
        omega
      refine ⟨_, g3, (y1 ++ y2), rfl, rfl, .inl (SqL.of ng3), ?_, k _ _ (by omega) hB3_ k3_⟩
      show totS (y1 ++ y2) + (y1 ++ y2).length * (Str.ofString " ").length ≤ 16777216
      rw [sp1]
      omega
    walk_at "rd"
    refine iti (fun _ => ?_) (fun _ => ?_)
    · walk_at "rd"
      refine ⟨⟨_, rfl⟩, ?_⟩
      walk_at "rd"
      refine ⟨W, _, rfl, SqL.of hW4, fun g1 hg1 => ?_⟩
      obtain ⟨y1, ey1, yt1, yl1⟩ := cut_sub wl none (some (kk + 1))
      rw [ey1]
      have S1 := Same.upd (o := .lst (y1.map V.str)) hg1
      obtain ⟨G1, eG⟩ : ∃ G : Hp, G = upd H4 g1 (.lst (y1.map V.str)) := ⟨_, rfl⟩
      have ng1 : G1 g1 = some (.lst (y1.map V.str)) := by rw [eG]; exact upd_same
      have eg1 := hB4.ne hg1
      rw [← eG] at S1 ⊢
      clear eG hg1
      have hB1_ := hB4.same S1
      have k1_ := c4.trans (But.of (a := b) S1)
      have nW_1 := S1 _ _ hW4
      walk_at "rd"
      refine ⟨W, _, rfl, SqL.of nW_1, fun g2 hg2 => ?_⟩
      obtain ⟨y2, ey2, yt2, yl2⟩ := cut_sub wl (some kk) none
      rw [ey2]
      have S2 := Same.upd (o := .lst (y2.map V.str)) hg2
      obtain ⟨G2, eG⟩ : ∃ G : Hp, G = upd G1 g2 (.lst (y2.map V.str)) := ⟨_, rfl⟩
      have ng2 : G2 g2 = some (.lst (y2.map V.str)) := by rw [eG]; exact upd_same
      have eg2 := hB1_.ne hg2
      rw [← eG] at S2 ⊢
      clear eG hg2
      have hB2_ := hB1_.same S2
      have k2_ := k1_.trans (But.of (a := b) S2)
      have nW_2 := S2 _ _ nW_1
      have ng1_2 := S2 _ _ ng1
      refine ⟨g1, g2, _, _, rfl, rfl, ng1_2, ng2, by rw [List.length_map, List.length_map]; (try simp only [List.length_append, List.length_cons, List.length_nil]); omega, fun g3 hg3 => ?_⟩
      rw [← List.map_append]
      have S3 := Same.upd (o := .lst ((y1 ++ y2).map V.str)) hg3
      obtain ⟨G3, eG⟩ : ∃ G : Hp, G = upd G2 g3 (.lst ((y1 ++ y2).map V.str)) := ⟨_, rfl⟩
      have ng3 : G3 g3 = some (.lst ((y1 ++ y2).map V.str)) := by rw [eG]; exact upd_same
      have eg3 := hB2_.ne hg3
      rw [← eG] at S3 ⊢
      clear eG hg3
      have hB3_ := hB2_.same S3
      have k3_ := k2_.trans (But.of (a := b) S3)
      have nW_3 := S3 _ _ nW_2
      have ng1_3 := S3 _ _ ng1_2
      have ng2_3 := S3 _ _ ng2
      have jl := join_len (Str.ofString " ") (y1 ++ y2)
      rw [sp1] at jl
      have jb : totS (y1 ++ y2) + (y1 ++ y2).length ≤ 8 * z.length + 70 := by
        simp only [totS_app, totS_one, List.length_append, List.length_cons, List.length_nil]
        omega
      refine ⟨_, g3, (y1 ++ y2), rfl, rfl, .inl (SqL.of ng3), ?_, k _ _ (by omega) hB3_ k3_⟩
      show totS (y1 ++ y2) + (y1 ++ y2).length * (Str.ofString " ").length ≤ 16777216
      rw [sp1]
      omega
    walk_at "rd"
    refine iti (fun _ => ?_) (fun _ => ?_)
    · walk_at "rd"
      refine ⟨⟨_, rfl⟩, ?_⟩
      walk_at "rd"
      refine ⟨W, _, rfl, SqL.of hW4, fun g1 hg1 => ?_⟩
      obtain ⟨y1, ey1, yt1, yl1⟩ := cut_sub wl none (some kk)
      rw [ey1]
      have S1 := Same.upd (o := .lst (y1.map V.str)) hg1
      obtain ⟨G1, eG⟩ : ∃ G : Hp, G = upd H4 g1 (.lst (y1.map V.str)) := ⟨_, rfl⟩
      have ng1 : G1 g1 = some (.lst (y1.map V.str)) := by rw [eG]; exact upd_same
      have eg1 := hB4.ne hg1
      rw [← eG] at S1 ⊢
      clear eG hg1
      have hB1_ := hB4.same S1
      have k1_ := c4.trans (But.of (a := b) S1)
      have nW_1 := S1 _ _ hW4
      walk_at "rd"
      refine ⟨sa, b, ns, H0, rfl, hs, hB1_, fun s2 G2 sl2 hB2_ c2_ => ?_⟩
      have k2_ := k1_.trans c2_
      have nW_2 := c2_ _ _ Wb nW_1
      have ng1_2 := c2_ _ _ eg1 ng1
      walk_at "rd"
      refine ⟨by show 1 ≤ sizeLine; decide, fun g3 hg3 => ?_⟩
      have S3 := Same.upd (o := .lst ([V.str (s2)])) hg3
      obtain ⟨G3, eG⟩ : ∃ G : Hp, G = upd G2 g3 (.lst ([V.str (s2)])) := ⟨_, rfl⟩
      have ng3 : G3 g3 = some (.lst ([s2].map V.str)) := by rw [eG]; exact upd_same
      have eg3 := hB2_.ne hg3
      rw [← eG] at S3 ⊢
      clear eG hg3
      have hB3_ := hB2_.same S3
      have k3_ := k2_.trans (But.of (a := b) S3)
      have nW_3 := S3 _ _ nW_2
      have ng1_3 := S3 _ _ ng1_2
      refine ⟨g1, g3, _, _, rfl, rfl, ng1_3, ng3, by rw [List.length_map, List.length_map]; (try simp only [List.length_append, List.length_cons, List.length_nil]); omega, fun g4 hg4 => ?_⟩
      rw [← List.map_append]
      have S4 := Same.upd (o := .lst ((y1 ++ [s2]).map V.str)) hg4
      obtain ⟨G4, eG⟩ : ∃ G : Hp, G = upd G3 g4 (.lst ((y1 ++ [s2]).map V.str)) := ⟨_, rfl⟩
      have ng4 : G4 g4 = some (.lst ((y1 ++ [s2]).map V.str)) := by rw [eG]; exact upd_same
      have eg4 := hB3_.ne hg4
      rw [← eG] at S4 ⊢
      clear eG hg4
      have hB4_ := hB3_.same S4
      have k4_ := k3_.trans (But.of (a := b) S4)
      have nW_4 := S4 _ _ nW_3
      have ng1_4 := S4 _ _ ng1_3
      have ng3_4 := S4 _ _ ng3
      walk_at "rd"
      refine ⟨W, _, rfl, SqL.of nW_4, fun g5 hg5 => ?_⟩
      obtain ⟨y5, ey5, yt5, yl5⟩ := cut_sub wl (some (kk + 1)) none
      rw [ey5]
      have S5 := Same.upd (o := .lst (y5.map V.str)) hg5
      obtain ⟨G5, eG⟩ : ∃ G : Hp, G = upd G4 g5 (.lst (y5.map V.str)) := ⟨_, rfl⟩
      have ng5 : G5 g5 = some (.lst (y5.map V.str)) := by rw [eG]; exact upd_same
      have eg5 := hB4_.ne hg5
      rw [← eG] at S5 ⊢
      clear eG hg5
      have hB5_ := hB4_.same S5
      have k5_ := k4_.trans (But.of (a := b) S5)
      have nW_5 := S5 _ _ nW_4
      have ng1_5 := S5 _ _ ng1_4
      have ng3_5 := S5 _ _ ng3_4
      have ng4_5 := S5 _ _ ng4
      refine ⟨g4, g5, _, _, rfl, rfl, ng4_5, ng5, by rw [List.length_map, List.length_map]; (try simp only [List.length_append, List.length_cons, List.length_nil]); omega, fun g6 hg6 => ?_⟩
      rw [← List.map_append]
      have S6 := Same.upd (o := .lst (((y1 ++ [s2]) ++ y5).map V.str)) hg6
      obtain ⟨G6, eG⟩ : ∃ G : Hp, G = upd G5 g6 (.lst (((y1 ++ [s2]) ++ y5).map V.str)) := ⟨_, rfl⟩
      have ng6 : G6 g6 = some (.lst (((y1 ++ [s2]) ++ y5).map V.str)) := by rw [eG]; exact upd_same
      have eg6 := hB5_.ne hg6
      rw [← eG] at S6 ⊢
      clear eG hg6
      have hB6_ := hB5_.same S6
      have k6_ := k5_.trans (But.of (a := b) S6)
      have nW_6 := S6 _ _ nW_5
      have ng1_6 := S6 _ _ ng1_5
      have ng3_6 := S6 _ _ ng3_5
      have ng4_6 := S6 _ _ ng4_5
      have ng5_6 := S6 _ _ ng5
      have jl := join_len (Str.ofString " ") ((y1 ++ [s2]) ++ y5)
      rw [sp1] at jl
      have jb : totS ((y1 ++ [s2]) ++ y5) + ((y1 ++ [s2]) ++ y5).length ≤ 8 * z.length + 70 := by
        simp only [totS_app, totS_one, List.length_append, List.length_cons, List.length_nil]
        omega
      refine ⟨_, g6, ((y1 ++ [s2]) ++ y5), rfl, rfl, .inl (SqL.of ng6), ?_, k _ _ (by omega) hB6_ k6_⟩
      show totS ((y1 ++ [s2]) ++ y5) + ((y1 ++ [s2]) ++ y5).length * (Str.ofString " ").length ≤ 16777216
      rw [sp1]
      omega
    walk_at "rd"
    refine iti (fun _ => ?_) (fun _ => ?_)
    · walk_at "rd"
      refine ⟨⟨_, rfl⟩, ?_⟩
      walk_at "rd"
      refine ⟨W, _, rfl, SqL.of hW4, fun g1 hg1 => ?_⟩
      obtain ⟨y1, ey1, yt1, yl1⟩ := cut_sub wl none (some kk)
      rw [ey1]
      have S1 := Same.upd (o := .lst (y1.map V.str)) hg1
      obtain ⟨G1, eG⟩ : ∃ G : Hp, G = upd H4 g1 (.lst (y1.map V.str)) := ⟨_, rfl⟩
      have ng1 : G1 g1 = some (.lst (y1.map V.str)) := by rw [eG]; exact upd_same
      have eg1 := hB4.ne hg1
      rw [← eG] at S1 ⊢
      clear eG hg1
      have hB1_ := hB4.same S1
      have k1_ := c4.trans (But.of (a := b) S1)
      have nW_1 := S1 _ _ hW4
      walk_at "rd"
      obtain ⟨x, hx, ex⟩ := atI_strs (ys := wl) k0 k1
      have xl := mem_tot hx
      refine ⟨W, _, _, _, rfl, rfl, SqL.of nW_1, ex, ?_⟩
      refine ⟨⟨_, rfl⟩, _, rfl, rfl, by omega, ?_⟩
      have ul := PyProof.Rows.len_upper x
      walk_at "rd"
      refine ⟨by show 1 ≤ sizeLine; decide, fun g2 hg2 => ?_⟩
      have S2 := Same.upd (o := .lst ([V.str (Txt.upper x)])) hg2
      obtain ⟨G2, eG⟩ : ∃ G : Hp, G = upd G1 g2 (.lst ([V.str (Txt.upper x)])) := ⟨_, rfl⟩
      have ng2 : G2 g2 = some (.lst ([Txt.upper x].map V.str)) := by rw [eG]; exact upd_same
      have eg2 := hB1_.ne hg2
      rw [← eG] at S2 ⊢
      clear eG hg2
      have hB2_ := hB1_.same S2
      have k2_ := k1_.trans (But.of (a := b) S2)
      have nW_2 := S2 _ _ nW_1
      have ng1_2 := S2 _ _ ng1
      refine ⟨g1, g2, _, _, rfl, rfl, ng1_2, ng2, by rw [List.length_map, List.length_map]; (try simp only [List.length_append, List.length_cons, List.length_nil]); omega, fun g3 hg3 => ?_⟩
      rw [← List.map_append]
      have S3 := Same.upd (o := .lst ((y1 ++ [Txt.upper x]).map V.str)) hg3
      obtain ⟨G3, eG⟩ : ∃ G : Hp, G = upd G2 g3 (.lst ((y1 ++ [Txt.upper x]).map V.str)) := ⟨_, rfl⟩
      have ng3 : G3 g3 = some (.lst ((y1 ++ [Txt.upper x]).map V.str)) := by rw [eG]; exact upd_same
      have eg3 := hB2_.ne hg3
      rw [← eG] at S3 ⊢
      clear eG hg3
      have hB3_ := hB2_.same S3
      have k3_ := k2_.trans (But.of (a := b) S3)
      have nW_3 := S3 _ _ nW_2
      have ng1_3 := S3 _ _ ng1_2
      have ng2_3 := S3 _ _ ng2
      walk_at "rd"
      refine ⟨W, _, rfl, SqL.of nW_3, fun g4 hg4 => ?_⟩
      obtain ⟨y4, ey4, yt4, yl4⟩ := cut_sub wl (some (kk + 1)) none
      rw [ey4]
      have S4 := Same.upd (o := .lst (y4.map V.str)) hg4
      obtain ⟨G4, eG⟩ : ∃ G : Hp, G = upd G3 g4 (.lst (y4.map V.str)) := ⟨_, rfl⟩
      have ng4 : G4 g4 = some (.lst (y4.map V.str)) := by rw [eG]; exact upd_same
      have eg4 := hB3_.ne hg4
      rw [← eG] at S4 ⊢
      clear eG hg4
      have hB4_ := hB3_.same S4
      have k4_ := k3_.trans (But.of (a := b) S4)
      have nW_4 := S4 _ _ nW_3
      have ng1_4 := S4 _ _ ng1_3
      have ng2_4 := S4 _ _ ng2_3
      have ng3_4 := S4 _ _ ng3
      refine ⟨g3, g4, _, _, rfl, rfl, ng3_4, ng4, by rw [List.length_map, List.length_map]; (try simp only [List.length_append, List.length_cons, List.length_nil]); omega, fun g5 hg5 => ?_⟩
      rw [← List.map_append]
      have S5 := Same.upd (o := .lst (((y1 ++ [Txt.upper x]) ++ y4).map V.str)) hg5
      obtain ⟨G5, eG⟩ : ∃ G : Hp, G = upd G4 g5 (.lst (((y1 ++ [Txt.upper x]) ++ y4).map V.str)) := ⟨_, rfl⟩
      have ng5 : G5 g5 = some (.lst (((y1 ++ [Txt.upper x]) ++ y4).map V.str)) := by rw [eG]; exact upd_same
      have eg5 := hB4_.ne hg5
      rw [← eG] at S5 ⊢
      clear eG hg5
      have hB5_ := hB4_.same S5
      have k5_ := k4_.trans (But.of (a := b) S5)
      have nW_5 := S5 _ _ nW_4
      have ng1_5 := S5 _ _ ng1_4
      have ng2_5 := S5 _ _ ng2_4
      have ng3_5 := S5 _ _ ng3_4
      have ng4_5 := S5 _ _ ng4
      have jl := join_len (Str.ofString " ") ((y1 ++ [Txt.upper x]) ++ y4)
      rw [sp1] at jl
      have jb : totS ((y1 ++ [Txt.upper x]) ++ y4) + ((y1 ++ [Txt.upper x]) ++ y4).length ≤ 8 * z.length + 70 := by
        simp only [totS_app, totS_one, List.length_append, List.length_cons, List.length_nil]
        omega
      refine ⟨_, g5, ((y1 ++ [Txt.upper x]) ++ y4), rfl, rfl, .inl (SqL.of ng5), ?_, k _ _ (by omega) hB5_ k5_⟩
      show totS ((y1 ++ [Txt.upper x]) ++ y4) + ((y1 ++ [Txt.upper x]) ++ y4).length * (Str.ofString " ").length ≤ 16777216
      rw [sp1]
      omega
    walk_at "rd"
    refine iti (fun _ => ?_) (fun _ => ?_)
    · walk_at "rd"
      refine ⟨⟨_, rfl⟩, ?_⟩
      walk_at "rd"
      refine ⟨W, _, rfl, SqL.of hW4, fun g1 hg1 => ?_⟩
      obtain ⟨y1, ey1, yt1, yl1⟩ := cut_sub wl none (some kk)
      rw [ey1]
      have S1 := Same.upd (o := .lst (y1.map V.str)) hg1
      obtain ⟨G1, eG⟩ : ∃ G : Hp, G = upd H4 g1 (.lst (y1.map V.str)) := ⟨_, rfl⟩
      have ng1 : G1 g1 = some (.lst (y1.map V.str)) := by rw [eG]; exact upd_same
      have eg1 := hB4.ne hg1
      rw [← eG] at S1 ⊢
      clear eG hg1
      have hB1_ := hB4.same S1
      have k1_ := c4.trans (But.of (a := b) S1)
      have nW_1 := S1 _ _ hW4
      walk_at "rd"
      refine ⟨W, _, rfl, SqL.of nW_1, fun g2 hg2 => ?_⟩
      obtain ⟨y2, ey2, yt2, yl2⟩ := cut_sub wl (some (kk + 1)) (some (kk + 2))
      rw [ey2]
      have S2 := Same.upd (o := .lst (y2.map V.str)) hg2
      obtain ⟨G2, eG⟩ : ∃ G : Hp, G = upd G1 g2 (.lst (y2.map V.str)) := ⟨_, rfl⟩
      have ng2 : G2 g2 = some (.lst (y2.map V.str)) := by rw [eG]; exact upd_same
      have eg2 := hB1_.ne hg2
      rw [← eG] at S2 ⊢
      clear eG hg2
      have hB2_ := hB1_.same S2
      have k2_ := k1_.trans (But.of (a := b) S2)
      have nW_2 := S2 _ _ nW_1
      have ng1_2 := S2 _ _ ng1
      refine ⟨g1, g2, _, _, rfl, rfl, ng1_2, ng2, by rw [List.length_map, List.length_map]; (try simp only [List.length_append, List.length_cons, List.length_nil]); omega, fun g3 hg3 => ?_⟩
      rw [← List.map_append]
      have S3 := Same.upd (o := .lst ((y1 ++ y2).map V.str)) hg3
      obtain ⟨G3, eG⟩ : ∃ G : Hp, G = upd G2 g3 (.lst ((y1 ++ y2).map V.str)) := ⟨_, rfl⟩
      have ng3 : G3 g3 = some (.lst ((y1 ++ y2).map V.str)) := by rw [eG]; exact upd_same
      have eg3 := hB2_.ne hg3
      rw [← eG] at S3 ⊢
      clear eG hg3
      have hB3_ := hB2_.same S3
      have k3_ := k2_.trans (But.of (a := b) S3)
      have nW_3 := S3 _ _ nW_2
      have ng1_3 := S3 _ _ ng1_2
      have ng2_3 := S3 _ _ ng2
      walk_at "rd"
      obtain ⟨x, hx, ex⟩ := atI_strs (ys := wl) k0 k1
      have xl := mem_tot hx
      refine ⟨W, _, _, _, rfl, rfl, SqL.of nW_3, ex, ?_⟩
      walk_at "rd"
      refine ⟨by show 1 ≤ sizeLine; decide, fun g4 hg4 => ?_⟩
      have S4 := Same.upd (o := .lst ([V.str (x)])) hg4
      obtain ⟨G4, eG⟩ : ∃ G : Hp, G = upd G3 g4 (.lst ([V.str (x)])) := ⟨_, rfl⟩
      have ng4 : G4 g4 = some (.lst ([x].map V.str)) := by rw [eG]; exact upd_same
      have eg4 := hB3_.ne hg4
      rw [← eG] at S4 ⊢
      clear eG hg4
      have hB4_ := hB3_.same S4
      have k4_ := k3_.trans (But.of (a := b) S4)
      have nW_4 := S4 _ _ nW_3
      have ng1_4 := S4 _ _ ng1_3
      have ng2_4 := S4 _ _ ng2_3
      have ng3_4 := S4 _ _ ng3
      refine ⟨g3, g4, _, _, rfl, rfl, ng3_4, ng4, by rw [List.length_map, List.length_map]; (try simp only [List.length_append, List.length_cons, List.length_nil]); omega, fun g5 hg5 => ?_⟩
      rw [← List.map_append]
      have S5 := Same.upd (o := .lst (((y1 ++ y2) ++ [x]).map V.str)) hg5
      obtain ⟨G5, eG⟩ : ∃ G : Hp, G = upd G4 g5 (.lst (((y1 ++ y2) ++ [x]).map V.str)) := ⟨_, rfl⟩
      have ng5 : G5 g5 = some (.lst (((y1 ++ y2) ++ [x]).map V.str)) := by rw [eG]; exact upd_same
      have eg5 := hB4_.ne hg5
      rw [← eG] at S5 ⊢
      clear eG hg5
      have hB5_ := hB4_.same S5
      have k5_ := k4_.trans (But.of (a := b) S5)
      have nW_5 := S5 _ _ nW_4
      have ng1_5 := S5 _ _ ng1_4
      have ng2_5 := S5 _ _ ng2_4
      have ng3_5 := S5 _ _ ng3_4
      have ng4_5 := S5 _ _ ng4
      walk_at "rd"
      refine ⟨W, _, rfl, SqL.of nW_5, fun g6 hg6 => ?_⟩
      obtain ⟨y6, ey6, yt6, yl6⟩ := cut_sub wl (some (kk + 2)) none
      rw [ey6]
      have S6 := Same.upd (o := .lst (y6.map V.str)) hg6
      obtain ⟨G6, eG⟩ : ∃ G : Hp, G = upd G5 g6 (.lst (y6.map V.str)) := ⟨_, rfl⟩
      have ng6 : G6 g6 = some (.lst (y6.map V.str)) := by rw [eG]; exact upd_same
      have eg6 := hB5_.ne hg6
      rw [← eG] at S6 ⊢
      clear eG hg6
      have hB6_ := hB5_.same S6
      have k6_ := k5_.trans (But.of (a := b) S6)
      have nW_6 := S6 _ _ nW_5
      have ng1_6 := S6 _ _ ng1_5
      have ng2_6 := S6 _ _ ng2_5
      have ng3_6 := S6 _ _ ng3_5
      have ng4_6 := S6 _ _ ng4_5
      have ng5_6 := S6 _ _ ng5
      refine ⟨g5, g6, _, _, rfl, rfl, ng5_6, ng6, by rw [List.length_map, List.length_map]; (try simp only [List.length_append, List.length_cons, List.length_nil]); omega, fun g7 hg7 => ?_⟩
      rw [← List.map_append]
      have S7 := Same.upd (o := .lst ((((y1 ++ y2) ++ [x]) ++ y6).map V.str)) hg7
      obtain ⟨G7, eG⟩ : ∃ G : Hp, G = upd G6 g7 (.lst ((((y1 ++ y2) ++ [x]) ++ y6).map V.str)) := ⟨_, rfl⟩
      have ng7 : G7 g7 = some (.lst ((((y1 ++ y2) ++ [x]) ++ y6).map V.str)) := by rw [eG]; exact upd_same
      have eg7 := hB6_.ne hg7
      rw [← eG] at S7 ⊢
      clear eG hg7
      have hB7_ := hB6_.same S7
      have k7_ := k6_.trans (But.of (a := b) S7)
      have nW_7 := S7 _ _ nW_6
      have ng1_7 := S7 _ _ ng1_6
      have ng2_7 := S7 _ _ ng2_6
      have ng3_7 := S7 _ _ ng3_6
      have ng4_7 := S7 _ _ ng4_6
      have ng5_7 := S7 _ _ ng5_6
      have ng6_7 := S7 _ _ ng6
      have jl := join_len (Str.ofString " ") (((y1 ++ y2) ++ [x]) ++ y6)
      rw [sp1] at jl
      have jb : totS (((y1 ++ y2) ++ [x]) ++ y6) + (((y1 ++ y2) ++ [x]) ++ y6).length ≤ 8 * z.length + 70 := by
        simp only [totS_app, totS_one, List.length_append, List.length_cons, List.length_nil]
        omega
      refine ⟨_, g7, (((y1 ++ y2) ++ [x]) ++ y6), rfl, rfl, .inl (SqL.of ng7), ?_, k _ _ (by omega) hB7_ k7_⟩
      show totS (((y1 ++ y2) ++ [x]) ++ y6) + (((y1 ++ y2) ++ [x]) ++ y6).length * (Str.ofString " ").length ≤ 16777216
      rw [sp1]
      omega
    walk_at "rd"
    refine iti (fun _ => ?_) (fun _ => ?_)
    · walk_at "rd"
      refine ⟨⟨_, rfl⟩, ?_⟩
      walk_at "rd"
      refine ⟨W, _, rfl, SqL.of hW4, fun g1 hg1 => ?_⟩
      obtain ⟨y1, ey1, yt1, yl1⟩ := cut_sub wl none (some kk)
      rw [ey1]
      have S1 := Same.upd (o := .lst (y1.map V.str)) hg1
      obtain ⟨G1, eG⟩ : ∃ G : Hp, G = upd H4 g1 (.lst (y1.map V.str)) := ⟨_, rfl⟩
      have ng1 : G1 g1 = some (.lst (y1.map V.str)) := by rw [eG]; exact upd_same
      have eg1 := hB4.ne hg1
      rw [← eG] at S1 ⊢
      clear eG hg1
      have hB1_ := hB4.same S1
      have k1_ := c4.trans (But.of (a := b) S1)
      have nW_1 := S1 _ _ hW4
      walk_at "rd"
      refine ⟨by show 1 ≤ sizeLine; decide, fun g2 hg2 => ?_⟩
      have S2 := Same.upd (o := .lst ([V.str (("" : Str))])) hg2
      obtain ⟨G2, eG⟩ : ∃ G : Hp, G = upd G1 g2 (.lst ([V.str (("" : Str))])) := ⟨_, rfl⟩
      have ng2 : G2 g2 = some (.lst ([("" : Str)].map V.str)) := by rw [eG]; exact upd_same
      have eg2 := hB1_.ne hg2
      rw [← eG] at S2 ⊢
      clear eG hg2
      have hB2_ := hB1_.same S2
      have k2_ := k1_.trans (But.of (a := b) S2)
      have nW_2 := S2 _ _ nW_1
      have ng1_2 := S2 _ _ ng1
      refine ⟨g1, g2, _, _, rfl, rfl, ng1_2, ng2, by rw [List.length_map, List.length_map]; (try simp only [List.length_append, List.length_cons, List.length_nil]); omega, fun g3 hg3 => ?_⟩
      rw [← List.map_append]
      have S3 := Same.upd (o := .lst ((y1 ++ [("" : Str)]).map V.str)) hg3
      obtain ⟨G3, eG⟩ : ∃ G : Hp, G = upd G2 g3 (.lst ((y1 ++ [("" : Str)]).map V.str)) := ⟨_, rfl⟩
      have ng3 : G3 g3 = some (.lst ((y1 ++ [("" : Str)]).map V.str)) := by rw [eG]; exact upd_same
      have eg3 := hB2_.ne hg3
      rw [← eG] at S3 ⊢
      clear eG hg3
      have hB3_ := hB2_.same S3
      have k3_ := k2_.trans (But.of (a := b) S3)
      have nW_3 := S3 _ _ nW_2
      have ng1_3 := S3 _ _ ng1_2
      have ng2_3 := S3 _ _ ng2
      walk_at "rd"
      refine ⟨W, _, rfl, SqL.of nW_3, fun g4 hg4 => ?_⟩
      obtain ⟨y4, ey4, yt4, yl4⟩ := cut_sub wl (some kk) none
      rw [ey4]
      have S4 := Same.upd (o := .lst (y4.map V.str)) hg4
      obtain ⟨G4, eG⟩ : ∃ G : Hp, G = upd G3 g4 (.lst (y4.map V.str)) := ⟨_, rfl⟩
      have ng4 : G4 g4 = some (.lst (y4.map V.str)) := by rw [eG]; exact upd_same
      have eg4 := hB3_.ne hg4
      rw [← eG] at S4 ⊢
      clear eG hg4
      have hB4_ := hB3_.same S4
      have k4_ := k3_.trans (But.of (a := b) S4)
      have nW_4 := S4 _ _ nW_3
      have ng1_4 := S4 _ _ ng1_3
      have ng2_4 := S4 _ _ ng2_3
      have ng3_4 := S4 _ _ ng3
      refine ⟨g3, g4, _, _, rfl, rfl, ng3_4, ng4, by rw [List.length_map, List.length_map]; (try simp only [List.length_append, List.length_cons, List.length_nil]); omega, fun g5 hg5 => ?_⟩
      rw [← List.map_append]
      have S5 := Same.upd (o := .lst (((y1 ++ [("" : Str)]) ++ y4).map V.str)) hg5
      obtain ⟨G5, eG⟩ : ∃ G : Hp, G = upd G4 g5 (.lst (((y1 ++ [("" : Str)]) ++ y4).map V.str)) := ⟨_, rfl⟩
      have ng5 : G5 g5 = some (.lst (((y1 ++ [("" : Str)]) ++ y4).map V.str)) := by rw [eG]; exact upd_same
      have eg5 := hB4_.ne hg5
      rw [← eG] at S5 ⊢
      clear eG hg5
      have hB5_ := hB4_.same S5
      have k5_ := k4_.trans (But.of (a := b) S5)
      have nW_5 := S5 _ _ nW_4
      have ng1_5 := S5 _ _ ng1_4
      have ng2_5 := S5 _ _ ng2_4
      have ng3_5 := S5 _ _ ng3_4
      have ng4_5 := S5 _ _ ng4
      have em : (Str.ofString "").length = 0 := by decide
      have jl := join_len (Str.ofString " ") ((y1 ++ [("" : Str)]) ++ y4)
      rw [sp1] at jl
      have jb : totS ((y1 ++ [("" : Str)]) ++ y4) + ((y1 ++ [("" : Str)]) ++ y4).length ≤ 8 * z.length + 70 := by
        simp only [totS_app, totS_one, List.length_append, List.length_cons, List.length_nil]
        omega
      refine ⟨_, g5, ((y1 ++ [("" : Str)]) ++ y4), rfl, rfl, .inl (SqL.of ng5), ?_, k _ _ (by omega) hB5_ k5_⟩
      show totS ((y1 ++ [("" : Str)]) ++ y4) + ((y1 ++ [("" : Str)]) ++ y4).length * (Str.ofString " ").length ≤ 16777216
      rw [sp1]
      omega
    walk_at "rd"
    refine iti (fun _ => ?_) (fun _ => ?_)
    · walk_at "rd"
      refine ⟨by omega, ?_⟩
      exact k _ _ (by rw [Str.length_append, sp1]; omega) hB4 c4
    walk_at "rd"
    refine iti (fun _ => ?_) (fun _ => ?_)
    · walk_at "rd"
      refine ⟨⟨_, rfl⟩, ?_⟩
      walk_at "rd"
      refine ⟨W, _, rfl, SqL.of hW4, fun g1 hg1 => ?_⟩
      obtain ⟨y1, ey1, yt1, yl1⟩ := cut_sub wl none (some kk)
      rw [ey1]
      have S1 := Same.upd (o := .lst (y1.map V.str)) hg1
      obtain ⟨G1, eG⟩ : ∃ G : Hp, G = upd H4 g1 (.lst (y1.map V.str)) := ⟨_, rfl⟩
      have ng1 : G1 g1 = some (.lst (y1.map V.str)) := by rw [eG]; exact upd_same
      have eg1 := hB4.ne hg1
      rw [← eG] at S1 ⊢
      clear eG hg1
      have hB1_ := hB4.same S1
      have k1_ := c4.trans (But.of (a := b) S1)
      have nW_1 := S1 _ _ hW4
      walk_at "rd"
      refine ⟨⟨_, rfl⟩, ?_⟩
      walk_at "rd"
      refine ⟨W, _, rfl, SqL.of nW_1, fun g2 hg2 => ?_⟩
      obtain ⟨y2, ey2, yt2, yl2⟩ := cut_sub wl (some kk) (some (kk + 2))
      rw [ey2]
      have S2 := Same.upd (o := .lst (y2.map V.str)) hg2
      obtain ⟨G2, eG⟩ : ∃ G : Hp, G = upd G1 g2 (.lst (y2.map V.str)) := ⟨_, rfl⟩
      have ng2 : G2 g2 = some (.lst (y2.map V.str)) := by rw [eG]; exact upd_same
      have eg2 := hB1_.ne hg2
      rw [← eG] at S2 ⊢
      clear eG hg2
      have hB2_ := hB1_.same S2
      have k2_ := k1_.trans (But.of (a := b) S2)
      have nW_2 := S2 _ _ nW_1
      have ng1_2 := S2 _ _ ng1
      have tb1 : (Str.ofString "\t").length = 1 := by decide
      have tl := join_len (Str.ofString "\t") y2
      rw [tb1] at tl
      refine ⟨_, g2, y2, rfl, rfl, .inl (SqL.of ng2), ?_, ?_⟩
      · show totS y2 + y2.length * (Str.ofString "\t").length ≤ 16777216
        rw [tb1]
        omega
      walk_at "rd"
      refine ⟨by show 1 ≤ sizeLine; decide, fun g3 hg3 => ?_⟩
      have S3 := Same.upd (o := .lst ([V.str (Txt.join (Str.ofString "\t") y2)])) hg3
      obtain ⟨G3, eG⟩ : ∃ G : Hp, G = upd G2 g3 (.lst ([V.str (Txt.join (Str.ofString "\t") y2)])) := ⟨_, rfl⟩
      have ng3 : G3 g3 = some (.lst ([Txt.join (Str.ofString "\t") y2].map V.str)) := by rw [eG]; exact upd_same
      have eg3 := hB2_.ne hg3
      rw [← eG] at S3 ⊢
      clear eG hg3
      have hB3_ := hB2_.same S3
      have k3_ := k2_.trans (But.of (a := b) S3)
      have nW_3 := S3 _ _ nW_2
      have ng1_3 := S3 _ _ ng1_2
      have ng2_3 := S3 _ _ ng2
      refine ⟨g1, g3, _, _, rfl, rfl, ng1_3, ng3, by rw [List.length_map, List.length_map]; (try simp only [List.length_append, List.length_cons, List.length_nil]); omega, fun g4 hg4 => ?_⟩
      rw [← List.map_append]
      have S4 := Same.upd (o := .lst ((y1 ++ [Txt.join (Str.ofString "\t") y2]).map V.str)) hg4
      obtain ⟨G4, eG⟩ : ∃ G : Hp, G = upd G3 g4 (.lst ((y1 ++ [Txt.join (Str.ofString "\t") y2]).map V.str)) := ⟨_, rfl⟩
      have ng4 : G4 g4 = some (.lst ((y1 ++ [Txt.join (Str.ofString "\t") y2]).map V.str)) := by rw [eG]; exact upd_same
      have eg4 := hB3_.ne hg4
      rw [← eG] at S4 ⊢
      clear eG hg4
      have hB4_ := hB3_.same S4
      have k4_ := k3_.trans (But.of (a := b) S4)
      have nW_4 := S4 _ _ nW_3
      have ng1_4 := S4 _ _ ng1_3
      have ng2_4 := S4 _ _ ng2_3
      have ng3_4 := S4 _ _ ng3
      walk_at "rd"
      refine ⟨W, _, rfl, SqL.of nW_4, fun g5 hg5 => ?_⟩
      obtain ⟨y5, ey5, yt5, yl5⟩ := cut_sub wl (some (kk + 2)) none
      rw [ey5]
      have S5 := Same.upd (o := .lst (y5.map V.str)) hg5
      obtain ⟨G5, eG⟩ : ∃ G : Hp, G = upd G4 g5 (.lst (y5.map V.str)) := ⟨_, rfl⟩
      have ng5 : G5 g5 = some (.lst (y5.map V.str)) := by rw [eG]; exact upd_same
      have eg5 := hB4_.ne hg5
      rw [← eG] at S5 ⊢
      clear eG hg5
      have hB5_ := hB4_.same S5
      have k5_ := k4_.trans (But.of (a := b) S5)
      have nW_5 := S5 _ _ nW_4
      have ng1_5 := S5 _ _ ng1_4
      have ng2_5 := S5 _ _ ng2_4
      have ng3_5 := S5 _ _ ng3_4
      have ng4_5 := S5 _ _ ng4
      refine ⟨g4, g5, _, _, rfl, rfl, ng4_5, ng5, by rw [List.length_map, List.length_map]; (try simp only [List.length_append, List.length_cons, List.length_nil]); omega, fun g6 hg6 => ?_⟩
      rw [← List.map_append]
      have S6 := Same.upd (o := .lst (((y1 ++ [Txt.join (Str.ofString "\t") y2]) ++ y5).map V.str)) hg6
      obtain ⟨G6, eG⟩ : ∃ G : Hp, G = upd G5 g6 (.lst (((y1 ++ [Txt.join (Str.ofString "\t") y2]) ++ y5).map V.str)) := ⟨_, rfl⟩
      have ng6 : G6 g6 = some (.lst (((y1 ++ [Txt.join (Str.ofString "\t") y2]) ++ y5).map V.str)) := by rw [eG]; exact upd_same
      have eg6 := hB5_.ne hg6
      rw [← eG] at S6 ⊢
      clear eG hg6
      have hB6_ := hB5_.same S6
      have k6_ := k5_.trans (But.of (a := b) S6)
      have nW_6 := S6 _ _ nW_5
      have ng1_6 := S6 _ _ ng1_5
      have ng2_6 := S6 _ _ ng2_5
      have ng3_6 := S6 _ _ ng3_5
      have ng4_6 := S6 _ _ ng4_5
      have ng5_6 := S6 _ _ ng5
      have jl := join_len (Str.ofString " ") ((y1 ++ [Txt.join (Str.ofString "\t") y2]) ++ y5)
      rw [sp1] at jl
      have jb : totS ((y1 ++ [Txt.join (Str.ofString "\t") y2]) ++ y5) + ((y1 ++ [Txt.join (Str.ofString "\t") y2]) ++ y5).length ≤ 8 * z.length + 70 := by
        simp only [totS_app, totS_one, List.length_append, List.length_cons, List.length_nil]
        omega
      refine ⟨_, g6, ((y1 ++ [Txt.join (Str.ofString "\t") y2]) ++ y5), rfl, rfl, .inl (SqL.of ng6), ?_, k _ _ (by omega) hB6_ k6_⟩
      show totS ((y1 ++ [Txt.join (Str.ofString "\t") y2]) ++ y5) + ((y1 ++ [Txt.join (Str.ofString "\t") y2]) ++ y5).length * (Str.ofString " ").length ≤ 16777216
      rw [sp1]
      omega
    walk_at "rd"
    refine iti (fun _ => ?_) (fun _ => ?_)
    · walk_at "rd"
      refine ⟨by omega, ?_⟩
      have q1 := cutS_len z none (some sp)
      walk_at "rd"
      refine ⟨sa, b, ns, H0, rfl, hs, hB4, fun s1 G1 sl1 hB1_ c1_ => ?_⟩
      have k1_ := c4.trans c1_
      have nW_1 := c1_ _ _ Wb hW4
      walk_at "rd"
      refine ⟨by omega, ?_⟩
      walk_at "rd"
      refine ⟨by omega, ?_⟩
      have q2 := cutS_len z (some sp) none
      walk_at "rd"
      walk_at "rd"
      refine ⟨by rw [Str.length_append]; omega, ?_⟩
      exact k _ _ (by rw [Str.length_append, Str.length_append]; omega) hB1_ k1_
    walk_at "rd"
    refine iti (fun _ => ?_) (fun _ => ?_)
    · walk_at "rd"
      refine ⟨by omega, ?_⟩
      have q1 := cutS_len z none (some sp)
      walk_at "rd"
      refine ⟨by omega, ?_⟩
      have q2 := cutS_len z (some (sp + 1)) none
      walk_at "rd"
      refine ⟨by omega, ?_⟩
      exact k _ _ (by rw [Str.length_append]; omega) hB4 c4
    walk_at "rd"
    refine iti (fun _ => ?_) (fun _ => ?_)
    · walk_at "rd"
      refine ⟨sa, b, ns, H0, rfl, hs, hB4, fun s1 G1 sl1 hB1_ c1_ => ?_⟩
      have k1_ := c4.trans c1_
      have nW_1 := c1_ _ _ Wb hW4
      walk_at "rd"
      refine ⟨by omega, ?_⟩
      exact k _ _ (by rw [Str.length_append]; omega) hB1_ k1_
    walk_at "rd"
    refine ⟨sa, b, ns, H0, rfl, hs, hB4, fun s1 G1 sl1 hB1_ c1_ => ?_⟩
    have k1_ := c4.trans c1_
    have nW_1 := c1_ _ _ Wb hW4
    exact k _ _ (by omega) hB1_ k1_
end
end Cl

/-! ### law k55: a drawn text -/
namespace Cl
open PySem PySem.Spec PyProof.Rows L2 StX ClX PySem.Builtin PySem.Builtin.Str
theorem totS_set {ls : List Str} {j : Nat} {s : Str} : totS (ls.set j s) ≤ totS ls + s.length := by
  induction ls generalizing j with
  | nil => show totS [] ≤ _; exact Nat.zero_le _
  | cons a r ih =>
    cases j with
    | zero =>
      show s.length + totS r ≤ (a.length + totS r) + s.length
      omega
    | succ j =>
      show a.length + totS (r.set j s) ≤ (a.length + totS r) + s.length
      have := ih (j := j)
      omega
def Bn5 : Nat → Nat
  | 0 => 60
  | n + 1 => 8 * Bn5 n + 70
def Tn5 : Nat → Nat
  | 0 => 1800
  | n + 1 => Tn5 n + Bn5 (n + 1)
theorem Bn5_mono (n : Nat) : Bn5 n ≤ Bn5 (n + 1) := by
  show Bn5 n ≤ 8 * Bn5 n + 70
  omega
theorem ixn_at {n : Nat} {d : Int} (d0 : 0 ≤ d) (d1 : d < (n : Int)) : ixN n d = some d.toNat := by
  unfold ixN
  rw [if_pos d0, if_pos d1]
section
variable {P : Program} {w : World} {K : PySem.W.Frag} {mg : Str → Option Value} {base : Heap} {C : Addr}
def spText (K : PySem.W.Frag) : Sp := fun vs H Q _ => ∃ (sa b t q : Addr) (bs ns : List Int) (H0 : Hp), vs = [.ref sa, .ref b, .ref t, .ref q] ∧ SqL K H0 sa (ns.map V.int) ∧ BoxS H0 H b ∧ Std3 H t ∧ H q = some (.lst (bs.map V.int)) ∧ q ≠ b ∧ Okb bs ∧
  ∀ (s : Str) (H' : Hp), s.length ≤ 7000 → BoxS H0 H' b → But b H H' → Q (.str s) H'
theorem scLawText : FnScope ["script", "box", "stands", "pays", "many", "bends", "ends", "lines", "k", "spot"] ["script", "box", "stands", "pays"] (defScope sLawText) := ⟨rfl, rfl, rfl, by decide +kernel, rfl, by decide +kernel, by decide +kernel⟩
set_option maxHeartbeats 0 in
theorem ok__law_text {f : Addr} {fd : FuncData} (F : Fun K "_law_text" "_law_text" sLawText f fd) (B : Bi mg) (D__law_take : Dn P w K mg base "_law_take" 1 ["script", "box", "many"] (spTakeX K)) (D__law_line : Dn P w K mg base "_law_line" 4 ["script", "box", "stands", "pays"] (spLineT K)) (D__law_bent : Dn P w K mg base "_law_bent" 3 ["script", "box", "line"] (spBent K)) :
    FnOk P w K mg base CX0 5 f fd ["script", "box", "stands", "pays"] (spText K) := by
  refine F.ok scLawText (fun vs H Q E h => ?_) (fun cdv A outer s H vs Q E hr h => ?_)
  · obtain ⟨sa, b, t, q, bs, ns, H0, rfl, _⟩ := h
    rfl
  · obtain ⟨sa, b, t, q, bs, ns, H0, rfl, hs, hB, hT, hq, qb, ok, k⟩ := h
    refine ⟨_, (pss_cons (ps_set (i := 4) scLawText.nd rfl (Or.inl rfl) (pe_op op_add pe_int (pe_dn D__law_take (hr.mono (by decide)) (by rfl) pass0 (pa_cons (pv 0) (pa_cons (pv 1) (pa_cons pe_int pa_nil))))))
  (C8.pss_cut (ps_if (pt_cmpR op_eq (pe_dn D__law_take (hr.mono (by decide)) (by rfl) pass0 (pa_cons (pv 0) (pa_cons (pv 1) (pa_cons pe_int pa_nil)))) pe_int (nomark _)) (pss_one (ps_set (i := 4) scLawText.nd rfl (Or.inl rfl) (pe_op op_add pe_int (pe_dn D__law_take (hr.mono (by decide)) (by rfl) pass0 (pa_cons (pv 0) (pa_cons (pv 1) (pa_cons pe_int pa_nil)))))))
  pss_nil)
  (pss_cons (ps_set (i := 5) scLawText.nd rfl (Or.inl rfl) (pe_ix ix_list (pe_lst (pa_cons pe_int (pa_cons pe_int (pa_cons pe_int (pa_cons pe_int pa_nil))))) (pe_dn D__law_take (hr.mono (by decide)) (by rfl) pass0 (pa_cons (pv 0) (pa_cons (pv 1) (pa_cons pe_int pa_nil)))) (fun _ _ => rfl)))
  (pss_cons (ps_set (i := 6) scLawText.nd rfl (Or.inl rfl) (pe_dn D__law_take (hr.mono (by decide)) (by rfl) pass0 (pa_cons (pv 0) (pa_cons (pv 1) (pa_cons pe_int pa_nil)))))
  (pss_cons (ps_set (i := 7) scLawText.nd rfl (Or.inl rfl) (pe_lst pa_nil))
  (pss_cons (ps_for PassesOwn.never rfl (pi_range1 rfl B.range (pa_cons (pv 4) pa_nil)) (pg_name (i := 8) scLawText.nd rfl (Or.inl rfl))
  (pss_one (ps_expr (pe_bm PySem.F.plainAttrs_list PySem.F.slot_list_append PySem.F.type_list_append mt_append (pv 7) (pa_cons (pe_dn D__law_line (hr.mono (by decide)) (by rfl) pass0 (pa_cons (pv 0) (pa_cons (pv 1) (pa_cons (pv 2) (pa_cons (pv 3) pa_nil))))) pa_nil)))))
  (pss_cons (ps_for PassesOwn.never rfl (pi_range1 rfl B.range (pa_cons (pv 5) pa_nil)) (pg_name (i := 8) scLawText.nd rfl (Or.inl rfl))
  (pss_cons (ps_set (i := 9) scLawText.nd rfl (Or.inl rfl) (pe_dn D__law_take (hr.mono (by decide)) (by rfl) pass0 (pa_cons (pv 0) (pa_cons (pv 1) (pa_cons (pv 4) pa_nil)))))
  (pss_one (ps_if (pt_cmpR op_ne (pe_ix ix_list (pv 7) (pv 9) (fun _ _ => rfl)) pe_str (nomark _)) (pss_one (ps_asg (pe_dn D__law_bent (hr.mono (by decide)) (by rfl) pass0 (pa_cons (pv 0) (pa_cons (pv 1) (pa_cons (pe_ix ix_list (pv 7) (pv 9) (fun _ _ => rfl)) pa_nil)))) (pg_sub (pv 7) (pv 9) set_list)))
  pss_nil))))
  (pss_cons (ps_if (pt_cmpR op_eq (pv 6) pe_int (nomark _)) (pss_one (ps_expr (pe_bm PySem.F.plainAttrs_list PySem.F.slot_list_append PySem.F.type_list_append mt_append (pv 7) (pa_cons pe_str pa_nil))))
  pss_nil)
  (pss_one (ps_ret (pe_join pe_str (pv 7)))))))))))), ?_⟩
    have sl : (20000 : Nat) ≤ sizeLine := by decide
    have nl1 : (Str.ofString "\n").length = 1 := by decide
    walk_at "rd"
    refine ⟨sa, b, 6, ns, H0, rfl, hs, hB, by decide, by decide, fun d1 H1 d10 d11 hB1 c1 => ?_⟩
    walk_at "rd"
    refine ⟨fun σ H' => ∃ m : Nat, σ = [some (V.ref sa), some (.ref b), some (.ref t), some (.ref q), some (.int (m : Nat)), none, none, none, none, none] ∧ 1 ≤ m ∧ m ≤ 30 ∧ BoxS H0 H' b ∧ But b H H', ?_, ?_⟩
    · walk_at "rd"
      refine ⟨sa, b, 8, ns, H0, rfl, hs, hB1, by decide, by decide, fun d2 H2 d20 d21 hB2 c2 => ?_⟩
      walk_at "rd"
      refine iti (fun _ => ?_) (fun _ => ?_)
      · walk_at "rd"
        refine ⟨sa, b, 24, ns, H0, rfl, hs, hB2, by decide, by decide, fun d3 H3 d30 d31 hB3 c3 => ?_⟩
        walk_at "rd"
        obtain ⟨m, em⟩ : ∃ m : Nat, (7 : Int) + d3 = m := ⟨(7 + d3).toNat, by omega⟩
        dsimp only
        rw [em]
        exact ⟨m, rfl, by omega, by omega, hB3, c1.trans (c2.trans c3)⟩
      · obtain ⟨m, em⟩ : ∃ m : Nat, (1 : Int) + d1 = m := ⟨(1 + d1).toNat, by omega⟩
        exact ⟨m, by rw [← em]; rfl, by omega, by omega, hB2, c1.trans c2⟩
    clear hB1 c1
    rintro σ H2 ⟨m, rfl, m1, m30, hB2, c2⟩
    walk_at "rd"
    refine ⟨by show 4 ≤ sizeLine; decide, fun u hu => ?_⟩
    have ub := hB2.ne hu
    have Su := Same.upd (o := .lst [V.int 0, .int 0, .int 1, .int 2]) hu
    walk_at "rd"
    refine ⟨sa, b, 4, ns, H0, rfl, hs, hB2.put hu, by decide, by decide, fun d4 H4 d40 d41 hB4 c4 => ?_⟩
    have hu4 := c4 _ _ ub (upd_same (o := .lst [V.int 0, .int 0, .int 1, .int 2]))
    have k4 := c2.trans ((But.of (a := b) Su).trans c4)
    obtain ⟨bd, hbd, q1⟩ : ∃ bd : Nat, atI [V.int 0, .int 0, .int 1, .int 2] d4 = some (.int (bd : Nat)) ∧ bd ≤ 2 := by
      rcases (show d4 = 0 ∨ d4 = 1 ∨ d4 = 2 ∨ d4 = 3 by omega) with rfl | rfl | rfl | rfl
      · exact ⟨0, rfl, by decide⟩
      · exact ⟨0, rfl, by decide⟩
      · exact ⟨1, rfl, by decide⟩
      · exact ⟨2, rfl, by decide⟩
    refine ⟨u, _, _, _, rfl, rfl, SqL.of hu4, hbd, ?_⟩
    clear hu Su hu4 c4 c2 hB2
    walk_at "rd"
    refine ⟨sa, b, 8, ns, H0, rfl, hs, hB4, by decide, by decide, fun en H5 e0 e1 hB5 c5 => ?_⟩
    have k5 := k4.trans c5
    clear k4 c5 hB4
    walk_at "rd"
    refine ⟨by show 0 ≤ sizeLine; decide, fun D hD => ?_⟩
    have Db := hB5.ne hD
    have hH0D : H0 D = none := hB5.2.1.free hD
    have hHD : H D = none := But.none2 k5 Db hD
    have hB6 := hB5.put (o := .lst []) hD
    have k6 := k5.trans (But.of (a := b) (Same.upd (o := .lst []) hD))
    walk_at "rd"
    refine ⟨by omega, by omega, ?_⟩
    refine for_range (fun i σ H' => ∃ (ls : List Str) (y : Option V), σ = [some (V.ref sa), some (.ref b), some (.ref t), some (.ref q), some (.int (m : Nat)), some (.int (bd : Nat)), some (.int en), some (.ref D), y, none] ∧ H' D = some (.lst (ls.map V.str)) ∧ ls.length = i ∧ totS ls ≤ 60 * i ∧ (∀ s ∈ ls, s.length ≤ 60) ∧ BoxS H0 H' b ∧ But b H H')
      ⟨[], none, rfl, upd_same, rfl, Nat.zero_le _, (fun s hs => nomatch hs), hB6, k6⟩ ?_ ?_
    · rintro i σ G hi ⟨ls, y, rfl, gD, gl, gt, ge, gB, gb⟩
      have gT := hT.butS gb hB
      have gq := gb _ _ qb hq
      walk_at "rd"
      refine ⟨.inl ⟨rfl, _, SqL.of gD⟩, ?_⟩
      walk_at "rd"
      refine ⟨sa, b, t, q, bs, ns, H0, rfl, hs, gB, gT, gq, qb, ok, fun s G2 s60 gB2 gb2 => ?_⟩
      have gD2 := gb2 _ _ Db gD
      refine ⟨D, _, _, rfl, rfl, gD2, by rw [List.length_map]; omega, ?_⟩
      refine ⟨ls ++ [s], _, rfl, by rw [upd_same, List.map_append]; rfl, by rw [List.length_append, gl]; rfl, by rw [totS_app, totS_one]; omega, fun x hx => ?_, gB2.set Db hH0D, (gb.trans gb2).grow hHD⟩
      rcases List.mem_append.mp hx with h | h
      · exact ge x h
      · rw [List.mem_singleton.mp h]; exact s60
    clear hB6 k6 hD k5 hB5
    rintro σ G ⟨ls, y, rfl, gD, gl, gt, ge, gB, gb⟩
    walk_at "rd"
    refine ⟨by omega, by omega, ?_⟩
    refine for_range (fun i σ H' => ∃ (ls : List Str) (y z : Option V), σ = [some (V.ref sa), some (.ref b), some (.ref t), some (.ref q), some (.int (m : Nat)), some (.int (bd : Nat)), some (.int en), some (.ref D), y, z] ∧ H' D = some (.lst (ls.map V.str)) ∧ ls.length = m ∧ totS ls ≤ Tn5 i ∧ (∀ s ∈ ls, s.length ≤ Bn5 i) ∧ BoxS H0 H' b ∧ But b H H')
      ⟨ls, y, none, rfl, gD, by omega, (by show _ ≤ 1800; omega), ge, gB, gb⟩ ?_ ?_
    · clear gD gl gt ge gB gb
      rintro i σ G hi ⟨ls, y, z, rfl, gD, gl, gt, ge, gB, gb⟩
      have i2 : i = 0 ∨ i = 1 := by omega
      have bi : Bn5 i ≤ 550 := by rcases i2 with rfl | rfl <;> decide
      walk_at "rd"
      refine ⟨sa, b, ((m : Nat) : Int), ns, H0, rfl, hs, gB, by omega, Int.le_trans (show ((m : Nat) : Int) ≤ 30 by omega) (by decide), fun sp G2 p0 p1 gB2 gb2 => ?_⟩
      have gD2 := gb2 _ _ Db gD
      obtain ⟨x, hx, ex⟩ := atI_strs (ys := ls) p0 (by rw [gl]; exact p1)
      have xl := ge x hx
      walk_at "rd"
      refine ⟨D, _, _, _, rfl, rfl, SqL.of gD2, ex, ?_⟩
      refine ⟨rfl, _, rfl, ?_⟩
      dsimp only
      by_cases e : V.str x = V.str (Str.ofString "")
      · rw [decide_eq_true e]
        walk_at "rd"
        exact ⟨ls, _, _, rfl, gD2, gl, Nat.le_trans gt (Nat.le_add_right _ _), fun s hs => Nat.le_trans (ge s hs) (Bn5_mono i), gB2, gb.trans gb2⟩
      · rw [decide_eq_false e]
        have x1 : 1 ≤ x.length := by
          rcases Nat.eq_zero_or_pos x.length with h | h
          · exact absurd (congrArg V.str (str_ext (show x.cps.toList = (Str.ofString "").cps.toList by
              have : x.cps.toList.length = 0 := by simpa [Str.length] using h
              rw [List.eq_nil_of_length_eq_zero this]; decide +kernel))) e
          · exact h
        walk_at "rd"
        refine ⟨D, _, _, _, rfl, rfl, SqL.of gD2, ex, ?_⟩
        walk_at "rd"
        refine ⟨sa, b, x, ns, H0, rfl, hs, gB2, x1, by omega, fun s G3 sl3 gB3 gb3 => ?_⟩
        have gD3 := gb3 _ _ Db gD2
        walk_at "rd"
        refine ⟨D, _, sp, sp.toNat, rfl, rfl, gD3, ixn_at p0 (by rw [List.length_map, gl]; exact p1), ?_⟩
        have sB : s.length ≤ Bn5 (i + 1) := by
          show _ ≤ 8 * Bn5 i + 70
          omega
        refine ⟨ls.set sp.toNat s, _, _, rfl, by rw [upd_same, List.map_set], by rw [List.length_set, gl], Nat.le_trans totS_set (Nat.add_le_add gt sB), fun v hv => ?_, gB3.set Db hH0D, ((gb.trans gb2).trans gb3).grow hHD⟩
        rcases List.mem_or_eq_of_mem_set hv with h | h
        · exact Nat.le_trans (ge v h) (Bn5_mono i)
        · rw [h]; exact sB
    clear gD gl gt ge gB gb
    rintro σ G ⟨ls, y, z, rfl, gD, gl, gt, ge, gB, gb⟩
    have td : totS ls ≤ 6820 := by
      have : bd = 0 ∨ bd = 1 ∨ bd = 2 := by omega
      refine Nat.le_trans gt ?_
      rcases this with rfl | rfl | rfl <;> decide
    have fin : ∀ (ys : List Str), totS ys ≤ 6820 → ys.length ≤ 31 → (Txt.join (Str.ofString "\n") ys).length ≤ 7000 := fun ys h1 h2 => by
      have := join_len (Str.ofString "\n") ys
      rw [nl1] at this
      omega
    walk_at "rd"
    refine iti (fun _ => ?_) (fun _ => ?_)
    · walk_at "rd"
      refine ⟨.inl ⟨rfl, _, SqL.of gD⟩, ?_⟩
      walk_at "rd"
      refine ⟨D, _, _, rfl, rfl, gD, by rw [List.length_map]; omega, ?_⟩
      walk_at "rd"
      refine ⟨⟨_, rfl⟩, ?_⟩
      have e1 : totS (ls ++ [("" : Str)]) = totS ls := by
        rw [totS_app, totS_one, show ("" : Str).length = 0 by decide]; rfl
      have e2 : (ls ++ [("" : Str)]).length = m + 1 := by rw [List.length_append, gl]; rfl
      refine ⟨_, rfl, _, D, ls ++ [("" : Str)], rfl, rfl, .inl (SqL.of (by rw [upd_same, List.map_append]; rfl)), ?_, k _ _ (fin _ (by omega) (by omega)) (gB.set Db hH0D) (gb.grow hHD)⟩
      show totS (ls ++ [("" : Str)]) + (ls ++ [("" : Str)]).length * (Str.ofString "\n").length ≤ 16777216
      rw [nl1]
      omega
    · refine ⟨⟨_, rfl⟩, ?_⟩
      refine ⟨_, rfl, _, D, ls, rfl, rfl, .inl (SqL.of gD), ?_, k _ _ (fin _ td (by omega)) gB gb⟩
      show totS ls + ls.length * (Str.ofString "\n").length ≤ 16777216
      rw [nl1]
      omega
end
end Cl

/-! ### min of three ints -/
namespace Cl
open PySem L2
theorem call_min3 {X : Cx} (hc : X.calm = true) : CallR X (.builtin "min") (fun xs H Q => ∃ i j k m, xs = [.int i, .int j, .int k] ∧ (if j < i then j else i) = m ∧ Q (.int (if k < m then k else m)) H) := by
  intro pins s σ H xs us Q I r h
  obtain ⟨i, j, k, m, rfl, e, q⟩ := h
  refine call_min3Nu hc pins s σ H _ us Q I r ⟨.int i, .int j, .int k, .int (if k < m then k else m), rfl, ?_, q⟩
  have e1 : nuMin2 (.int i) (.int j) = some (.int m) := by
    show some (if decide (j < i) = true then V.int j else V.int i) = _
    rw [← e]
    by_cases h : j < i
    · rw [decide_eq_true h, if_pos rfl, if_pos h]
    · rw [decide_eq_false h, if_neg Bool.false_ne_true, if_neg h]
  show (nuMin2 (.int i) (.int j)).bind (fun m => nuMin2 m (.int k)) = _
  rw [e1]
  show some (if decide (k < m) = true then V.int k else V.int m) = _
  by_cases h : k < m
  · rw [decide_eq_true h, if_pos rfl, if_pos h]
  · rw [decide_eq_false h, if_neg Bool.false_ne_true, if_neg h]
end Cl

/-! ### law k55: a line read -/
namespace Cl
open PySem PySem.Spec PyProof.Rows L2 StX ClX PySem.Builtin PySem.Builtin.Str
theorem for_strQ {z : Str} {g : TG} {tb : TS} {D : Ends} {σ : L2.St} {H : Hp} (Pv : Nat → L2.St → Hp → Prop) (h0 : Pv 0 σ H)
    (hs : ∀ (i : Nat) (c : Nat) (σ : L2.St) (H : Hp), z.cps.toList[i]? = some c → Pv i σ H → g (.str ⟨#[c]⟩) σ H fun σ2 H2 => tb { D with nx := Pv (i + 1), ct := Pv (i + 1), bk := D.nx } σ2 H2) (hd : ∀ σ H, Pv z.length σ H → D.nx σ H) :
    ∃ W : Nat → Nat → L2.St → Hp → Prop, (∃ m, W 0 m σ H) ∧ ∀ i m σ H, W i m σ H →
      ((Its z).stop i H ∧ D.nx σ H) ∨ ((Its z).go i H ∧ ∃ N : L2.St → Hp → Prop, (∀ σ' H', N σ' H' → ∃ m', m' < m ∧ W (i + 1) m' σ' H') ∧ ∀ x H', (Its z).yld i H x H' → g x σ H' fun σ2 H2 => tb { D with nx := N, ct := N, bk := D.nx } σ2 H2) := by
  refine ⟨fun j c s h => (j ≤ z.length ∧ c = z.length - j) ∧ Pv j s h, ⟨z.length, ⟨Nat.zero_le _, rfl⟩, h0⟩, ?_⟩
  rintro j c s h ⟨⟨hj, rfl⟩, pv⟩
  rcases Nat.lt_or_ge j z.length with lt | ge
  · refine .inr ⟨lt, Pv (j + 1), fun s' h' pv' => ⟨z.length - (j + 1), by omega, ⟨lt, rfl⟩, pv'⟩, ?_⟩
    rintro v h' ⟨rfl, ch, hc, rfl⟩
    exact hs j ch s _ (by simpa using hc) pv
  · have : j = z.length := by omega
    subst this
    exact .inl ⟨Nat.le_refl _, hd s h pv⟩
theorem dgs_mem (c : Nat) : decide (c ∈ (Str.ofString "0123456789").cps.toList) = (decide (48 ≤ c) && decide (c ≤ 57)) := by
  rw [← hasDg]
  show decide (c ∈ dgs.cps.toList) = _
  rw [Bool.eq_iff_iff, decide_eq_true_eq, Array.contains_iff_mem, Array.mem_toList_iff]
def nbV (s : Str) : Int := if isNb s = true then numV s else -1
def amV (s : Str) : Int := if V.str s = V.str "all" then 1000 else nbV s
theorem nbV_pos (s : Str) : decide (nbV s < 0) = !isNb s := by
  unfold nbV numV
  split
  · rename_i h
    rw [h]
    exact decide_eq_false (by omega)
  · rename_i h
    rw [Bool.not_eq_true] at h
    rw [h]
    exact decide_eq_true (by decide)
theorem amV_pos (s : Str) : decide (amV s < 0) = !isAm s := by
  unfold amV isAm
  split
  · rename_i h
    rw [decide_eq_true h]
    exact decide_eq_false (by decide)
  · rename_i h
    rw [decide_eq_false h, Bool.false_or]
    exact nbV_pos s
theorem amV_ge (s : Str) : decide (0 ≤ amV s) = isAm s := by
  have h := amV_pos s
  cases q : isAm s
  · rw [q] at h
    exact decide_eq_false (by have := of_decide_eq_true h; omega)
  · rw [q] at h
    exact decide_eq_true (by have := of_decide_eq_false h; omega)
def rlV : List Str → List V
  | [a, b, m] => if isEl [a, b, m] = true then [.str "else", .str "", .int 0, .int (amV m)] else []
  | [a, n, g, b, c, m] => if isWh [a, n, g, b, c, m] = true then [.str n, .str g, .int (nbV b), .int (amV m)] else []
  | _ => []
section
variable {P : Program} {w : World} {K : PySem.W.Frag} {mg : Str → Option Value} {base : Heap} {C : Addr}
def spNbL : Sp := fun vs H Q _ => ∃ s : Str, vs = [.str s] ∧ s.length ≤ 1000000 ∧ Q (.int (nbV s)) H
theorem scLawNumber : FnScope ["text", "sign"] ["text"] (defScope sLawNumber) := ⟨rfl, rfl, rfl, by decide +kernel, rfl, by decide +kernel, by decide +kernel⟩
set_option maxHeartbeats 0 in
theorem ok__law_number {f : Addr} {fd : FuncData} (F : Fun K "_law_number" "_law_number" sLawNumber f fd) (B : Bi mg) : FnOk P w K mg base CX0 1 f fd ["text"] spNbL := by
  refine F.ok scLawNumber (fun vs H Q E h => ?_) (fun cdv A outer s H vs Q E hr h => ?_)
  · obtain ⟨z, rfl, _⟩ := h
    rfl
  · obtain ⟨z, rfl, hl, k⟩ := h
    refine ⟨_, (pss_cons (ps_if (PW.pt (pw_or (pt_cmpR op_lt (pe_callB call_len_str (by rfl) B.len PySem.boot_len (pa_cons (pv 0) pa_nil)) pe_int (nomark _)) (pw_or1 (pt_cmpR op_gt (pe_callB call_len_str (by rfl) B.len PySem.boot_len (pa_cons (pv 0) pa_nil)) pe_int (nomark _))))) (pss_one (ps_ret (pe_un un_neg pe_int)))
  pss_nil)
  (pss_cons (ps_for PassesOwn.never rfl (pi_str (pv 0)) (pg_name (i := 1) scLawNumber.nd rfl (Or.inl rfl))
  (pss_one (ps_if (pt_cmpR op_notIn_sign (pv 1) pe_str (by with_unfolding_all rfl)) (pss_one (ps_ret (pe_un un_neg pe_int)))
  pss_nil)))
  (pss_one (ps_ret (pe_callTy call_int_str (by rfl) B.intT (by decide +kernel) (pa_cons (pv 0) pa_nil)))))), ?_⟩
    walk_at "rd"
    refine ⟨small_le hl, ?_⟩
    walk_at "rd"
    by_cases h1 : (z.length : Int) < 1
    · have e : nbV z = -1 := by
        unfold nbV isNb
        rw [decide_eq_false (by omega)]; rfl
      rw [e] at k
      rw [decide_eq_true h1]
      refine iteT ?_
      walk_at "rd"
      exact k
    rw [decide_eq_false h1]
    refine iteF ?_
    walk_at "rd"
    refine ⟨small_le hl, ?_⟩
    walk_at "rd"
    by_cases h3 : (3 : Int) < (z.length : Int)
    · have e : nbV z = -1 := by
        unfold nbV isNb
        rw [decide_eq_false (show ¬ (z.length : Int) ≤ 3 by omega), Bool.false_and, Bool.and_false]; rfl
      rw [e] at k
      rw [decide_eq_true h3]
      walk_at "rd"
      exact k
    rw [decide_eq_false h3]
    walk_at "rd"
    refine for_strQ (z := z) (fun i σ H' => (H' = H ∧ ∃ x, σ = [some (.str z), x]) ∧ ∀ j, j < i → ∀ c, z.cps.toList[j]? = some c → (decide (48 ≤ c) && decide (c ≤ 57)) = true) ⟨⟨rfl, _, rfl⟩, fun j hj => absurd hj (by omega)⟩ ?_ ?_
    · rintro i c σ H1 hc ⟨⟨rfl, x, rfl⟩, hj⟩
      walk_at "rd"
      rw [dgs_mem]
      cases hd : (decide (48 ≤ c) && decide (c ≤ 57)) with
      | false =>
        have ad : allDg z = false := by
          unfold allDg
          rw [List.all_eq_false]
          exact ⟨c, List.mem_of_getElem? hc, by rw [hd]; exact Bool.noConfusion⟩
        have e : nbV z = -1 := by
          unfold nbV isNb
          rw [ad, Bool.and_false, Bool.and_false]; rfl
        rw [e] at k
        walk_at "rd"
        exact k
      | true =>
        walk_at "rd"
        refine ⟨⟨rfl, _, rfl⟩, fun j hj2 c2 hc2 => ?_⟩
        rcases Nat.lt_succ_iff_lt_or_eq.mp hj2 with h | rfl
        · exact hj j h c2 hc2
        · rw [hc] at hc2
          cases hc2
          exact hd
    · rintro σ H1 ⟨⟨rfl, x, rfl⟩, hj⟩
      have ad : allDg z = true := by
        unfold allDg
        rw [List.all_eq_true]
        intro c hc
        obtain ⟨j, hj2, rfl⟩ := List.getElem_of_mem hc
        exact hj j (by simpa [Str.length] using hj2) _ (List.getElem?_eq_getElem hj2)
      have nb : isNb z = true := by
        unfold isNb
        rw [decide_eq_true (show (1 : Int) ≤ (z.length : Int) by omega), decide_eq_true (show (z.length : Int) ≤ 3 by omega), ad]; rfl
      have e : nbV z = numV z := if_pos nb
      rw [e] at k
      obtain ⟨i1, i2⟩ := isNb_num nb
      walk_at "rd"
      exact ⟨z, _, rfl, i1, by omega, k⟩
def spAmL : Sp := fun vs H Q _ => ∃ s : Str, vs = [.str s] ∧ s.length ≤ 1000000 ∧ Q (.int (amV s)) H
theorem scLawAmount : FnScope ["text"] ["text"] (defScope sLawAmount) := ⟨rfl, rfl, rfl, by decide +kernel, rfl, by decide +kernel, by decide +kernel⟩
theorem ok__law_amount {f : Addr} {fd : FuncData} (F : Fun K "_law_amount" "_law_amount" sLawAmount f fd) (D__law_number : Dn P w K mg base "_law_number" 1 ["text"] spNbL) : FnOk P w K mg base CX0 2 f fd ["text"] spAmL := by
  refine F.ok scLawAmount (fun vs H Q E h => ?_) (fun cdv A outer s H vs Q E hr h => ?_)
  · obtain ⟨z, rfl, _⟩ := h
    rfl
  · obtain ⟨z, rfl, hl, k⟩ := h
    refine ⟨_, (pss_cons (ps_if (pt_cmpR op_eq (pv 0) pe_str (nomark _)) (pss_one (ps_ret pe_int))
  pss_nil)
  (pss_one (ps_ret (pe_dn D__law_number (hr.mono (by decide)) (by rfl) pass0 (pa_cons (pv 0) pa_nil))))), ?_⟩
    unfold amV at k
    walk_at "rd"
    by_cases e : V.str z = V.str (Str.ofString "all")
    · rw [if_pos e] at k
      rw [decide_eq_true e]
      walk_at "rd"
      exact k
    · rw [if_neg e] at k
      rw [decide_eq_false e]
      walk_at "rd"
      exact ⟨hl, k⟩
def spRuleL : Sp := fun vs H Q _ => ∃ z : Str, vs = [.str z] ∧ z.length ≤ 1000000 ∧ ∀ (p : Addr) (H' : Hp), H p = none → H' p = some (.lst (rlV (wdsOf z))) → Same H H' → Q (.ref p) H'
theorem scLawRule : FnScope ["line", "words"] ["line"] (defScope sLawRule) := ⟨rfl, rfl, rfl, by decide +kernel, rfl, by decide +kernel, by decide +kernel⟩
set_option maxHeartbeats 0 in
theorem ok__law_rule {f : Addr} {fd : FuncData} (F : Fun K "_law_rule" "_law_rule" sLawRule f fd) (B : Bi mg) (D__law_number : Dn P w K mg base "_law_number" 1 ["text"] spNbL) (D__law_amount : Dn P w K mg base "_law_amount" 2 ["text"] spAmL) : FnOk P w K mg base CX0 3 f fd ["line"] spRuleL := by
  refine F.ok scLawRule (fun vs H Q E h => ?_) (fun cdv A outer s H vs Q E hr h => ?_)
  · obtain ⟨z, rfl, _⟩ := h
    rfl
  · obtain ⟨z, rfl, hl, k⟩ := h
    refine ⟨_, (pss_cons (ps_set (i := 1) scLawRule.nd rfl (Or.inl rfl) (pe_split (pv 0) pe_str))
  (pss_cons (ps_if (PW.pt (pw_and (pt_cmpR op_eq (pe_callB call_len_seq (by rfl) B.len PySem.boot_len (pa_cons (pv 1) pa_nil)) pe_int (nomark _)) (pw_and (pt_cmpR op_eq (pe_ix ix_list (pv 1) pe_int (fun _ _ => rfl)) pe_str (nomark _)) (pw_and (pt_cmpR op_eq (pe_ix ix_list (pv 1) pe_int (fun _ _ => rfl)) pe_str (nomark _)) (pw_and1 (pt_cmpR op_ge (pe_dn D__law_amount (hr.mono (by decide)) (by rfl) pass0 (pa_cons (pe_ix ix_list (pv 1) pe_int (fun _ _ => rfl)) pa_nil)) pe_int (nomark _))))))) (pss_one (ps_ret (pe_lst (pa_cons pe_str (pa_cons pe_str (pa_cons pe_int (pa_cons (pe_dn D__law_amount (hr.mono (by decide)) (by rfl) pass0 (pa_cons (pe_ix ix_list (pv 1) pe_int (fun _ _ => rfl)) pa_nil)) pa_nil)))))))
  pss_nil)
  (pss_cons (ps_if (PW.pt (pw_or (pt_cmpR op_ne (pe_callB call_len_seq (by rfl) B.len PySem.boot_len (pa_cons (pv 1) pa_nil)) pe_int (nomark _)) (pw_or (pt_cmpR op_ne (pe_ix ix_list (pv 1) pe_int (fun _ _ => rfl)) pe_str (nomark _)) (pw_or1 (pt_cmpR op_ne (pe_ix ix_list (pv 1) pe_int (fun _ _ => rfl)) pe_str (nomark _)))))) (pss_one (ps_ret (pe_lst pa_nil)))
  pss_nil)
  (pss_cons (ps_if (PW.pt (pw_or (pt_cmpR op_notIn_seq (pe_ix ix_list (pv 1) pe_int (fun _ _ => rfl)) (pe_lst (pa_cons pe_str (pa_cons pe_str (pa_cons pe_str (pa_cons pe_str (pa_cons pe_str pa_nil)))))) (by with_unfolding_all rfl)) (pw_or1 (pt_cmpR op_notIn_seq (pe_ix ix_list (pv 1) pe_int (fun _ _ => rfl)) (pe_lst (pa_cons pe_str (pa_cons pe_str (pa_cons pe_str pa_nil)))) (by with_unfolding_all rfl))))) (pss_one (ps_ret (pe_lst pa_nil)))
  pss_nil)
  (pss_cons (ps_if (PW.pt (pw_or (pt_cmpR op_lt (pe_dn D__law_number (hr.mono (by decide)) (by rfl) pass0 (pa_cons (pe_ix ix_list (pv 1) pe_int (fun _ _ => rfl)) pa_nil)) pe_int (nomark _)) (pw_or1 (pt_cmpR op_lt (pe_dn D__law_amount (hr.mono (by decide)) (by rfl) pass0 (pa_cons (pe_ix ix_list (pv 1) pe_int (fun _ _ => rfl)) pa_nil)) pe_int (nomark _))))) (pss_one (ps_ret (pe_lst pa_nil)))
  pss_nil)
  (pss_one (ps_ret (pe_lst (pa_cons (pe_ix ix_list (pv 1) pe_int (fun _ _ => rfl)) (pa_cons (pe_ix ix_list (pv 1) pe_int (fun _ _ => rfl)) (pa_cons (pe_dn D__law_number (hr.mono (by decide)) (by rfl) pass0 (pa_cons (pe_ix ix_list (pv 1) pe_int (fun _ _ => rfl)) pa_nil)) (pa_cons (pe_dn D__law_amount (hr.mono (by decide)) (by rfl) pass0 (pa_cons (pe_ix ix_list (pv 1) pe_int (fun _ _ => rfl)) pa_nil)) pa_nil)))))))))))), ?_⟩
    have sl : (2000000 : Nat) ≤ sizeLine := by decide
    walk_at "rd"
    refine ⟨⟨_, rfl⟩, ?_⟩
    walk_at "rd"
    refine ⟨by omega, fun W hW => ?_⟩
    have wl : ∀ s ∈ wdsOf z, s.length ≤ 1000000 := fun s hs => Nat.le_trans (split_len hs) hl
    have SW := Same.upd (o := .lst ((wdsOf z).map V.str)) hW
    obtain ⟨G, eG⟩ : ∃ G : Hp, G = upd H W (.lst ((Txt.split z (Str.ofString " ")).map V.str)) := ⟨_, rfl⟩
    have hG : G W = some (.lst ((wdsOf z).map V.str)) := by rw [eG]; exact upd_same
    have SG : Same H G := by rw [eG]; exact SW
    rw [← eG]
    clear eG SW hW
    obtain ⟨ws, ews⟩ : ∃ ws, ws = wdsOf z := ⟨_, rfl⟩
    rw [← ews] at hG wl k
    clear ews
    have out : ∀ (xs : List V) (p : Addr) (G' : Hp), Same H G' → rlV ws = xs → G' p = none → Q (.ref p) (upd G' p (.lst xs)) := fun xs p G' S' e h => k p _ (S'.free h) (by rw [e]; exact upd_same) (S'.trans (Same.upd h))
    clear k
    walk_at "rd"
    refine ⟨W, _, rfl, .inl (SqL.of hG), ?_⟩
    rw [List.length_map]
    by_cases h3 : ws.length = 3
    · obtain ⟨w0, w1, w2, rfl⟩ := len3 h3
      have l2 := wl w2 (by simp)
      have hT : isEl [w0, w1, w2] = true → rlV [w0, w1, w2] = [.str "else", .str "", .int 0, .int (amV w2)] := fun h => if_pos h
      have hF : isEl [w0, w1, w2] = false → rlV [w0, w1, w2] = [] := fun h => if_neg (by rw [h]; exact Bool.noConfusion)
      have he : isEl [w0, w1, w2] = (decide (V.str w0 = V.str (Str.ofString "else")) && (decide (V.str w1 = V.str (Str.ofString "carry")) && isAm w2)) := rfl
      walk_at "rd"
      refine ⟨W, _, _, _, rfl, rfl, SqL.of hG, rfl, ?_⟩
      refine ⟨rfl, _, rfl, ?_⟩
      by_cases e0 : V.str w0 = V.str (Str.ofString "else")
      · rw [decide_eq_true e0] at he ⊢
        walk_at "rd"
        refine ⟨W, _, _, _, rfl, rfl, SqL.of hG, rfl, ?_⟩
        refine ⟨rfl, _, rfl, ?_⟩
        by_cases e1 : V.str w1 = V.str (Str.ofString "carry")
        · rw [decide_eq_true e1] at he ⊢
          walk_at "rd"
          refine ⟨W, _, _, _, rfl, rfl, SqL.of hG, rfl, ?_⟩
          walk_at "rd"
          refine ⟨l2, ?_⟩
          walk_at "rd"
          rw [amV_ge]
          cases e2 : isAm w2 with
          | false =>
            rw [e2] at he
            walk_at "rd"
            refine ⟨W, _, rfl, .inl (SqL.of hG), ?_⟩
            walk_at "rd"
            refine ⟨by show 0 ≤ sizeLine; decide, fun p hp => ?_⟩
            exact out [] p _ SG (hF he) hp
          | true =>
            rw [e2] at he
            walk_at "rd"
            refine ⟨W, _, _, _, rfl, rfl, SqL.of hG, rfl, ?_⟩
            walk_at "rd"
            refine ⟨l2, by show 4 ≤ sizeLine; decide, fun p hp => ?_⟩
            exact out _ p _ SG (hT he) hp
        · rw [decide_eq_false e1] at he ⊢
          walk_at "rd"
          refine ⟨W, _, rfl, .inl (SqL.of hG), ?_⟩
          walk_at "rd"
          refine ⟨by show 0 ≤ sizeLine; decide, fun p hp => ?_⟩
          exact out [] p _ SG (hF (by rw [he, Bool.false_and, Bool.and_false])) hp
      · rw [decide_eq_false e0] at he ⊢
        walk_at "rd"
        refine ⟨W, _, rfl, .inl (SqL.of hG), ?_⟩
        walk_at "rd"
        refine ⟨by show 0 ≤ sizeLine; decide, fun p hp => ?_⟩
        exact out [] p _ SG (hF (by rw [he, Bool.false_and])) hp
    · refine ⟨rfl, _, rfl, ?_⟩
      rw [decide_eq_false (fun z => h3 (by have := V.int.inj z; omega))]
      walk_at "rd"
      refine ⟨W, _, rfl, .inl (SqL.of hG), ?_⟩
      rw [List.length_map]
      by_cases h6 : ws.length = 6
      · obtain ⟨w0, w1, w2, w3, w4, w5, rfl⟩ := len6 h6
        have l3 := wl w3 (by simp)
        have l5 := wl w5 (by simp)
        have hT : isWh [w0, w1, w2, w3, w4, w5] = true → rlV [w0, w1, w2, w3, w4, w5] = [.str w1, .str w2, .int (nbV w3), .int (amV w5)] := fun h => if_pos h
        have hF : isWh [w0, w1, w2, w3, w4, w5] = false → rlV [w0, w1, w2, w3, w4, w5] = [] := fun h => if_neg (by rw [h]; exact Bool.noConfusion)
        have he : isWh [w0, w1, w2, w3, w4, w5] = (decide (V.str w0 = V.str (Str.ofString "when")) && (decide (V.str w4 = V.str (Str.ofString "carry")) && (inV (.str w1) (nms.map V.str) && (inV (.str w2) (sgns.map V.str) && (isNb w3 && isAm w5))))) := rfl
        walk_at "rd"
        refine ⟨W, _, _, _, rfl, rfl, SqL.of hG, rfl, ?_⟩
        refine ⟨rfl, _, rfl, ?_⟩
        dsimp only
        by_cases e0 : V.str w0 = V.str (Str.ofString "when")
        · rw [decide_eq_true e0] at he ⊢
          walk_at "rd"
          refine ⟨W, _, _, _, rfl, rfl, SqL.of hG, rfl, ?_⟩
          refine ⟨rfl, _, rfl, ?_⟩
          dsimp only
          by_cases e4 : V.str w4 = V.str (Str.ofString "carry")
          · rw [decide_eq_true e4] at he ⊢
            walk_at "rd"
            refine ⟨W, _, _, _, rfl, rfl, SqL.of hG, rfl, ?_⟩
            walk_at "rd"
            refine ⟨by show 5 ≤ sizeLine; decide, fun pn hpn => ?_⟩
            have S1 := SG.trans (Same.upd (o := .lst [V.str "free", .str "living", .str "dead", .str "gap", .str "budget"]) hpn)
            have hG1 := (Same.upd (o := .lst [V.str "free", .str "living", .str "dead", .str "gap", .str "budget"]) hpn) _ _ hG
            walk_at "rd"
            refine ⟨pn, _, rfl, .inl (SqL.of upd_same), rfl, by decide +kernel, ?_⟩
            refine ⟨_, rfl, ?_⟩
            cases hn : inV (.str w1) (nms.map V.str) with
            | false =>
              rw [hn] at he
              have hn' : inV (V.str w1) [V.str "free", .str "living", .str "dead", .str "gap", .str "budget"] = false := hn
              rw [hn']
              refine iteT ?_
              walk_at "rd"
              refine ⟨by show 0 ≤ sizeLine; decide, fun p hp => ?_⟩
              exact out [] p _ S1 (hF (by rw [he, Bool.false_and, Bool.and_false, Bool.and_false])) hp
            | true =>
              rw [hn] at he
              have hn' : inV (V.str w1) [V.str "free", .str "living", .str "dead", .str "gap", .str "budget"] = true := hn
              rw [hn']
              walk_at "rd"
              refine ⟨W, _, _, _, rfl, rfl, SqL.of hG1, rfl, ?_⟩
              walk_at "rd"
              refine ⟨by show 3 ≤ sizeLine; decide, fun pg hpg => ?_⟩
              have S2 := S1.trans (Same.upd (o := .lst [V.str "<=", .str ">=", .str "=="]) hpg)
              have hG2 := (Same.upd (o := .lst [V.str "<=", .str ">=", .str "=="]) hpg) _ _ hG1
              walk_at "rd"
              refine ⟨pg, _, rfl, .inl (SqL.of upd_same), rfl, by decide +kernel, ?_⟩
              refine ⟨_, rfl, ?_⟩
              cases hg : inV (.str w2) (sgns.map V.str) with
              | false =>
                rw [hg] at he
                have hg' : inV (V.str w2) [V.str "<=", .str ">=", .str "=="] = false := hg
                rw [hg']
                walk_at "rd"
                refine ⟨by show 0 ≤ sizeLine; decide, fun p hp => ?_⟩
                exact out [] p _ S2 (hF (by rw [he, Bool.false_and, Bool.and_false, Bool.and_false, Bool.and_false])) hp
              | true =>
                rw [hg] at he
                have hg' : inV (V.str w2) [V.str "<=", .str ">=", .str "=="] = true := hg
                rw [hg']
                walk_at "rd"
                refine ⟨W, _, _, _, rfl, rfl, SqL.of hG2, rfl, ?_⟩
                walk_at "rd"
                refine ⟨l3, ?_⟩
                walk_at "rd"
                rw [nbV_pos]
                cases hb : isNb w3 with
                | false =>
                  rw [hb] at he
                  refine iteT ?_
                  walk_at "rd"
                  refine ⟨by show 0 ≤ sizeLine; decide, fun p hp => ?_⟩
                  exact out [] p _ S2 (hF (by rw [he, Bool.false_and, Bool.and_false, Bool.and_false, Bool.and_false, Bool.and_false])) hp
                | true =>
                  rw [hb] at he
                  walk_at "rd"
                  refine ⟨W, _, _, _, rfl, rfl, SqL.of hG2, rfl, ?_⟩
                  walk_at "rd"
                  refine ⟨l5, ?_⟩
                  walk_at "rd"
                  rw [amV_pos]
                  cases hm : isAm w5 with
                  | false =>
                    rw [hm] at he
                    walk_at "rd"
                    refine ⟨by show 0 ≤ sizeLine; decide, fun p hp => ?_⟩
                    exact out [] p _ S2 (hF (by rw [he]; rfl)) hp
                  | true =>
                    rw [hm] at he
                    walk_at "rd"
                    refine ⟨W, _, _, _, rfl, rfl, SqL.of hG2, rfl, ?_⟩
                    walk_at "rd"
                    refine ⟨W, _, _, _, rfl, rfl, SqL.of hG2, rfl, ?_⟩
                    walk_at "rd"
                    refine ⟨W, _, _, _, rfl, rfl, SqL.of hG2, rfl, ?_⟩
                    walk_at "rd"
                    refine ⟨l3, ?_⟩
                    walk_at "rd"
                    refine ⟨W, _, _, _, rfl, rfl, SqL.of hG2, rfl, ?_⟩
                    walk_at "rd"
                    refine ⟨l5, ?_⟩
                    walk_at "rd"
                    refine ⟨by show 4 ≤ sizeLine; decide, fun p hp => ?_⟩
                    exact out _ p _ S2 (hT he) hp
          · rw [decide_eq_false e4] at he ⊢
            refine iteT ?_
            walk_at "rd"
            refine ⟨by show 0 ≤ sizeLine; decide, fun p hp => ?_⟩
            exact out [] p _ SG (hF (by rw [he, Bool.false_and, Bool.and_false])) hp
        · rw [decide_eq_false e0] at he ⊢
          refine iteT ?_
          walk_at "rd"
          refine ⟨by show 0 ≤ sizeLine; decide, fun p hp => ?_⟩
          exact out [] p _ SG (hF (by rw [he, Bool.false_and])) hp
      · refine ⟨rfl, _, rfl, ?_⟩
        dsimp only
        rw [decide_eq_false (fun z => h6 (by have := V.int.inj z; omega))]
        refine iteT ?_
        walk_at "rd"
        refine ⟨by show 0 ≤ sizeLine; decide, fun p hp => ?_⟩
        exact out [] p _ SG (by
                  unfold rlV
                  split
                  · exact absurd rfl h3
                  · exact absurd rfl h6
                  · rfl) hp
def spHoldsL : Sp := fun vs H Q _ => ∃ (a g q : Addr) (ws : List Str) (l : List Bool) (p ph : Int) (bs : List Int), vs = [.ref a, .ref g, .ref q] ∧ H a = some (.lst (rlV ws)) ∧ goodW ws = true ∧ Std5 H g l p ph ∧ H q = some (.lst (bs.map V.int)) ∧ Okb bs ∧ ∀ H', Same H H' → Q (.bl (fire l p bs ph ws)) H'
theorem rlV_wh {n g b m : Str} (hn : n ∈ nms) (hg : g ∈ sgns) (hb : isNb b = true) (hm : isAm m = true) : rlV [("when" : Str), n, g, b, ("carry" : Str), m] = [.str n, .str g, .int (numV b), .int (amV m)] := by
  have e : isWh [("when" : Str), n, g, b, ("carry" : Str), m] = true := by
    unfold isWh
    dsimp only
    rw [(inV_str _ _).mpr hn, (inV_str _ _).mpr hg, hb, hm]
    decide +kernel
  have e2 : nbV b = numV b := if_pos hb
  rw [← e2]
  exact if_pos e
theorem rlV_el {m : Str} (hm : isAm m = true) : rlV [("else" : Str), ("carry" : Str), m] = [.str "else", .str "", .int 0, .int (amV m)] := by
  have e : isEl [("else" : Str), ("carry" : Str), m] = true := by
    unfold isEl
    dsimp only
    rw [hm]
    decide +kernel
  exact if_pos e
theorem scLawHolds : FnScope ["rule", "stand", "pays", "value"] ["rule", "stand", "pays"] (defScope sLawHolds) := ⟨rfl, rfl, rfl, by decide +kernel, rfl, by decide +kernel, by decide +kernel⟩
set_option maxHeartbeats 0 in
theorem ok__law_holds {f : Addr} {fd : FuncData} (F : Fun K "_law_holds" "_law_holds" sLawHolds f fd) (D__law_value : Dn P w K mg base "_law_value" 1 ["name", "stand", "pays"] spValue) : FnOk P w K mg base CX0 2 f fd ["rule", "stand", "pays"] spHoldsL := by
  refine F.ok scLawHolds (fun vs H Q E h => ?_) (fun cdv A outer s H vs Q E hr h => ?_)
  · obtain ⟨a, g, q, ws, l, p, ph, bs, rfl, _⟩ := h
    rfl
  · obtain ⟨a, g, q, ws, l, p, ph, bs, rfl, ha, hw, gg, hq, ok, k⟩ := h
    refine ⟨_, (pss_cons (ps_if (pt_cmpR op_eq (pe_ix ix_list (pv 0) pe_int (fun _ _ => rfl)) pe_str (nomark _)) (pss_one (ps_ret pe_bl))
  pss_nil)
  (pss_cons (ps_set (i := 3) scLawHolds.nd rfl (Or.inl rfl) (pe_dn D__law_value (hr.mono (by decide)) (by rfl) pass0 (pa_cons (pe_ix ix_list (pv 0) pe_int (fun _ _ => rfl)) (pa_cons (pv 1) (pa_cons (pv 2) pa_nil)))))
  (pss_cons (ps_if (pt_cmpR op_eq (pe_ix ix_list (pv 0) pe_int (fun _ _ => rfl)) pe_str (nomark _)) (pss_one (ps_ret (pe_cmpR op_le (pv 3) (pe_ix ix_list (pv 0) pe_int (fun _ _ => rfl)) (nomark _))))
  pss_nil)
  (pss_cons (ps_if (pt_cmpR op_eq (pe_ix ix_list (pv 0) pe_int (fun _ _ => rfl)) pe_str (nomark _)) (pss_one (ps_ret (pe_cmpR op_ge (pv 3) (pe_ix ix_list (pv 0) pe_int (fun _ _ => rfl)) (nomark _))))
  pss_nil)
  (pss_one (ps_ret (pe_cmpR op_eq (pv 3) (pe_ix ix_list (pv 0) pe_int (fun _ _ => rfl)) (nomark _)))))))), ?_⟩
    rcases good_cases hw with ⟨n, sg, bb, m, rfl, hn, hgs, hbb, hM⟩ | ⟨m, rfl, hM⟩
    · rw [rlV_wh hn hgs hbb hM] at ha
      have ne : ¬ V.str n = V.str (Str.ofString "else") := fun e => by
        have e := V.str.inj e
        rw [e] at hn
        exact absurd hn (by decide +kernel)
      walk_at "rd"
      refine ⟨a, _, _, _, rfl, rfl, SqL.of ha, rfl, ?_⟩
      walk_at "rd"
      rw [decide_eq_false ne]
      walk_at "rd"
      refine ⟨a, _, _, _, rfl, rfl, SqL.of ha, rfl, ?_⟩
      walk_at "rd"
      refine ⟨n, g, q, l, p, ph, bs, rfl, gg, hq, ok, fun H1 S1 => ?_⟩
      have k : Q (.bl (hold sg (fct n l p bs ph) (numV bb))) H1 := k H1 S1
      unfold hold at k
      have ha1 := S1 _ _ ha
      walk_at "rd"
      refine ⟨a, _, _, _, rfl, rfl, SqL.of ha1, rfl, ?_⟩
      walk_at "rd"
      by_cases e : V.str sg = V.str (Str.ofString "<=")
      · rw [if_pos e] at k
        rw [decide_eq_true e]
        walk_at "rd"
        refine ⟨a, _, _, _, rfl, rfl, SqL.of ha1, rfl, ?_⟩
        walk_at "rd"
        exact k
      · rw [if_neg e] at k
        rw [decide_eq_false e]
        walk_at "rd"
        refine ⟨a, _, _, _, rfl, rfl, SqL.of ha1, rfl, ?_⟩
        walk_at "rd"
        by_cases e2 : V.str sg = V.str (Str.ofString ">=")
        · rw [if_pos e2] at k
          rw [decide_eq_true e2]
          walk_at "rd"
          refine ⟨a, _, _, _, rfl, rfl, SqL.of ha1, rfl, ?_⟩
          walk_at "rd"
          exact k
        · rw [if_neg e2] at k
          rw [decide_eq_false e2]
          walk_at "rd"
          refine ⟨a, _, _, _, rfl, rfl, SqL.of ha1, rfl, ?_⟩
          walk_at "rd"
          have ev : decide (V.int (fct n l p bs ph) = V.int (numV bb)) = decide (fct n l p bs ph = numV bb) := by
            by_cases z : fct n l p bs ph = numV bb
            · rw [decide_eq_true z, decide_eq_true (congrArg V.int z)]
            · rw [decide_eq_false z, decide_eq_false fun y => z (V.int.inj y)]
          rw [ev]
          exact k
    · rw [rlV_el hM] at ha
      walk_at "rd"
      refine ⟨a, _, _, _, rfl, rfl, SqL.of ha, rfl, ?_⟩
      walk_at "rd"
      exact k _ (Same.refl _)
/-- the first amount, cut down -/
theorem amt_min {m : Str} {c k : Nat} {z : Int} (hm : isAm m = true) (hc : c ≤ 64) (hz : (if ((k : Nat) : Int) < amV m then ((k : Nat) : Int) else amV m) = z) : (if ((c : Nat) : Int) < z then ((c : Nat) : Int) else z) = amtW m ((min k c : Nat) : Int) := by
  unfold amtW
  unfold amV at hz
  by_cases e : V.str m = V.str (Str.ofString "all")
  · rw [if_pos e] at hz ⊢
    rw [← hz]
    split <;> split <;> omega
  · rw [if_neg e] at hz ⊢
    have nb := isAm_nb hm e
    have e2 : nbV m = numV m := if_pos nb
    rw [e2] at hz
    rw [← hz]
    split <;> split <;> split <;> omega
theorem rdue_full {l : List Bool} {p : Int} {bs : List Int} {ph : Int} (h : (l.length : Int) = p) : ∀ wss, rdue l p bs ph wss = 0
  | [] => rfl
  | ws :: r => by
    show (if fire l p bs ph ws = true then amtW (ws.getLastD "") (mostN l p bs ph : Nat) else rdue l p bs ph r) = 0
    rw [rdue_full h r]
    split
    · unfold amtW mostN numV
      rw [if_pos h]
      split
      · rfl
      · split
        · omega
        · rfl
    · rfl
def spDueL : Sp := fun vs H Q _ => ∃ (R g q : Addr) (prs : List (Addr × List Str)) (l : List Bool) (p ph : Int) (bs : List Int), vs = [.ref R, .ref g, .ref q] ∧ H R = some (.lst (prs.map fun x => V.ref x.1)) ∧ (∀ x ∈ prs, H x.1 = some (.lst (rlV x.2)) ∧ goodW x.2 = true) ∧ Std5 H g l p ph ∧ H q = some (.lst (bs.map V.int)) ∧ Okb bs ∧
  ∀ H', Same H H' → Q (.int (rdue l p bs ph (prs.map (·.2)))) H'
theorem scLawDue : FnScope ["rules", "stand", "pays", "rule"] ["rules", "stand", "pays"] (defScope sLawDue) := ⟨rfl, rfl, rfl, by decide +kernel, rfl, by decide +kernel, by decide +kernel⟩
set_option maxHeartbeats 0 in
theorem ok__law_due {f : Addr} {fd : FuncData} (F : Fun K "_law_due" "_law_due" sLawDue f fd) (B : Bi mg) (D__law_holds : Dn P w K mg base "_law_holds" 2 ["rule", "stand", "pays"] spHoldsL) : FnOk P w K mg base CX0 3 f fd ["rules", "stand", "pays"] spDueL := by
  refine F.ok scLawDue (fun vs H Q E h => ?_) (fun cdv A outer s H vs Q E hr h => ?_)
  · obtain ⟨R, g, q, prs, l, p, ph, bs, rfl, _⟩ := h
    rfl
  · obtain ⟨R, g, q, prs, l, p, ph, bs, rfl, hR, hx, gg, hq, ok, k⟩ := h
    refine ⟨_, (pss_cons (ps_if (pt_cmpR op_eq (pe_callB call_len_str (by rfl) B.len PySem.boot_len (pa_cons (pe_ix ix_list (pv 1) pe_int (fun _ _ => rfl)) pa_nil)) (pe_ix ix_list (pv 1) pe_int (fun _ _ => rfl)) (nomark _)) (pss_one (ps_ret pe_int))
  pss_nil)
  (pss_cons (ps_for PassesOwn.never rfl (pi_list (pv 0)) (pg_name (i := 3) scLawDue.nd rfl (Or.inl rfl))
  (pss_one (ps_if (pt_val (pe_dn D__law_holds (hr.mono (by decide)) (by rfl) pass0 (pa_cons (pv 3) (pa_cons (pv 1) (pa_cons (pv 2) pa_nil))))) (pss_one (ps_ret (pe_callB (call_min3 rfl) (by rfl) B.min (by decide +kernel) (pa_cons (pe_ix ix_list (pv 3) pe_int (fun _ _ => rfl)) (pa_cons (pe_ix ix_list (pv 2) (pe_op op_mod (pe_callTy call_int1 (by rfl) B.intT (by decide +kernel) (pa_cons (pe_ix ix_list (pv 1) pe_int (fun _ _ => rfl)) pa_nil)) (pe_callB call_len_seq (by rfl) B.len PySem.boot_len (pa_cons (pv 2) pa_nil))) (fun _ _ => rfl)) (pa_cons (pe_m1 PySem.F.slot_str_count PySem.F.type_str_count mt_count (pe_ix ix_list (pv 1) pe_int (fun _ _ => rfl)) pe_str) pa_nil))))))
  pss_nil)))
  (pss_one (ps_ret pe_int)))), ?_⟩
    obtain ⟨hg, W, lp, p1, p64, ph0, ph1⟩ := id gg
    have sl : (20000 : Nat) ≤ sizeLine := by decide
    have l1 := ok.l1
    have l2 := ok.l2
    walk_at "rd"
    refine ⟨g, _, _, _, rfl, rfl, SqL.of hg, rfl, ?_⟩
    walk_at "rd"
    refine ⟨by rw [tx_len]; omega, ?_⟩
    rw [tx_len]
    walk_at "rd"
    refine ⟨g, _, _, _, rfl, rfl, SqL.of hg, rfl, ?_⟩
    walk_at "rd"
    refine iti (fun e => ?_) (fun e => ?_)
    · have kk := k H (Same.refl _)
      rw [rdue_full e] at kk
      walk_at "rd"
      exact kk
    walk_at "rd"
    refine ⟨⟨_, SqL.of hR⟩, for_list (K := K) (a := R) (xs := prs.map fun x => V.ref x.1) (fun i σ H' => ∃ y : Option V, σ = [some (.ref R), some (.ref g), some (.ref q), y] ∧ Same H H' ∧ rdue l p bs ph (prs.map (·.2)) = rdue l p bs ph ((prs.drop i).map (·.2)))
      ⟨none, rfl, Same.refl _, rfl⟩ (fun i σ H' _ ⟨_, _, e, _⟩ => SqL.of (e _ _ hR)) ?_ ?_⟩
    · rintro i x σ G hi ⟨y, rfl, hS, hd2⟩
      rw [List.getElem?_map] at hi
      obtain ⟨z, ez, rfl⟩ := Option.map_eq_some_iff.mp hi
      have zm := List.mem_of_getElem? ez
      obtain ⟨hz, gz⟩ := hx z zm
      have dr : prs.drop i = z :: prs.drop (i + 1) := by
        have hlt : i < prs.length := (List.getElem?_eq_some_iff.mp ez).1
        rw [List.drop_eq_getElem_cons hlt, (List.getElem?_eq_some_iff.mp ez).2]
      rw [dr, List.map_cons] at hd2
      have hv : rdue l p bs ph (prs.map (·.2)) = if fire l p bs ph z.2 = true then amtW (z.2.getLastD "") (mostN l p bs ph : Nat) else rdue l p bs ph ((prs.drop (i + 1)).map (·.2)) := hd2
      walk_at "rd"
      refine ⟨z.1, g, q, z.2, l, p, ph, bs, rfl, hS _ _ hz, gz, gg.same hS, hS _ _ hq, ok, fun H2 S2 => ?_⟩
      have T2 := hS.trans S2
      refine ⟨_, rfl, ?_⟩
      cases hf : fire l p bs ph z.2 with
      | false =>
        rw [hf, if_neg Bool.false_ne_true] at hv
        walk_at "rd"
        exact ⟨T2, hv⟩
      | true =>
        rw [hf, if_pos rfl] at hv
        obtain ⟨v0, v1, v2, m, er, em, hM⟩ : ∃ (v0 v1 v2 : V) (m : Str), rlV z.2 = [v0, v1, v2, .int (amV m)] ∧ z.2.getLastD "" = m ∧ isAm m = true := by
          rcases good_cases gz with ⟨n, sg, bb, m, ews, hn, hgs, hbb, hM⟩ | ⟨m, ews, hM⟩
          · rw [ews]
            exact ⟨_, _, _, m, rlV_wh hn hgs hbb hM, rfl, hM⟩
          · rw [ews]
            exact ⟨_, _, _, m, rlV_el hM, rfl, hM⟩
        rw [em] at hv
        rw [er] at hz
        have hz2 := T2 _ _ hz
        have hg2 := T2 _ _ hg
        have hq2 := T2 _ _ hq
        have cl : l.count true ≤ 64 := by
          have := List.count_le_length (a := true) (l := l)
          omega
        have eN : mostN l p bs ph = min (bud bs ph 0) (l.count true) := if_neg e
        rw [eN] at hv
        walk_at "rd"
        refine ⟨z.1, _, _, _, rfl, rfl, SqL.of hz2, rfl, ?_⟩
        walk_at "rd"
        refine ⟨g, _, _, _, rfl, rfl, SqL.of hg2, rfl, ?_⟩
        walk_at "rd"
        refine ⟨q, _, rfl, .inl (SqL.of hq2), ?_⟩
        rw [List.length_map]
        walk_at "rd"
        refine ⟨(by show (0 : Int) < (bs.length : Int); omega), ?_⟩
        obtain ⟨v, hv2, z0, ez⟩ := bud_at (ph := ph) ok 0
        have at2 : (bs.map V.int)[(ph % (bs.length : Int)).toNat]? = some (V.int v) := by
          rw [List.getElem?_map]
          rw [show ph + ((0 : Nat) : Int) = ph by omega] at hv2
          rw [hv2]; rfl
        have m0 := Int.emod_nonneg ph (show (bs.length : Int) ≠ 0 by omega)
        refine ⟨q, _, _, _, rfl, rfl, SqL.of hq2, by rw [← Int.toNat_of_nonneg m0]; exact atI_nat at2, ?_⟩
        walk_at "rd"
        refine ⟨g, _, _, _, rfl, rfl, SqL.of hg2, rfl, ?_⟩
        walk_at "rd"
        refine ⟨⟨_, rfl⟩, _, _, rfl, rfl, ?_⟩
        rw [t1, tx_count]
        walk_at "rd"
        refine ⟨_, _, _, _, rfl, rfl, ?_⟩
        have kk := k H2 T2
        rw [hv, ← amt_min hM cl rfl, ← ez] at kk
        exact kk
    · rintro σ G ⟨y, rfl, hS, hd2⟩
      rw [List.length_map, List.drop_length] at hd2
      walk_at "rd"
      have kk := k G hS
      rw [hd2] at kk
      exact kk
end
end Cl

/-! ### law k55: the first bad line, the refusal, the healed text -/
namespace Cl
open PySem PySem.Spec PyProof.Rows L2 StX ClX PySem.Builtin PySem.Builtin.Str
theorem lc_objQ {J : It} {n : Nat} {G : Hp → Prop} {Y : Nat → Hp → V → Hp → Prop} (w : Walk J n G Y) {g : TG} {te : TE} {vs : List Nat} {σ : L2.St} {H1 : Hp} {D : Addr} {Qd : Hp → Prop} (Inv : List Addr → Hp → Prop) (hlen : n < 10000) (hG : ∀ gs H, Inv gs H → G H) (h0 : Inv [] (upd H1 D (.lst [])))
    (hs : ∀ (i : Nat) (x : V) (gs : List Addr) (H H' : Hp) (R : V → Hp → Prop), i < n → H D = some (.lst (gs.map V.ref)) → gs.length = i → Inv gs H → Y i H x H' → (∀ a H2, H2 D = some (.lst (gs.map V.ref)) → Inv (gs ++ [a]) (upd H2 D (.lst ((gs ++ [a]).map V.ref))) → R (.ref a) H2) → g x (wipe σ vs) H' fun σ2 H2 => wipe σ2 vs = wipe σ vs ∧ te σ2 H2 R)
    (hd : ∀ (gs : List Addr) (H : Hp), H D = some (.lst (gs.map V.ref)) → gs.length = n → Inv gs H → Qd H) :
    ∃ W : Nat → Nat → Hp → Prop, (∃ m, W 0 m (upd H1 D (.lst []))) ∧ ∀ i m H, W i m H →
      (J.stop i H ∧ Qd H) ∨ (J.go i H ∧ ∃ Nx : Hp → Prop, (∀ H', Nx H' → ∃ m', m' < m ∧ W (i + 1) m' H') ∧ ∀ x H', J.yld i H x H' → g x (wipe σ vs) H' fun σ2 H2 => wipe σ2 vs = wipe σ vs ∧ tYes σ2 H2 fun b H3 =>
        if b = true then te σ2 H3 fun y H4 => ∃ acc, H4 D = some (.lst acc) ∧ acc.length < sizeLine ∧ Nx (upd H4 D (.lst (acc ++ [y]))) else Nx H3) := by
  refine lc_it w (fun i H => ∃ gs : List Addr, H D = some (.lst (gs.map V.ref)) ∧ gs.length = i ∧ Inv gs H) ⟨[], upd_same, rfl, h0⟩ (fun i H _ ⟨gs, _, _, h⟩ => hG gs H h) ?_ (fun H ⟨gs, h1, h2, h3⟩ => hd gs H h1 h2 h3)
  rintro i x H H' hi ⟨gs, h1, h2, h3⟩ y
  have key := hs i x gs H H' (fun y H4 => ∃ acc, H4 D = some (.lst acc) ∧ acc.length < sizeLine ∧ ∃ gs : List Addr, upd H4 D (.lst (acc ++ [y])) D = some (.lst (gs.map V.ref)) ∧ gs.length = i + 1 ∧ Inv gs (upd H4 D (.lst (acc ++ [y])))) hi h1 h2 h3 y
    fun a H2 hk hI => ⟨gs.map V.ref, hk, ?_, gs ++ [a], by rw [upd_same, List.map_append]; rfl, by rw [List.length_append, h2]; rfl, ?_⟩
  · exact key
  · rw [List.length_map]
    have : (10000 : Nat) ≤ sizeLine := by decide
    omega
  · rw [List.map_append] at hI
    exact hI
theorem rlV_good {ws : List Str} (h : goodW ws = true) : ∃ (x y : Str) (i j : Int), rlV ws = [.str x, .str y, .int i, .int j] ∧ PyData.strOk x = true ∧ PyData.strOk y = true := by
  rcases good_cases h with ⟨n, sg, bb, m, rfl, hn, hgs, hbb, hM⟩ | ⟨m, rfl, hM⟩
  · refine ⟨_, _, _, _, rlV_wh hn hgs hbb hM, ?_, ?_⟩
    · unfold nms at hn
      simp only [List.mem_cons, List.not_mem_nil, or_false] at hn
      rcases hn with rfl | rfl | rfl | rfl | rfl <;> decide +kernel
    · unfold sgns at hgs
      simp only [List.mem_cons, List.not_mem_nil, or_false] at hgs
      rcases hgs with rfl | rfl | rfl <;> decide +kernel
  · exact ⟨_, _, _, _, rlV_el hM, by decide +kernel, by decide +kernel⟩
theorem rlV_bad {ws : List Str} (h : goodW ws = false) : rlV ws = [] := by
  unfold goodW at h
  rw [Bool.or_eq_false_iff] at h
  unfold rlV
  split
  · exact if_neg (by rw [h.2]; exact Bool.noConfusion)
  · exact if_neg (by rw [h.1]; exact Bool.noConfusion)
  · rfl
/-- a rule's list against the empty list -/
theorem eqd_rl {K : PySem.W.Frag} {H : Hp} {a b : Addr} {ws : List Str} {Q : VK} (ha : H a = some (.lst (rlV ws))) (hb : H b = some (.lst [])) (q : Q (.bl (!goodW ws)) H) : rEqD K (.ref a) (.ref b) H Q := by
  cases hg : goodW ws with
  | true =>
    obtain ⟨x, y, i, j, e, o1, o2⟩ := rlV_good hg
    rw [e] at ha
    rw [hg] at q
    exact ⟨.list [.str x, .str y, .int i, .int j], .list [], .lst (SqL.of ha) (.cons (.str _) (.cons (.str _) (.cons (.int _) (.cons (.int _) .nil)))), .lst (SqL.of hb) .nil, by simp [SeqAt.shaped, PyData.canLay0, PyData.canLayAll0, PyData.depth, PyData.depthAll, o1, o2], by simp [SeqAt.shaped, PyData.canLay0, PyData.canLayAll0, PyData.depth, PyData.depthAll], q⟩
  | false =>
    rw [rlV_bad hg] at ha
    rw [hg] at q
    exact ⟨.list [], .list [], .lst (SqL.of ha) .nil, .lst (SqL.of hb) .nil, by simp [SeqAt.shaped, PyData.canLay0, PyData.canLayAll0, PyData.depth, PyData.depthAll], by simp [SeqAt.shaped, PyData.canLay0, PyData.canLayAll0, PyData.depth, PyData.depthAll], q⟩
theorem mk_sameB {H H' : Hp} {x dx D C : Addr} (hx : H x = none) (hdx : H dx = none) (e : But x (upd (upd H dx (.own D)) x (.ins C dx [])) H') : Same H H' := fun b o hb =>
  e b o (ne_of_none hb hx) (by rw [upd_ne (ne_of_none hb hx), upd_ne (ne_of_none hb hdx)]; exact hb)
section
variable {P : Program} {w : World} {K : PySem.W.Frag} {mg : Str → Option Value} {base : Heap} {C C_StoreError C_InvalidInput C_BadRule C_RuleKeeper : Addr}
def spFirstB : Sp := fun vs H Q _ => ∃ z : Str, vs = [.str z] ∧ z.length ≤ 1000000 ∧ (∀ H', Same H H' → (∀ ws ∈ rlsOf z, goodW ws = true) → Q (.int 0) H') ∧ ∀ (k : Nat) (H' : Hp), Same H H' → BadAt z k → Q (.int ((k : Nat) + 1)) H'
theorem scLawFirstBad : FnScope ["text", "lines", "k"] ["text"] (defScope sLawFirstBad) := ⟨rfl, rfl, rfl, by decide +kernel, rfl, by decide +kernel, by decide +kernel⟩
set_option maxHeartbeats 0 in
theorem ok__law_first_bad {f : Addr} {fd : FuncData} (F : Fun K "_law_first_bad" "_law_first_bad" sLawFirstBad f fd) (B : Bi mg) (D__law_rule : Dn P w K mg base "_law_rule" 3 ["line"] spRuleL) : FnOk P w K mg base CX0 4 f fd ["text"] spFirstB := by
  refine F.ok scLawFirstBad (fun vs H Q E h => ?_) (fun cdv A outer s H vs Q E hr h => ?_)
  · obtain ⟨z, rfl, _⟩ := h
    rfl
  · obtain ⟨z, rfl, hl, k1, k2⟩ := h
    refine ⟨_, (pss_cons (ps_set (i := 1) scLawFirstBad.nd rfl (Or.inl rfl) (pe_split (pv 0) pe_str))
  (pss_cons (ps_for PassesOwn.never rfl (pi_range1 rfl B.range (pa_cons (pe_callB call_len_seq (by rfl) B.len PySem.boot_len (pa_cons (pv 1) pa_nil)) pa_nil)) (pg_name (i := 2) scLawFirstBad.nd rfl (Or.inl rfl))
  (pss_one (ps_if (pt_cmpR (op_eqD hr.units) (pe_dn D__law_rule (hr.mono (by decide)) (by rfl) pass0 (pa_cons (pe_ix ix_list (pv 1) (pv 2) (fun _ _ => rfl)) pa_nil)) (pe_lst pa_nil) (nomark _)) (pss_one (ps_ret (pe_op op_add (pv 2) pe_int)))
  pss_nil)))
  (pss_one (ps_ret pe_int)))), ?_⟩
    have sl : (2000000 : Nat) ≤ sizeLine := by decide
    walk_at "rd"
    refine ⟨⟨_, rfl⟩, ?_⟩
    walk_at "rd"
    refine ⟨by omega, fun L hL => ?_⟩
    obtain ⟨G, eG⟩ : ∃ G : Hp, G = upd H L (.lst ((Txt.split z (Str.ofString "\n")).map V.str)) := ⟨_, rfl⟩
    have hG : G L = some (.lst ((lnsOf z).map V.str)) := by rw [eG]; exact upd_same
    have SG : Same H G := by rw [eG]; exact Same.upd hL
    rw [← eG]
    clear eG hL
    have rl : ∀ (i : Nat) (ln : Str), (lnsOf z)[i]? = some ln → (rlsOf z)[i]? = some (wdsOf ln) := fun i ln e => by
      unfold rlsOf
      rw [List.getElem?_map, e]; rfl
    walk_at "rd"
    refine ⟨L, _, rfl, .inl (SqL.of hG), ?_⟩
    rw [List.length_map]
    have cnt : (Txt.split z (Str.ofString "\n")).length ≤ z.length + 1 := split_cnt (by decide)
    have cnt2 : (lnsOf z).length = (Txt.split z (Str.ofString "\n")).length := rfl
    walk_at "rd"
    refine ⟨by omega, by omega, ?_⟩
    refine for_range (fun i σ H' => ∃ y : Option V, σ = [some (V.str z), some (.ref L), y] ∧ Same G H' ∧ ∀ j ws, j < i → (rlsOf z)[j]? = some ws → goodW ws = true) ⟨none, rfl, Same.refl _, fun j ws h => absurd h (Nat.not_lt_zero _)⟩ ?_ ?_
    · rintro i σ G1 hi ⟨y, rfl, S1, hj⟩
      have hi : i < (lnsOf z).length := by omega
      have eln : (lnsOf z)[i]? = some (lnsOf z)[i] := List.getElem?_eq_getElem hi
      have lm : (lnsOf z)[i] ∈ lnsOf z := List.getElem_mem hi
      generalize (lnsOf z)[i] = ln at eln lm
      have ll : ln.length ≤ z.length := split_len lm
      walk_at "rd"
      refine ⟨L, _, _, .str ln, rfl, rfl, SqL.of (S1 _ _ hG), by rw [show (0 : Int) + ((i : Nat) : Int) = ((i : Nat) : Int) by omega]; exact atI_nat (by rw [List.getElem?_map, eln]; rfl), ?_⟩
      walk_at "rd"
      refine ⟨by omega, fun p G2 hp h2 S2 => ?_⟩
      walk_at "rd"
      refine ⟨by show 0 ≤ sizeLine; decide, fun e he => ?_⟩
      have S3 := Same.upd (o := .lst []) he
      refine eqd_rl (S3 _ _ h2) upd_same ?_
      have er := rl i ln eln
      have T3 := S1.trans (S2.trans S3)
      cases hg : goodW (wdsOf ln) with
      | true =>
        walk_at "rd"
        refine ⟨T3, fun j ws hj2 hw => ?_⟩
        rcases Nat.lt_succ_iff_lt_or_eq.mp hj2 with h | rfl
        · exact hj j ws h hw
        · rw [er] at hw
          cases hw
          exact hg
      | false =>
        walk_at "rd"
        have kk := k2 i _ (SG.trans T3) ⟨by unfold rlsOf; rw [List.length_map]; exact hi, fun j ws h1 h2 => hj j ws h1 h2, fun ws hw => by
          rw [er] at hw
          cases hw
          exact hg⟩
        dsimp only
        rw [show (0 : Int) + ((i : Nat) : Int) + 1 = ((i : Nat) : Int) + 1 by omega]
        exact kk
    · rintro σ G1 ⟨y, rfl, S1, hj⟩
      walk_at "rd"
      refine k1 G1 (SG.trans S1) fun ws hw => ?_
      obtain ⟨j, hjl, rfl⟩ := List.getElem_of_mem hw
      refine hj j _ ?_ (List.getElem?_eq_getElem hjl)
      have e : (rlsOf z).length = (lnsOf z).length := List.length_map ..
      have e2 : (lnsOf z).length = (Txt.split z (Str.ofString "\n")).length := rfl
      omega
def spCountE (_ : Addr) (_ : Value) (_ : Option Addr) : Sp := fun vs H Q _ => ∃ n : Int, vs = [.int n] ∧ Q (.bl true) H
theorem ok__law_is_count_x {f : Addr} {fd : FuncData} (F : Fun K "_law_is_count" "_law_is_count" sLawIsCount f fd) (B : Bi mg) : FnE P w K mg base 1 f fd ["thing"] spCountE := by
  refine F.okE scLawIsCount (fun a cls d vs H Q E h => ?_) (fun cdv A outer s H vs Q q_ cls d hz_ hf_ hr h => ?_)
  · obtain ⟨n, rfl, _⟩ := h
    rfl
  · obtain ⟨n, rfl, k⟩ := h
    refine ⟨_, (pss_one (ps_ret (pe_and (pe_callB call_isi (by rfl) B.isinstance (by decide +kernel) (pa_cons (pv 0) (pa_cons (pe_bltn (v := .ty "int") (by rfl) B.intT (by decide +kernel) rfl) pa_nil))) (pe_one (pe_not (pe_callB call_isi (by rfl) B.isinstance (by decide +kernel) (pa_cons (pv 0) (pa_cons (pe_bltn (v := .ty "bool") (by rfl) B.boolT (by decide +kernel) rfl) pa_nil)))))))), ?_⟩
    walk_at "rd"
    refine ⟨_, _, _, _, _, rfl, .ty _, .base (.int _), kit_ii _, true, rfl, iteT ?_⟩
    refine ⟨_, rfl, _, _, _, _, _, rfl, .ty _, .base (.int _), kit_ib _, false, rfl, k⟩
def spRefB : Sp := fun vs H Q _ => ∃ (z : Str) (kb : Nat), vs = [.str z, .int ((kb : Nat) + 1)] ∧ z.length ≤ 1000000 ∧ BadAt z kb ∧ ∀ H', Same H H' → Q (.bl true) H'
theorem scLawRefused : FnScope ["text", "due", "raised"] ["text", "due"] (defScope sLawRefused) := ⟨rfl, rfl, rfl, by decide +kernel, rfl, by decide +kernel, by decide +kernel⟩
set_option maxHeartbeats 0 in
theorem ok__law_refused {f : Addr} {fd : FuncData} (F : Fun K "_law_refused" "_law_refused" sLawRefused f fd) (B : Bi mg) (R_RuleKeeper : ClsC K mg "RuleKeeper" C_RuleKeeper) (E_BadRule : ErrC P K mg "BadRule" C_BadRule "line" false) (E_InvalidInput : ErrC P K mg "InvalidInput" C_InvalidInput "field" true) (S_StoreError : ClsN K mg "StoreError" C_StoreError)
    (M_BadRule_BadRule : PySem.W.exmOne K (.ref C_BadRule) (.ref C_BadRule) = some true) (I_BadRule_InvalidInput : PySem.W.kitOne K (.ref C_BadRule) (.ref C_InvalidInput) = some false) (I_BadRule_StoreError : PySem.W.kitOne K (.ref C_BadRule) (.ref C_StoreError) = some true) (I_BadRule_ValueError : PySem.W.kitOne K (.ref C_BadRule) (.type "ValueError") = some true)
    (CX_RuleKeeper : Cix P w K mg base C_RuleKeeper 5 ["self", "text"] (spRksInitX C_BadRule C_RuleKeeper)) (XD__law_is_count : De P w K mg base "_law_is_count" 1 ["thing"] spCountE) : FnOk P w K mg base CX0 7 f fd ["text", "due"] spRefB := by
  refine F.ok scLawRefused (fun vs H Q E h => ?_) (fun cdv A outer s H vs Q E hr h => ?_)
  · obtain ⟨z, kb, rfl, _⟩ := h
    rfl
  · obtain ⟨z, kb, rfl, hl, hb, k⟩ := h
    refine ⟨_, (pss_cons (ps_try_as (i := 2) rfl rfl scLawRefused.nd rfl rfl ⟨rfl, by decide, Or.inl E_BadRule.g⟩ takes0 (fun W pn xe tk _ => (pss_one (ps_expr (pe_mkxT CX_RuleKeeper (hr.mono (by decide)) rfl R_RuleKeeper.mg tk (pa_cons (pv 0) pa_nil)))))
  (fun a_ oe_ cls_ d_ pn_ hz_ hf_ => (pss_cons (ps_if (PW.pt (pw_or (pt_not (pt_val (pe_dnE XD__law_is_count (roomS (hr.mono (by decide))) List.mem_cons_self hz_ hf_ (by rfl) (pa_cons (pe_fldE hz_ hf_ (pv 2)) pa_nil)))) (pw_or (pt_cmpR op_ne (pe_fldE hz_ hf_ (pv 2)) (pv 1) (nomark _)) (pw_or1 (pt_val (pe_callB (call_isErr hz_ hf_) (by rfl) B.isinstance (by decide +kernel) (pa_cons (pv 2) (pa_cons (pe_glob (v := .ref C_InvalidInput) rfl E_InvalidInput.g rfl) pa_nil)))))))) (pss_one (ps_ret pe_bl))
  pss_nil)
  (pss_one (ps_ret (pe_and (pe_callB (call_isErr hz_ hf_) (by rfl) B.isinstance (by decide +kernel) (pa_cons (pv 2) (pa_cons (pe_glob (v := .ref C_StoreError) rfl S_StoreError.g rfl) pa_nil))) (pe_one (pe_callB (call_isErr hz_ hf_) (by rfl) B.isinstance (by decide +kernel) (pa_cons (pv 2) (pa_cons (pe_bltn (v := .ty "ValueError") (by rfl) B.ValueErrorT (by decide +kernel) rfl) pa_nil))))))))))
  (pss_one (ps_ret pe_bl))), ?_⟩
    walk_at "rd"
    intro x dx hx hdx nd
    refine ⟨x, dx, z, kb, rfl, hl, upd_same, hb, fun H1 b1 dd hdd => ?_⟩
    have S1 := mk_sameB hx hdx b1
    refine ⟨_, M_BadRule_BadRule, fun _ e he => ?_, fun z => nomatch z⟩
    have er : Err (upd H1 dd (.xd [("line", .int ((kb : Nat) + 1))])) C_BadRule "line" (.int ((kb : Nat) + 1)) (.ref C_BadRule) (some dd) := ⟨rfl, dd, rfl, upd_same⟩
    have kk := k _ (S1.trans (Same.upd (o := .xd [("line", .int ((kb : Nat) + 1))]) hdd))
    clear hx hdx nd b1 S1 hb
    walk_at "rd"
    refine ⟨_, C_BadRule, _, _, E_BadRule, er, ?_⟩
    walk_at "rd"
    refine ⟨_, C_BadRule, _, _, E_BadRule, er, ?_⟩
    walk_at "rd"
    rw [decide_eq_true rfl]
    walk_at "rd"
    refine ⟨.ref C_InvalidInput, .ref C_InvalidInput, false, _, C_BadRule, _, _, _, rfl, fun _ h => h, E_BadRule, er, I_BadRule_InvalidInput, ?_⟩
    walk_at "rd"
    refine ⟨.ref C_StoreError, .ref C_StoreError, true, _, C_BadRule, _, _, _, rfl, fun _ h => h, E_BadRule, er, I_BadRule_StoreError, _, rfl, iteT ?_⟩
    walk_at "rd"
    exact ⟨.ty "ValueError", .type "ValueError", true, _, C_BadRule, _, _, _, rfl, fun _ h => h, E_BadRule, er, I_BadRule_ValueError, kk⟩
def hl : Str := "when budget >= 002 carry 3"
theorem hl_good : goodW (wdsOf hl) = true := by decide +kernel
theorem hl_free : 10 ∉ hl.cps.toList := by decide +kernel
def spHealed : Sp := fun vs H Q _ => ∃ z : Str, vs = [.str z] ∧ z.length ≤ 7000 ∧ ∀ (s : Str) (H' : Hp), Same H H' → s.length ≤ 1000000 → (∀ ws ∈ rlsOf s, goodW ws = true) → (lnsOf s).length ≤ 7001 → Q (.str s) H'
theorem scLawHealed : FnScope ["text", "lines", "line"] ["text"] (defScope sLawHealed) := ⟨rfl, rfl, rfl, by decide +kernel, rfl, by decide +kernel, by decide +kernel⟩
set_option maxHeartbeats 0 in
theorem ok__law_healed {f : Addr} {fd : FuncData} (F : Fun K "_law_healed" "_law_healed" sLawHealed f fd) (B : Bi mg) (D__law_rule : Dn P w K mg base "_law_rule" 3 ["line"] spRuleL) : FnOk P w K mg base CX0 4 f fd ["text"] spHealed := by
  refine F.ok scLawHealed (fun vs H Q E h => ?_) (fun cdv A outer s H vs Q E hr h => ?_)
  · obtain ⟨z, rfl, _⟩ := h
    rfl
  · obtain ⟨z, rfl, hz, k⟩ := h
    refine ⟨_, (pss_cons (ps_set (i := 1) scLawHealed.nd rfl (Or.inl rfl) (pe_lst pa_nil))
  (pss_cons (ps_for PassesOwn.never rfl (pi_list (pe_split (pv 0) pe_str)) (pg_name (i := 2) scLawHealed.nd rfl (Or.inl rfl))
  (pss_cons (ps_if (pt_cmpR (op_eqD hr.units) (pe_dn D__law_rule (hr.mono (by decide)) (by rfl) pass0 (pa_cons (pv 2) pa_nil)) (pe_lst pa_nil) (nomark _)) (pss_one (ps_set (i := 2) scLawHealed.nd rfl (Or.inl rfl) pe_str))
  pss_nil)
  (pss_one (ps_expr (pe_bm PySem.F.plainAttrs_list PySem.F.slot_list_append PySem.F.type_list_append mt_append (pv 1) (pa_cons (pv 2) pa_nil))))))
  (pss_one (ps_ret (pe_join pe_str (pv 1)))))), ?_⟩
    have sl : (20000 : Nat) ≤ sizeLine := by decide
    have nl1 : (Str.ofString "\n").length = 1 := by decide
    have enl : ("\n" : Str) = ⟨#[10]⟩ := by decide +kernel
    walk_at "rd"
    refine ⟨by show 0 ≤ sizeLine; decide, fun D hD => ?_⟩
    have S1 := Same.upd (o := .lst []) hD
    walk_at "rd"
    refine ⟨⟨_, rfl⟩, ?_⟩
    walk_at "rd"
    refine ⟨by omega, fun L hL => ?_⟩
    have DL : D ≠ L := fun e => by rw [← e, upd_same] at hL; cases hL
    obtain ⟨G, eG⟩ : ∃ G : Hp, G = upd (upd H D (.lst [])) L (.lst ((Txt.split z (Str.ofString "\n")).map V.str)) := ⟨_, rfl⟩
    have hG : G L = some (.lst ((lnsOf z).map V.str)) := by rw [eG]; exact upd_same
    have gD : G D = some (.lst []) := by rw [eG, upd_ne DL]; exact upd_same
    have SG : Same H G := by rw [eG]; exact S1.trans (Same.upd hL)
    rw [← eG]
    clear eG hL S1
    have cnt : (lnsOf z).length ≤ z.length + 1 := split_cnt (by decide)
    have pos : 1 ≤ (lnsOf z).length := split_pos _ _
    refine ⟨L, rfl, ⟨_, SqL.of hG⟩, ?_⟩
    refine for_list (K := K) (a := L) (xs := (lnsOf z).map V.str) (fun i σ H' => ∃ (ls : List Str) (y : Option V), σ = [some (V.str z), some (.ref D), y] ∧ Same H H' ∧ H' L = some (.lst ((lnsOf z).map V.str)) ∧ H' D = some (.lst (ls.map V.str)) ∧ ls.length = i ∧ totS ls ≤ totS ((lnsOf z).take i) + 27 * i ∧ ∀ s ∈ ls, goodW (wdsOf s) = true ∧ 10 ∉ s.cps.toList)
      ⟨[], none, rfl, SG, hG, gD, rfl, Nat.zero_le _, fun s h => nomatch h⟩ (fun i σ H' _ ⟨_, _, _, _, h, _⟩ => SqL.of h) ?_ ?_
    · rintro i x σ G1 hi ⟨ls, y, rfl, S1, g1L, g1D, gl, gt, ge⟩
      rw [List.getElem?_map] at hi
      obtain ⟨ln, eln, rfl⟩ := Option.map_eq_some_iff.mp hi
      have lm := List.mem_of_getElem? eln
      have il : i < (lnsOf z).length := (List.getElem?_eq_some_iff.mp eln).1
      have ll : ln.length ≤ z.length := split_len lm
      have lf : 10 ∉ ln.cps.toList := StrLaws.split_free z 10 ln (by rw [← enl]; exact lm)
      have tk : totS ((lnsOf z).take (i + 1)) = totS ((lnsOf z).take i) + ln.length := by
        rw [List.take_add_one, eln]
        show totS (_ ++ [ln]) = _
        rw [totS_app, totS_one]
      have fin : ∀ (s : Str) (G' : Hp) (y' : Option V), s.length ≤ ln.length + 27 → goodW (wdsOf s) = true → 10 ∉ s.cps.toList → Same G1 G' → ∃ (ls' : List Str) (y : Option V), [some (V.str z), some (.ref D), y'] = [some (V.str z), some (.ref D), y] ∧ Same H (upd G' D (.lst (ls.map V.str ++ [V.str s]))) ∧ (upd G' D (.lst (ls.map V.str ++ [V.str s]))) L = some (.lst ((lnsOf z).map V.str)) ∧
          (upd G' D (.lst (ls.map V.str ++ [V.str s]))) D = some (.lst (ls'.map V.str)) ∧ ls'.length = i + 1 ∧ totS ls' ≤ totS ((lnsOf z).take (i + 1)) + 27 * (i + 1) ∧ ∀ s ∈ ls', goodW (wdsOf s) = true ∧ 10 ∉ s.cps.toList := fun s G' y' h1 h2 h3 S' => by
        refine ⟨ls ++ [s], y', rfl, grow_same hD (S1.trans S'), (upd_ne DL.symm).trans (S' _ _ g1L), by rw [upd_same, List.map_append]; rfl, by rw [List.length_append, gl]; rfl, by rw [totS_app, totS_one]; omega, fun q hq => ?_⟩
        rcases List.mem_append.mp hq with h | h
        · exact ge q h
        · rw [List.mem_singleton.mp h]; exact ⟨h2, h3⟩
      walk_at "rd"
      refine ⟨by omega, fun p G2 hp h2 S2 => ?_⟩
      walk_at "rd"
      refine ⟨by show 0 ≤ sizeLine; decide, fun e he => ?_⟩
      have S3 := Same.upd (o := .lst []) he
      refine eqd_rl (S3 _ _ h2) upd_same ?_
      have T3 := S2.trans S3
      cases hg : goodW (wdsOf ln) with
      | true =>
        walk_at "rd"
        refine ⟨.inl ⟨rfl, _, SqL.of (T3 _ _ g1D)⟩, ?_⟩
        walk_at "rd"
        refine ⟨D, _, _, rfl, rfl, T3 _ _ g1D, by rw [List.length_map]; omega, ?_⟩
        exact fin ln _ _ (by omega) hg lf T3
      | false =>
        walk_at "rd"
        refine ⟨.inl ⟨rfl, _, SqL.of (T3 _ _ g1D)⟩, ?_⟩
        walk_at "rd"
        refine ⟨D, _, _, rfl, rfl, T3 _ _ g1D, by rw [List.length_map]; omega, ?_⟩
        exact fin hl _ _ (by rw [show hl.length = 26 by decide]; omega) hl_good hl_free T3
    · rintro σ G1 ⟨ls, y, rfl, S1, g1L, g1D, gl, gt, ge⟩
      rw [List.length_map] at gl gt
      rw [List.take_length] at gt
      have zt : totS (lnsOf z) ≤ z.length := split_tot _ _
      have ht : totS ls ≤ 200000 := by omega
      have jl := join_len (Str.ofString "\n") ls
      rw [nl1] at jl
      have ne : ls ≠ [] := fun e => by rw [e] at gl; simp at gl; omega
      have sj : lnsOf (Txt.join (Str.ofString "\n") ls) = ls := by
        unfold lnsOf
        exact TL.split_join (s := 10) (S := []) (by decide +kernel) (by decide +kernel) ne fun p hp => (ge p hp).2
      walk_at "rd"
      refine ⟨⟨_, rfl⟩, _, rfl, _, D, ls, rfl, rfl, .inl (SqL.of g1D), ?_, k _ _ S1 (by omega) (fun ws hw => ?_) (by rw [sj]; omega)⟩
      · show totS ls + ls.length * (Str.ofString "\n").length ≤ 16777216
        rw [nl1]
        omega
      · unfold rlsOf at hw
        rw [sj] at hw
        obtain ⟨q, hq, rfl⟩ := List.mem_map.mp hw
        exact (ge q hq).1
end
end Cl

/-! ### law k55: a choice looked at, the law -/
namespace Cl
open PySem PySem.Spec PyProof.Rows L2 StX ClX PySem.Builtin PySem.Builtin.Str
theorem zip_prs {gs : List Addr} {wss : List (List Str)} (h : gs.length = wss.length) : (gs.zip wss).map (fun x => V.ref x.1) = gs.map V.ref ∧ (gs.zip wss).map (·.2) = wss := by
  constructor
  · rw [show (fun x : Addr × List Str => V.ref x.1) = V.ref ∘ Prod.fst from rfl, ← List.map_map, List.map_fst_zip (by omega)]
  · exact List.map_snd_zip (by omega)
theorem rnd_setL {C t r : Addr} {H : Hp} {bs : List Int} {xs : List V} {o : HO} (h : RoundAt C H r bs) (ht : H t = some (.lst xs)) : RoundAt C (upd H t o) r bs := by
  obtain ⟨dx, tt, z1, z2⟩ := h
  exact ⟨dx, tt, (upd_ne (fun e => by rw [e, ht] at z1; cases z1)).trans z1, (upd_ne (fun e => by rw [e, ht] at z2; cases z2)).trans z2⟩
theorem BadAt.one {z : Str} {a b : Nat} (h : BadAt z a) (h' : BadAt z b) : a = b := by
  obtain ⟨a1, a2, a3⟩ := h
  obtain ⟨b1, b2, b3⟩ := h'
  have ea : (rlsOf z)[a]? = some (rlsOf z)[a] := List.getElem?_eq_getElem a1
  have eb : (rlsOf z)[b]? = some (rlsOf z)[b] := List.getElem?_eq_getElem b1
  rcases Nat.lt_trichotomy a b with q | q | q
  · have := b2 a _ q ea
    rw [a3 _ ea] at this; cases this
  · exact q
  · have := a2 b _ q eb
    rw [b3 _ eb] at this; cases this
/-- a keeper that stands off two lists -/
def RksOff (CR : Addr) (H : Hp) (a : Addr) (wss : List (List Str)) (tx kp : Addr) : Prop := ∃ (dx b : Addr) (prs : List (Addr × List Str)), H a = some (.ins CR dx [("_rules", .ref b)]) ∧ H b = some (.lst (prs.map fun q => V.ref q.1)) ∧ (∀ q ∈ prs, H q.1 = some (.lst (q.2.map V.str)) ∧ q.1 ≠ tx ∧ q.1 ≠ kp) ∧ prs.map (·.2) = wss ∧ b ≠ tx ∧ b ≠ kp ∧ a ≠ tx ∧ a ≠ kp
theorem RksOff.at {CR : Addr} {H : Hp} {a : Addr} {wss : List (List Str)} {tx kp : Addr} (h : RksOff CR H a wss tx kp) : RksAt CR H a wss := by
  obtain ⟨dx, b, prs, h1, h2, h3, h4, _⟩ := h
  exact ⟨dx, b, prs, h1, h2, fun q hq => (h3 q hq).1, h4⟩
theorem RksOff.same {CR : Addr} {H H' : Hp} {a : Addr} {wss : List (List Str)} {tx kp : Addr} (h : RksOff CR H a wss tx kp) (x : Same H H') : RksOff CR H' a wss tx kp := by
  obtain ⟨dx, b, prs, h1, h2, h3, h4⟩ := h
  exact ⟨dx, b, prs, x _ _ h1, x _ _ h2, fun q hq => ⟨x _ _ (h3 q hq).1, (h3 q hq).2⟩, h4⟩
theorem RksOff.tx {CR : Addr} {H : Hp} {a : Addr} {wss : List (List Str)} {tx kp : Addr} {o : HO} (h : RksOff CR H a wss tx kp) : RksOff CR (upd H tx o) a wss tx kp := by
  obtain ⟨dx, b, prs, h1, h2, h3, h4, h5, h6, h7, h8⟩ := h
  exact ⟨dx, b, prs, (upd_ne h7).trans h1, (upd_ne h5).trans h2, fun q hq => ⟨(upd_ne (h3 q hq).2.1).trans (h3 q hq).1, (h3 q hq).2⟩, h4, h5, h6, h7, h8⟩
theorem RksOff.kp {CR : Addr} {H : Hp} {a : Addr} {wss : List (List Str)} {tx kp : Addr} {o : HO} (h : RksOff CR H a wss tx kp) : RksOff CR (upd H kp o) a wss tx kp := by
  obtain ⟨dx, b, prs, h1, h2, h3, h4, h5, h6, h7, h8⟩ := h
  exact ⟨dx, b, prs, (upd_ne h8).trans h1, (upd_ne h6).trans h2, fun q hq => ⟨(upd_ne (h3 q hq).2.2).trans (h3 q hq).1, (h3 q hq).2⟩, h4, h5, h6, h7, h8⟩
def TxtOk (z : Str) : Prop := z.length ≤ 1000000 ∧ (lnsOf z).length ≤ 7001 ∧ ∀ ws ∈ rlsOf z, goodW ws = true
section
variable {P : Program} {w : World} {K : PySem.W.Frag} {mg : Str → Option Value} {base : Heap} {C C_Keeper C_BadRule C_RuleKeeper : Addr}
def spChooses (C CR : Addr) : Sp := fun vs H Q _ => ∃ (a g q r : Addr) (z : Str) (l : List Bool) (p ph : Int) (bs : List Int), vs = [.ref a, .str z, .ref g, .ref q, .ref r] ∧ RksAt CR H a (rlsOf z) ∧ (∀ ws ∈ rlsOf z, goodW ws = true) ∧ (lnsOf z).length ≤ 7001 ∧ z.length ≤ 1000000 ∧ Std5 H g l p ph ∧ H q = some (.lst (bs.map V.int)) ∧ Okb bs ∧ RoundAt C H r bs ∧
  ∀ H', Same H H' → Q (.bl true) H'
theorem scLawChooses : FnScope ["keeper", "text", "stand", "pays", "made", "rules", "told", "line"] ["keeper", "text", "stand", "pays", "made"] (defScope sLawChooses) := ⟨rfl, rfl, rfl, by decide +kernel, rfl, by decide +kernel, by decide +kernel⟩
set_option maxHeartbeats 0 in
theorem ok__law_chooses {f : Addr} {fd : FuncData} (F : Fun K "_law_chooses" "_law_chooses" sLawChooses f fd) (B : Bi mg) (R_RuleKeeper : ClsC K mg "RuleKeeper" C_RuleKeeper) (S_Keeper : ClsN K mg "Keeper" C_Keeper) (I_RuleKeeper_Keeper : PySem.W.kitOne K (.ref C_RuleKeeper) (.ref C_Keeper) = some true)
    (M_RuleKeeper_choose : Mn P w K mg base C_RuleKeeper "choose" 6 ["self", "word", "places", "budgets", "phase"] (spRksChoose C C_RuleKeeper)) (M_RuleKeeper_label : Mn P w K mg base C_RuleKeeper "label" 1 ["self"] (spRksLabel C_RuleKeeper)) (D__law_rule : Dn P w K mg base "_law_rule" 3 ["line"] spRuleL)
    (D__law_is_count : Dn P w K mg base "_law_is_count" 1 ["thing"] spCount) (D__law_due : Dn P w K mg base "_law_due" 3 ["rules", "stand", "pays"] spDueL) : FnOk P w K mg base CX0 7 f fd ["keeper", "text", "stand", "pays", "made"] (spChooses C C_RuleKeeper) := by
  refine F.ok scLawChooses (fun vs H Q E h => ?_) (fun cdv A outer s H vs Q E hr h => ?_)
  · obtain ⟨a, g, q, r, z, l, p, ph, bs, rfl, _⟩ := h
    rfl
  · obtain ⟨a, g, q, r, z, l, p, ph, bs, rfl, hK, hgood, hn, hz, gg, hq, ok, hR, k⟩ := h
    refine ⟨_, (pss_cons (ps_setLc (i := 5) (own := [("line", 7)]) (g := gName 7) rfl scLawChooses.nd rfl rfl (sw_true rfl rfl rfl (by decide +kernel)) (pi_list (pe_split (pv 1) pe_str)) (blkOk_by (own := [("line", 7)]) (N := ["keeper", "text", "stand", "pays", "made", "rules", "told", "line"]) (sc := defScope sLawChooses) (by decide +kernel)) (fun _ _ _ _ _ => (pg_name (i := 7) scLawChooses.nd rfl (Or.inl rfl))) (fun _ _ _ _ _ => pts_nil) (fun _ _ _ _ _ => (pe_dn D__law_rule (hr.mono (by decide)) (by rfl) pass0 (pa_cons (pv 7) pa_nil))))
  (pss_cons (ps_set (i := 6) scLawChooses.nd rfl (Or.inl rfl) (pe_mn M_RuleKeeper_choose R_RuleKeeper.cl (hr.mono (by decide)) pass0 (pv 0) (pa_cons (pe_ix ix_list (pv 2) pe_int (fun _ _ => rfl)) (pa_cons (pe_ix ix_list (pv 2) pe_int (fun _ _ => rfl)) (pa_cons (pv 4) (pa_cons (pe_ix ix_list (pv 2) pe_int (fun _ _ => rfl)) pa_nil))))))
  (pss_cons (ps_if (PW.pt (pw_or (pt_not (pt_val (pe_dn D__law_is_count (hr.mono (by decide)) (by rfl) pass0 (pa_cons (pv 6) pa_nil)))) (pw_or1 (pt_cmpR op_ne (pv 6) (pe_dn D__law_due (hr.mono (by decide)) (by rfl) pass0 (pa_cons (pv 5) (pa_cons (pv 2) (pa_cons (pv 3) pa_nil)))) (nomark _))))) (pss_one (ps_ret pe_bl))
  pss_nil)
  (pss_one (ps_ret (pe_and (pe_callB (call_isD R_RuleKeeper.ic I_RuleKeeper_Keeper) (by rfl) B.isinstance (by decide +kernel) (pa_cons (pv 0) (pa_cons (pe_glob (v := .ref C_Keeper) rfl S_Keeper.g rfl) pa_nil))) (pe_one (pe_cmpR op_eq (pe_mn0 M_RuleKeeper_label R_RuleKeeper.cl (hr.mono (by decide)) pass0 (pv 0)) (pe_op op_add_str pe_str (pe_callTy call_str_int (by rfl) B.strT (by decide +kernel) (pa_cons (pe_callB call_len_seq (by rfl) B.len PySem.boot_len (pa_cons (pv 5) pa_nil)) pa_nil))) (nomark _))))))))), ?_⟩
    have sl : (2000000 : Nat) ≤ sizeLine := by decide
    obtain ⟨hg, W, lp, p1, p64, ph0, ph1⟩ := id gg
    walk_at "rd"
    refine ⟨⟨_, rfl⟩, ?_⟩
    walk_at "rd"
    refine ⟨by omega, fun L hL => ?_⟩
    obtain ⟨G, eG⟩ : ∃ G : Hp, G = upd H L (.lst ((Txt.split z (Str.ofString "\n")).map V.str)) := ⟨_, rfl⟩
    have hG : G L = some (.lst ((lnsOf z).map V.str)) := by rw [eG]; exact upd_same
    have SG : Same H G := by rw [eG]; exact Same.upd hL
    rw [← eG]
    clear eG hL
    have rl : ∀ (i : Nat) (ln : Str), (lnsOf z)[i]? = some ln → (rlsOf z)[i]? = some (wdsOf ln) := fun i ln e => by
      unfold rlsOf
      rw [List.getElem?_map, e]; rfl
    have rlen : (rlsOf z).length = (lnsOf z).length := List.length_map ..
    refine ⟨L, rfl, ⟨_, SqL.of hG⟩, fun D hD => ?_⟩
    refine lc_objQ (walk_list (K := K) (a := L) (xs := (lnsOf z).map V.str)) (fun gs G' => Same G G' ∧ ∀ (j : Nat) (b : Addr) (ws : List Str), gs[j]? = some b → (rlsOf z)[j]? = some ws → G' b = some (.lst (rlV ws)) ∧ b ≠ D) (by rw [List.length_map]; omega) (fun gs G' h => SqL.of (h.1 _ _ hG)) ⟨Same.upd hD, fun j b e h => by cases h⟩ ?_ ?_
    · rintro i x gs G1 G' R hi gD gl ⟨gS, gE⟩ ⟨rfl, hx⟩ hR2
      rw [List.length_map] at hi
      rw [List.getElem?_map] at hx
      obtain ⟨ln, eln, rfl⟩ := Option.map_eq_some_iff.mp hx
      have ll : ln.length ≤ z.length := split_len (List.mem_of_getElem? eln)
      refine ⟨rfl, ?_⟩
      walk_at "rd"
      refine ⟨by omega, fun p2 G3 hp2 h3 S3 => ?_⟩
      have pD : p2 ≠ D := fun e => by rw [e, gD] at hp2; cases hp2
      refine hR2 p2 G3 (S3 _ _ gD) ⟨grow_same hD (gS.trans S3), fun j b ws hj he => ?_⟩
      rcases Nat.lt_or_ge j gs.length with h | h
      · rw [List.getElem?_append_left h] at hj
        obtain ⟨y1, y2⟩ := gE j b ws hj he
        exact ⟨(upd_ne y2).trans (S3 _ _ y1), y2⟩
      · rw [List.getElem?_append_right h] at hj
        have hj0 : j = gs.length := by
          have := (List.getElem?_eq_some_iff.mp hj).1
          simp at this; omega
        subst hj0
        rw [Nat.sub_self] at hj
        cases hj
        rw [gl, rl i ln eln] at he
        cases he
        exact ⟨(upd_ne pD).trans h3, pD⟩
    · rintro gs G2 gD gl ⟨gS, gE⟩
      rw [List.length_map] at gl
      obtain ⟨z1, z2⟩ := zip_prs (gs := gs) (wss := rlsOf z) (by rw [gl, rlen])
      have hx : ∀ x ∈ gs.zip (rlsOf z), G2 x.1 = some (.lst (rlV x.2)) ∧ goodW x.2 = true := fun x hx => by
        obtain ⟨j, hj, e⟩ := List.getElem_of_mem hx
        rw [List.getElem_zip] at e
        rw [List.length_zip] at hj
        have e1 : gs[j]? = some x.1 := by rw [List.getElem?_eq_getElem (by omega), ← e]
        have e2 : (rlsOf z)[j]? = some x.2 := by rw [List.getElem?_eq_getElem (by omega), ← e]
        exact ⟨(gE j _ _ e1 e2).1, hgood _ (List.mem_of_getElem? e2)⟩
      rw [← z1] at gD
      generalize gs.zip (rlsOf z) = prs at *
      have S2 := SG.trans gS
      have hK2 := hK.same S2
      obtain ⟨dx, bk, prk, kk1, kk2, kk3, kk4⟩ := id hK2
      have hg2 := S2 _ _ hg
      walk_at "rd"
      refine ⟨a, dx, _, rfl, kk1, rfl, ?_⟩
      walk_at "rd"
      refine ⟨g, _, _, _, rfl, rfl, SqL.of hg2, rfl, ?_⟩
      walk_at "rd"
      refine ⟨g, _, _, _, rfl, rfl, SqL.of hg2, rfl, ?_⟩
      walk_at "rd"
      refine ⟨g, _, _, _, rfl, rfl, SqL.of hg2, rfl, ?_⟩
      walk_at "rd"
      refine ⟨a, l, p, r, bs, ph, rlsOf z, rfl, hK2, hgood, W, lp, p1, by omega, ok, hR.same S2, ph0, fun G3 S3 => ?_⟩
      have T3 := S2.trans S3
      walk_at "rd"
      refine ⟨D, g, q, prs, l, p, ph, bs, rfl, S3 _ _ gD, fun x hx2 => ⟨S3 _ _ (hx x hx2).1, (hx x hx2).2⟩, gg.same T3, T3 _ _ hq, ok, fun G4 S4 => ?_⟩
      have T4 := T3.trans S4
      rw [z2]
      refine ⟨rfl, _, rfl, ?_⟩
      rw [decide_eq_true rfl]
      walk_at "rd"
      refine ⟨a, dx, _, rfl, S4 _ _ (S3 _ _ kk1), ?_⟩
      walk_at "rd"
      refine ⟨a, dx, _, rfl, S4 _ _ (S3 _ _ kk1), rfl, ?_⟩
      walk_at "rd"
      refine ⟨a, rlsOf z, rfl, hK.same T4, by omega, ?_⟩
      walk_at "rd"
      refine ⟨D, _, rfl, .inl (SqL.of (S4 _ _ (S3 _ _ gD))), ?_⟩
      have pl : (List.map (fun x : Addr × List Str => V.ref x.1) prs).length = (rlsOf z).length := by rw [List.length_map, ← z2, List.length_map]
      rw [pl]
      have n1 : (rlsOf z).length ≤ 9001 := by omega
      have tl := toString_length_le (show (0 : Int) ≤ (((rlsOf z).length : Nat) : Int) by omega) (k := 31) (by decide) (Int.lt_of_le_of_lt (show (((rlsOf z).length : Nat) : Int) ≤ 9001 by omega) (by decide))
      walk_at "rd"
      refine ⟨lg9 n1, ?_⟩
      refine ⟨_, _, rfl, rfl, by rw [show (Str.ofString "rule ").length = 5 by decide]; omega, ?_⟩
      walk_at "rd"
      rw [decide_eq_true (show V.str (rlTx (rlsOf z).length) = V.str (Str.ofString "rule " ++ Str.ofString (toString (((rlsOf z).length : Nat) : Int))) from rfl)]
      exact k G4 T4
def spLaw (K : PySem.W.Frag) : Sp := fun vs H Q _ => ∃ (a : Addr) (ns : List Int), vs = [.ref a] ∧ SqL K H a (ns.map V.int) ∧ ns.length ≤ 63 ∧ ∀ H', Q (.bl true) H'
theorem scLaw : FnScope ["script", "box", "pays", "made", "stands", "k", "texts", "keepers", "text", "stand"] ["script"] (defScope sLaw) := ⟨rfl, rfl, rfl, by decide +kernel, rfl, by decide +kernel, by decide +kernel⟩
set_option maxHeartbeats 0 in
theorem ok_law {f : Addr} {fd : FuncData} (F : Fun K "law" "law" sLaw f fd) (B : Bi mg) (R_Round : ClsC K mg "Round" C) (R_RuleKeeper : ClsC K mg "RuleKeeper" C_RuleKeeper) (P_Round_budgets : Pn P w K mg base C "budgets" 1 (spBudgets C)) (MK_RuleKeeper : Ci P w K mg base C_RuleKeeper 5 ["self", "text"] (spRksInit C_RuleKeeper))
    (D__law_box : Dn P w K mg base "_law_box" 1 ["script", "at"] (spBoxS K)) (D__law_pays : Dn P w K mg base "_law_pays" 2 ["script", "box"] (spPaysZ K)) (D__law_round : Dn P w K mg base "_law_round" 7 ["pays"] (spRoundL C)) (D__law_stand : Dn P w K mg base "_law_stand" 3 ["script", "box"] (spStandZ K))
    (D__law_text : Dn P w K mg base "_law_text" 5 ["script", "box", "stands", "pays"] (spText K)) (D__law_first_bad : Dn P w K mg base "_law_first_bad" 4 ["text"] spFirstB) (D__law_refused : Dn P w K mg base "_law_refused" 7 ["text", "due"] spRefB) (D__law_healed : Dn P w K mg base "_law_healed" 4 ["text"] spHealed)
    (D__law_chooses : Dn P w K mg base "_law_chooses" 7 ["keeper", "text", "stand", "pays", "made"] (spChooses C C_RuleKeeper)) : FnOk P w K mg base CX0 8 f fd ["script"] (spLaw K) := by
  refine F.ok scLaw (fun vs H Q E h => ?_) (fun cdv A outer s H vs Q E hr h => ?_)
  · obtain ⟨a, ns, rfl, _⟩ := h
    rfl
  · obtain ⟨sa, ns, rfl, hs, hn, k⟩ := h
    refine ⟨_, (pss_cons (ps_set (i := 1) scLaw.nd rfl (Or.inl rfl) (pe_dn D__law_box (hr.mono (by decide)) (by rfl) pass0 (pa_cons (pv 0) (pa_cons pe_int pa_nil))))
  (pss_cons (ps_set (i := 2) scLaw.nd rfl (Or.inl rfl) (pe_dn D__law_pays (hr.mono (by decide)) (by rfl) pass0 (pa_cons (pv 0) (pa_cons (pe_dn D__law_box (hr.mono (by decide)) (by rfl) pass0 (pa_cons (pv 0) (pa_cons pe_int pa_nil))) pa_nil))))
  (pss_cons (ps_set (i := 3) scLaw.nd rfl (Or.inl rfl) (pe_dn D__law_round (hr.mono (by decide)) (by rfl) pass0 (pa_cons (pv 2) pa_nil)))
  (pss_cons (ps_set (i := 4) scLaw.nd rfl (Or.inl rfl) (pe_lst pa_nil))
  (pss_cons (ps_for PassesOwn.never rfl (pi_range1 rfl B.range (pa_cons pe_int pa_nil)) (pg_name (i := 5) scLaw.nd rfl (Or.inl rfl))
  (pss_one (ps_expr (pe_bm PySem.F.plainAttrs_list PySem.F.slot_list_append PySem.F.type_list_append mt_append (pv 4) (pa_cons (pe_dn D__law_stand (hr.mono (by decide)) (by rfl) pass0 (pa_cons (pv 0) (pa_cons (pv 1) pa_nil))) pa_nil)))))
  (pss_cons (ps_set (i := 6) scLaw.nd rfl (Or.inl rfl) (pe_lst pa_nil))
  (pss_cons (ps_set (i := 7) scLaw.nd rfl (Or.inl rfl) (pe_lst pa_nil))
  (pss_cons (ps_for PassesOwn.never rfl (pi_range1 rfl B.range (pa_cons pe_int pa_nil)) (pg_name (i := 5) scLaw.nd rfl (Or.inl rfl))
  (pss_cons (ps_set (i := 8) scLaw.nd rfl (Or.inl rfl) (pe_dn D__law_text (hr.mono (by decide)) (by rfl) pass0 (pa_cons (pv 0) (pa_cons (pe_dn D__law_box (hr.mono (by decide)) (by rfl) pass0 (pa_cons (pv 0) (pa_cons (pe_op op_add pe_int (pv 5)) pa_nil))) (pa_cons (pv 4) (pa_cons (pv 2) pa_nil))))))
  (pss_cons (ps_if (pt_cmpR op_gt (pe_dn D__law_first_bad (hr.mono (by decide)) (by rfl) pass0 (pa_cons (pv 8) pa_nil)) pe_int (nomark _)) (pss_cons (ps_if (pt_not (pt_val (pe_dn D__law_refused (hr.mono (by decide)) (by rfl) pass0 (pa_cons (pv 8) (pa_cons (pe_dn D__law_first_bad (hr.mono (by decide)) (by rfl) pass0 (pa_cons (pv 8) pa_nil)) pa_nil))))) (pss_one (ps_ret pe_bl))
  pss_nil)
  (pss_one (ps_set (i := 8) scLaw.nd rfl (Or.inl rfl) (pe_dn D__law_healed (hr.mono (by decide)) (by rfl) pass0 (pa_cons (pv 8) pa_nil)))))
  pss_nil)
  (pss_cons (ps_expr (pe_bm PySem.F.plainAttrs_list PySem.F.slot_list_append PySem.F.type_list_append mt_append (pv 6) (pa_cons (pv 8) pa_nil)))
  (pss_one (ps_expr (pe_bm PySem.F.plainAttrs_list PySem.F.slot_list_append PySem.F.type_list_append mt_append (pv 7) (pa_cons (pe_mki MK_RuleKeeper (hr.mono (by decide)) rfl R_RuleKeeper.mg pass0 (pa_cons (pv 8) pa_nil)) pa_nil))))))))
  (pss_cons (ps_for PassesOwn.never rfl (pi_list (pe_op op_cat (pv 4) (pe_slice sl_list (pv 4) po_none (po_some pe_int)))) (pg_name (i := 9) scLaw.nd rfl (Or.inl rfl))
  (pss_one (ps_for PassesOwn.never rfl (pi_range1 rfl B.range (pa_cons pe_int pa_nil)) (pg_name (i := 5) scLaw.nd rfl (Or.inl rfl))
  (pss_one (ps_if (pt_not (pt_val (pe_dn D__law_chooses (hr.mono (by decide)) (by rfl) pass0 (pa_cons (pe_ix ix_list (pv 7) (pv 5) (fun _ _ => rfl)) (pa_cons (pe_ix ix_list (pv 6) (pv 5) (fun _ _ => rfl)) (pa_cons (pv 9) (pa_cons (pv 2) (pa_cons (pv 3) pa_nil)))))))) (pss_one (ps_ret pe_bl))
  pss_nil)))))
  (pss_one (ps_ret (pe_and (pe_dn D__law_refused (hr.mono (by decide)) (by rfl) pass0 (pa_cons pe_str (pa_cons pe_int pa_nil))) (pe_one (pe_cmpR (op_eqD hr.units) (pe_pn P_Round_budgets R_Round.cl (hr.mono (by decide)) (pv 3)) (pv 2) (nomark _))))))))))))))), ?_⟩
    walk_at "rd"
    refine ⟨sa, ns, 0, H, rfl, hs, Same.refl _, hn, fun b H1 hb hB1 S1 => ?_⟩
    walk_at "rd"
    refine ⟨sa, ns, 1, H1, rfl, S1.seq hs, Same.refl _, hn, fun b2 H2 hb2 hB2 S2 => ?_⟩
    walk_at "rd"
    refine ⟨sa, b2, ns, H1, rfl, S1.seq hs, hB2, fun q bs H3 hq0 hq ok hB3 c3 => ?_⟩
    walk_at "rd"
    have bb2 : b ≠ b2 := fun e => by rw [← e] at hb2; exact hB1.ne hb2 rfl
    have hBb2 := hB1.same S2
    have qb : q ≠ b := hBb2.ne hq0
    have hBb3 := hBb2.but bb2 (S1.free hb2) c3
    refine ⟨q, bs, rfl, hq, ok, fun r H4 hR4 S4 => ?_⟩
    have hq4 := S4 _ _ hq
    have hB4 := hBb3.same S4
    clear hBb3 hBb2 hB1 hB2 hB3 S4 c3 S2 hq hq0
    walk_at "rd"
    refine ⟨by show 0 ≤ sizeLine; decide, fun t ht => ?_⟩
    have tb : t ≠ b := hB4.ne ht
    have tq : q ≠ t := ne_of_none hq4 ht
    have t0 : H t = none := hB4.2.1.free ht
    have S5 := Same.upd (o := .lst []) ht
    obtain ⟨H5, e5⟩ : ∃ H5 : Hp, H5 = upd H4 t (.lst []) := ⟨_, rfl⟩
    have ht5 : H5 t = some (.lst []) := by rw [e5]; exact upd_same
    rw [← e5] at S5 ⊢
    have hB5 := hB4.same S5
    have hq5 := S5 _ _ hq4
    have hR5 := hR4.same S5
    clear e5 S5 hB4 hq4 hR4 ht
    walk_at "rd"
    refine ⟨by decide, by decide, ?_⟩
    refine for_range (fun i σ H' => ∃ (gs : List Addr) (y : Option V), σ = [some (V.ref sa), some (.ref b), some (.ref q), some (.ref r), some (.ref t), y, none, none, none, none] ∧ H' t = some (.lst (gs.map V.ref)) ∧ gs.length = i ∧ (∀ g ∈ gs, (∃ (l : List Bool) (p ph : Int), Std5 H' g l p ph) ∧ g ≠ t ∧ g ≠ b) ∧ BoxS H H' b ∧ H' q = some (.lst (bs.map V.int)) ∧ RoundAt C H' r bs)
      ⟨[], none, rfl, ht5, rfl, (fun g hg => nomatch hg), hB5, hq5, hR5⟩ ?_ ?_
    · rintro i σ G hi ⟨gs, y, rfl, gt, gl, ge, gB, gq, gR⟩
      walk_at "rd"
      refine ⟨.inl ⟨rfl, _, SqL.of gt⟩, ?_⟩
      walk_at "rd"
      refine ⟨sa, b, ns, H, rfl, hs, gB, fun g l p ph G2 hg GG gB2 gb2 => ?_⟩
      have gt2 := gb2 _ _ tb gt
      have gb : g ≠ b := gB.ne hg
      have gnt : g ≠ t := fun e => by rw [e, gt] at hg; cases hg
      refine ⟨t, _, _, rfl, rfl, gt2, by rw [List.length_map]; have : (100 : Nat) ≤ sizeLine := by decide
                                         omega, ?_⟩
      refine ⟨gs ++ [g], _, rfl, by rw [upd_same, List.map_append]; rfl, by rw [List.length_append, gl]; rfl, fun c hc => ?_, gB2.set tb t0, (upd_ne tq).trans (gb2 _ _ qb gq), rnd_setL (gR.butS gb2 gB) gt2⟩
      rcases List.mem_append.mp hc with h | h
      · obtain ⟨⟨l', p', ph', e⟩, n1, n2⟩ := ge c h
        exact ⟨⟨l', p', ph', (upd_ne n1).trans (e.but gb2 n2).1, (e.but gb2 n2).2⟩, n1, n2⟩
      · rw [List.mem_singleton.mp h]
        exact ⟨⟨l, p, ph, (upd_ne gnt).trans GG.1, GG.2⟩, gnt, gb⟩
    clear hR5 hq5 hB5 ht5
    rintro σ G0 ⟨gs, y, rfl, gt, gl, ge, gB, gq, gR⟩
    have hT : Std3 G0 t := ⟨gs, gt, by omega, fun g hg => (ge g hg).1⟩
    have hs0 := gB.2.1.seq hs
    clear gt gl ge gB
    walk_at "rd"
    refine ⟨by show 0 ≤ sizeLine; decide, fun tx htx => ?_⟩
    have S1 := Same.upd (o := .lst []) htx
    walk_at "rd"
    refine ⟨by show 0 ≤ sizeLine; decide, fun kp hkp => ?_⟩
    have kt : kp ≠ tx := fun e => by rw [e, upd_same] at hkp; cases hkp
    have hkp0 : G0 kp = none := by rwa [upd_ne kt] at hkp
    obtain ⟨G1, e1⟩ : ∃ G1 : Hp, G1 = upd (upd G0 tx (.lst [])) kp (.lst []) := ⟨_, rfl⟩
    have g1t : G1 tx = some (.lst []) := by rw [e1, upd_ne kt.symm]; exact upd_same
    have g1k : G1 kp = some (.lst []) := by rw [e1]; exact upd_same
    have S01 : Same G0 G1 := by rw [e1]; exact S1.trans (Same.upd hkp)
    rw [← e1]
    clear e1 S1 hkp
    walk_at "rd"
    refine ⟨by decide, by decide, ?_⟩
    refine for_range (fun i σ H' => ∃ (zs : List Str) (ks : List Addr) (y v : Option V), σ = [some (V.ref sa), some (.ref b), some (.ref q), some (.ref r), some (.ref t), y, some (.ref tx), some (.ref kp), v, none] ∧ Same G0 H' ∧ H' tx = some (.lst (zs.map V.str)) ∧ H' kp = some (.lst (ks.map V.ref)) ∧ zs.length = i ∧ ks.length = i ∧ ∀ (j : Nat) (z : Str) (a : Addr), zs[j]? = some z → ks[j]? = some a → TxtOk z ∧ RksOff C_RuleKeeper H' a (rlsOf z) tx kp)
      ⟨[], [], _, none, rfl, S01, g1t, g1k, rfl, rfl, fun j z a h => by cases h⟩ ?_ ?_
    · clear S01 g1t g1k
      rintro i σ G2 hi ⟨zs, ks, y2, v, rfl, S2, gt, gk, zl, kl, ge⟩
      have i2 : i < 2 := by omega
      have hsG := S2.seq hs0
      walk_at "rd"
      refine ⟨sa, ns, 2 + i, G2, by show [V.ref sa, V.int (2 + (0 + ((i : Nat) : Int)))] = _
                                    rw [show (2 : Int) + (0 + ((i : Nat) : Int)) = ((2 + i : Nat) : Int) by omega], hsG, Same.refl _, hn, fun bx H6 hbx hB6 S6 => ?_⟩
      have T6 := S2.trans S6
      walk_at "rd"
      refine ⟨sa, bx, t, q, bs, ns, G2, rfl, hsG, hB6, hT.same T6, T6 _ _ gq, ne_of_none (S2 _ _ gq) hbx, ok, fun z H7 zl7 hB7 c7 => ?_⟩
      have S7 : Same G2 H7 := hB7.2.1
      clear hB6 T6 S6 c7 hbx hB7 H6
      have big : (1000 : Nat) ≤ sizeLine := by decide
      have lc : (lnsOf z).length ≤ z.length + 1 := split_cnt (by decide)
      walk_at "rd"
      refine ⟨by omega, fun H8 S8 hgood => ?_, fun kb H8 S8 hbad => ?_⟩
      · have SX := S7.trans S8
        have tok : TxtOk z := ⟨by omega, by omega, hgood⟩
        walk_at "rd"
        have gt8 := SX _ _ gt
        have gk8 := SX _ _ gk
        refine ⟨.inl ⟨rfl, _, SqL.of gt8⟩, ?_⟩
        walk_at "rd"
        refine ⟨tx, _, _, rfl, rfl, gt8, by rw [List.length_map]; omega, ?_⟩
        obtain ⟨Gy, eGy⟩ : ∃ Gy : Hp, Gy = upd H8 tx (.lst (zs.map V.str ++ [V.str z])) := ⟨_, rfl⟩
        have gty : Gy tx = some (.lst ((zs ++ [z]).map V.str)) := by rw [eGy, upd_same, List.map_append]; rfl
        have gky : Gy kp = some (.lst (ks.map V.ref)) := by rw [eGy, upd_ne kt]; exact gk8
        have S0y : Same G0 Gy := by rw [eGy]; exact grow_same htx (S2.trans SX)
        have gey : ∀ (j : Nat) (z' : Str) (a : Addr), zs[j]? = some z' → ks[j]? = some a → TxtOk z' ∧ RksOff C_RuleKeeper Gy a (rlsOf z') tx kp := fun j z' a h1 h2 => by
          obtain ⟨w1, w2⟩ := ge j z' a h1 h2
          exact ⟨w1, by rw [eGy]; exact (w2.same SX).tx⟩
        rw [← eGy]
        clear eGy gt8 gk8
        walk_at "rd"
        refine ⟨.inl ⟨rfl, _, SqL.of gky⟩, ?_⟩
        walk_at "rd"
        intro x dx hx hdx nd
        have off : ∀ (c : Addr) (o : HO), Gy c = some o → ∀ d : Addr, (upd (upd Gy dx (.own x)) x (.ins C_RuleKeeper dx [])) d = none → d ≠ c := fun c o hc d hd e => by
          rw [e, upd_ne (ne_of_none hc hx), upd_ne (ne_of_none hc hdx), hc] at hd; cases hd
        refine ⟨x, dx, z, rfl, (tok).1, upd_same, (tok).2.2, fun H9 e9 rk => ⟨rfl, ?_⟩⟩
        have S9 := mk_sameB hx hdx e9
        have rko : RksOff C_RuleKeeper H9 x (rlsOf z) tx kp := by
          obtain ⟨dx2, b2, prs2, h1, h2, h3, h4, h5⟩ := rk
          exact ⟨dx2, b2, prs2, h1, h2, fun q' hq' => ⟨(h3 q' hq').1, off _ _ gty _ (h3 q' hq').2, off _ _ gky _ (h3 q' hq').2⟩, h4, off _ _ gty _ h5, off _ _ gky _ h5, fun e => (by rw [e, gty] at hx; cases hx), fun e => (by rw [e, gky] at hx; cases hx)⟩
        refine ⟨kp, _, _, rfl, rfl, S9 _ _ gky, by rw [List.length_map]; omega, ?_⟩
        refine ⟨zs ++ [z], ks ++ [x], _, _, rfl, grow_same hkp0 (S0y.trans S9), (upd_ne kt.symm).trans (S9 _ _ gty), by rw [upd_same, List.map_append]; rfl, by rw [List.length_append, zl]; rfl, by rw [List.length_append, kl]; rfl, fun j z' a h1 h2 => ?_⟩
        rcases Nat.lt_or_ge j i with h | h
        · rw [List.getElem?_append_left (by omega)] at h1 h2
          obtain ⟨w1, w2⟩ := gey j z' a h1 h2
          exact ⟨w1, (w2.same S9).kp⟩
        · rw [List.getElem?_append_right (by omega)] at h1 h2
          have hj0 : j = i := by
            have := (List.getElem?_eq_some_iff.mp h1).1
            simp at this; omega
          subst hj0
          rw [zl, Nat.sub_self] at h1
          rw [kl, Nat.sub_self] at h2
          cases h1
          cases h2
          exact ⟨tok, rko.kp⟩
      · walk_at "rd"
        rw [decide_eq_true (by omega)]
        walk_at "rd"
        refine ⟨by omega, fun H9 S9 hgood => ?_, fun kb2 H9 S9 hbad2 => ?_⟩
        · exfalso
          obtain ⟨b1, b2, b3⟩ := hbad
          have e : (rlsOf z)[kb]? = some (rlsOf z)[kb] := List.getElem?_eq_getElem b1
          have := hgood _ (List.mem_of_getElem? e)
          rw [b3 _ e] at this; cases this
        obtain rfl := hbad.one hbad2
        refine ⟨z, kb, rfl, by omega, hbad, fun HA SA => ?_⟩
        refine ⟨_, rfl, ?_⟩
        walk_at "rd"
        refine ⟨by omega, fun z2 HB SB l2 g2 n2 => ?_⟩
        have SX := S7.trans (S8.trans (S9.trans (SA.trans SB)))
        have tok : TxtOk z2 := ⟨l2, n2, g2⟩
        walk_at "rd"
        have gt8 := SX _ _ gt
        have gk8 := SX _ _ gk
        refine ⟨.inl ⟨rfl, _, SqL.of gt8⟩, ?_⟩
        walk_at "rd"
        refine ⟨tx, _, _, rfl, rfl, gt8, by rw [List.length_map]; omega, ?_⟩
        obtain ⟨Gy, eGy⟩ : ∃ Gy : Hp, Gy = upd HB tx (.lst (zs.map V.str ++ [V.str z2])) := ⟨_, rfl⟩
        have gty : Gy tx = some (.lst ((zs ++ [z2]).map V.str)) := by rw [eGy, upd_same, List.map_append]; rfl
        have gky : Gy kp = some (.lst (ks.map V.ref)) := by rw [eGy, upd_ne kt]; exact gk8
        have S0y : Same G0 Gy := by rw [eGy]; exact grow_same htx (S2.trans SX)
        have gey : ∀ (j : Nat) (z' : Str) (a : Addr), zs[j]? = some z' → ks[j]? = some a → TxtOk z' ∧ RksOff C_RuleKeeper Gy a (rlsOf z') tx kp := fun j z' a h1 h2 => by
          obtain ⟨w1, w2⟩ := ge j z' a h1 h2
          exact ⟨w1, by rw [eGy]; exact (w2.same SX).tx⟩
        rw [← eGy]
        clear eGy gt8 gk8
        walk_at "rd"
        refine ⟨.inl ⟨rfl, _, SqL.of gky⟩, ?_⟩
        walk_at "rd"
        intro x dx hx hdx nd
        have off : ∀ (c : Addr) (o : HO), Gy c = some o → ∀ d : Addr, (upd (upd Gy dx (.own x)) x (.ins C_RuleKeeper dx [])) d = none → d ≠ c := fun c o hc d hd e => by
          rw [e, upd_ne (ne_of_none hc hx), upd_ne (ne_of_none hc hdx), hc] at hd; cases hd
        refine ⟨x, dx, z2, rfl, (tok).1, upd_same, (tok).2.2, fun H9 e9 rk => ⟨rfl, ?_⟩⟩
        have S9 := mk_sameB hx hdx e9
        have rko : RksOff C_RuleKeeper H9 x (rlsOf z2) tx kp := by
          obtain ⟨dx2, b2, prs2, h1, h2, h3, h4, h5⟩ := rk
          exact ⟨dx2, b2, prs2, h1, h2, fun q' hq' => ⟨(h3 q' hq').1, off _ _ gty _ (h3 q' hq').2, off _ _ gky _ (h3 q' hq').2⟩, h4, off _ _ gty _ h5, off _ _ gky _ h5, fun e => (by rw [e, gty] at hx; cases hx), fun e => (by rw [e, gky] at hx; cases hx)⟩
        refine ⟨kp, _, _, rfl, rfl, S9 _ _ gky, by rw [List.length_map]; omega, ?_⟩
        refine ⟨zs ++ [z2], ks ++ [x], _, _, rfl, grow_same hkp0 (S0y.trans S9), (upd_ne kt.symm).trans (S9 _ _ gty), by rw [upd_same, List.map_append]; rfl, by rw [List.length_append, zl]; rfl, by rw [List.length_append, kl]; rfl, fun j z' a h1 h2 => ?_⟩
        rcases Nat.lt_or_ge j i with h | h
        · rw [List.getElem?_append_left (by omega)] at h1 h2
          obtain ⟨w1, w2⟩ := gey j z' a h1 h2
          exact ⟨w1, (w2.same S9).kp⟩
        · rw [List.getElem?_append_right (by omega)] at h1 h2
          have hj0 : j = i := by
            have := (List.getElem?_eq_some_iff.mp h1).1
            simp at this; omega
          subst hj0
          rw [zl, Nat.sub_self] at h1
          rw [kl, Nat.sub_self] at h2
          cases h1
          cases h2
          exact ⟨tok, rko.kp⟩
    · rintro σ G2 ⟨zs, ks, y2, v, rfl, S2, gt, gk, zl, kl, ge⟩
      have hT2 := hT.same S2
      obtain ⟨gs, gst, gsl, gsd⟩ := hT2
      obtain ⟨g0, g1, g2, rfl⟩ : ∃ g0 g1 g2, gs = [g0, g1, g2] := by
        match gs, gsl with
        | [a, b, c], _ => exact ⟨a, b, c, rfl⟩
      have gst : G2 t = some (.lst [.ref g0, .ref g1, .ref g2]) := gst
      walk_at "rd"
      refine ⟨t, _, rfl, SqL.of gst, fun u hu => ?_⟩
      rw [show cutV [V.ref g0, .ref g1, .ref g2] none (some 1) = [.ref g0] from rfl]
      have Su : Same G2 (upd G2 u (.lst [V.ref g0])) := Same.upd hu
      refine ⟨t, u, _, _, rfl, rfl, Su _ _ gst, upd_same, by show 4 ≤ sizeLine; decide, fun L hL => ?_⟩
      obtain ⟨HL, eL⟩ : ∃ HL : Hp, HL = upd (upd G2 u (.lst [V.ref g0])) L (.lst ([V.ref g0, .ref g1, .ref g2] ++ [V.ref g0])) := ⟨_, rfl⟩
      have L1 : HL L = some (.lst [V.ref g0, .ref g1, .ref g2, .ref g0]) := by rw [eL]; exact upd_same
      have SL : Same G2 HL := by rw [eL]; exact Su.trans (Same.upd hL)
      rw [← eL]
      clear eL hL Su hu
      have hRL := gR.same (S2.trans SL)
      have hqL := (S2.trans SL) _ _ gq
      refine ⟨L, rfl, ⟨_, SqL.of L1⟩, for_list (K := K) (a := L) (xs := [V.ref g0, .ref g1, .ref g2, .ref g0]) (fun i σ H' => ∃ (y v st : Option V), σ = [some (V.ref sa), some (.ref b), some (.ref q), some (.ref r), some (.ref t), y, some (.ref tx), some (.ref kp), v, st] ∧ Same HL H')
        ⟨_, _, _, rfl, Same.refl _⟩ (fun i σ H' _ ⟨_, _, _, _, h⟩ => SqL.of (h _ _ L1)) ?_ ?_⟩
      · rintro i x σ G3 hi ⟨y3, v3, st3, rfl, S3⟩
        obtain ⟨g, rfl, hg⟩ : ∃ g, x = .ref g ∧ g ∈ [g0, g1, g2] := by
          rcases i with _ | _ | _ | _ | i
          · cases hi; exact ⟨g0, rfl, by simp⟩
          · cases hi; exact ⟨g1, rfl, by simp⟩
          · cases hi; exact ⟨g2, rfl, by simp⟩
          · cases hi; exact ⟨g0, rfl, by simp⟩
          · cases hi
        obtain ⟨l, p, ph, gg⟩ := gsd g hg
        walk_at "rd"
        refine ⟨by decide, by decide, ?_⟩
        refine for_range (fun i σ H' => ∃ (y v : Option V), σ = [some (V.ref sa), some (.ref b), some (.ref q), some (.ref r), some (.ref t), y, some (.ref tx), some (.ref kp), v, some (.ref g)] ∧ Same HL H') ⟨_, _, rfl, S3⟩ ?_ ?_
        · rintro i σ G4 hi2 ⟨y4, v4, rfl, S4⟩
          have i2 : i < 2 := by omega
          have T4 := SL.trans S4
          have ez : zs[i]? = some zs[i] := List.getElem?_eq_getElem (by omega)
          have ek : ks[i]? = some ks[i] := List.getElem?_eq_getElem (by omega)
          generalize zs[i] = z at ez
          generalize ks[i] = a at ek
          obtain ⟨tok, rko⟩ := ge i z a ez ek
          have ei : (0 : Int) + ((i : Nat) : Int) = ((i : Nat) : Int) := by omega
          walk_at "rd"
          refine ⟨kp, _, _, .ref a, rfl, rfl, SqL.of (T4 _ _ gk), by rw [ei]; exact atI_nat (by rw [List.getElem?_map, ek]; rfl), ?_⟩
          walk_at "rd"
          refine ⟨tx, _, _, .str z, rfl, rfl, SqL.of (T4 _ _ gt), by rw [ei]; exact atI_nat (by rw [List.getElem?_map, ez]; rfl), ?_⟩
          walk_at "rd"
          refine ⟨a, g, q, r, z, l, p, ph, bs, rfl, (rko.same T4).at, tok.2.2, tok.2.1, tok.1, gg.same T4, S4 _ _ hqL, ok, hRL.same S4, fun H5 S5 => ?_⟩
          refine ⟨_, rfl, ?_⟩
          walk_at "rd"
          exact S4.trans S5
        · rintro σ G4 ⟨y4, v4, rfl, S4⟩
          exact ⟨_, _, _, rfl, S4⟩
      · rintro σ G3 ⟨y3, v3, st3, rfl, S3⟩
        walk_at "rd"
        refine ⟨by decide, ⟨by decide +kernel, fun j ws h => absurd h (Nat.not_lt_zero _), fun ws h => ?_⟩, fun H5 S5 => ?_⟩
        · have : rlsOf "" = [[("" : Str)]] := by decide +kernel
          rw [this] at h
          cases h
          decide +kernel
        · refine ⟨_, rfl, iteT ?_⟩
          have T5 := S3.trans S5
          obtain ⟨dr, tr, hr1, hr2⟩ := hRL.same T5
          walk_at "rd"
          refine ⟨r, dr, _, rfl, hr1, r, bs, rfl, ⟨dr, tr, hr1, hr2⟩, fun w2 hw2 => ?_⟩
          walk_at "rd"
          refine eqd_ints (as := bs) (bs := bs) (SqL.of upd_same) (SqL.of (Same.upd hw2 _ _ (T5 _ _ hqL))) ?_
          rw [decide_eq_true rfl]
          exact k _
end
end Cl

/-! ### a constant of the module that is a tuple: where it stands -/
namespace Cl
open PySem PySem.Spec PyProof.Rows L2
structure GvAtT (K : PySem.W.Frag) (x : Str) (xs : List V) : Prop where
  ex : ∃ a : Addr, PySem.W.nsIn K mainGlobals x = some (some (.ref a)) ∧ ∀ H, SqT K H a xs
theorem GvAtT.gv {K : PySem.W.Frag} {x : Str} {xs : List V} {h : Heap} {mg : Str → Option Value} (t : GvAtT K x xs) (X : K.In h) (G : h.Ns mainGlobals mg) : GvT K mg x xs := by
  obtain ⟨a, e, s⟩ := t.ex
  exact ⟨a, PySem.W.mg_of X G e, s⟩
end Cl

/-! ### the head: the top in one run of the kernel, each fact a Bool of what it leaves -/
namespace Hq
open PySem PySem.Spec PyProof.Rows L2 Cl StX ClX
abbrev Fq : Type := PySem.W.Frag → Bool
abbrev FnQ : Type := Option (Str × Str × Arguments × FuncBody × Scope × Addr × Addr)
def fnQ (K : PySem.W.Frag) (f : Addr) : FnQ := match K.lookup f with
  | some ⟨_, _, .func fd, _⟩ => some (fd.name, fd.qualname, fd.params, fd.body, fd.scope, fd.globals, fd.builtins)
  | _ => none
/-- one def: where it stands, its name, its qualified name, its text -/
structure DefQ where
  ad : PySem.W.Frag → Addr
  name : Str
  qual : Str
  st : Stmt
def valOf (name qual : Str) (st : Stmt) : FnQ := some (name, qual, defArgs st, .stmts (defBody st), defScope st, mainGlobals, builtinsNs)
def DefQ.val (d : DefQ) : FnQ := valOf d.name d.qual d.st
/-! what is forced ahead -/
def frA {α : Type} : List Addr → (List Addr → α) → α
  | [], k => k []
  | a :: r, k => HandSHeadRun.frNat a fun a => frA r fun r => k (a :: r)
theorem frA_eq {α : Type} : ∀ (l : List Addr) (k : List Addr → α), frA l k = k l
  | [], _ => rfl
  | a :: r, k => by
    show HandSHeadRun.frNat a (fun a => frA r fun r => k (a :: r)) = _
    rw [HandSHeadRun.frNat_eq, frA_eq r]
def frK {α : Type} : PySem.W.Frag → (PySem.W.Frag → α) → α
  | [], k => k []
  | (a, ⟨c, d, dt, sl⟩) :: r, k => frK r fun r => k ((a, ⟨c, d, dt, sl⟩) :: r)
theorem frK_eq {α : Type} : ∀ (l : PySem.W.Frag) (k : PySem.W.Frag → α), frK l k = k l
  | [], _ => rfl
  | (a, ⟨c, d, dt, sl⟩) :: r, k => by
    show frK r (fun r => k ((a, ⟨c, d, dt, sl⟩) :: r)) = _
    rw [frK_eq r]
/-! what the names reach -/
def refsQ (o : Obj) : List Addr := match o.data with
  | .seq its _ => its.toList.flatMap He.refV
  | .dict es _ => es.toList.flatMap fun e => He.refV e.val
  | .func fd => He.refV fd.code ++ He.refV fd.defaults ++ He.refV fd.kwdefaults ++ fd.closure.map (·.2)
  | .cls cd => cd.ns :: cd.mro.flatMap He.refV
  | .fields vs => (match o.cls with
    | .type n => (match decide (n = "property") || decide (n = "staticmethod") with
      | true => vs.toList.flatMap He.refV
      | false => [])
    | _ => [])
  | _ => []
def nextQ (g : Addr → Option Obj) (as : List Addr) : List Addr := (as.flatMap fun a => match g a with
  | some o => refsQ o
  | none => []).eraseDups
def levQ {α : Type} (g : Addr → Option Obj) : Nat → List Addr → List Addr → (List Addr → α) → α
  | 0, all, _, k => k all
  | n + 1, all, cur, k => frA (nextQ g cur) fun nx => frA ((all ++ nx).eraseDups) fun al => levQ g n al nx k
theorem levQ_eq {α : Type} (g : Addr → Option Obj) : ∀ (n : Nat) (all cur : List Addr), ∃ as, ∀ k : List Addr → α, levQ g n all cur k = k as
  | 0, all, _ => ⟨all, fun _ => rfl⟩
  | n + 1, all, cur => by
    obtain ⟨as, h⟩ := levQ_eq (α := α) g n ((all ++ nextQ g cur).eraseDups) (nextQ g cur)
    refine ⟨as, fun k => ?_⟩
    show frA (nextQ g cur) (fun nx => frA ((all ++ nx).eraseDups) fun al => levQ g n al nx k) = _
    rw [frA_eq, frA_eq, h]
abbrev AlQ : Type := List Bool × List FnQ
def obsQ (fa : List Fq) (fn : List DefQ) (K : PySem.W.Frag) : AlQ := (fa.map fun f => f K, fn.map fun d => fnQ K (d.ad K))
def valQ (fa : List Fq) (fn : List DefQ) : AlQ := (fa.map fun _ => true, fn.map DefQ.val)
def SaysQ (fa : List Fq) (fn : List DefQ) (K : PySem.W.Frag) : Prop := obsQ fa fn K = valQ fa fn
def obsG (fa : List Fq) (fn : List DefQ) (g : Addr → Option Obj) : AlQ := levQ g 5 [mainGlobals, cStatics] [mainGlobals] fun as => frK (He.frG g as) fun K => obsQ fa fn K
/-- groups of facts: each group is looked at in a run of its own, so that no run takes too much memory -/
abbrev Gq : Type := List Fq × List DefQ
def valP (x : Gq) : AlQ := valQ x.1 x.2
def obG (gs : List Gq) (g : Addr → Option Obj) : List AlQ := gs.map fun x => obsG x.1 x.2 g
theorem obG_eq (g : Addr → Option Obj) : ∃ as, ∀ fa fn, obsG fa fn g = obsQ fa fn (He.frG g as) := by
  obtain ⟨as, h⟩ := levQ_eq (α := AlQ) g 5 [mainGlobals, cStatics] [mainGlobals]
  exact ⟨as, fun fa fn => by unfold obsG; rw [h, frK_eq]⟩
def hook (gs : List Gq) : PySem.W.Hook where
  α := List AlQ
  obs := fun s => obG gs s.heap.get?
  val := fun _ => gs.map valP
  says := fun _ h => ∃ K : PySem.W.Frag, K.In h ∧ ∀ x ∈ gs, SaysQ x.1 x.2 K
  of := fun _ s e => by
    obtain ⟨as, h⟩ := obG_eq s.heap.get?
    exact ⟨_, He.frG_in, fun x hx => (h x.1 x.2).symm.trans (List.map_inj_left.mp e x hx)⟩
  keeps := fun _ _ _ ⟨K, hK, c⟩ k => ⟨K, PySem.W.Frag.In.keeps hK k, c⟩
def ob1 (x : Gq) (s : PySem.W.SharedT) : AlQ := obsG x.1 x.2 (HandSHeadRun.getT s)
def ob (gs : List Gq) (s : PySem.W.SharedT) : List AlQ := gs.map fun x => ob1 x s
theorem ob_eq (gs : List Gq) (s : PySem.W.SharedT) : ob gs s = (hook gs).obs s.abs := by
  have e : HandSHeadRun.getT s = s.abs.heap.get? := funext (HandSHeadRun.getT_eq s)
  show (gs.map fun x => obsG x.1 x.2 (HandSHeadRun.getT s)) = gs.map fun x => obsG x.1 x.2 s.abs.heap.get?
  rw [e]
section
variable {α β : Type} {x : Option PySem.W.SharedT} {f : PySem.W.SharedT → α} {g : PySem.W.SharedT → β} {a : α} {b : β} {gs : List Gq} {y : Gq}
theorem join (h1 : x.map (fun s => (f s, g s)) = some (a, b)) (h2 : x.map (ob gs) = some (gs.map valP)) : x.map (fun s => (f s, g s, ob gs s)) = some (a, b, gs.map valP) := by
  cases x with
  | none => cases h1
  | some s =>
    obtain ⟨e1, e2⟩ := Prod.mk.inj (Option.some.inj h1)
    show some (f s, g s, ob gs s) = _
    rw [e1, e2, Option.some.inj h2]
theorem more (h1 : x.map (ob1 y) = some (valP y)) (h2 : x.map (ob gs) = some (gs.map valP)) : x.map (ob (y :: gs)) = some ((y :: gs).map valP) := by
  cases x with
  | none => cases h1
  | some s =>
    have e1 : ob1 y s = valP y := Option.some.inj h1
    have e2 : ob gs s = gs.map valP := Option.some.inj h2
    show some (ob1 y s :: ob gs s) = some (valP y :: gs.map valP)
    rw [e1, e2]
theorem noMore (h1 : x.map f = some a) : x.map (ob []) = some (([] : List Gq).map valP) := by
  cases x with
  | none => cases h1
  | some s => rfl
end
section
variable {fa : List Fq} {fn : List DefQ} {K : PySem.W.Frag}
theorem SaysQ.fact (c : SaysQ fa fn K) (i : Nat) {f : Fq} (h : fa[i]? = some f) : f K = true := by
  have e : fa.map (fun f => f K) = fa.map fun _ => true := congrArg (fun z : AlQ => z.1) c
  have e2 : (fa.map fun f => f K)[i]? = (fa.map fun _ => true)[i]? := by rw [e]
  rw [List.getElem?_map, List.getElem?_map, h] at e2
  exact Option.some.inj e2
theorem SaysQ.def_ (c : SaysQ fa fn K) (i : Nat) {d : DefQ} (h : fn[i]? = some d) : fnQ K (d.ad K) = d.val := by
  have e : fn.map (fun d => fnQ K (d.ad K)) = fn.map DefQ.val := congrArg (fun z : AlQ => z.2) c
  have e2 : (fn.map fun d => fnQ K (d.ad K))[i]? = (fn.map DefQ.val)[i]? := by rw [e]
  rw [List.getElem?_map, List.getElem?_map, h] at e2
  exact Option.some.inj e2
end
/-! ### defs -/
section
variable {K : PySem.W.Frag} {x m qual : Str} {st : Stmt} {f : Addr} {dvs : List V} {kws : List (Str × V)}
def fnB (K : PySem.W.Frag) (f : Addr) (qual : Str) (dvs : List V) (kws : List (Str × V)) : Bool := PySem.W.keepIn K (.ref f) && (match K.lookup f with
  | some ⟨_, _, .func fd, _⟩ => PySem.W.codeIn K fd.code qual && (fd.closure.isEmpty && (He.dflB K fd.defaults dvs && He.kwdB K fd.kwdefaults kws))
  | _ => false)
theorem funD (e : fnQ K f = valOf x qual st) (c : fnB K f qual dvs kws = true) : ∃ fd, FunD K x qual (defArgs st) (defBody st) (defScope st) dvs kws f fd := by
  obtain ⟨kp, c2⟩ := He.ba c
  unfold fnQ at e
  cases q : K.lookup f with
  | none =>
    rw [q] at c2
    cases c2
  | some o =>
    obtain ⟨oc, od, dt, osl⟩ := o
    rw [q] at c2 e
    cases dt with
    | func fd =>
      obtain ⟨n1, n2, n3, n4, n5, n6, n7, n8, n9, n10, n11, n12, n13, n14, n15⟩ := fd
      have e2 : (some (n1, n2, n3, n4, n5, n6, n15) : FnQ) = some (x, qual, defArgs st, .stmts (defBody st), defScope st, mainGlobals, builtinsNs) := e
      simp only [Option.some.injEq, Prod.mk.injEq] at e2
      obtain ⟨h1, h2, h3, h4, h5, h6, h7⟩ := e2
      subst h1 h2 h3 h4 h5 h6 h7
      have c3 : (PySem.W.codeIn K n13 n2 && (n7.isEmpty && (He.dflB K n8 dvs && He.kwdB K n9 kws))) = true := c2
      obtain ⟨k1, k2⟩ := He.ba c3
      obtain ⟨k3, k4⟩ := He.ba k2
      obtain ⟨k5, k6⟩ := He.ba k4
      obtain rfl : n7 = [] := List.isEmpty_iff.mp k3
      exact ⟨_, ⟨oc, od, n8, n9, n10, n11, n12, n13, n14, osl, rfl, q, k1, He.dflB_ok k5, He.kwdB_ok k6⟩, kp⟩
    | _ => cases c2
theorem fun0 {fd : FuncData} (F : FunD K x qual (defArgs st) (defBody st) (defScope st) [] kws f fd) : Fun K x qual st f fd := by
  obtain ⟨oc, od, dV, kV, doc, pm, an, cdv, ct, osl, e, lk, hcd, hd, _⟩ := F.ex
  rcases hd with ⟨_, rfl⟩ | ⟨h, _⟩
  · exact ⟨⟨oc, od, kV, doc, pm, an, cdv, ct, osl, e, lk, hcd⟩, F.kp⟩
  · exact absurd rfl h
def topB (x qual : Str) (dvs : List V) (kws : List (Str × V)) : Fq := fun K => He.eqO (PySem.W.nsIn K mainGlobals x) (some (some (.ref (He.ga K x)))) && fnB K (He.ga K x) qual dvs kws
theorem atTopQ (e : fnQ K (He.ga K x) = valOf x qual st) (c : topB x qual [] kws K = true) : AtTop K x qual st kws := by
  obtain ⟨c1, c2⟩ := He.ba c
  obtain ⟨fd, F⟩ := funD e c2
  exact ⟨_, fd, He.eqO_ok c1, fun0 F, F⟩
def clB (cl m qual : Str) (dvs : List V) (kws : List (Str × V)) : Fq := fun K => He.eqO (PySem.W.findIn K (.ref (He.ga K cl)) m) (some (some (.ref (He.ma K (He.ga K cl) m)))) && (PySem.W.isFn K (.ref (He.ma K (He.ga K cl) m)) && fnB K (He.ma K (He.ga K cl) m) qual dvs kws)
theorem atClsQ {cl : Str} (e : fnQ K (He.ma K (He.ga K cl) m) = valOf m qual st) (c : clB cl m qual [] [] K = true) : AtCls K (He.ga K cl) m qual st := by
  obtain ⟨c1, c2⟩ := He.ba c
  obtain ⟨c3, c4⟩ := He.ba c2
  obtain ⟨fd, F⟩ := funD e c4
  exact ⟨_, fd, He.eqO_ok c1, c3, fun0 F⟩
def recA (K : PySem.W.Frag) (p : Addr) (T : String) : Addr := match PySem.W.recIn K p T with
  | some (.ref g :: _) => g
  | _ => 0
def recB (K : PySem.W.Frag) (p : Addr) (T : String) : Bool := match PySem.W.recIn K p T with
  | some (.ref _ :: _) => true
  | _ => false
theorem rec_ok {p : Addr} {T : String} (h : recB K p T = true) : ∃ rest, PySem.W.recIn K p T = some (.ref (recA K p T) :: rest) := by
  unfold recB at h
  unfold recA
  split at h
  · rename_i g r q
    exact ⟨r, by rw [q]⟩
  · cases h
def getA (cl m : Str) (T : String) (K : PySem.W.Frag) : Addr := recA K (He.ma K (He.ga K cl) m) T
def propB (cl m qual : Str) : Fq := fun K => He.eqO (PySem.W.findIn K (.ref (He.ga K cl)) m) (some (some (.ref (He.ma K (He.ga K cl) m)))) && (He.eqO (PySem.W.specialIn K (.ref (He.ma K (He.ga K cl) m)) "__get__") (some (some (.builtin "property.__get__"))) &&
  (decide (PySem.W.takesIn K (.ref (He.ma K (He.ga K cl) m)) = some true) && (recB K (He.ma K (He.ga K cl) m) "property" && fnB K (getA cl m "property" K) qual [] [])))
theorem atPropQ {cl : Str} (e : fnQ K (getA cl m "property" K) = valOf m qual st) (c : propB cl m qual K = true) : AtProp K (He.ga K cl) m qual st := by
  obtain ⟨c1, c⟩ := He.ba c
  obtain ⟨c2, c⟩ := He.ba c
  obtain ⟨c3, c⟩ := He.ba c
  obtain ⟨c4, c5⟩ := He.ba c
  obtain ⟨fd, F⟩ := funD e c5
  exact ⟨_, _, fd, ⟨He.eqO_ok c1, He.eqO_ok c2, of_decide_eq_true c3, rec_ok c4⟩, fun0 F⟩
def tyA (K : PySem.W.Frag) (C : Addr) : Value := match PySem.W.typeIn K (.ref C) with
  | some v => v
  | none => .none
def readB (K : PySem.W.Frag) (C : Addr) : Bool := PySem.W.readsIn K C (tyA K C) && He.eqO (PySem.W.specialIn K (.ref C) "__getattribute__") (some (some (.builtin "type.__getattribute__")))
theorem read_ok {C : Addr} (h : readB K C = true) : CRead K C (tyA K C) := by
  obtain ⟨h1, h2⟩ := He.ba h
  exact ⟨h1, He.eqO_ok h2⟩
def statB (cl m qual : Str) : Fq := fun K => readB K (He.ga K cl) && ((match PySem.W.findCls K (.ref (He.ga K cl)) (tyA K (He.ga K cl)) m with
  | some (.get (.builtin b) (.ref q) .none (.ref D)) => decide (b = "staticmethod.__get__") && (decide (q = He.ma K (He.ga K cl) m) && decide (D = He.ga K cl))
  | _ => false) && (recB K (He.ma K (He.ga K cl) m) "staticmethod" && fnB K (getA cl m "staticmethod" K) qual [] []))
theorem atStatQ {cl : Str} (e : fnQ K (getA cl m "staticmethod" K) = valOf m qual st) (c : statB cl m qual K = true) : AtStat K (He.ga K cl) m qual st := by
  obtain ⟨c1, c⟩ := He.ba c
  obtain ⟨c2, c⟩ := He.ba c
  obtain ⟨c3, c4⟩ := He.ba c
  obtain ⟨fd, F⟩ := funD e c4
  split at c2
  · rename_i b q D z
    obtain ⟨d1, d2⟩ := He.ba c2
    obtain ⟨d2, d3⟩ := He.ba d2
    rw [of_decide_eq_true d1, of_decide_eq_true d2, of_decide_eq_true d3] at z
    exact ⟨_, _, fd, _, read_ok c1, ⟨z, rec_ok c3⟩, fun0 F⟩
  · cases c2
def conB (cl m : Str) (v : V) : Fq := fun K => readB K (He.ga K cl) && (match PySem.W.findCls K (.ref (He.ga K cl)) (tyA K (He.ga K cl)) m with
  | some (.val u) => He.relB v u
  | _ => false)
theorem conQ {cl : Str} {v : V} (c : conB cl m v K = true) : ∃ mc u, CRead K (He.ga K cl) mc ∧ CVal K (He.ga K cl) mc m v u := by
  obtain ⟨c1, c2⟩ := He.ba c
  split at c2
  · rename_i u z
    exact ⟨_, u, read_ok c1, ⟨z, He.relB_ok c2⟩⟩
  · cases c2
def acB (x : Str) : Fq := fun K => He.eqO (PySem.W.nsIn K mainGlobals x) (some (some (.ref (He.ga K x)))) && (PySem.W.plainGet K (He.ga K x) Str.empty && (PySem.W.hasDictIn K (He.ga K x) && (PySem.W.plainOver K (He.ga K x) &&
  (He.eqO (PySem.W.findIn K (.ref (He.ga K x)) "__setattr__") (some (some (.builtin "object.__setattr__"))) && (He.eqO (PySem.W.findIn K (.ref (He.ga K x)) "__class__") (some (some (.builtin "object.__class__"))) &&
  (He.eqO (PySem.W.specialIn K (.builtin "object.__class__") "__get__") (some (some (.builtin "getset_descriptor.__get__"))) && (decide (PySem.W.takesIn K (.builtin "object.__class__") = some true) &&
  (decide (PySem.W.mroIn K (He.ga K x) (.type "object") = some true) && (PySem.W.selfFirst K (He.ga K x) && (PySem.W.makesIn K (He.ga K x) && PySem.W.keepIn K (.ref (He.ga K x))))))))))))
theorem acQ (c : acB x K = true) : AtC K x (He.ga K x) := by
  obtain ⟨c1, c⟩ := He.ba c
  obtain ⟨c2, c⟩ := He.ba c
  obtain ⟨c3, c⟩ := He.ba c
  obtain ⟨c4, c⟩ := He.ba c
  obtain ⟨c5, c⟩ := He.ba c
  obtain ⟨c6, c⟩ := He.ba c
  obtain ⟨c7, c⟩ := He.ba c
  obtain ⟨c8, c⟩ := He.ba c
  obtain ⟨c9, c⟩ := He.ba c
  obtain ⟨c10, c⟩ := He.ba c
  obtain ⟨c11, c12⟩ := He.ba c
  exact atC (He.eqO_ok c1) c2 c3 c4 (He.eqO_ok c5) (He.eqO_ok c6) (He.eqO_ok c7) (of_decide_eq_true c8) (of_decide_eq_true c9) c10 c11 c12
def gvB (x : Str) (v : V) : Fq := fun K => match PySem.W.nsIn K mainGlobals x with
  | some (some u) => He.relB v u
  | _ => false
theorem gvQ {v : V} (c : gvB x v K = true) : ∃ u, PySem.W.nsIn K mainGlobals x = some (some u) ∧ RelV v u := by
  unfold gvB at c
  split at c
  · rename_i u z
    exact ⟨u, z, He.relB_ok c⟩
  · cases c
def nsB (x : Str) (v : PySem.W.Frag → Option Value) : Fq := fun K => He.eqO (PySem.W.nsIn K mainGlobals x) (some (v K))
theorem nsQ {v : PySem.W.Frag → Option Value} (c : nsB x v K = true) : PySem.W.nsIn K mainGlobals x = some (v K) := He.eqO_ok c
def naB (cl m : Str) : Fq := fun K => He.eqO (PySem.W.findIn K (.ref (He.ga K cl)) m) (some none)
theorem naQ {cl : Str} (c : naB cl m K = true) : PySem.W.findIn K (.ref (He.ga K cl)) m = some none := He.eqO_ok c
def fbB (cl m : Str) (n : String) : Fq := fun K => He.eqO (PySem.W.findIn K (.ref (He.ga K cl)) m) (some (some (.builtin n)))
theorem fbQ {cl m : Str} {n : String} (c : fbB cl m n K = true) : PySem.W.findIn K (.ref (He.ga K cl)) m = some (some (.builtin n)) := He.eqO_ok c
def exmB (a b : Str) (v : Bool) : Fq := fun K => decide (PySem.W.exmOne K (.ref (He.ga K a)) (.ref (He.ga K b)) = some v)
theorem exmQ {a b : Str} {v : Bool} (c : exmB a b v K = true) : PySem.W.exmOne K (.ref (He.ga K a)) (.ref (He.ga K b)) = some v := of_decide_eq_true c
def exmTB (a : Str) (t : String) (v : Bool) : Fq := fun K => decide (PySem.W.exmOne K (.ref (He.ga K a)) (.type t) = some v)
theorem exmTQ {a : Str} {t : String} {v : Bool} (c : exmTB a t v K = true) : PySem.W.exmOne K (.ref (He.ga K a)) (.type t) = some v := of_decide_eq_true c
def exTTB (s t : String) (v : Bool) : Fq := fun K => decide (PySem.W.exmOne K (.type s) (.type t) = some v)
theorem exTTQ {s t : String} {v : Bool} (c : exTTB s t v K = true) : PySem.W.exmOne K (.type s) (.type t) = some v := of_decide_eq_true c
def kitB (a b : Str) (v : Bool) : Fq := fun K => decide (PySem.W.kitOne K (.ref (He.ga K a)) (.ref (He.ga K b)) = some v)
theorem kitQ {a b : Str} {v : Bool} (c : kitB a b v K = true) : PySem.W.kitOne K (.ref (He.ga K a)) (.ref (He.ga K b)) = some v := of_decide_eq_true c
def kitTB (a : Str) (t : String) (v : Bool) : Fq := fun K => decide (PySem.W.kitOne K (.ref (He.ga K a)) (.type t) = some v)
theorem kitTQ {a : Str} {t : String} {v : Bool} (c : kitTB a t v K = true) : PySem.W.kitOne K (.ref (He.ga K a)) (.type t) = some v := of_decide_eq_true c
def subB (a b : Str) (v : Bool) : Fq := fun K => decide (PySem.W.subIn K (.ref (He.ga K a)) (.ref (He.ga K b)) = some v)
theorem subQ {a b : Str} {v : Bool} (c : subB a b v K = true) : PySem.W.subIn K (.ref (He.ga K a)) (.ref (He.ga K b)) = some v := of_decide_eq_true c
def subTB (a : Str) (t : String) (v : Bool) : Fq := fun K => decide (PySem.W.subIn K (.ref (He.ga K a)) (.type t) = some v)
theorem subTQ {a : Str} {t : String} {v : Bool} (c : subTB a t v K = true) : PySem.W.subIn K (.ref (He.ga K a)) (.type t) = some v := of_decide_eq_true c
end
theorem atTopPQ {K : PySem.W.Frag} {x qual : Str} {st : Stmt} {dvs : List V} (e : fnQ K (He.ga K x) = valOf x qual st) (c : topB x qual dvs [] K = true) : AtTopP K x qual st dvs := by
  obtain ⟨c1, c2⟩ := He.ba c
  obtain ⟨fd, F⟩ := funD e c2
  exact ⟨_, fd, He.eqO_ok c1, F⟩
/-! ### own errors -/
section
variable {K : PySem.W.Frag} {x : Str}
def ecB (K : PySem.W.Frag) (C : Addr) : Bool := match K.lookup C with
  | some ⟨.type t, _, .cls cd, sl⟩ => decide (t = "type") && ((match cd.mro with
    | .ref c :: bm => decide (c = C) && PySem.HandSPX.refsVE bm
    | _ => false) && (cd.hasDict && (!cd.hasDel && (match sl.toList with
    | [_, _, _, _, some (.builtin n), _] => decide (n = "ValueError.__new__")
    | _ => false))))
  | _ => false
theorem ec_ok {C : Addr} (h : ecB K C = true) : ∃ nm q N bs bm sn sub ab col dd k0 k1 k2 k3 k5, K.lookup C = some (excClassObj nm q C N bs bm true sn sub ab col dd k0 k1 k2 k3 k5 "ValueError.__new__") ∧ PySem.HandSPX.refsVE bm = true := by
  unfold ecB at h
  split at h
  · rename_i t dd cd sl z
    obtain ⟨h1, g1⟩ := He.ba h
    clear h
    obtain ⟨h2, g2⟩ := He.ba g1
    clear g1
    obtain ⟨h3, g3⟩ := He.ba g2
    clear g2
    obtain ⟨h4, h5⟩ := He.ba g3
    clear g3
    obtain ⟨nm, bs, mro, N, q, hd, sn, sub, ab, col, del⟩ := cd
    dsimp only at h2 h3 h4
    have e1 := of_decide_eq_true h1
    split at h2
    · rename_i c bm
      obtain ⟨h6, h7⟩ := He.ba h2
      have e2 := of_decide_eq_true h6
      split at h5
      · rename_i k0 k1 k2 k3 n k5 y
        have e3 := of_decide_eq_true h5
        have e4 : sl = #[k0, k1, k2, k3, some (.builtin n), k5] := by rw [← Array.toArray_toList (xs := sl), y]
        have e5 : del = false := by simpa using h4
        subst e1 e2 e3 e4 e5 h3
        exact ⟨nm, q, N, bs, bm, sn, sub, ab, col, dd, k0, k1, k2, k3, k5, z, h7⟩
      · cases h5
    · cases h2
  · cases h
def efB (file : Str) (qual : Str) (K : PySem.W.Frag) (C f : Addr) : Bool := match K.lookup f with
  | some ⟨_, _, .func fd, _⟩ => (match fd.closure with
    | [(n, cc)] => decide (n = "__class__") && (match K.lookup cc with
      | some ⟨_, _, .cell (some (.ref D)), _⟩ => decide (D = C)
      | _ => false)
    | _ => false) && ((match fd.defaults with | .none => true | _ => false) && ((match fd.kwdefaults with | .none => true | _ => false) && (PySem.W.codeIn K fd.code qual && (match fd.code with
    | .ref cda => (match K.lookup cda with
      | some ⟨_, _, .fields vs, _⟩ => (match (vs[2]? : Option Value) with
        | some (.str z _) => file == z
        | _ => false)
      | _ => false)
    | _ => false))))
  | _ => false
theorem ef_ok {P : Program} {qual fl : Str} {ok : Bool} {C f : Addr} {st : Stmt} (so : OwnSt st fl ok) (e : fnQ K f = valOf "__init__" qual st) (h : efB P.main.file qual K C f = true) :
    ∃ (qual : Str) (oc : Value) (od : Option Addr) (doc pm : Value) (an : Option Addr) (cda : Addr) (ct : Value) (osl : Array (Option Value)) (me : Expr) (p1 p2 q1 q2 q3 q4 q5 q6 q7 q8 q9 : Pos) (cc : Addr) (cl : Value) (cld : Option Addr) (csl : Array (Option Value))
    (ccl : Value) (cdd : Option Addr) (ccs : Array (Option Value)) (vs : Array Value) (file : Str) (tf : Tok),
    K.lookup f = some ⟨oc, od, .func (PySem.W.ksFn "__init__" qual (PySem.OwnX.iA fl p1 p2) (PySem.OwnX.iB fl me q1 q2 q3 q4 q5 q6 q7 q8 q9) (PySem.OwnX.iS fl) .none .none doc pm an (.ref cda) ct cc), osl⟩ ∧ PySem.W.codeIn K (.ref cda) qual = true ∧ PySem.OwnX.Msg fl me ok ∧
    K.lookup cc = some ⟨cl, cld, .cell (some (.ref C)), csl⟩ ∧ K.lookup cda = some ⟨ccl, cdd, .fields vs, ccs⟩ ∧ vs[2]? = some (.str file tf) ∧ ((P.main.file : Str) == file) = true ∧ (q3.endLine == q4.line) = true := by
  unfold fnQ at e
  unfold efB at h
  cases q : K.lookup f with
  | none =>
    rw [q] at h
    cases h
  | some o =>
    obtain ⟨oc, od, dt, osl⟩ := o
    rw [q] at h e
    cases dt with
    | func fd =>
      obtain ⟨n1, n2, n3, n4, n5, n6, n7, n8, n9, n10, n11, n12, n13, n14, n15⟩ := fd
      have e2 : (some (n1, n2, n3, n4, n5, n6, n15) : FnQ) = some (("__init__" : Str), qual, defArgs st, FuncBody.stmts (defBody st), defScope st, mainGlobals, builtinsNs) := e
      simp only [Option.some.injEq, Prod.mk.injEq] at e2
      obtain ⟨h1, h2, h3, h4, h5, h6, h7⟩ := e2
      subst h1 h2 h3 h4 h5 h6 h7
      dsimp only at h
      clear e
      obtain ⟨h1, g1⟩ := He.ba h
      clear h
      obtain ⟨h2, g2⟩ := He.ba g1
      clear g1
      obtain ⟨h3, g3⟩ := He.ba g2
      clear g2
      obtain ⟨h4, h5⟩ := He.ba g3
      clear g3
      split at h1
      · rename_i n cc
        obtain ⟨h6, h7⟩ := He.ba h1
        have e1 := of_decide_eq_true h6
        split at h7
        · rename_i cl cld D csl z7
          have e2 := of_decide_eq_true h7
          split at h2
          · split at h3
            · split at h5
              · rename_i cda
                split at h5
                · rename_i ccl cdd vs ccs z5
                  split at h5
                  · rename_i file tf z6
                    obtain ⟨me, p1, p2, q1, q2, q3, q4, q5, q6, q7, q8, q9, hl, d1, d2, d3, M⟩ := so.ex
                    subst e1 e2
                    exact ⟨n2, oc, od, n10, n11, n12, cda, n14, osl, me, p1, p2, q1, q2, q3, q4, q5, q6, q7, q8, q9, cc, cl, cld, csl, ccl, cdd, ccs, vs, file, tf, by rw [d1, d2, d3], h4, M, z7, z5, z6, h5, hl⟩
                  · cases h5
                · cases h5
              · cases h5
            · cases h3
          · cases h2
        · cases h7
      · cases h1
    | _ => cases h
def errB (file x qual fl : Str) : Fq := fun K => He.eqO (PySem.W.nsIn K mainGlobals x) (some (some (.ref (He.ga K x)))) && (ecB K (He.ga K x) && (efB file qual K (He.ga K x) (He.ma K (He.ga K x) "__init__") &&
  (He.eqO (PySem.W.findIn K (.ref (He.ga K x)) "__setattr__") (some (some (.builtin "object.__setattr__"))) && (He.eqO (PySem.W.findIn K (.ref (He.ga K x)) fl) (some none) &&
  (He.eqO (PySem.W.findIn K (.ref (He.ga K x)) "__init__") (some (some (.ref (He.ma K (He.ga K x) "__init__")))) && (decide (PySem.W.typeIn K (.ref (He.ma K (He.ga K x) "__init__")) = some (.type "function")) &&
  (He.eqO (PySem.W.ks_superIn K (He.ga K x) (He.ga K x) "__init__") (some (some (.builtin PySem.OwnX.ve))) && (decide (PySem.W.subIn K (.ref (He.ga K x)) (.type "ValueError") = some true) && (He.eqO (PySem.W.nsIn K cStatics "thirdparty.any") (some none) &&
  (decide (PySem.W.mroIn K (He.ga K x) (.ref (He.ga K x)) = some true) && (PySem.W.keepIn K (.ref (He.ga K x)) && (decide (PySem.W.subIn K (.ref (He.ga K x)) (.type "BaseException") = some true) &&
  (decide (PySem.W.typeIn K (.ref (He.ga K x)) = some (.type "type")) && (He.eqO (PySem.W.findIn K (.ref (He.ga K x)) "__getattribute__") (some (some (.builtin "BaseException.__getattribute__"))) &&
  (He.eqO (PySem.W.findIn K (.ref (He.ga K x)) "__getattr__") (some none) && (PySem.W.hasDictIn K (He.ga K x) && (He.eqO (PySem.W.findIn K (.ref (He.ga K x)) "__class__") (some (some (.builtin "object.__class__"))) &&
  (He.eqO (PySem.W.specialIn K (.builtin "object.__class__") "__get__") (some (some (.builtin "getset_descriptor.__get__"))) && (decide (PySem.W.takesIn K (.builtin "object.__class__") = some true) &&
  (decide (PySem.W.mroIn K (He.ga K x) (.type "object") = some true) && PySem.W.isClsIn K (He.ga K x)))))))))))))))))))))
theorem errQ {P : Program} {qual fl : Str} {ok : Bool} {st : Stmt} (so : OwnSt st fl ok) (fo : PySem.OwnX.FlOk fl) (hm : (P.main.scope.names.lookup ("super" : Str)).isSome = false) (nd : (x == ("__debug__" : Str)) = false)
    (e : fnQ K (He.ma K (He.ga K x) "__init__") = valOf "__init__" qual st) (c : errB P.main.file x qual fl K = true) : ErrAt P K x (He.ga K x) fl ok := by
  obtain ⟨a1, c⟩ := He.ba c
  obtain ⟨a2, c⟩ := He.ba c
  obtain ⟨a3, c⟩ := He.ba c
  obtain ⟨a4, c⟩ := He.ba c
  obtain ⟨a5, c⟩ := He.ba c
  obtain ⟨a6, c⟩ := He.ba c
  obtain ⟨a7, c⟩ := He.ba c
  obtain ⟨a8, c⟩ := He.ba c
  obtain ⟨a9, c⟩ := He.ba c
  obtain ⟨a10, c⟩ := He.ba c
  obtain ⟨a11, c⟩ := He.ba c
  obtain ⟨a12, c⟩ := He.ba c
  obtain ⟨a13, c⟩ := He.ba c
  obtain ⟨a14, c⟩ := He.ba c
  obtain ⟨a15, c⟩ := He.ba c
  obtain ⟨a16, c⟩ := He.ba c
  obtain ⟨a17, c⟩ := He.ba c
  obtain ⟨a18, c⟩ := He.ba c
  obtain ⟨a19, c⟩ := He.ba c
  obtain ⟨a20, c⟩ := He.ba c
  obtain ⟨a21, a22⟩ := He.ba c
  exact ⟨⟨_, ec_ok a2, He.eqO_ok a4, He.eqO_ok a5, He.eqO_ok a6, of_decide_eq_true a7, He.eqO_ok a8, of_decide_eq_true a9, He.eqO_ok a10, of_decide_eq_true a11, fo, ef_ok so e a3, hm⟩, He.eqO_ok a1, a12, of_decide_eq_true a13, of_decide_eq_true a14,
    He.eqO_ok a15, He.eqO_ok a16, a17, He.eqO_ok a18, He.eqO_ok a19, of_decide_eq_true a20, of_decide_eq_true a21, nd, a22⟩
end
theorem namQ {K : PySem.W.Frag} {x : Str} (c : nsB x (fun K => some (.ref (He.ga K x))) K = true) : NamAt K x (He.ga K x) := ⟨He.eqO_ok c⟩
def relsB : List V → List Value → Bool
  | [], [] => true
  | x :: xs, u :: us => He.relB x u && relsB xs us
  | _, _ => false
theorem relsB_ok : ∀ {xs : List V} {us : List Value}, relsB xs us = true → Vals xs us
  | [], [], _ => .nil
  | x :: xs, u :: us, h => by
    obtain ⟨h1, h2⟩ := He.ba (show (He.relB x u && relsB xs us) = true from h)
    exact .cons (He.relB_ok h1) (relsB_ok h2)
  | [], _ :: _, h => nomatch h
  | _ :: _, [], h => nomatch h
def tupB (K : PySem.W.Frag) (a : Addr) (xs : List V) : Bool := match K.lookup a with
  | some ⟨.type t, _, .seq its _, _⟩ => decide (t = "tuple") && (decide (its.size ≤ 1000) && relsB xs its.toList)
  | _ => false
theorem tup_ok {K : PySem.W.Frag} {a : Addr} {xs : List V} (h : tupB K a xs = true) (H : Hp) : SqT K H a xs := by
  unfold tupB at h
  split at h
  · rename_i t d its n sl z
    obtain ⟨h1, h2⟩ := He.ba h
    obtain ⟨h3, h4⟩ := He.ba h2
    have e := of_decide_eq_true h1
    subst e
    exact .inr ⟨_, its, n, z, rfl, rfl, Nat.le_trans (of_decide_eq_true h3) (by decide), relsB_ok h4⟩
  · cases h
def gvtB (x : Str) (xs : List V) : Fq := fun K => He.eqO (PySem.W.nsIn K mainGlobals x) (some (some (.ref (He.ga K x)))) && tupB K (He.ga K x) xs
theorem gvtQ {K : PySem.W.Frag} {x : Str} {xs : List V} (c : gvtB x xs K = true) : GvAtT K x xs := by
  obtain ⟨c1, c2⟩ := He.ba c
  exact ⟨_, He.eqO_ok c1, fun H => tup_ok c2 H⟩
end Hq

namespace Cl
theorem fo_field : PySem.OwnX.FlOk "field" := ⟨by intros; rfl, rfl, rfl, rfl, by decide, by decide, by decide, by intro v; rfl⟩
theorem fo_line : PySem.OwnX.FlOk "line" := ⟨by intros; rfl, rfl, rfl, rfl, by decide, by decide, by decide, by intro v; rfl⟩
theorem so_BadRule : OwnSt sBadruleInit "line" false := ⟨_, _, _, _, _, _, _, _, _, _, _, _, rfl, rfl, rfl, rfl, .con _ _ _⟩
theorem so_InvalidInput : OwnSt sInvalidinputInit "field" true := ⟨_, _, _, _, _, _, _, _, _, _, _, _, rfl, rfl, rfl, rfl, .fmt _ _ _ _ _ _ _ _ _ (by decide) (by decide)⟩
theorem gvAt {K : PySem.W.Frag} {x : Str} {v : V} {u : Value} (n : PySem.W.nsIn K mainGlobals x = some (some u)) (r : RelV v u) : ∃ u, PySem.W.nsIn K mainGlobals x = some (some u) ∧ RelV v u := ⟨u, n, r⟩
open StX ClX
set_option maxHeartbeats 0 in
theorem all_mk {l : PySem.W.OpenLaw} {w : World} {K : PySem.W.Frag} {h : Heap} {mg : Str → Option Value} {fa C C_RuleKeeper C_BadRule C_InvalidInput C_StoreError C_Keeper : Addr} (X : K.In h) (G : h.Ns mainGlobals mg) (hfa : mg "law" = some (.ref fa))
    (e_BadRule : ErrAt l.prog K "BadRule" C_BadRule "line" false)
    (e_InvalidInput : ErrAt l.prog K "InvalidInput" C_InvalidInput "field" true)
    (zsuper : PySem.W.nsIn K mainGlobals "super" = some none)
    (n_StoreError : NamAt K "StoreError" C_StoreError)
    (n_Keeper : NamAt K "Keeper" C_Keeper)
    (c_Round : AtC K "Round" C)
    (v_Round : ∃ mc u, CRead K C mc ∧ CVal K C mc "MOST" (.int 12) u)
    (c_RuleKeeper : AtC K "RuleKeeper" C_RuleKeeper)
    (mM_BadRule_BadRule : PySem.W.exmOne K (.ref C_BadRule) (.ref C_BadRule) = some true)
    (iI_BadRule_InvalidInput : PySem.W.kitOne K (.ref C_BadRule) (.ref C_InvalidInput) = some false)
    (iI_BadRule_StoreError : PySem.W.kitOne K (.ref C_BadRule) (.ref C_StoreError) = some true)
    (iI_BadRule_ValueError : PySem.W.kitOne K (.ref C_BadRule) (.type "ValueError") = some true)
    (iI_RuleKeeper_Keeper : PySem.W.kitOne K (.ref C_RuleKeeper) (.ref C_Keeper) = some true)
    (naN_Round : PySem.W.findIn K (.ref C) "_budgets" = some none)
    (naN_RuleKeeper : PySem.W.findIn K (.ref C_RuleKeeper) "_rules" = some none)
    (g_MOST_DIGITS : ∃ u, PySem.W.nsIn K mainGlobals "MOST_DIGITS" = some (some u) ∧ RelV (.int 3) u)
    (gt_NAMES : GvAtT K "NAMES" (nms.map V.str))
    (gt_SIGNS : GvAtT K "SIGNS" (sgns.map V.str))
    (t_is_whole : AtTop K "is_whole" "is_whole" sIsWhole [])
    (t_check_least : AtTop K "check_least" "check_least" sCheckLeast [])
    (t_consists_of : AtTop K "consists_of" "consists_of" sConsistsOf [])
    (t_is_word : AtTop K "is_word" "is_word" sIsWord [])
    (t_check_word : AtTop K "check_word" "check_word" sCheckWord [])
    (t_living : AtTop K "living" "living" sLiving [])
    (t_Round___init__ : AtCls K C "__init__" "Round.__init__" sRoundInit)
    (t_Round_budgets : AtProp K C "budgets" "Round.budgets" sRoundBudgets)
    (t_Round___len__ : AtCls K C "__len__" "Round.__len__" sRoundLen)
    (t_Round___eq__ : AtCls K C "__eq__" "Round.__eq__" sRoundEq)
    (t_Round___add__ : AtCls K C "__add__" "Round.__add__" sRoundAdd)
    (t_Round_at : AtCls K C "at" "Round.at" sRoundAt)
    (t_Round_total : AtCls K C "total" "Round.total" sRoundTotal)
    (t_check_round : AtTop K "check_round" "check_round" sCheckRound [])
    (t__check_moment : AtTop K "_check_moment" "_check_moment" sCheckMoment [])
    (t_most_carries : AtTop K "most_carries" "most_carries" sMostCarries [])
    (t__law_box : AtTop K "_law_box" "_law_box" sLawBox [])
    (t__law_take : AtTop K "_law_take" "_law_take" sLawTake [])
    (t__law_is_count : AtTop K "_law_is_count" "_law_is_count" sLawIsCount [])
    (t__law_round : AtTop K "_law_round" "_law_round" sLawRound [])
    (t__law_pays : AtTop K "_law_pays" "_law_pays" sLawPays [])
    (t__law_word : AtTop K "_law_word" "_law_word" sLawWord [])
    (t__law_stand : AtTop K "_law_stand" "_law_stand" sLawStand [])
    (t__is_number : AtTop K "_is_number" "_is_number" sIsNumber [])
    (t__is_amount : AtTop K "_is_amount" "_is_amount" sIsAmount [])
    (t__is_when : AtTop K "_is_when" "_is_when" sIsWhen [])
    (t__is_else : AtTop K "_is_else" "_is_else" sIsElse [])
    (t_RuleKeeper___init__ : AtCls K C_RuleKeeper "__init__" "RuleKeeper.__init__" sRulekeeperInit)
    (t__facts : AtTop K "_facts" "_facts" sFacts [])
    (t__holds : AtTop K "_holds" "_holds" sHolds [])
    (t_RuleKeeper_choose : AtCls K C_RuleKeeper "choose" "RuleKeeper.choose" sRulekeeperChoose)
    (t_RuleKeeper_label : AtCls K C_RuleKeeper "label" "RuleKeeper.label" sRulekeeperLabel)
    (t__law_value : AtTop K "_law_value" "_law_value" sLawValue [])
    (t__law_digits : AtTop K "_law_digits" "_law_digits" sLawDigits [])
    (t__law_amount_text : AtTop K "_law_amount_text" "_law_amount_text" sLawAmountText [])
    (t__law_line : AtTop K "_law_line" "_law_line" sLawLine [])
    (t__law_sign : AtTop K "_law_sign" "_law_sign" sLawSign [])
    (t__law_odd_word : AtTop K "_law_odd_word" "_law_odd_word" sLawOddWord [])
    (t__law_odd_line : AtTop K "_law_odd_line" "_law_odd_line" sLawOddLine [])
    (t__law_bent : AtTop K "_law_bent" "_law_bent" sLawBent [])
    (t__law_text : AtTop K "_law_text" "_law_text" sLawText [])
    (t__law_number : AtTop K "_law_number" "_law_number" sLawNumber [])
    (t__law_amount : AtTop K "_law_amount" "_law_amount" sLawAmount [])
    (t__law_rule : AtTop K "_law_rule" "_law_rule" sLawRule [])
    (t__law_holds : AtTop K "_law_holds" "_law_holds" sLawHolds [])
    (t__law_due : AtTop K "_law_due" "_law_due" sLawDue [])
    (t__law_first_bad : AtTop K "_law_first_bad" "_law_first_bad" sLawFirstBad [])
    (t__law_refused : AtTop K "_law_refused" "_law_refused" sLawRefused [])
    (t__law_healed : AtTop K "_law_healed" "_law_healed" sLawHealed [])
    (t__law_chooses : AtTop K "_law_chooses" "_law_chooses" sLawChooses [])
    (t_law : AtTop K "law" "law" sLaw [])
    (z_len : PySem.W.nsIn K mainGlobals "len" = some none)
    (z_abs : PySem.W.nsIn K mainGlobals "abs" = some none)
    (z_max : PySem.W.nsIn K mainGlobals "max" = some none)
    (z_min : PySem.W.nsIn K mainGlobals "min" = some none)
    (z_sum : PySem.W.nsIn K mainGlobals "sum" = some none)
    (z_all : PySem.W.nsIn K mainGlobals "all" = some none)
    (z_any : PySem.W.nsIn K mainGlobals "any" = some none)
    (z_range : PySem.W.nsIn K mainGlobals "range" = some none)
    (z_isinstance : PySem.W.nsIn K mainGlobals "isinstance" = some none)
    (z_intT : PySem.W.nsIn K mainGlobals "int" = some none)
    (z_strT : PySem.W.nsIn K mainGlobals "str" = some none)
    (z_boolT : PySem.W.nsIn K mainGlobals "bool" = some none)
    (z_listT : PySem.W.nsIn K mainGlobals "list" = some none)
    (z_divmod : PySem.W.nsIn K mainGlobals "divmod" = some none)
    (z_tupleT : PySem.W.nsIn K mainGlobals "tuple" = some none)
    (z_reversed : PySem.W.nsIn K mainGlobals "reversed" = some none)
    (z_repr : PySem.W.nsIn K mainGlobals "repr" = some none)
    (z_enumerate : PySem.W.nsIn K mainGlobals "enumerate" = some none)
    (z_zip : PySem.W.nsIn K mainGlobals "zip" = some none)
    (z_ValueErrorT : PySem.W.nsIn K mainGlobals "ValueError" = some none)
    (z_dictT : PySem.W.nsIn K mainGlobals "dict" = some none)
    : ∃ fd : FuncData, (∀ (s : Shared) (v : Value), BindsTo s fd ⟨[v], []⟩ [("script", v)]) ∧ ∀ base : Heap, K.In base → base.Ns mainGlobals mg → FnOk l.prog w K mg base CX0 8 fa fd ["script"] (spLaw K) := by
  obtain ⟨f, fd, a, F, FD⟩ := t_law.ex
  have e := hfa.symm.trans (PySem.W.mg_of X G a)
  cases e
  have B : Bi mg := ⟨PySem.W.mg_none_of X G z_len, PySem.W.mg_none_of X G z_abs, PySem.W.mg_none_of X G z_max, PySem.W.mg_none_of X G z_min, PySem.W.mg_none_of X G z_sum, PySem.W.mg_none_of X G z_all, PySem.W.mg_none_of X G z_any, PySem.W.mg_none_of X G z_range, PySem.W.mg_none_of X G z_isinstance, PySem.W.mg_none_of X G z_intT, PySem.W.mg_none_of X G z_strT, PySem.W.mg_none_of X G z_boolT, PySem.W.mg_none_of X G z_listT, PySem.W.mg_none_of X G z_divmod, PySem.W.mg_none_of X G z_tupleT, PySem.W.mg_none_of X G z_reversed, PySem.W.mg_none_of X G z_repr, PySem.W.mg_none_of X G z_enumerate, PySem.W.mg_none_of X G z_zip, PySem.W.mg_none_of X G z_ValueErrorT, PySem.W.mg_none_of X G z_dictT⟩
  refine ⟨fd, fun s v => FD.bindsA (ps := ["script"]) (fun _ _ _ _ _ _ us hl => match us, hl with | [_], _ => rfl) s [v] rfl, fun base _ _ => ?_⟩
  have E_BadRule : ErrC l.prog K mg "BadRule" C_BadRule "line" false := e_BadRule.ec X G zsuper
  have E_InvalidInput : ErrC l.prog K mg "InvalidInput" C_InvalidInput "field" true := e_InvalidInput.ec X G zsuper
  have S_StoreError : ClsN K mg "StoreError" C_StoreError := n_StoreError.cn X G
  have S_Keeper : ClsN K mg "Keeper" C_Keeper := n_Keeper.cn X G
  have R_Round : ClsC K mg "Round" C := c_Round.cc X G
  have V_Round : CV K C "MOST" (.int 12) := ⟨v_Round⟩
  have R_RuleKeeper : ClsC K mg "RuleKeeper" C_RuleKeeper := c_RuleKeeper.cc X G
  have M_BadRule_BadRule : PySem.W.exmOne K (.ref C_BadRule) (.ref C_BadRule) = some true := mM_BadRule_BadRule
  have I_BadRule_InvalidInput : PySem.W.kitOne K (.ref C_BadRule) (.ref C_InvalidInput) = some false := iI_BadRule_InvalidInput
  have I_BadRule_StoreError : PySem.W.kitOne K (.ref C_BadRule) (.ref C_StoreError) = some true := iI_BadRule_StoreError
  have I_BadRule_ValueError : PySem.W.kitOne K (.ref C_BadRule) (.type "ValueError") = some true := iI_BadRule_ValueError
  have I_RuleKeeper_Keeper : PySem.W.kitOne K (.ref C_RuleKeeper) (.ref C_Keeper) = some true := iI_RuleKeeper_Keeper
  have N_Round : NoAttr K C "_budgets" := naN_Round
  have N_RuleKeeper : NoAttr K C_RuleKeeper "_rules" := naN_RuleKeeper
  have G_MOST_DIGITS : Gv mg "MOST_DIGITS" (.int 3) := Exists.elim g_MOST_DIGITS fun u z => ⟨u, PySem.W.mg_of X G z.1, z.2⟩
  have G_NAMES : GvT K mg "NAMES" (nms.map V.str) := gt_NAMES.gv X G
  have G_SIGNS : GvT K mg "SIGNS" (sgns.map V.str) := gt_SIGNS.gv X G
  have D_is_whole : Dn l.prog w K mg base "is_whole" 1 ["value"] spIsWhole := t_is_whole.dn X G (fun _ _ _ _ _ _ us hl => match us, hl with | [_], _ => rfl) (fun f fd F => ok_is_whole F B)
  have D_check_least : Dn l.prog w K mg base "check_least" 2 ["value", "least", "field"] spCheckLeast := t_check_least.dn X G (fun _ _ _ _ _ _ us hl => match us, hl with | [_, _, _], _ => rfl) (fun f fd F => ok_check_least F D_is_whole)
  have D_consists_of : Dn l.prog w K mg base "consists_of" 1 ["text", "characters"] spConsists := t_consists_of.dn X G (fun _ _ _ _ _ _ us hl => match us, hl with | [_, _], _ => rfl) (fun f fd F => ok_consists_of F)
  have D_is_word : Dn l.prog w K mg base "is_word" 2 ["text"] spIsWord := t_is_word.dn X G (fun _ _ _ _ _ _ us hl => match us, hl with | [_], _ => rfl) (fun f fd F => ok_is_word F D_consists_of)
  have D_check_word : Dn l.prog w K mg base "check_word" 3 ["word", "field"] spCheckWord := t_check_word.dn X G (fun _ _ _ _ _ _ us hl => match us, hl with | [_, _], _ => rfl) (fun f fd F => ok_check_word F D_is_word)
  have D_living : Dn l.prog w K mg base "living" 4 ["word"] spLiving := t_living.dn X G (fun _ _ _ _ _ _ us hl => match us, hl with | [_], _ => rfl) (fun f fd F => ok_living F D_check_word)
  have MK_Round : Cn l.prog w K mg base C 3 (spInit C) := t_Round___init__.cn c_Round (fun f fd F => ok_Round_init F B R_Round N_Round V_Round D_check_least)
  have P_Round_budgets : Pn l.prog w K mg base C "budgets" 1 (spBudgets C) := t_Round_budgets.pn (fun _ _ _ _ _ _ us hl => match us, hl with | [_], _ => rfl) (fun f fd F => ok_Round_budgets F B R_Round N_Round)
  have O_Round___len__ : On l.prog w K mg base C "__len__" 1 ["self"] (spLen C) := t_Round___len__.on (fun _ _ _ _ _ _ us hl => match us, hl with | [_], _ => rfl) (fun f fd F => ok_Round_len F B R_Round N_Round)
  have O_Round___eq__ : On l.prog w K mg base C "__eq__" 1 ["self", "other"] (spEqR C) := t_Round___eq__.on (fun _ _ _ _ _ _ us hl => match us, hl with | [_, _], _ => rfl) (fun f fd F => ok_Round_eq F B R_Round N_Round)
  have O_Round___add__ : On l.prog w K mg base C "__add__" 5 ["self", "other"] (spAddR C) := t_Round___add__.on (fun _ _ _ _ _ _ us hl => match us, hl with | [_, _], _ => rfl) (fun f fd F => ok_Round_add F B R_Round N_Round MK_Round)
  have M_Round_at : Mn l.prog w K mg base C "at" 3 ["self", "t"] (spAt C) := t_Round_at.mn (fun _ _ _ _ _ _ us hl => match us, hl with | [_, _], _ => rfl) (fun f fd F => ok_Round_at F B R_Round N_Round D_check_least)
  have M_Round_total : Mn l.prog w K mg base C "total" 3 ["self", "start", "count"] (spTotal C) := t_Round_total.mn (fun _ _ _ _ _ _ us hl => match us, hl with | [_, _, _], _ => rfl) (fun f fd F => ok_Round_total F B R_Round N_Round D_check_least)
  have D_check_round : Dn l.prog w K mg base "check_round" 1 ["budgets"] (spCkRound C) := t_check_round.dn X G (fun _ _ _ _ _ _ us hl => match us, hl with | [_], _ => rfl) (fun f fd F => ok_check_round F B R_Round)
  have D__check_moment : Dn l.prog w K mg base "_check_moment" 4 ["word", "places", "budgets", "phase"] (spMoment C) := t__check_moment.dn X G (fun _ _ _ _ _ _ us hl => match us, hl with | [_, _, _, _], _ => rfl) (fun f fd F => ok__check_moment F B D_check_word D_check_least D_check_round)
  have D_most_carries : Dn l.prog w K mg base "most_carries" 5 ["word", "places", "budgets", "phase"] (spMost C) := t_most_carries.dn X G (fun _ _ _ _ _ _ us hl => match us, hl with | [_, _, _, _], _ => rfl) (fun f fd F => ok_most_carries F B R_Round M_Round_at D_living)
  have D__law_box : Dn l.prog w K mg base "_law_box" 1 ["script", "at"] (spBoxS K) := t__law_box.dn X G (fun _ _ _ _ _ _ us hl => match us, hl with | [_, _], _ => rfl) (fun f fd F => ok__law_box F B)
  have D__law_take : Dn l.prog w K mg base "_law_take" 1 ["script", "box", "many"] (spTakeX K) := t__law_take.dn X G (fun _ _ _ _ _ _ us hl => match us, hl with | [_, _, _], _ => rfl) (fun f fd F => ok__law_take F B)
  have D__law_is_count : Dn l.prog w K mg base "_law_is_count" 1 ["thing"] spCount := t__law_is_count.dn X G (fun _ _ _ _ _ _ us hl => match us, hl with | [_], _ => rfl) (fun f fd F => ok__law_is_count F B)
  have D__law_round : Dn l.prog w K mg base "_law_round" 7 ["pays"] (spRoundL C) := t__law_round.dn X G (fun _ _ _ _ _ _ us hl => match us, hl with | [_], _ => rfl) (fun f fd F => ok__law_round F B R_Round MK_Round O_Round___add__)
  have D__law_pays : Dn l.prog w K mg base "_law_pays" 2 ["script", "box"] (spPaysZ K) := t__law_pays.dn X G (fun _ _ _ _ _ _ us hl => match us, hl with | [_, _], _ => rfl) (fun f fd F => ok__law_pays F B D__law_take)
  have D__law_word : Dn l.prog w K mg base "_law_word" 2 ["script", "box", "wide"] (spWordZ K) := t__law_word.dn X G (fun _ _ _ _ _ _ us hl => match us, hl with | [_, _, _], _ => rfl) (fun f fd F => ok__law_word F B D__law_take)
  have D__law_stand : Dn l.prog w K mg base "_law_stand" 3 ["script", "box"] (spStandZ K) := t__law_stand.dn X G (fun _ _ _ _ _ _ us hl => match us, hl with | [_, _], _ => rfl) (fun f fd F => ok__law_stand F D__law_take D__law_word)
  have XD_consists_of : Dn l.prog w K mg base "consists_of" 1 ["text", "characters"] spConsD := t_consists_of.dn X G (fun _ _ _ _ _ _ us hl => match us, hl with | [_, _], _ => rfl) (fun f fd F => ok_consists_of_x F)
  have D__is_number : Dn l.prog w K mg base "_is_number" 2 ["text"] spNumB := t__is_number.dn X G (fun _ _ _ _ _ _ us hl => match us, hl with | [_], _ => rfl) (fun f fd F => ok__is_number F B G_MOST_DIGITS XD_consists_of)
  have D__is_amount : Dn l.prog w K mg base "_is_amount" 3 ["text"] spAmB := t__is_amount.dn X G (fun _ _ _ _ _ _ us hl => match us, hl with | [_], _ => rfl) (fun f fd F => ok__is_amount F D__is_number)
  have D__is_when : Dn l.prog w K mg base "_is_when" 4 ["words"] (spWhB K) := t__is_when.dn X G (fun _ _ _ _ _ _ us hl => match us, hl with | [_], _ => rfl) (fun f fd F => ok__is_when F B G_NAMES G_SIGNS D__is_number D__is_amount)
  have D__is_else : Dn l.prog w K mg base "_is_else" 4 ["words"] (spElB K) := t__is_else.dn X G (fun _ _ _ _ _ _ us hl => match us, hl with | [_], _ => rfl) (fun f fd F => ok__is_else F B D__is_amount)
  have MK_RuleKeeper : Ci l.prog w K mg base C_RuleKeeper 5 ["self", "text"] (spRksInit C_RuleKeeper) := t_RuleKeeper___init__.ci c_RuleKeeper (fun _ _ _ _ _ _ us hl => match us, hl with | [_, _], _ => rfl) (fun f fd F => ok_RuleKeeper_init F B R_RuleKeeper N_RuleKeeper D__is_when D__is_else)
  have CX_RuleKeeper : Cix l.prog w K mg base C_RuleKeeper 5 ["self", "text"] (spRksInitX C_BadRule C_RuleKeeper) := t_RuleKeeper___init__.cix c_RuleKeeper (fun _ _ _ _ _ _ us hl => match us, hl with | [_, _], _ => rfl) (fun f fd F => ok_RuleKeeper_init_x F B R_RuleKeeper N_RuleKeeper E_BadRule D__is_when D__is_else)
  have D__facts : Dn l.prog w K mg base "_facts" 5 ["word", "places", "budgets", "phase"] (spFacts C) := t__facts.dn X G (fun _ _ _ _ _ _ us hl => match us, hl with | [_, _, _, _], _ => rfl) (fun f fd F => ok__facts F B R_Round M_Round_at D_living)
  have D__holds : Dn l.prog w K mg base "_holds" 1 ["number", "sign", "bound"] spHolds := t__holds.dn X G (fun _ _ _ _ _ _ us hl => match us, hl with | [_, _, _], _ => rfl) (fun f fd F => ok__holds F)
  have M_RuleKeeper_choose : Mn l.prog w K mg base C_RuleKeeper "choose" 6 ["self", "word", "places", "budgets", "phase"] (spRksChoose C C_RuleKeeper) := t_RuleKeeper_choose.mn (fun _ _ _ _ _ _ us hl => match us, hl with | [_, _, _, _, _], _ => rfl) (fun f fd F => ok_RuleKeeper_choose F B R_RuleKeeper N_RuleKeeper D__check_moment D__facts D_most_carries D__holds)
  have M_RuleKeeper_label : Mn l.prog w K mg base C_RuleKeeper "label" 1 ["self"] (spRksLabel C_RuleKeeper) := t_RuleKeeper_label.mn (fun _ _ _ _ _ _ us hl => match us, hl with | [_], _ => rfl) (fun f fd F => ok_RuleKeeper_label F B R_RuleKeeper N_RuleKeeper)
  have D__law_value : Dn l.prog w K mg base "_law_value" 1 ["name", "stand", "pays"] spValue := t__law_value.dn X G (fun _ _ _ _ _ _ us hl => match us, hl with | [_, _, _], _ => rfl) (fun f fd F => ok__law_value F B)
  have D__law_digits : Dn l.prog w K mg base "_law_digits" 2 ["script", "box", "number"] (spDigits K) := t__law_digits.dn X G (fun _ _ _ _ _ _ us hl => match us, hl with | [_, _, _], _ => rfl) (fun f fd F => ok__law_digits F B D__law_take)
  have D__law_amount_text : Dn l.prog w K mg base "_law_amount_text" 3 ["script", "box"] (spAmtT K) := t__law_amount_text.dn X G (fun _ _ _ _ _ _ us hl => match us, hl with | [_, _], _ => rfl) (fun f fd F => ok__law_amount_text F D__law_take D__law_digits)
  have D__law_line : Dn l.prog w K mg base "_law_line" 4 ["script", "box", "stands", "pays"] (spLineT K) := t__law_line.dn X G (fun _ _ _ _ _ _ us hl => match us, hl with | [_, _, _, _], _ => rfl) (fun f fd F => ok__law_line F B D__law_take D__law_amount_text D__law_digits D__law_value)
  have D__law_sign : Dn l.prog w K mg base "_law_sign" 2 ["script", "box"] (spTxt K 1) := t__law_sign.dn X G (fun _ _ _ _ _ _ us hl => match us, hl with | [_, _], _ => rfl) (fun f fd F => ok__law_sign F B D__law_take)
  have D__law_odd_word : Dn l.prog w K mg base "_law_odd_word" 2 ["script", "box"] (spTxt K 60) := t__law_odd_word.dn X G (fun _ _ _ _ _ _ us hl => match us, hl with | [_, _], _ => rfl) (fun f fd F => ok__law_odd_word F B D__law_take)
  have D__law_odd_line : Dn l.prog w K mg base "_law_odd_line" 2 ["script", "box"] (spTxt K 60) := t__law_odd_line.dn X G (fun _ _ _ _ _ _ us hl => match us, hl with | [_, _], _ => rfl) (fun f fd F => ok__law_odd_line F B D__law_take)
  have D__law_bent : Dn l.prog w K mg base "_law_bent" 3 ["script", "box", "line"] (spBent K) := t__law_bent.dn X G (fun _ _ _ _ _ _ us hl => match us, hl with | [_, _, _], _ => rfl) (fun f fd F => ok__law_bent F B D__law_take D__law_sign D__law_odd_word D__law_odd_line)
  have D__law_text : Dn l.prog w K mg base "_law_text" 5 ["script", "box", "stands", "pays"] (spText K) := t__law_text.dn X G (fun _ _ _ _ _ _ us hl => match us, hl with | [_, _, _, _], _ => rfl) (fun f fd F => ok__law_text F B D__law_take D__law_line D__law_bent)
  have D__law_number : Dn l.prog w K mg base "_law_number" 1 ["text"] spNbL := t__law_number.dn X G (fun _ _ _ _ _ _ us hl => match us, hl with | [_], _ => rfl) (fun f fd F => ok__law_number F B)
  have D__law_amount : Dn l.prog w K mg base "_law_amount" 2 ["text"] spAmL := t__law_amount.dn X G (fun _ _ _ _ _ _ us hl => match us, hl with | [_], _ => rfl) (fun f fd F => ok__law_amount F D__law_number)
  have D__law_rule : Dn l.prog w K mg base "_law_rule" 3 ["line"] spRuleL := t__law_rule.dn X G (fun _ _ _ _ _ _ us hl => match us, hl with | [_], _ => rfl) (fun f fd F => ok__law_rule F B D__law_number D__law_amount)
  have D__law_holds : Dn l.prog w K mg base "_law_holds" 2 ["rule", "stand", "pays"] spHoldsL := t__law_holds.dn X G (fun _ _ _ _ _ _ us hl => match us, hl with | [_, _, _], _ => rfl) (fun f fd F => ok__law_holds F D__law_value)
  have D__law_due : Dn l.prog w K mg base "_law_due" 3 ["rules", "stand", "pays"] spDueL := t__law_due.dn X G (fun _ _ _ _ _ _ us hl => match us, hl with | [_, _, _], _ => rfl) (fun f fd F => ok__law_due F B D__law_holds)
  have D__law_first_bad : Dn l.prog w K mg base "_law_first_bad" 4 ["text"] spFirstB := t__law_first_bad.dn X G (fun _ _ _ _ _ _ us hl => match us, hl with | [_], _ => rfl) (fun f fd F => ok__law_first_bad F B D__law_rule)
  have XD__law_is_count : De l.prog w K mg base "_law_is_count" 1 ["thing"] spCountE := t__law_is_count.de X G (fun _ _ _ _ _ _ us hl => match us, hl with | [_], _ => rfl) (fun f fd F => ok__law_is_count_x F B)
  have D__law_refused : Dn l.prog w K mg base "_law_refused" 7 ["text", "due"] spRefB := t__law_refused.dn X G (fun _ _ _ _ _ _ us hl => match us, hl with | [_, _], _ => rfl) (fun f fd F => ok__law_refused F B R_RuleKeeper E_BadRule E_InvalidInput S_StoreError M_BadRule_BadRule I_BadRule_InvalidInput I_BadRule_StoreError I_BadRule_ValueError CX_RuleKeeper XD__law_is_count)
  have D__law_healed : Dn l.prog w K mg base "_law_healed" 4 ["text"] spHealed := t__law_healed.dn X G (fun _ _ _ _ _ _ us hl => match us, hl with | [_], _ => rfl) (fun f fd F => ok__law_healed F B D__law_rule)
  have D__law_chooses : Dn l.prog w K mg base "_law_chooses" 7 ["keeper", "text", "stand", "pays", "made"] (spChooses C C_RuleKeeper) := t__law_chooses.dn X G (fun _ _ _ _ _ _ us hl => match us, hl with | [_, _, _, _, _], _ => rfl) (fun f fd F => ok__law_chooses F B R_RuleKeeper S_Keeper I_RuleKeeper_Keeper M_RuleKeeper_choose M_RuleKeeper_label D__law_rule D__law_is_count D__law_due)
  exact ok_law F B R_Round R_RuleKeeper P_Round_budgets MK_RuleKeeper D__law_box D__law_pays D__law_round D__law_stand D__law_text D__law_first_bad D__law_refused D__law_healed D__law_chooses
end Cl

namespace Cl
open StX ClX
abbrev rowQ : PySem.W.OpenRow := PySem.W.OpenLaw.row PySem.Challenge.rw_carrylog_k55_rule_texts
abbrev viewQ : Program := PySem.W.view rowQ.prog [56]
abbrev f0 : Hq.Fq := Hq.errB PySem.Challenge.rw_carrylog_k55_rule_texts.prog.main.file "BadRule" "BadRule.__init__" "line"
abbrev f1 : Hq.Fq := Hq.errB PySem.Challenge.rw_carrylog_k55_rule_texts.prog.main.file "InvalidInput" "InvalidInput.__init__" "field"
abbrev f2 : Hq.Fq := Hq.nsB "super" (fun _ => none)
abbrev f3 : Hq.Fq := Hq.nsB "StoreError" (fun K => some (.ref (He.ga K "StoreError")))
abbrev f4 : Hq.Fq := Hq.nsB "Keeper" (fun K => some (.ref (He.ga K "Keeper")))
abbrev f5 : Hq.Fq := Hq.acB "Round"
abbrev f6 : Hq.Fq := Hq.conB "Round" "MOST" (.int 12)
abbrev f7 : Hq.Fq := Hq.acB "RuleKeeper"
abbrev f8 : Hq.Fq := Hq.exmB "BadRule" "BadRule" true
abbrev f9 : Hq.Fq := Hq.kitB "BadRule" "InvalidInput" false
abbrev f10 : Hq.Fq := Hq.kitB "BadRule" "StoreError" true
abbrev f11 : Hq.Fq := Hq.kitTB "BadRule" "ValueError" true
abbrev f12 : Hq.Fq := Hq.kitB "RuleKeeper" "Keeper" true
abbrev f13 : Hq.Fq := Hq.naB "Round" "_budgets"
abbrev f14 : Hq.Fq := Hq.naB "RuleKeeper" "_rules"
abbrev f15 : Hq.Fq := Hq.gvB "MOST_DIGITS" (.int 3)
abbrev f16 : Hq.Fq := Hq.gvtB "NAMES" (nms.map V.str)
abbrev f17 : Hq.Fq := Hq.gvtB "SIGNS" (sgns.map V.str)
abbrev f18 : Hq.Fq := Hq.topB "is_whole" "is_whole" [] []
abbrev f19 : Hq.Fq := Hq.topB "check_least" "check_least" [] []
abbrev f20 : Hq.Fq := Hq.topB "consists_of" "consists_of" [] []
abbrev f21 : Hq.Fq := Hq.topB "is_word" "is_word" [] []
abbrev f22 : Hq.Fq := Hq.topB "check_word" "check_word" [] []
abbrev f23 : Hq.Fq := Hq.topB "living" "living" [] []
abbrev f24 : Hq.Fq := Hq.clB "Round" "__init__" "Round.__init__" [] []
abbrev f25 : Hq.Fq := Hq.propB "Round" "budgets" "Round.budgets"
abbrev f26 : Hq.Fq := Hq.clB "Round" "__len__" "Round.__len__" [] []
abbrev f27 : Hq.Fq := Hq.clB "Round" "__eq__" "Round.__eq__" [] []
abbrev f28 : Hq.Fq := Hq.clB "Round" "__add__" "Round.__add__" [] []
abbrev f29 : Hq.Fq := Hq.clB "Round" "at" "Round.at" [] []
abbrev f30 : Hq.Fq := Hq.clB "Round" "total" "Round.total" [] []
abbrev f31 : Hq.Fq := Hq.topB "check_round" "check_round" [] []
abbrev f32 : Hq.Fq := Hq.topB "_check_moment" "_check_moment" [] []
abbrev f33 : Hq.Fq := Hq.topB "most_carries" "most_carries" [] []
abbrev f34 : Hq.Fq := Hq.topB "_law_box" "_law_box" [] []
abbrev f35 : Hq.Fq := Hq.topB "_law_take" "_law_take" [] []
abbrev f36 : Hq.Fq := Hq.topB "_law_is_count" "_law_is_count" [] []
abbrev f37 : Hq.Fq := Hq.topB "_law_round" "_law_round" [] []
abbrev f38 : Hq.Fq := Hq.topB "_law_pays" "_law_pays" [] []
abbrev f39 : Hq.Fq := Hq.topB "_law_word" "_law_word" [] []
abbrev f40 : Hq.Fq := Hq.topB "_law_stand" "_law_stand" [] []
abbrev f41 : Hq.Fq := Hq.topB "_is_number" "_is_number" [] []
abbrev f42 : Hq.Fq := Hq.topB "_is_amount" "_is_amount" [] []
abbrev f43 : Hq.Fq := Hq.topB "_is_when" "_is_when" [] []
abbrev f44 : Hq.Fq := Hq.topB "_is_else" "_is_else" [] []
abbrev f45 : Hq.Fq := Hq.clB "RuleKeeper" "__init__" "RuleKeeper.__init__" [] []
abbrev f46 : Hq.Fq := Hq.topB "_facts" "_facts" [] []
abbrev f47 : Hq.Fq := Hq.topB "_holds" "_holds" [] []
abbrev f48 : Hq.Fq := Hq.clB "RuleKeeper" "choose" "RuleKeeper.choose" [] []
abbrev f49 : Hq.Fq := Hq.clB "RuleKeeper" "label" "RuleKeeper.label" [] []
abbrev f50 : Hq.Fq := Hq.topB "_law_value" "_law_value" [] []
abbrev f51 : Hq.Fq := Hq.topB "_law_digits" "_law_digits" [] []
abbrev f52 : Hq.Fq := Hq.topB "_law_amount_text" "_law_amount_text" [] []
abbrev f53 : Hq.Fq := Hq.topB "_law_line" "_law_line" [] []
abbrev f54 : Hq.Fq := Hq.topB "_law_sign" "_law_sign" [] []
abbrev f55 : Hq.Fq := Hq.topB "_law_odd_word" "_law_odd_word" [] []
abbrev f56 : Hq.Fq := Hq.topB "_law_odd_line" "_law_odd_line" [] []
abbrev f57 : Hq.Fq := Hq.topB "_law_bent" "_law_bent" [] []
abbrev f58 : Hq.Fq := Hq.topB "_law_text" "_law_text" [] []
abbrev f59 : Hq.Fq := Hq.topB "_law_number" "_law_number" [] []
abbrev f60 : Hq.Fq := Hq.topB "_law_amount" "_law_amount" [] []
abbrev f61 : Hq.Fq := Hq.topB "_law_rule" "_law_rule" [] []
abbrev f62 : Hq.Fq := Hq.topB "_law_holds" "_law_holds" [] []
abbrev f63 : Hq.Fq := Hq.topB "_law_due" "_law_due" [] []
abbrev f64 : Hq.Fq := Hq.topB "_law_first_bad" "_law_first_bad" [] []
abbrev f65 : Hq.Fq := Hq.topB "_law_refused" "_law_refused" [] []
abbrev f66 : Hq.Fq := Hq.topB "_law_healed" "_law_healed" [] []
abbrev f67 : Hq.Fq := Hq.topB "_law_chooses" "_law_chooses" [] []
abbrev f68 : Hq.Fq := Hq.topB "law" "law" [] []
abbrev f69 : Hq.Fq := Hq.nsB "len" (fun _ => none)
abbrev f70 : Hq.Fq := Hq.nsB "abs" (fun _ => none)
abbrev f71 : Hq.Fq := Hq.nsB "max" (fun _ => none)
abbrev f72 : Hq.Fq := Hq.nsB "min" (fun _ => none)
abbrev f73 : Hq.Fq := Hq.nsB "sum" (fun _ => none)
abbrev f74 : Hq.Fq := Hq.nsB "all" (fun _ => none)
abbrev f75 : Hq.Fq := Hq.nsB "any" (fun _ => none)
abbrev f76 : Hq.Fq := Hq.nsB "range" (fun _ => none)
abbrev f77 : Hq.Fq := Hq.nsB "isinstance" (fun _ => none)
abbrev f78 : Hq.Fq := Hq.nsB "int" (fun _ => none)
abbrev f79 : Hq.Fq := Hq.nsB "str" (fun _ => none)
abbrev f80 : Hq.Fq := Hq.nsB "bool" (fun _ => none)
abbrev f81 : Hq.Fq := Hq.nsB "list" (fun _ => none)
abbrev f82 : Hq.Fq := Hq.nsB "divmod" (fun _ => none)
abbrev f83 : Hq.Fq := Hq.nsB "tuple" (fun _ => none)
abbrev f84 : Hq.Fq := Hq.nsB "reversed" (fun _ => none)
abbrev f85 : Hq.Fq := Hq.nsB "repr" (fun _ => none)
abbrev f86 : Hq.Fq := Hq.nsB "enumerate" (fun _ => none)
abbrev f87 : Hq.Fq := Hq.nsB "zip" (fun _ => none)
abbrev f88 : Hq.Fq := Hq.nsB "ValueError" (fun _ => none)
abbrev f89 : Hq.Fq := Hq.nsB "dict" (fun _ => none)
abbrev d0 : Hq.DefQ := ⟨fun K => He.ma K (He.ga K "BadRule") "__init__", "__init__", "BadRule.__init__", sBadruleInit⟩
abbrev d1 : Hq.DefQ := ⟨fun K => He.ma K (He.ga K "InvalidInput") "__init__", "__init__", "InvalidInput.__init__", sInvalidinputInit⟩
abbrev d2 : Hq.DefQ := ⟨fun K => He.ga K "is_whole", "is_whole", "is_whole", sIsWhole⟩
abbrev d3 : Hq.DefQ := ⟨fun K => He.ga K "check_least", "check_least", "check_least", sCheckLeast⟩
abbrev d4 : Hq.DefQ := ⟨fun K => He.ga K "consists_of", "consists_of", "consists_of", sConsistsOf⟩
abbrev d5 : Hq.DefQ := ⟨fun K => He.ga K "is_word", "is_word", "is_word", sIsWord⟩
abbrev d6 : Hq.DefQ := ⟨fun K => He.ga K "check_word", "check_word", "check_word", sCheckWord⟩
abbrev d7 : Hq.DefQ := ⟨fun K => He.ga K "living", "living", "living", sLiving⟩
abbrev d8 : Hq.DefQ := ⟨fun K => He.ma K (He.ga K "Round") "__init__", "__init__", "Round.__init__", sRoundInit⟩
abbrev d9 : Hq.DefQ := ⟨fun K => Hq.getA "Round" "budgets" "property" K, "budgets", "Round.budgets", sRoundBudgets⟩
abbrev d10 : Hq.DefQ := ⟨fun K => He.ma K (He.ga K "Round") "__len__", "__len__", "Round.__len__", sRoundLen⟩
abbrev d11 : Hq.DefQ := ⟨fun K => He.ma K (He.ga K "Round") "__eq__", "__eq__", "Round.__eq__", sRoundEq⟩
abbrev d12 : Hq.DefQ := ⟨fun K => He.ma K (He.ga K "Round") "__add__", "__add__", "Round.__add__", sRoundAdd⟩
abbrev d13 : Hq.DefQ := ⟨fun K => He.ma K (He.ga K "Round") "at", "at", "Round.at", sRoundAt⟩
abbrev d14 : Hq.DefQ := ⟨fun K => He.ma K (He.ga K "Round") "total", "total", "Round.total", sRoundTotal⟩
abbrev d15 : Hq.DefQ := ⟨fun K => He.ga K "check_round", "check_round", "check_round", sCheckRound⟩
abbrev d16 : Hq.DefQ := ⟨fun K => He.ga K "_check_moment", "_check_moment", "_check_moment", sCheckMoment⟩
abbrev d17 : Hq.DefQ := ⟨fun K => He.ga K "most_carries", "most_carries", "most_carries", sMostCarries⟩
abbrev d18 : Hq.DefQ := ⟨fun K => He.ga K "_law_box", "_law_box", "_law_box", sLawBox⟩
abbrev d19 : Hq.DefQ := ⟨fun K => He.ga K "_law_take", "_law_take", "_law_take", sLawTake⟩
abbrev d20 : Hq.DefQ := ⟨fun K => He.ga K "_law_is_count", "_law_is_count", "_law_is_count", sLawIsCount⟩
abbrev d21 : Hq.DefQ := ⟨fun K => He.ga K "_law_round", "_law_round", "_law_round", sLawRound⟩
abbrev d22 : Hq.DefQ := ⟨fun K => He.ga K "_law_pays", "_law_pays", "_law_pays", sLawPays⟩
abbrev d23 : Hq.DefQ := ⟨fun K => He.ga K "_law_word", "_law_word", "_law_word", sLawWord⟩
abbrev d24 : Hq.DefQ := ⟨fun K => He.ga K "_law_stand", "_law_stand", "_law_stand", sLawStand⟩
abbrev d25 : Hq.DefQ := ⟨fun K => He.ga K "_is_number", "_is_number", "_is_number", sIsNumber⟩
abbrev d26 : Hq.DefQ := ⟨fun K => He.ga K "_is_amount", "_is_amount", "_is_amount", sIsAmount⟩
abbrev d27 : Hq.DefQ := ⟨fun K => He.ga K "_is_when", "_is_when", "_is_when", sIsWhen⟩
abbrev d28 : Hq.DefQ := ⟨fun K => He.ga K "_is_else", "_is_else", "_is_else", sIsElse⟩
abbrev d29 : Hq.DefQ := ⟨fun K => He.ma K (He.ga K "RuleKeeper") "__init__", "__init__", "RuleKeeper.__init__", sRulekeeperInit⟩
abbrev d30 : Hq.DefQ := ⟨fun K => He.ga K "_facts", "_facts", "_facts", sFacts⟩
abbrev d31 : Hq.DefQ := ⟨fun K => He.ga K "_holds", "_holds", "_holds", sHolds⟩
abbrev d32 : Hq.DefQ := ⟨fun K => He.ma K (He.ga K "RuleKeeper") "choose", "choose", "RuleKeeper.choose", sRulekeeperChoose⟩
abbrev d33 : Hq.DefQ := ⟨fun K => He.ma K (He.ga K "RuleKeeper") "label", "label", "RuleKeeper.label", sRulekeeperLabel⟩
abbrev d34 : Hq.DefQ := ⟨fun K => He.ga K "_law_value", "_law_value", "_law_value", sLawValue⟩
abbrev d35 : Hq.DefQ := ⟨fun K => He.ga K "_law_digits", "_law_digits", "_law_digits", sLawDigits⟩
abbrev d36 : Hq.DefQ := ⟨fun K => He.ga K "_law_amount_text", "_law_amount_text", "_law_amount_text", sLawAmountText⟩
abbrev d37 : Hq.DefQ := ⟨fun K => He.ga K "_law_line", "_law_line", "_law_line", sLawLine⟩
abbrev d38 : Hq.DefQ := ⟨fun K => He.ga K "_law_sign", "_law_sign", "_law_sign", sLawSign⟩
abbrev d39 : Hq.DefQ := ⟨fun K => He.ga K "_law_odd_word", "_law_odd_word", "_law_odd_word", sLawOddWord⟩
abbrev d40 : Hq.DefQ := ⟨fun K => He.ga K "_law_odd_line", "_law_odd_line", "_law_odd_line", sLawOddLine⟩
abbrev d41 : Hq.DefQ := ⟨fun K => He.ga K "_law_bent", "_law_bent", "_law_bent", sLawBent⟩
abbrev d42 : Hq.DefQ := ⟨fun K => He.ga K "_law_text", "_law_text", "_law_text", sLawText⟩
abbrev d43 : Hq.DefQ := ⟨fun K => He.ga K "_law_number", "_law_number", "_law_number", sLawNumber⟩
abbrev d44 : Hq.DefQ := ⟨fun K => He.ga K "_law_amount", "_law_amount", "_law_amount", sLawAmount⟩
abbrev d45 : Hq.DefQ := ⟨fun K => He.ga K "_law_rule", "_law_rule", "_law_rule", sLawRule⟩
abbrev d46 : Hq.DefQ := ⟨fun K => He.ga K "_law_holds", "_law_holds", "_law_holds", sLawHolds⟩
abbrev d47 : Hq.DefQ := ⟨fun K => He.ga K "_law_due", "_law_due", "_law_due", sLawDue⟩
abbrev d48 : Hq.DefQ := ⟨fun K => He.ga K "_law_first_bad", "_law_first_bad", "_law_first_bad", sLawFirstBad⟩
abbrev d49 : Hq.DefQ := ⟨fun K => He.ga K "_law_refused", "_law_refused", "_law_refused", sLawRefused⟩
abbrev d50 : Hq.DefQ := ⟨fun K => He.ga K "_law_healed", "_law_healed", "_law_healed", sLawHealed⟩
abbrev d51 : Hq.DefQ := ⟨fun K => He.ga K "_law_chooses", "_law_chooses", "_law_chooses", sLawChooses⟩
abbrev d52 : Hq.DefQ := ⟨fun K => He.ga K "law", "law", "law", sLaw⟩
def namesQ_0 : List PySem.Str := ["_wall", "StoreError", "InvalidInput", "BadRule", "is_whole", "check_least", "consists_of", "Round", "check_round", "living", "is_word", "check_word", "NAMES", "SIGNS", "MOST_DIGITS", "Keeper", "RuleKeeper", "most_carries", "_check_moment", "_facts", "_holds", "_is_when", "_is_else", "_is_number", "_is_amount", "_law_is_count", "_law_box", "_law_take", "_law_round", "_law_pays"]
def namesQ_1 : List PySem.Str := ["_law_word", "_law_stand", "_law_value", "_law_digits", "_law_amount_text", "_law_line", "_law_odd_word", "_law_odd_line", "_law_sign", "_law_bent", "_law_text", "_law_number", "_law_amount", "_law_rule", "_law_holds", "_law_due", "_law_first_bad", "_law_refused", "_law_healed", "_law_chooses"]
def namesQ : List PySem.Str := namesQ_0 ++ namesQ_1
def factsQ0 : List Hq.Fq := [f0, f1, f2, f3, f4, f5, f6, f7, f8, f9, f10, f11, f12, f13, f14, f15, f16, f17, f18, f19, f20, f21, f22, f23]
def defsQ0 : List Hq.DefQ := [d0, d1, d2, d3, d4, d5, d6, d7, d8, d9, d10, d11, d12, d13, d14, d15, d16, d17, d18, d19, d20, d21, d22, d23]
def factsQ1 : List Hq.Fq := [f24, f25, f26, f27, f28, f29, f30, f31, f32, f33, f34, f35, f36, f37, f38, f39, f40, f41, f42, f43, f44, f45, f46, f47]
def defsQ1 : List Hq.DefQ := [d24, d25, d26, d27, d28, d29, d30, d31, d32, d33, d34, d35, d36, d37, d38, d39, d40, d41, d42, d43, d44, d45, d46, d47]
def factsQ2 : List Hq.Fq := [f48, f49, f50, f51, f52, f53, f54, f55, f56, f57, f58, f59, f60, f61, f62, f63, f64, f65, f66, f67, f68, f69, f70, f71]
def defsQ2 : List Hq.DefQ := [d48, d49, d50, d51, d52]
def factsQ3 : List Hq.Fq := [f72, f73, f74, f75, f76, f77, f78, f79, f80, f81, f82, f83, f84, f85, f86, f87, f88, f89]
def defsQ3 : List Hq.DefQ := []
abbrev groupsQ : List Hq.Gq := [(factsQ0, defsQ0), (factsQ1, defsQ1), (factsQ2, defsQ2), (factsQ3, defsQ3)]
open PySem PySem.W PySem.Calls PyProof.Rows in
set_option maxHeartbeats 0 in
theorem runL (w : World) (os : OsState) : (HandSHeadRun.endF (HandSHeadRun.stepQ (HandSHeadRun.denQ HandSHeadRun.tabQ) rowQ.prog w) 60000 rowQ.prog w os).map (fun s => (HandSHeadRun.looksF rowQ.prog (boot_heap w.params) s.abs, HandSHeadRun.seenQ viewQ namesQ (importedModules rowQ.prog.main.body) (fun s => PySem.W.xlAt viewQ [] s && PySem.W.recOk rowQ.toRowW.records s) s.abs)) = some (true, PySem.W.openGood viewQ namesQ) := by
  kernel_rfl
set_option maxHeartbeats 0 in
theorem run0 (w : World) (os : OsState) : (HandSHeadRun.endF (HandSHeadRun.stepQ (HandSHeadRun.denQ HandSHeadRun.tabQ) rowQ.prog w) 60000 rowQ.prog w os).map (Hq.ob1 (factsQ0, defsQ0)) = some (Hq.valP (factsQ0, defsQ0)) := by
  kernel_rfl
set_option maxHeartbeats 0 in
theorem run1 (w : World) (os : OsState) : (HandSHeadRun.endF (HandSHeadRun.stepQ (HandSHeadRun.denQ HandSHeadRun.tabQ) rowQ.prog w) 60000 rowQ.prog w os).map (Hq.ob1 (factsQ1, defsQ1)) = some (Hq.valP (factsQ1, defsQ1)) := by
  kernel_rfl
set_option maxHeartbeats 0 in
theorem run2 (w : World) (os : OsState) : (HandSHeadRun.endF (HandSHeadRun.stepQ (HandSHeadRun.denQ HandSHeadRun.tabQ) rowQ.prog w) 60000 rowQ.prog w os).map (Hq.ob1 (factsQ2, defsQ2)) = some (Hq.valP (factsQ2, defsQ2)) := by
  kernel_rfl
set_option maxHeartbeats 0 in
theorem run3 (w : World) (os : OsState) : (HandSHeadRun.endF (HandSHeadRun.stepQ (HandSHeadRun.denQ HandSHeadRun.tabQ) rowQ.prog w) 60000 rowQ.prog w os).map (Hq.ob1 (factsQ3, defsQ3)) = some (Hq.valP (factsQ3, defsQ3)) := by
  kernel_rfl
theorem runC (w : World) (os : OsState) : (HandSHeadRun.endF (HandSHeadRun.stepQ (HandSHeadRun.denQ HandSHeadRun.tabQ) rowQ.prog w) 60000 rowQ.prog w os).map (Hq.ob groupsQ) = some (groupsQ.map Hq.valP) :=
  (Hq.more (run0 w os) (Hq.more (run1 w os) (Hq.more (run2 w os) (Hq.more (run3 w os) (Hq.noMore (runL w os))))))
set_option maxHeartbeats 0 in
theorem runQ (w : World) : HandSHeadRun.RunEq rowQ viewQ (Hq.hook groupsQ) (Hq.ob groupsQ) 60000 namesQ w := fun os => Hq.join (runL w os) (runC w os)
set_option maxHeartbeats 0 in
theorem factsOk {w : World} {K : PySem.W.Frag} {h : Heap} {mg : Str → Option Value} {fa : Addr} (X : K.In h) (G : h.Ns mainGlobals mg) (hfa : mg "law" = some (.ref fa)) (c0 : Hq.SaysQ factsQ0 defsQ0 K) (c1 : Hq.SaysQ factsQ1 defsQ1 K) (c2 : Hq.SaysQ factsQ2 defsQ2 K) (c3 : Hq.SaysQ factsQ3 defsQ3 K) :
    ∃ fd : FuncData, (∀ (s : Shared) (v : Value), BindsTo s fd ⟨[v], []⟩ [("script", v)]) ∧ ∀ base : Heap, K.In base → base.Ns mainGlobals mg → FnOk PySem.Challenge.rw_carrylog_k55_rule_texts.prog w K mg base CX0 8 fa fd ["script"] (spLaw K) :=
  all_mk (l := PySem.Challenge.rw_carrylog_k55_rule_texts) (C := He.ga K "Round") (C_RuleKeeper := He.ga K "RuleKeeper") (C_BadRule := He.ga K "BadRule") (C_InvalidInput := He.ga K "InvalidInput") (C_StoreError := He.ga K "StoreError") (C_Keeper := He.ga K "Keeper") X G hfa
    (Hq.errQ (P := PySem.Challenge.rw_carrylog_k55_rule_texts.prog) Cl.so_BadRule Cl.fo_line rfl (by decide) (c0.def_ 0 (d := d0) rfl) (c0.fact 0 (f := f0) rfl))
    (Hq.errQ (P := PySem.Challenge.rw_carrylog_k55_rule_texts.prog) Cl.so_InvalidInput Cl.fo_field rfl (by decide) (c0.def_ 1 (d := d1) rfl) (c0.fact 1 (f := f1) rfl))
    (Hq.nsQ (v := fun _ => none) (c0.fact 2 (f := f2) rfl))
    (Hq.namQ (c0.fact 3 (f := f3) rfl))
    (Hq.namQ (c0.fact 4 (f := f4) rfl))
    (Hq.acQ (c0.fact 5 (f := f5) rfl))
    (Hq.conQ (c0.fact 6 (f := f6) rfl))
    (Hq.acQ (c0.fact 7 (f := f7) rfl))
    (Hq.exmQ (c0.fact 8 (f := f8) rfl))
    (Hq.kitQ (c0.fact 9 (f := f9) rfl))
    (Hq.kitQ (c0.fact 10 (f := f10) rfl))
    (Hq.kitTQ (c0.fact 11 (f := f11) rfl))
    (Hq.kitQ (c0.fact 12 (f := f12) rfl))
    (Hq.naQ (c0.fact 13 (f := f13) rfl))
    (Hq.naQ (c0.fact 14 (f := f14) rfl))
    (Hq.gvQ (c0.fact 15 (f := f15) rfl))
    (Hq.gvtQ (c0.fact 16 (f := f16) rfl))
    (Hq.gvtQ (c0.fact 17 (f := f17) rfl))
    (Hq.atTopQ (c0.def_ 2 (d := d2) rfl) (c0.fact 18 (f := f18) rfl))
    (Hq.atTopQ (c0.def_ 3 (d := d3) rfl) (c0.fact 19 (f := f19) rfl))
    (Hq.atTopQ (c0.def_ 4 (d := d4) rfl) (c0.fact 20 (f := f20) rfl))
    (Hq.atTopQ (c0.def_ 5 (d := d5) rfl) (c0.fact 21 (f := f21) rfl))
    (Hq.atTopQ (c0.def_ 6 (d := d6) rfl) (c0.fact 22 (f := f22) rfl))
    (Hq.atTopQ (c0.def_ 7 (d := d7) rfl) (c0.fact 23 (f := f23) rfl))
    (Hq.atClsQ (c0.def_ 8 (d := d8) rfl) (c1.fact 0 (f := f24) rfl))
    (Hq.atPropQ (c0.def_ 9 (d := d9) rfl) (c1.fact 1 (f := f25) rfl))
    (Hq.atClsQ (c0.def_ 10 (d := d10) rfl) (c1.fact 2 (f := f26) rfl))
    (Hq.atClsQ (c0.def_ 11 (d := d11) rfl) (c1.fact 3 (f := f27) rfl))
    (Hq.atClsQ (c0.def_ 12 (d := d12) rfl) (c1.fact 4 (f := f28) rfl))
    (Hq.atClsQ (c0.def_ 13 (d := d13) rfl) (c1.fact 5 (f := f29) rfl))
    (Hq.atClsQ (c0.def_ 14 (d := d14) rfl) (c1.fact 6 (f := f30) rfl))
    (Hq.atTopQ (c0.def_ 15 (d := d15) rfl) (c1.fact 7 (f := f31) rfl))
    (Hq.atTopQ (c0.def_ 16 (d := d16) rfl) (c1.fact 8 (f := f32) rfl))
    (Hq.atTopQ (c0.def_ 17 (d := d17) rfl) (c1.fact 9 (f := f33) rfl))
    (Hq.atTopQ (c0.def_ 18 (d := d18) rfl) (c1.fact 10 (f := f34) rfl))
    (Hq.atTopQ (c0.def_ 19 (d := d19) rfl) (c1.fact 11 (f := f35) rfl))
    (Hq.atTopQ (c0.def_ 20 (d := d20) rfl) (c1.fact 12 (f := f36) rfl))
    (Hq.atTopQ (c0.def_ 21 (d := d21) rfl) (c1.fact 13 (f := f37) rfl))
    (Hq.atTopQ (c0.def_ 22 (d := d22) rfl) (c1.fact 14 (f := f38) rfl))
    (Hq.atTopQ (c0.def_ 23 (d := d23) rfl) (c1.fact 15 (f := f39) rfl))
    (Hq.atTopQ (c1.def_ 0 (d := d24) rfl) (c1.fact 16 (f := f40) rfl))
    (Hq.atTopQ (c1.def_ 1 (d := d25) rfl) (c1.fact 17 (f := f41) rfl))
    (Hq.atTopQ (c1.def_ 2 (d := d26) rfl) (c1.fact 18 (f := f42) rfl))
    (Hq.atTopQ (c1.def_ 3 (d := d27) rfl) (c1.fact 19 (f := f43) rfl))
    (Hq.atTopQ (c1.def_ 4 (d := d28) rfl) (c1.fact 20 (f := f44) rfl))
    (Hq.atClsQ (c1.def_ 5 (d := d29) rfl) (c1.fact 21 (f := f45) rfl))
    (Hq.atTopQ (c1.def_ 6 (d := d30) rfl) (c1.fact 22 (f := f46) rfl))
    (Hq.atTopQ (c1.def_ 7 (d := d31) rfl) (c1.fact 23 (f := f47) rfl))
    (Hq.atClsQ (c1.def_ 8 (d := d32) rfl) (c2.fact 0 (f := f48) rfl))
    (Hq.atClsQ (c1.def_ 9 (d := d33) rfl) (c2.fact 1 (f := f49) rfl))
    (Hq.atTopQ (c1.def_ 10 (d := d34) rfl) (c2.fact 2 (f := f50) rfl))
    (Hq.atTopQ (c1.def_ 11 (d := d35) rfl) (c2.fact 3 (f := f51) rfl))
    (Hq.atTopQ (c1.def_ 12 (d := d36) rfl) (c2.fact 4 (f := f52) rfl))
    (Hq.atTopQ (c1.def_ 13 (d := d37) rfl) (c2.fact 5 (f := f53) rfl))
    (Hq.atTopQ (c1.def_ 14 (d := d38) rfl) (c2.fact 6 (f := f54) rfl))
    (Hq.atTopQ (c1.def_ 15 (d := d39) rfl) (c2.fact 7 (f := f55) rfl))
    (Hq.atTopQ (c1.def_ 16 (d := d40) rfl) (c2.fact 8 (f := f56) rfl))
    (Hq.atTopQ (c1.def_ 17 (d := d41) rfl) (c2.fact 9 (f := f57) rfl))
    (Hq.atTopQ (c1.def_ 18 (d := d42) rfl) (c2.fact 10 (f := f58) rfl))
    (Hq.atTopQ (c1.def_ 19 (d := d43) rfl) (c2.fact 11 (f := f59) rfl))
    (Hq.atTopQ (c1.def_ 20 (d := d44) rfl) (c2.fact 12 (f := f60) rfl))
    (Hq.atTopQ (c1.def_ 21 (d := d45) rfl) (c2.fact 13 (f := f61) rfl))
    (Hq.atTopQ (c1.def_ 22 (d := d46) rfl) (c2.fact 14 (f := f62) rfl))
    (Hq.atTopQ (c1.def_ 23 (d := d47) rfl) (c2.fact 15 (f := f63) rfl))
    (Hq.atTopQ (c2.def_ 0 (d := d48) rfl) (c2.fact 16 (f := f64) rfl))
    (Hq.atTopQ (c2.def_ 1 (d := d49) rfl) (c2.fact 17 (f := f65) rfl))
    (Hq.atTopQ (c2.def_ 2 (d := d50) rfl) (c2.fact 18 (f := f66) rfl))
    (Hq.atTopQ (c2.def_ 3 (d := d51) rfl) (c2.fact 19 (f := f67) rfl))
    (Hq.atTopQ (c2.def_ 4 (d := d52) rfl) (c2.fact 20 (f := f68) rfl))
    (Hq.nsQ (v := fun _ => none) (c2.fact 21 (f := f69) rfl))
    (Hq.nsQ (v := fun _ => none) (c2.fact 22 (f := f70) rfl))
    (Hq.nsQ (v := fun _ => none) (c2.fact 23 (f := f71) rfl))
    (Hq.nsQ (v := fun _ => none) (c3.fact 0 (f := f72) rfl))
    (Hq.nsQ (v := fun _ => none) (c3.fact 1 (f := f73) rfl))
    (Hq.nsQ (v := fun _ => none) (c3.fact 2 (f := f74) rfl))
    (Hq.nsQ (v := fun _ => none) (c3.fact 3 (f := f75) rfl))
    (Hq.nsQ (v := fun _ => none) (c3.fact 4 (f := f76) rfl))
    (Hq.nsQ (v := fun _ => none) (c3.fact 5 (f := f77) rfl))
    (Hq.nsQ (v := fun _ => none) (c3.fact 6 (f := f78) rfl))
    (Hq.nsQ (v := fun _ => none) (c3.fact 7 (f := f79) rfl))
    (Hq.nsQ (v := fun _ => none) (c3.fact 8 (f := f80) rfl))
    (Hq.nsQ (v := fun _ => none) (c3.fact 9 (f := f81) rfl))
    (Hq.nsQ (v := fun _ => none) (c3.fact 10 (f := f82) rfl))
    (Hq.nsQ (v := fun _ => none) (c3.fact 11 (f := f83) rfl))
    (Hq.nsQ (v := fun _ => none) (c3.fact 12 (f := f84) rfl))
    (Hq.nsQ (v := fun _ => none) (c3.fact 13 (f := f85) rfl))
    (Hq.nsQ (v := fun _ => none) (c3.fact 14 (f := f86) rfl))
    (Hq.nsQ (v := fun _ => none) (c3.fact 15 (f := f87) rfl))
    (Hq.nsQ (v := fun _ => none) (c3.fact 16 (f := f88) rfl))
    (Hq.nsQ (v := fun _ => none) (c3.fact 17 (f := f89) rfl))
end Cl
open PySem PySem.W PySem.Calls PyProof.Rows
set_option maxRecDepth 100000 in
set_option maxHeartbeats 0 in
theorem PySem.Challenge.cw_carrylog_k55_rule_texts_holds : PySem.Challenge.rw_carrylog_k55_rule_texts.Holds := by
  w_on; o_law
  refine HandSHeadRun.head_any (r := Cl.rowQ) (q := Cl.viewQ) (H := Hq.hook Cl.groupsQ) (ob := Hq.ob Cl.groupsQ) (M := 60000) (loose := Cl.namesQ) (d := HandSHeadRun.topDef Cl.rowQ.prog 56) (kwd := []) (Hq.ob_eq _) (by kernel_rfl) (fun s => by kernel_rfl) Cl.runQ (by kernel_rfl) (by kernel_rfl) (by kernel_rfl) (by rfl) (by first | assumption | decide +kernel) (by decide +kernel) ⟨rfl, rfl, rfl, rfl, rfl, by decide +kernel⟩ ?hw ?hc
  case hw => w_witness2
  case hc =>
    refine L2.walk_ofE (l := PySem.Challenge.rw_carrylog_k55_rule_texts) (n := 63) (k := 8) (x := "script") (CX := L2.CX0) rfl (by decide) (by kernel_rfl) ⟨rfl, by decide, by decide⟩ ?F (fun _ _ _ _ z => z)
    intro w mg fa h Y G hmg0
    obtain ⟨K, KX, c⟩ := Y
    have hmg : mg ("law" : PySem.Str) = some (.ref fa) := by
      have e : (HandSHeadRun.topDef Cl.rowQ.prog 56).name = ("law" : PySem.Str) := by kernel_rfl
      rw [← e]
      exact hmg0
    obtain ⟨fd, hb, hF⟩ := Cl.factsOk (w := w) KX G hmg (c (Cl.factsQ0, Cl.defsQ0) (List.mem_of_getElem? (i := 0) rfl)) (c (Cl.factsQ1, Cl.defsQ1) (List.mem_of_getElem? (i := 1) rfl)) (c (Cl.factsQ2, Cl.defsQ2) (List.mem_of_getElem? (i := 2) rfl)) (c (Cl.factsQ3, Cl.defsQ3) (List.mem_of_getElem? (i := 3) rfl))
    exact ⟨K, fd, (Cl.spLaw K), KX, hb, fun H a ns hl _ hS => ⟨a, ns, rfl, hS, hl, fun _ => rfl⟩, hF⟩
