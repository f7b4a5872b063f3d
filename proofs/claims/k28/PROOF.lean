import PyProof.Rows.All
import Wide.All
import OpenK.AllK
import Wide.FinOn
import HandS.ForMost
import HandS.Wide
import HandS.IsInst
import HandS.Defaults
import HandS.Codes
import HandS.MakeKwOnly
import PySem.Challenge.RW_carrylog_k28_ranks_of_words
import HandS.Star
import HandS.ClsMeth
import HandS.Property
import HandS.TupLe
import HandS.Sort
import HandS.Evl
import HandS.TupAny
import HandS.DeepEq
import KE.KTupSum
import KE.KMathG
import Flt.RightSqrt
import HandS.Struct
import HandS.Iter
import HandS.Walk
import PyProof.EnumMake
import PyProof.Draws
import PyProof.Rows.StrJoinRep
import PyProof.Rows.RegReprOcc
import PyProof.Rows.StrCut
import HandS.DictComp
import HandS.Text
import HandS.StrMore
import HandS.Zip
import KE.KExcSuper
import KE.KSuper
import PyProof.FString
import PyProof.FString4
import HandS.Exc
import HandS.ExcOwn
import HandS.TryOnly
import HandS.WordsExc
import HandS.CallSlots
import KE.KExcIs
import HandS.ExcIs
import KE.RegKSuper
import HandS.ReplaceLit
import HandS.ReplaceList
import PyProof.ToksMono
set_option Elab.async false
set_option maxRecDepth 100000
/-! ### my words over the hand layer -/
namespace Cl
open PySem L2
/-- the built-in names that the law's text uses are still the built-ins -/
structure Bi (mg : Str → Option Value) : Prop where
  len : mg "len" = none
  abs : mg "abs" = none
  max : mg "max" = none
  min : mg "min" = none
  sum : mg "sum" = none
  all : mg "all" = none
  any : mg "any" = none
  range : mg "range" = none
  isinstance : mg "isinstance" = none
  intT : mg "int" = none
  strT : mg "str" = none
  boolT : mg "bool" = none
  listT : mg "list" = none
  divmod : mg "divmod" = none
  tupleT : mg "tuple" = none
  reversed : mg "reversed" = none
  repr : mg "repr" = none
  enumerate : mg "enumerate" = none
  zip : mg "zip" = none
  ValueErrorT : mg "ValueError" = none
/-- a def of the text, by its name: what it promises -/
structure Dn (P : Program) (w : World) (K : PySem.W.Frag) (mg : Str → Option Value) (base : Heap) (x : Str) (k : Nat) (ps : List Str) (sp : Sp) (dvs : List V := []) : Prop where
  ex : ∃ (f : Addr) (fd : FuncData) (ds : List Value), FnOk P w K mg base CX0 k f fd ps sp ∧ mg x = some (.ref f) ∧ PySem.W.keepIn K (.ref f) = true ∧ Binds K fd ps ds ∧ Vals dvs ds
/-- the same called with keywords -/
structure Dk (P : Program) (w : World) (K : PySem.W.Frag) (mg : Str → Option Value) (base : Heap) (x : Str) (k : Nat) (ps : List Str) (sp : Sp) (n : Nat) (ks : List Str) (gV : List V → List V → List V) : Prop where
  ex : ∃ (f : Addr) (fd : FuncData) (g : List Value → List Value → List Value), FnOk P w K mg base CX0 k f fd ps sp ∧ mg x = some (.ref f) ∧ PySem.W.keepIn K (.ref f) = true ∧ KBn K fd ps n ks g gV
section
variable {X : Cx} {k n : Nat} {ps ks : List Str} {sp : Sp} {dvs : List V} {E : XK} {x : Str} {p pos : Pos} {e : Expr} {es : List Expr} {kws : List Keyword} {t tk : TA} {gV : List V → List V → List V}
theorem pe_dn (D : Dn X.prog X.w X.K X.mg X.base x k ps sp dvs) (hr : Room k X.A) (hg : Gl X x) (hx : Passes CX0 X E) (ha : PA X (e :: es) t)
    (hdb : (x == ("__debug__" : Str)) = false := by decide) (he : starEach (e :: es) X.env = (false, eval e X.env) :: starEach es X.env := by rfl)
    (hpl : (backTo pos (starEach es X.env)).any (·.1) = false := by rfl) : PE X (.Call (.Name x p) (e :: es) [] pos) (tCall sp dvs E t) := by
  obtain ⟨f, fd, ds, G, m, kp, b, v⟩ := D.ex
  exact pe_call G hr hg m kp b v hx ha hdb he hpl
theorem pe_dn0 (D : Dn X.prog X.w X.K X.mg X.base x k ps sp dvs) (hr : Room k X.A) (hg : Gl X x) (hx : Passes CX0 X E)
    (hdb : (x == ("__debug__" : Str)) = false := by decide) : PE X (.Call (.Name x p) [] [] pos) (tCall sp dvs E tNil) := by
  obtain ⟨f, fd, ds, G, m, kp, b, v⟩ := D.ex
  exact pe_call0 G hr hg m kp b v hx hdb
theorem pe_dk (D : Dk X.prog X.w X.K X.mg X.base x k ps sp n ks gV) (hr : Room k X.A) (hg : Gl X x) (hx : Passes CX0 X E) (ha : PA X (e :: es) t) (hkw : PK X kws tk)
    (hall : (backToKw pos (keywordEach kws X.env)).all (·.1.isSome) = true := by rfl) (hks : (backToKw pos (keywordEach kws X.env)).filterMap (·.1) = ks := by rfl)
    (hdb : (x == ("__debug__" : Str)) = false := by decide) (he : starEach (e :: es) X.env = (false, eval e X.env) :: starEach es X.env := by rfl)
    (hpl : ((backTo pos (starEach (e :: es) X.env)).any (·.1) || (backToKw pos (keywordEach kws X.env)).any (·.1.isNone)) = false := by rfl) :
    PE X (.Call (.Name x p) (e :: es) kws pos) (tCallN n ks.length sp gV E t tk) := by
  obtain ⟨f, fd, g, G, m, kp, b⟩ := D.ex
  exact pe_callN G hr hg m kp b hx ha hkw hall hks hdb he hpl
end
theorem mulB {i j : Int} (h1 : -100000000000000000000000000000000000000000000000000000000000000 ≤ i) (h2 : i ≤ 100000000000000000000000000000000000000000000000000000000000000) (h3 : -100000000000000000000000000000000000000000000000000000000000000 ≤ j) (h4 : j ≤ 100000000000000000000000000000000000000000000000000000000000000) : CMulW i j :=
  wide_mul (a := 220) (b := 220) (Nat.lt_of_le_of_lt (show i.natAbs ≤ 100000000000000000000000000000000000000000000000000000000000000 by omega) (by decide)) (Nat.lt_of_le_of_lt (show j.natAbs ≤ 100000000000000000000000000000000000000000000000000000000000000 by omega) (by decide)) (by decide) (by decide) (by decide)
theorem divB {i j : Int} (h : 0 < j) (h2 : j ≤ 100000000000000000000000000000000000000000000000000000000000000) : CDivW i j :=
  wide_div h (b := 220) (Nat.lt_of_le_of_lt (show j.natAbs ≤ 100000000000000000000000000000000000000000000000000000000000000 by omega) (by decide)) (by decide) (by decide)
theorem strB {i : Int} (h1 : -100000000000000000000000000000000000000000000000000000000000000 ≤ i) (h2 : i ≤ 100000000000000000000000000000000000000000000000000000000000000) : i.natAbs.log2 < 1920 :=
  Nat.lt_of_lt_of_le (PySem.Flt.log2_lt_of (k := 220) (by decide) (Nat.lt_of_le_of_lt (show i.natAbs ≤ 100000000000000000000000000000000000000000000000000000000000000 by omega) (by decide))) (by decide)
/-- all that was tracked but what stands at a is as it was -/
def But (a : Addr) (H H' : Hp) : Prop := ∀ b o, b ≠ a → H b = some o → H' b = some o
theorem But.refl (a : Addr) (H : Hp) : But a H H := fun _ _ _ h => h
theorem But.trans {a : Addr} {H H1 H2 : Hp} (x : But a H H1) (y : But a H1 H2) : But a H H2 := fun b o n h => y b o n (x b o n h)
theorem But.of {a : Addr} {H H' : Hp} (x : Same H H') : But a H H' := fun b o _ h => x b o h
theorem But.upd {a : Addr} {H : Hp} {o : HO} : But a H (upd H a o) := fun b u n h => by rw [upd_ne n]; exact h
theorem Same.upd {p : Addr} {H : Hp} {o : HO} (h : H p = none) : Same H (upd H p o) := fun b u e => by rw [upd_ne (ne_of_none e h)]; exact e
theorem itd {c A B : Prop} [Decidable c] (h1 : c → A) (h2 : ¬ c → B) : if decide c = true then A else B := by
  by_cases h : c
  · rw [decide_eq_true h]; exact iteT (h1 h)
  · rw [decide_eq_false h]; exact iteF (h2 h)
theorem itn {c A B : Prop} [Decidable c] (h1 : ¬ c → A) (h2 : c → B) : if (!decide c) = true then A else B := by
  by_cases h : c
  · rw [decide_eq_true h]; exact iteF (h2 h)
  · rw [decide_eq_false h]; exact iteT (h1 h)
theorem iti {a b : Int} {A B : Prop} (h1 : a = b → A) (h2 : a ≠ b → B) : if decide (V.int a = V.int b) = true then A else B :=
  itd (fun h => h1 (V.int.inj h)) (fun h => h2 fun e => h (by rw [e]))
theorem itni {a b : Int} {A B : Prop} (h1 : a ≠ b → A) (h2 : a = b → B) : if (!decide (V.int a = V.int b)) = true then A else B :=
  itn (fun h => h1 fun e => h (by rw [e])) (fun h => h2 (V.int.inj h))
theorem But.sub {a b : Addr} {H H1 H2 : Hp} {o : HO} (n : b ≠ a) (x : But a H H1) (h : H b = some o) : H1 b = some o := x b o n h
/-- a comprehension without tests whose element is reckoned without a trace: the new list is the old one, mapped -/
theorem lc_pure {K : PySem.W.Frag} {a D : Addr} {xs : List V} {g : TG} {te : TE} {vs : List Nat} {σ : L2.St} {H1 : Hp} {Qd : Hp → Prop} (f : V → V) (hx : SqL K H1 a xs) (hD : H1 D = none) (hlen : xs.length < 10000)
    (hs : ∀ (x : V) (H : Hp) (R : V → Hp → Prop), x ∈ xs → (∀ b o, H1 b = some o → H b = some o) → R (f x) H → g x (wipe σ vs) H fun σ2 H2 => wipe σ2 vs = wipe σ vs ∧ te σ2 H2 R) (hd : Qd (upd H1 D (.lst (xs.map f)))) :
    ∃ W : Nat → Nat → Hp → Prop, (∃ m, W 0 m (upd H1 D (.lst []))) ∧ ∀ i m H, W i m H →
      ((Itl K a).stop i H ∧ Qd H) ∨ ((Itl K a).go i H ∧ ∃ Nx : Hp → Prop, (∀ H', Nx H' → ∃ m', m' < m ∧ W (i + 1) m' H') ∧ ∀ x H', (Itl K a).yld i H x H' → g x (wipe σ vs) H' fun σ2 H2 => wipe σ2 vs = wipe σ vs ∧ tYes σ2 H2 fun b H3 =>
        if b = true then te σ2 H3 fun y H4 => ∃ acc, H4 D = some (.lst acc) ∧ acc.length < sizeLine ∧ Nx (upd H4 D (.lst (acc ++ [y]))) else Nx H3) := by
  refine lc_list (K := K) (a := a) (xs := xs) (fun i H => H = upd H1 D (.lst ((xs.take i).map f))) (by rw [List.take_zero]; rfl) (fun i H _ e => by rw [e]; exact Same.seq (Same.upd hD) hx) ?_ ?_
  · rintro i x H hi rfl
    have hm : x ∈ xs := List.mem_of_getElem? hi
    have hi2 := (List.getElem?_eq_some_iff.mp hi).1
    have key : ∀ R : V → Hp → Prop, R (f x) (upd H1 D (.lst ((xs.take i).map f))) → g x (wipe σ vs) (upd H1 D (.lst ((xs.take i).map f))) fun σ2 H2 => wipe σ2 vs = wipe σ vs ∧ te σ2 H2 R := fun R hR =>
      hs x _ R hm (fun b o e => Same.upd hD b o e) hR
    have k2 := key (fun y H4 => ∃ acc, H4 D = some (.lst acc) ∧ acc.length < sizeLine ∧ upd H4 D (.lst (acc ++ [y])) = upd H1 D (.lst ((xs.take (i + 1)).map f))) ⟨_, upd_same, ?_, ?_⟩
    · exact k2
    · rw [List.length_map, List.length_take]
      have : (10000 : Nat) ≤ sizeLine := by decide
      omega
    · rw [upd_upd]
      have e : xs.take (i + 1) = xs.take i ++ [x] := by
        rw [List.take_add_one, hi]; rfl
      rw [e, List.map_append]; rfl
  · rintro H rfl
    rw [List.take_length]
    exact hd
/-- what stays while a new list at D grows: all that H1 tracks -/
theorem grow_same {D : Addr} {H1 H : Hp} {o : HO} (hD : H1 D = none) (x : Same H1 H) : Same H1 (upd H D o) := fun b u e => by
  rw [upd_ne (ne_of_none e hD)]; exact x b u e
/-- a comprehension over a range; its element may make objects -/
theorem lc_growR {lo : Int} {n : Nat} {g : TG} {te : TE} {vs : List Nat} {σ : L2.St} {H1 : Hp} {D : Addr} {Qd : Hp → Prop} (f : Nat → V) (hD : H1 D = none) (hlen : n < 10000)
    (hs : ∀ (i : Nat) (H : Hp) (R : V → Hp → Prop), i < n → Same H1 H → (∀ H', Same H H' → R (f i) H') → g (.int (lo + i)) (wipe σ vs) H fun σ2 H2 => wipe σ2 vs = wipe σ vs ∧ te σ2 H2 R)
    (hd : ∀ H, Same H1 H → H D = some (.lst ((List.range n).map f)) → Qd H) :
    ∃ W : Nat → Nat → Hp → Prop, (∃ m, W 0 m (upd H1 D (.lst []))) ∧ ∀ i m H, W i m H →
      ((Itr lo n).stop i H ∧ Qd H) ∨ ((Itr lo n).go i H ∧ ∃ Nx : Hp → Prop, (∀ H', Nx H' → ∃ m', m' < m ∧ W (i + 1) m' H') ∧ ∀ x H', (Itr lo n).yld i H x H' → g x (wipe σ vs) H' fun σ2 H2 => wipe σ2 vs = wipe σ vs ∧ tYes σ2 H2 fun b H3 =>
        if b = true then te σ2 H3 fun y H4 => ∃ acc, H4 D = some (.lst acc) ∧ acc.length < sizeLine ∧ Nx (upd H4 D (.lst (acc ++ [y]))) else Nx H3) := by
  refine lc_range (lo := lo) (n := n) (fun i H => Same H1 H ∧ H D = some (.lst ((List.range i).map f))) ⟨grow_same hD (Same.refl H1), upd_same⟩ ?_ (fun H h => hd H h.1 h.2)
  rintro i H hi ⟨hS, hL⟩
  have key := hs i H (fun y H4 => ∃ acc, H4 D = some (.lst acc) ∧ acc.length < sizeLine ∧ (Same H1 (upd H4 D (.lst (acc ++ [y]))) ∧ upd H4 D (.lst (acc ++ [y])) D = some (.lst ((List.range (i + 1)).map f)))) hi hS fun H' hS' => ⟨_, hS' _ _ hL, ?_, grow_same hD (hS.trans hS'), ?_⟩
  · exact key
  · rw [List.length_map, List.length_range]
    have : (10000 : Nat) ≤ sizeLine := by decide
    omega
  · rw [upd_same, List.range_succ, List.map_append]; rfl
/-- .. with a test -/
theorem lc_filtR {lo : Int} {n : Nat} {g : TG} {tt : TT} {te : TE} {vs : List Nat} {σ : L2.St} {H1 : Hp} {D : Addr} {Qd : Hp → Prop} (f : Nat → V) (p : Nat → Bool) (hD : H1 D = none) (hlen : n < 10000)
    (hs : ∀ (i : Nat) (H : Hp) (R : V → Hp → Prop) (R0 : Hp → Prop), i < n → Same H1 H → (p i = true → ∀ H', Same H H' → R (f i) H') → (p i = false → ∀ H', Same H H' → R0 H') →
      g (.int (lo + i)) (wipe σ vs) H fun σ2 H2 => wipe σ2 vs = wipe σ vs ∧ tt σ2 H2 fun b H3 => if b = true then te σ2 H3 R else R0 H3)
    (hd : ∀ H, Same H1 H → H D = some (.lst (((List.range n).filter p).map f)) → Qd H) :
    ∃ W : Nat → Nat → Hp → Prop, (∃ m, W 0 m (upd H1 D (.lst []))) ∧ ∀ i m H, W i m H →
      ((Itr lo n).stop i H ∧ Qd H) ∨ ((Itr lo n).go i H ∧ ∃ Nx : Hp → Prop, (∀ H', Nx H' → ∃ m', m' < m ∧ W (i + 1) m' H') ∧ ∀ x H', (Itr lo n).yld i H x H' → g x (wipe σ vs) H' fun σ2 H2 => wipe σ2 vs = wipe σ vs ∧ tt σ2 H2 fun b H3 =>
        if b = true then te σ2 H3 fun y H4 => ∃ acc, H4 D = some (.lst acc) ∧ acc.length < sizeLine ∧ Nx (upd H4 D (.lst (acc ++ [y]))) else Nx H3) := by
  refine lc_range (lo := lo) (n := n) (fun i H => Same H1 H ∧ H D = some (.lst (((List.range i).filter p).map f))) ⟨grow_same hD (Same.refl H1), upd_same⟩ ?_ (fun H h => hd H h.1 h.2)
  rintro i H hi ⟨hS, hL⟩
  have e1 : (List.range (i + 1)).filter p = (List.range i).filter p ++ (if p i = true then [i] else []) := by
    rw [List.range_succ, List.filter_append, List.filter_cons, List.filter_nil]
  have key := hs i H (fun y H4 => ∃ acc, H4 D = some (.lst acc) ∧ acc.length < sizeLine ∧ (Same H1 (upd H4 D (.lst (acc ++ [y]))) ∧ upd H4 D (.lst (acc ++ [y])) D = some (.lst (((List.range (i + 1)).filter p).map f))))
    (fun H4 => Same H1 H4 ∧ H4 D = some (.lst (((List.range (i + 1)).filter p).map f))) hi hS (fun hp H' hS' => ⟨_, hS' _ _ hL, ?_, grow_same hD (hS.trans hS'), ?_⟩) (fun hp H' hS' => ⟨hS.trans hS', ?_⟩)
  · exact key
  · rw [List.length_map]
    have : (10000 : Nat) ≤ sizeLine := by decide
    have h2 := List.length_filter_le p (List.range i)
    rw [List.length_range] at h2
    omega
  · rw [upd_same, e1, if_pos hp, List.map_append]; rfl
  · rw [hS' _ _ hL, e1, if_neg (by rw [hp]; exact Bool.false_ne_true), List.append_nil]
/-- .. over a list that stands still -/
theorem lc_growL {K : PySem.W.Frag} {a D : Addr} {xs : List V} {g : TG} {te : TE} {vs : List Nat} {σ : L2.St} {H1 : Hp} {Qd : Hp → Prop} (f : V → V) (hx : SqL K H1 a xs) (hD : H1 D = none) (hlen : xs.length < 10000)
    (hs : ∀ (x : V) (H : Hp) (R : V → Hp → Prop), x ∈ xs → Same H1 H → (∀ H', Same H H' → R (f x) H') → g x (wipe σ vs) H fun σ2 H2 => wipe σ2 vs = wipe σ vs ∧ te σ2 H2 R)
    (hd : ∀ H, Same H1 H → H D = some (.lst (xs.map f)) → Qd H) :
    ∃ W : Nat → Nat → Hp → Prop, (∃ m, W 0 m (upd H1 D (.lst []))) ∧ ∀ i m H, W i m H →
      ((Itl K a).stop i H ∧ Qd H) ∨ ((Itl K a).go i H ∧ ∃ Nx : Hp → Prop, (∀ H', Nx H' → ∃ m', m' < m ∧ W (i + 1) m' H') ∧ ∀ x H', (Itl K a).yld i H x H' → g x (wipe σ vs) H' fun σ2 H2 => wipe σ2 vs = wipe σ vs ∧ tYes σ2 H2 fun b H3 =>
        if b = true then te σ2 H3 fun y H4 => ∃ acc, H4 D = some (.lst acc) ∧ acc.length < sizeLine ∧ Nx (upd H4 D (.lst (acc ++ [y]))) else Nx H3) := by
  refine lc_list (K := K) (a := a) (xs := xs) (fun i H => Same H1 H ∧ H D = some (.lst ((xs.take i).map f))) ⟨grow_same hD (Same.refl H1), upd_same⟩ (fun i H _ h => Same.seq h.1 hx) ?_ (fun H h => hd H h.1 (by rw [h.2, List.take_length]))
  rintro i x H hi ⟨hS, hL⟩
  have hi2 := (List.getElem?_eq_some_iff.mp hi).1
  have key := hs x H (fun y H4 => ∃ acc, H4 D = some (.lst acc) ∧ acc.length < sizeLine ∧ (Same H1 (upd H4 D (.lst (acc ++ [y]))) ∧ upd H4 D (.lst (acc ++ [y])) D = some (.lst ((xs.take (i + 1)).map f)))) (List.mem_of_getElem? hi) hS fun H' hS' => ⟨_, hS' _ _ hL, ?_, grow_same hD (hS.trans hS'), ?_⟩
  · exact key
  · rw [List.length_map, List.length_take]
    have : (10000 : Nat) ≤ sizeLine := by decide
    omega
  · rw [upd_same]
    have e : xs.take (i + 1) = xs.take i ++ [x] := by
      rw [List.take_add_one, hi]; rfl
    rw [e, List.map_append]; rfl
/-- a bag stands at a -/
def BagAt (H : Hp) (a : Addr) : Prop := ∃ c t s : Int, H a = some (.lst [.int c, .int t, .int s])
theorem BagAt.same {H H' : Hp} {a : Addr} (h : BagAt H a) (x : Same H H') : BagAt H' a := by
  obtain ⟨c, t, s, e⟩ := h
  exact ⟨c, t, s, x _ _ e⟩
/-- a comprehension over a range whose element draws from a bag: the ints that it makes, each of which P holds -/
theorem lc_bagR {lo : Int} {n : Nat} {g : TG} {te : TE} {vs : List Nat} {σ : L2.St} {H1 : Hp} {D a : Addr} {Qd : Hp → Prop} (P : Int → Prop) (hB : BagAt H1 a) (hD : H1 D = none) (hlen : n < 10000)
    (hs : ∀ (i : Nat) (H : Hp) (R : V → Hp → Prop), i < n → BagAt H a → But a H1 H → (∀ d H', P d → BagAt H' a → But a H H' → R (.int d) H') → g (.int (lo + i)) (wipe σ vs) H fun σ2 H2 => wipe σ2 vs = wipe σ vs ∧ te σ2 H2 R)
    (hd : ∀ (ls : List Int) (H : Hp), H D = some (.lst (ls.map V.int)) → ls.length = n → (∀ x, x ∈ ls → P x) → BagAt H a → But a H1 H → Qd H) :
    ∃ W : Nat → Nat → Hp → Prop, (∃ m, W 0 m (upd H1 D (.lst []))) ∧ ∀ i m H, W i m H →
      ((Itr lo n).stop i H ∧ Qd H) ∨ ((Itr lo n).go i H ∧ ∃ Nx : Hp → Prop, (∀ H', Nx H' → ∃ m', m' < m ∧ W (i + 1) m' H') ∧ ∀ x H', (Itr lo n).yld i H x H' → g x (wipe σ vs) H' fun σ2 H2 => wipe σ2 vs = wipe σ vs ∧ tYes σ2 H2 fun b H3 =>
        if b = true then te σ2 H3 fun y H4 => ∃ acc, H4 D = some (.lst acc) ∧ acc.length < sizeLine ∧ Nx (upd H4 D (.lst (acc ++ [y]))) else Nx H3) := by
  have nDa : D ≠ a := fun e => by
    subst e
    obtain ⟨_, _, _, e2⟩ := hB
    rw [e2] at hD; cases hD
  have bagU : ∀ {H : Hp} {o : HO}, BagAt H a → BagAt (upd H D o) a := fun {H o} hb => by
    obtain ⟨x, y, z, e⟩ := hb
    exact ⟨x, y, z, by rw [upd_ne nDa.symm]; exact e⟩
  have butU : ∀ {H : Hp} {o : HO}, But a H1 H → But a H1 (upd H D o) := fun {H o} hb b u nb e => by
    rw [upd_ne (ne_of_none e hD)]; exact hb b u nb e
  refine lc_range (lo := lo) (n := n) (fun i H => ∃ ls : List Int, H D = some (.lst (ls.map V.int)) ∧ ls.length = i ∧ (∀ x, x ∈ ls → P x) ∧ BagAt H a ∧ But a H1 H) ⟨[], upd_same, rfl, fun x hx => (by cases hx), bagU hB, butU (But.refl _ _)⟩ ?_ (fun H ⟨ls, h1, h2, h3, h4, h5⟩ => hd ls H h1 h2 h3 h4 h5)
  rintro i H hi ⟨ls, h1, h2, h3, h4, h5⟩
  have key := hs i H (fun y H4 => ∃ acc, H4 D = some (.lst acc) ∧ acc.length < sizeLine ∧ ∃ ls : List Int, upd H4 D (.lst (acc ++ [y])) D = some (.lst (ls.map V.int)) ∧ ls.length = i + 1 ∧ (∀ x, x ∈ ls → P x) ∧ BagAt (upd H4 D (.lst (acc ++ [y]))) a ∧ But a H1 (upd H4 D (.lst (acc ++ [y])))) hi h4 h5
    fun d H' hP hB' hb' => ⟨ls.map V.int, hb' D _ nDa h1, ?_, ls ++ [d], by rw [upd_same, List.map_append]; rfl, by rw [List.length_append, h2]; rfl, fun x hx => ?_, bagU hB', butU (h5.trans hb')⟩
  · exact key
  · rw [List.length_map]
    have : (10000 : Nat) ≤ sizeLine := by decide
    omega
  · rcases List.mem_append.mp hx with h | h
    · exact h3 x h
    · simp at h; subst h; exact hP
/-! ### what the top has written -/
structure AtTop (K : PySem.W.Frag) (x qual : Str) (st : Stmt) (kws : List (Str × V)) : Prop where
  ex : ∃ (f : Addr) (fd : FuncData), PySem.W.nsIn K mainGlobals x = some (some (.ref f)) ∧ Fun K x qual st f fd ∧ FunD K x qual (defArgs st) (defBody st) (defScope st) [] kws f fd
section
variable {P : Program} {w : World} {K : PySem.W.Frag} {mg : Str → Option Value} {base : Heap} {x qual : Str} {st : Stmt} {ps : List Str} {k : Nat} {sp : Sp} {kws : List (Str × V)} {h : Heap}
theorem atTop0 {f : Addr} {oc : Value} {od an : Option Addr} {osl : Array (Option Value)} {kV doc pm cdv ct : Value} (a : PySem.W.nsIn K mainGlobals x = some (some (.ref f)))
    (l : K.lookup f = some ⟨oc, od, .func (PySem.W.fnOf x qual (defArgs st) (defBody st) (defScope st) .none kV doc pm an cdv ct), osl⟩) (c : PySem.W.codeIn K cdv qual = true) (p : PySem.W.keepIn K (.ref f) = true) : AtTop K x qual st [] :=
  ⟨f, _, a, fun_mk l c p, ⟨⟨oc, od, .none, kV, doc, pm, an, cdv, ct, osl, rfl, l, c, .inl ⟨rfl, rfl⟩, .inl rfl⟩, p⟩⟩
theorem atTop1 {f D : Addr} {oc : Value} {od an : Option Addr} {osl : Array (Option Value)} {doc pm cdv ct u : Value} {n : Str} {v : V} (a : PySem.W.nsIn K mainGlobals x = some (some (.ref f)))
    (l : K.lookup f = some ⟨oc, od, .func (PySem.W.fnOf x qual (defArgs st) (defBody st) (defScope st) .none (.ref D) doc pm an cdv ct), osl⟩) (c : PySem.W.codeIn K cdv qual = true) (p : PySem.W.keepIn K (.ref f) = true)
    (hk : PySem.W.nsIn K D n = some (some u)) (r : RelV v u) : AtTop K x qual st [(n, v)] :=
  ⟨f, _, a, fun_mk l c p, ⟨⟨oc, od, .none, .ref D, doc, pm, an, cdv, ct, osl, rfl, l, c, .inl ⟨rfl, rfl⟩, .inr ⟨D, rfl, fun q hq => by
    rcases List.mem_cons.mp hq with rfl | hq
    · exact ⟨u, hk, r⟩
    · cases hq⟩⟩, p⟩⟩
theorem atTop2 {f D : Addr} {oc : Value} {od an : Option Addr} {osl : Array (Option Value)} {doc pm cdv ct u u1 : Value} {n n1 : Str} {v v1 : V} (a : PySem.W.nsIn K mainGlobals x = some (some (.ref f)))
    (l : K.lookup f = some ⟨oc, od, .func (PySem.W.fnOf x qual (defArgs st) (defBody st) (defScope st) .none (.ref D) doc pm an cdv ct), osl⟩) (c : PySem.W.codeIn K cdv qual = true) (p : PySem.W.keepIn K (.ref f) = true)
    (hk : PySem.W.nsIn K D n = some (some u)) (r : RelV v u) (hk1 : PySem.W.nsIn K D n1 = some (some u1)) (r1 : RelV v1 u1) : AtTop K x qual st [(n, v), (n1, v1)] :=
  ⟨f, _, a, fun_mk l c p, ⟨⟨oc, od, .none, .ref D, doc, pm, an, cdv, ct, osl, rfl, l, c, .inl ⟨rfl, rfl⟩, .inr ⟨D, rfl, fun q hq => by
    rcases List.mem_cons.mp hq with rfl | hq
    · exact ⟨u, hk, r⟩
    rcases List.mem_cons.mp hq with rfl | hq
    · exact ⟨u1, hk1, r1⟩
    · cases hq⟩⟩, p⟩⟩
theorem atTop3 {f D : Addr} {oc : Value} {od an : Option Addr} {osl : Array (Option Value)} {doc pm cdv ct u u1 u2 : Value} {n n1 n2 : Str} {v v1 v2 : V} (a : PySem.W.nsIn K mainGlobals x = some (some (.ref f)))
    (l : K.lookup f = some ⟨oc, od, .func (PySem.W.fnOf x qual (defArgs st) (defBody st) (defScope st) .none (.ref D) doc pm an cdv ct), osl⟩) (c : PySem.W.codeIn K cdv qual = true) (p : PySem.W.keepIn K (.ref f) = true)
    (hk : PySem.W.nsIn K D n = some (some u)) (r : RelV v u) (hk1 : PySem.W.nsIn K D n1 = some (some u1)) (r1 : RelV v1 u1) (hk2 : PySem.W.nsIn K D n2 = some (some u2)) (r2 : RelV v2 u2) : AtTop K x qual st [(n, v), (n1, v1), (n2, v2)] :=
  ⟨f, _, a, fun_mk l c p, ⟨⟨oc, od, .none, .ref D, doc, pm, an, cdv, ct, osl, rfl, l, c, .inl ⟨rfl, rfl⟩, .inr ⟨D, rfl, fun q hq => by
    rcases List.mem_cons.mp hq with rfl | hq
    · exact ⟨u, hk, r⟩
    rcases List.mem_cons.mp hq with rfl | hq
    · exact ⟨u1, hk1, r1⟩
    rcases List.mem_cons.mp hq with rfl | hq
    · exact ⟨u2, hk2, r2⟩
    · cases hq⟩⟩, p⟩⟩
/-- the arguments in the parameters' order: of each keyword-only one, whether it was written (which one of the call's) or lacks (which one of those) -/
def pick {α : Type} (sel : List (Sum Nat Nat)) (us mv ws : List α) : List α := us ++ sel.flatMap fun q => match q with | .inl i => (ws.drop i).take 1 | .inr j => (mv.drop j).take 1
abbrev kwp (sel : List (Sum Nat Nat)) (mz : List V) : List V → List V → List V := fun vs zs => pick sel vs mz zs
theorem pick_rel {vs mz zs : List V} {us mv ws : List Value} (r1 : Vals vs us) (r2 : Vals mz mv) (r3 : Vals zs ws) : ∀ sel : List (Sum Nat Nat), Vals (pick sel vs mz zs) (pick sel us mv ws) := fun sel => by
  refine r1.append ?_
  induction sel with
  | nil => exact .nil
  | cons q l ih =>
    rw [List.flatMap_cons, List.flatMap_cons]
    refine Vals.append ?_ ih
    cases q with
    | inl i => exact (r3.drop i).take 1
    | inr j => exact (r2.drop j).take 1
theorem AtTop.dn (t : AtTop K x qual st kws) (X : K.In h) (G : h.Ns mainGlobals mg)
    (hb : ∀ (kV doc pm : Value) (an : Option Addr) (cdv ct : Value) (us : List Value), us.length = ps.length → bindArgs (PySem.W.fnOf x qual (defArgs st) (defBody st) (defScope st) .none kV doc pm an cdv ct) ⟨us, []⟩ = pure (ps.zip us))
    (ok : ∀ (f : Addr) (fd : FuncData), Fun K x qual st f fd → FnOk P w K mg base CX0 k f fd ps sp) : Dn P w K mg base x k ps sp := by
  obtain ⟨f, fd, a, F, _⟩ := t.ex
  exact ⟨f, fd, [], ok f fd F, PySem.W.mg_of X G a, F.kp, F.binds hb, .nil⟩
/-- a def that calls itself: the knot is tied level by level -/
theorem AtTop.dnR (t : AtTop K x qual st kws) (X : K.In h) (G : h.Ns mainGlobals mg)
    (hb : ∀ (kV doc pm : Value) (an : Option Addr) (cdv ct : Value) (us : List Value), us.length = ps.length → bindArgs (PySem.W.fnOf x qual (defArgs st) (defBody st) (defScope st) .none kV doc pm an cdv ct) ⟨us, []⟩ = pure (ps.zip us))
    (ok : ∀ (f : Addr) (fd : FuncData), Fun K x qual st f fd → (∀ (j : Nat) (sq : Sp), FnOk P w K mg base CX0 j f fd ps sq → Dn P w K mg base x j ps sq) → FnOk P w K mg base CX0 k f fd ps sp) : Dn P w K mg base x k ps sp := by
  obtain ⟨f, fd, a, F, _⟩ := t.ex
  have I : ∀ (j : Nat) (sq : Sp), FnOk P w K mg base CX0 j f fd ps sq → Dn P w K mg base x j ps sq := fun j sq g => ⟨f, fd, [], g, PySem.W.mg_of X G a, F.kp, F.binds hb, .nil⟩
  exact I k sp (ok f fd F I)
/-- called without its keywords: all the defaults -/
theorem AtTop.dd (t : AtTop K x qual st kws) (X : K.In h) (G : h.Ns mainGlobals mg) (n : Nat) (hk : kws ≠ []) (hn : n + kws.length = ps.length)
    (hb : ∀ (D : Addr) (doc pm : Value) (an : Option Addr) (cdv ct : Value) (us ks : List Value), us.length = n → ks.length = kws.length →
      KwChain D ((kws.map (·.1)).zip ks) (bindArgs (PySem.W.fnOf x qual (defArgs st) (defBody st) (defScope st) .none (.ref D) doc pm an cdv ct) ⟨us, []⟩) (ps.zip (us ++ ks)))
    (ok : ∀ (f : Addr) (fd : FuncData), Fun K x qual st f fd → FnOk P w K mg base CX0 k f fd ps sp) : Dn P w K mg base x k ps sp (kws.map (·.2)) := by
  obtain ⟨f, fd, a, F, FD⟩ := t.ex
  obtain ⟨ds, v, b⟩ := FD.binds0 n hk hn hb
  exact ⟨f, fd, ds, ok f fd F, PySem.W.mg_of X G a, F.kp, b, v⟩
/-- called with all its keywords, in their order -/
theorem AtTop.dk (t : AtTop K x qual st kws) (X : K.In h) (G : h.Ns mainGlobals mg) (n : Nat) (ks : List Str)
    (hb : ∀ (kV doc pm : Value) (an : Option Addr) (cdv ct : Value) (us ws : List Value), us.length = n → ws.length = ks.length → bindArgs (PySem.W.fnOf x qual (defArgs st) (defBody st) (defScope st) .none kV doc pm an cdv ct) ⟨us, ks.zip ws⟩ = pure (ps.zip (us ++ ws)))
    (ok : ∀ (f : Addr) (fd : FuncData), Fun K x qual st f fd → FnOk P w K mg base CX0 k f fd ps sp) : Dk P w K mg base x k ps sp n ks (fun vs zs => vs ++ zs) := by
  obtain ⟨f, fd, a, F, _⟩ := t.ex
  obtain ⟨oc, od, kV, doc, pm, an, cdv, ct, osl, rfl, lk, hcd⟩ := F.ex
  exact ⟨f, _, fun us ws => us ++ ws, ok f _ F, PySem.W.mg_of X G a, F.kp, ⟨fun s us ws _ l1 l2 => .of_eq (hb kV doc pm an cdv ct us ws l1 l2), fun r1 r2 => r1.append r2⟩⟩
/-- called with some of its keywords: of the rest the defaults -/
theorem AtTop.dkp (t : AtTop K x qual st kws) (X : K.In h) (G : h.Ns mainGlobals mg) (n : Nat) (ks : List Str) (ms : List (Str × V)) (sel : List (Sum Nat Nat)) (hk : kws ≠ []) (hms : ∀ q ∈ ms, q ∈ kws)
    (hb : ∀ (D : Addr) (doc pm : Value) (an : Option Addr) (cdv ct : Value) (us mv ws : List Value), us.length = n → mv.length = ms.length → ws.length = ks.length →
      KwChain D ((ms.map (·.1)).zip mv) (bindArgs (PySem.W.fnOf x qual (defArgs st) (defBody st) (defScope st) .none (.ref D) doc pm an cdv ct) ⟨us, ks.zip ws⟩) (ps.zip (pick sel us mv ws)))
    (ok : ∀ (f : Addr) (fd : FuncData), Fun K x qual st f fd → FnOk P w K mg base CX0 k f fd ps sp) : Dk P w K mg base x k ps sp n ks (kwp sel (ms.map (·.2))) := by
  obtain ⟨f, fd, a, F, FD⟩ := t.ex
  obtain ⟨mv, b⟩ := FD.kbinds0 (ps := ps) n ks ms (fun us mv ws => pick sel us mv ws) hk hms (fun r1 r2 r3 => pick_rel r1 r2 r3 sel) hb
  exact ⟨f, fd, _, ok f fd F, PySem.W.mg_of X G a, F.kp, b⟩
end
end Cl

open PySem L2 Cl
local macro_rules | `(tactic| walk_at "rd") => `(tactic| (repeat (first | refine ⟨_, rfl, ?_⟩ | refine ⟨_, _, rfl, rfl, ?_⟩ | refine ⟨_, _, rfl, ?_⟩ | refine ⟨_, _, _, rfl, ?_⟩ | refine ⟨_, _, _, _, rfl, ?_⟩ | refine ⟨.inr ⟨by decide, by decide⟩, ?_⟩ | refine ⟨.inl ⟨by decide, by decide⟩, ?_⟩ | refine ⟨⟨by decide, by decide⟩, ?_⟩ | refine ⟨⟨by decide, by decide, by decide⟩, ?_⟩ | refine ⟨(by show (0 : Int) < _; decide), ?_⟩ | refine ⟨rfl, ?_⟩ | refine .inl ⟨_, rfl, ?_⟩ | refine .inr ⟨_, rfl, ?_⟩)))
/-! ### my rules: own __len__, __add__, __eq__, static methods, C(*xs) -/
namespace Cl
open StX ClX PyProof.Rows
section
variable {X : Cx} {CX : CXT} {k : Nat} {C f p g : Addr} {mc : Value} {fd : FuncData} {ps : List Str} {sp : Sp} {dvs : List V} {ds : List Value} {E : XK} {x m : Str} {pn pos apos : Pos} {e o : Expr} {es : List Expr} {te ta : TE} {t : TA} {pl : Sem Bool}
theorem call_lenO (F : FnOk X.prog X.w X.K X.mg X.base CX k f fd ps sp) (hr : Room (k + 1) X.A) (hs : PySem.W.findIn X.K (.ref C) "__len__" = some (some (.ref f))) (hf : PySem.W.isFn X.K (.ref f) = true) (hb : Binds X.K fd ps []) (hx : Passes CX X E) :
    CallR X (.builtin "len") (fun xs H Q => ∃ a dx fs, xs = [.ref a] ∧ H a = some (.ins C dx fs) ∧ sp [.ref a] H (fun v H' => ∃ n : Nat, v = .int n ∧ n < 4611686018427387904 ∧ Q (.int n) H') E) := by
  intro pins s σ H xs us Q I r h
  obtain ⟨a, dx, fs, rfl, ha, hq⟩ := h
  obtain ⟨u, rfl, r1⟩ := vals1 r
  cases r1
  obtain ⟨mA, O, _⟩ := ins_get I.hok ha
  obtain ⟨od, J, _⟩ := O.look
  obtain ⟨mm, hF⟩ := I.fr
  have hl := F.len _ _ _ _ hq
  refine PySem.W.len_K hF I.ok.mod.kin J hs hf ?_
  refine wpAny_call (codeAny_mono (F.run X.A.in1 X.stack s H ⟨[.ref a], []⟩ [.ref a] [.ref a] _ E hr.in1 I.env0.in1 (by
    have := hb s [.ref a] I.kIn (by simpa using hl)
    simpa using this) (.cons rfl .nil) hq) fun r s' hq => ?_)
  cases r with
  | error e => exact hx pins σ H s e s' I hq
  | ok fl =>
    cases fl with
    | ret w =>
      obtain ⟨z, H', I', rz, n, ez, hn, q⟩ := I.after hq
      subst ez
      obtain ⟨tk, rfl⟩ := rz
      exact ⟨⟨by omega, by omega⟩, .int n, H', I'.tok _, ⟨_, rfl⟩, q⟩
    | next => exact False.elim hq
    | brk => exact False.elim hq
    | cont => exact False.elim hq
theorem notNI {v : V} {u : Value} {Q : Value → Shared → Prop} {s : Shared} (r : RelV v u) (q : Q u s) : PySem.W.CmpBack Q u s := by
  cases v with
  | non => cases r; exact q
  | bl b => cases r; exact q
  | int i => obtain ⟨t, rfl⟩ := r; exact q
  | str i => obtain ⟨t, rfl⟩ := r; exact q
  | byt i => obtain ⟨t, rfl⟩ := r; exact q
  | flt i => obtain ⟨t, rfl⟩ := r; exact q
  | ref a => cases r; exact q
  | ty n => cases r; exact q
def rOwn2 (C : Addr) (sp : Sp) (E : XK) : R2 := fun x y H Q => ∃ a b dx dy fs gs, x = .ref a ∧ y = .ref b ∧ H a = some (.ins C dx fs) ∧ H b = some (.ins C dy gs) ∧ sp [.ref a, .ref b] H Q E
theorem op_addO (F : FnOk X.prog X.w X.K X.mg X.base CX k f fd ps sp) (hr : Room k X.A) (hc : PySem.W.selfFirst X.K C = true) (hs : PySem.W.findIn X.K (.ref C) "__add__" = some (some (.ref f))) (hf : PySem.W.isFn X.K (.ref f) = true) (hb : Binds X.K fd ps []) (hx : Passes CX X E) :
    OpR X (binaryOp .Add) (rOwn2 C sp E) := by
  intro pins s σ H x y v u Q I rx ry h
  obtain ⟨a, b, dx, dy, fs, gs, rfl, rfl, ha, hb2, hq⟩ := h
  cases rx
  cases ry
  obtain ⟨mA, J, _⟩ := ins_get I.hok ha
  obtain ⟨mB, J', _⟩ := ins_get I.hok hb2
  obtain ⟨od, J, _⟩ := J.look
  obtain ⟨od', J', _⟩ := J'.look
  obtain ⟨mm, hF⟩ := I.fr
  refine PySem.W.binop_K (op := .Add) hF I.ok.mod.kin J J'.type hc hs hf ?_
  exact thn (run_fn (us := [.ref a, .ref b]) (vs := [.ref a, .ref b]) (dvs := []) (ds := []) F hr hb .nil hx I (.cons rfl (.cons rfl .nil)) hq) fun w s' hw => by
    obtain ⟨z, H', I', rz, q⟩ := hw
    exact notNI rz ⟨z, H', I', rz, q⟩
theorem op_eqO (F : FnOk X.prog X.w X.K X.mg X.base CX k f fd ps sp) (hr : Room k X.A) (hs : PySem.W.findIn X.K (.ref C) "__eq__" = some (some (.ref f))) (hf : PySem.W.isFn X.K (.ref f) = true) (hb : Binds X.K fd ps []) (hx : Passes CX X E) :
    OpR X (compareOp .Eq) (rOwn2 C sp E) := by
  intro pins s σ H x y v u Q I rx ry h
  obtain ⟨a, b, dx, dy, fs, gs, rfl, rfl, ha, hb2, hq⟩ := h
  cases rx
  cases ry
  obtain ⟨mA, J, _⟩ := ins_get I.hok ha
  obtain ⟨mB, J', _⟩ := ins_get I.hok hb2
  obtain ⟨od, J, _⟩ := J.look
  obtain ⟨od', J', _⟩ := J'.look
  obtain ⟨mm, hF⟩ := I.fr
  show wpAny (model X.prog X.w) X.A (richCompare .Eq (.ref a) (.ref b)) (EP X pins σ Q) X.xe s
  refine PySem.W.cmp_K (op := .Eq) (tb := .ref C) hr.units0 hF I.ok.mod.kin J J'.type (by simp [PySem.W.notFirst]) hs hf ?_
  exact thn (run_fn (us := [.ref a, .ref b]) (vs := [.ref a, .ref b]) (dvs := []) (ds := []) F hr hb .nil hx I (.cons rfl (.cons rfl .nil)) hq) fun w s' hw => by
    obtain ⟨z, H', I', rz, q⟩ := hw
    exact notNI rz ⟨z, H', I', rz, q⟩
/-- C.m is a static method: its record at p, its def at g -/
structure SMet (K : PySem.W.Frag) (C : Addr) (mc : Value) (m : Str) (p g : Addr) : Prop where
  at_ : PySem.W.findCls K (.ref C) mc m = some (.get (.builtin "staticmethod.__get__") (.ref p) .none (.ref C))
  rc : ∃ rest, PySem.W.recIn K p "staticmethod" = some (.ref g :: rest)
def tSMeth (C : Addr) (sp : Sp) (dvs : List V) (E : XK) (ta : TE) (t : TA) : TE := fun σ H Q => ta σ H fun x H1 => x = .ref C ∧ t σ H1 fun vs H2 => sp (vs ++ dvs) H2 Q E
theorem pe_smeth (he : PE X o ta) (r : CRead X.K C mc) (c : SMet X.K C mc m p f) (F : FnOk X.prog X.w X.K X.mg X.base CX k f fd ps sp) (hr : Room k X.A) (hk : PySem.W.keepIn X.K (.ref f) = true) (hb : Binds X.K fd ps ds) (hd : Vals dvs ds) (hx : Passes CX X E) (ha : PA X (e :: es) t)
    (hst : starEach (e :: es) X.env = (false, eval e X.env) :: starEach es X.env := by rfl) (hpl : (backTo pos (starEach es X.env)).any (·.1) = false := by rfl)
    (ht : eval (.Call (.Attribute o m apos) (e :: es) [] pos) X.env = (do
      let ov ← eval o X.env
      standAt apos.atName
      let (f, first) ← holding [ov] (getMethod ov m pl)
      callWith pos f first (backTo pos (starEach (e :: es) X.env)) (backToKw pos (keywordEach [] X.env))) := by rfl) :
    PE X (.Call (.Attribute o m apos) (e :: es) [] pos) (tSMeth C sp dvs E ta t) := by
  refine ⟨fun pins s σ H Q I h => ?_⟩
  refine PySem.W.methodCall_KW (pl := pl) (thn (he.run pins s σ H _ I h) fun u s1 ⟨x, H1, I1, rx, ex, q⟩ => ?_) ht
  subst ex
  obtain rfl : u = Value.ref C := rx
  obtain ⟨rest, hp⟩ := c.rc
  refine PySem.W.method_cls I1.kIn r.ga ?_
  refine PySem.W.cls_bind I1.kIn r.rd c.at_ ?_
  refine wpAny_call (PySem.W.sm_get (s := { s1 with toks := s1.toks + 1 }) I1.kIn hp ?_)
  refine PySem.W.handed_on rfl ?_
  refine PySem.W.callWith_K (h₀ := X.base) I.ok.mod.kin hk (thn (ha.run pos pins _ σ H1 _ (I1.tok _) q) fun us s2 ⟨vs, H2, I2, r2, q2⟩ => ⟨I2.kIn, ?_⟩) hst hpl
  exact run_fn F hr hb hd hx I2 r2 q2
def tMakeS (K : PySem.W.Frag) (C : Addr) (sp : Sp) (E : XK) (te : TE) : TE := fun σ H Q => te σ H fun y H1 => ∃ a xs, y = V.ref a ∧ (SqT K H1 a xs ∨ SqL K H1 a xs) ∧
  ∀ x dx, H1 x = Option.none → H1 dx = Option.none → dx ≠ x → sp (V.ref x :: xs) (upd (upd H1 dx (.own x)) x (.ins C dx [])) (fun v H2 => v = .non ∧ Q (.ref x) H2) E
theorem pe_makeS {sp_ : Pos} (M : Mk X.K C f) (F : FnR X.prog X.w X.K X.mg X.base CX k f sp) (hr : Room (k + 1) X.A) (hg : Gl X x) (hm : X.mg x = some (.ref C)) (hx : Passes CX X E) (he : PE X e te) (hdb : (x == ("__debug__" : Str)) = false := by decide)
    (hst : starEach [.Starred e sp_] X.env = [(true, eval e X.env)] := by rfl) : PE X (.Call (.Name x pn) [.Starred e sp_] [] pos) (tMakeS X.K C sp E te) := by
  refine ⟨fun pins s σ H Q I h => ?_⟩
  refine wpAny_Call_Name_kw (ld_glob I hg hm ?_ hdb)
  refine PySem.W.callWith_S (h₀ := X.base) I.ok.mod.kin M.kp (thn (he.run pins s σ H _ I h) fun v s1 ⟨y, H1, I1, ry, a, xs, ey, hxs, q⟩ => ?_) hst
  subst ey
  obtain rfl : v = Value.ref a := ry
  exact star_any I1 hxs fun us s2 I2 rv => ⟨I2.kIn, run_makeR M F hr hx I2 rv q⟩
/-- sum(t) of a tuple of ints -/
def rSumT (K : PySem.W.Frag) : List V → Hp → VK → Prop := fun vs H Q => ∃ (a : Addr) (ns : List Int), vs = [V.ref a] ∧ SqT K H a (ns.map V.int) ∧ Q (.int ns.sum) H
theorem cr_sumT (hc : X.calm = true) : CallR X (.builtin "sum") (rSumT X.K) := by
  intro pins s σ H vs us Q I r h
  obtain ⟨a, ns, rfl, hs, q⟩ := h
  obtain ⟨its, rv, hl, _⟩ := I.tuple hs
  rw [Vals.ref1 r]
  have hi := rv.ints
  obtain ⟨xs, e⟩ := hi.allInts.items
  have hn : numsOf (intItems xs).toList = ns := by rw [← e]; exact hi.numsOf
  rw [nums_intItems] at hn
  rw [e] at hl
  refine PySem.W.ktm_sumG (I.ok.hd hc) hl fun h' tk t' hk => ?_
  rw [preSum_eq, List.take_of_length_le (by simp), hn]
  exact ⟨.int _, H, I.kept hk, ⟨_, rfl⟩, q⟩
/-! rules that say a new tuple by what can be read of it -/
def rSlE (K : PySem.W.Frag) : V → Option Int → Option Int → Hp → VK → Prop := fun x lo hi H Q => ∃ a xs, x = .ref a ∧ SqT K H a xs ∧ ∀ p H', SqT K H' p (cutV xs lo hi) → Same H H' → Q (.ref p) H'
theorem sl_tupE : SlR X (rSlE X.K) := by
  intro pins s σ H x v vl vu lo hi sl Q I rx hs pl pu h
  refine sl_tupA pins s σ H x v vl vu lo hi sl Q I rx hs pl pu ?_
  obtain ⟨a, xs, e, ha, q⟩ := h
  refine ⟨a, xs, e, ha, fun hw => ?_, fun _ p hp => ?_⟩
  · refine q a H ?_ (Same.refl H)
    obtain ⟨h1, h2⟩ := hw
    unfold cutV
    rw [h1, h2, Nat.sub_zero, List.drop_zero, List.take_length]
    exact ha
  · exact q p _ (SqT.of upd_same) (Same.upd hp)
def rCatE (K : PySem.W.Frag) : R2 := fun x y H Q => ∃ a b xs ys, x = .ref a ∧ y = .ref b ∧ SqT K H a xs ∧ SqT K H b ys ∧ xs.length + ys.length ≤ 10000 ∧ ∀ p H', SqT K H' p (xs ++ ys) → Same H H' → Q (.ref p) H'
theorem op_catE : OpR X (binaryOp .Add) (rCatE X.K) := by
  intro pins s σ H x y v u Q I rx ry h
  refine op_catA pins s σ H x y v u Q I rx ry ?_
  obtain ⟨a, b, xs, ys, e1, e2, ha, hb, hl, q⟩ := h
  refine ⟨a, b, xs, ys, e1, e2, ha, hb, Nat.le_trans hl (by decide), fun h1 => ?_, fun _ h2 => ?_, fun _ _ p hp => ?_⟩
  · exact q b H (by rw [h1]; exact hb) (Same.refl H)
  · exact q a H (by rw [h2, List.append_nil]; exact ha) (Same.refl H)
  · exact q p _ (SqT.of upd_same) (Same.upd hp)
end
/-! ### a class's defs by their names -/
structure ClsC (K : PySem.W.Frag) (mg : Str → Option Value) (x : Str) (C : Addr) : Prop where
  cl : Cls K C
  mg : mg x = some (.ref C)
  ic : C8.InsC K C
  sf : PySem.W.selfFirst K C = true
structure Mn (P : Program) (w : World) (K : PySem.W.Frag) (mg : Str → Option Value) (base : Heap) (C : Addr) (m : Str) (k : Nat) (ps : List Str) (sp : Sp) : Prop where
  ex : ∃ (f : Addr) (fd : FuncData), Meth K C m f ∧ FnOk P w K mg base CX0 k f fd ps sp ∧ Binds K fd ps []
structure Pn (P : Program) (w : World) (K : PySem.W.Frag) (mg : Str → Option Value) (base : Heap) (C : Addr) (m : Str) (k : Nat) (sp : Sp) : Prop where
  ex : ∃ (p g : Addr) (fd : FuncData), PropOf K C m p g ∧ FnOk P w K mg base CX0 k g fd ["self"] sp ∧ Binds K fd ["self"] []
structure Sn (P : Program) (w : World) (K : PySem.W.Frag) (mg : Str → Option Value) (base : Heap) (C : Addr) (m : Str) (k : Nat) (ps : List Str) (sp : Sp) : Prop where
  ex : ∃ (p f : Addr) (fd : FuncData) (mc : Value), CRead K C mc ∧ SMet K C mc m p f ∧ FnOk P w K mg base CX0 k f fd ps sp ∧ PySem.W.keepIn K (.ref f) = true ∧ Binds K fd ps []
structure Cn (P : Program) (w : World) (K : PySem.W.Frag) (mg : Str → Option Value) (base : Heap) (C : Addr) (k : Nat) (sp : Sp) : Prop where
  ex : ∃ (f : Addr), Mk K C f ∧ FnR P w K mg base CX0 k f sp
structure On (P : Program) (w : World) (K : PySem.W.Frag) (mg : Str → Option Value) (base : Heap) (C : Addr) (m : Str) (k : Nat) (ps : List Str) (sp : Sp) : Prop where
  ex : ∃ (f : Addr) (fd : FuncData), PySem.W.findIn K (.ref C) m = some (some (.ref f)) ∧ PySem.W.isFn K (.ref f) = true ∧ FnOk P w K mg base CX0 k f fd ps sp ∧ Binds K fd ps []
section
variable {X : Cx} {k : Nat} {C : Addr} {ps : List Str} {sp : Sp} {E : XK} {x m : Str} {pn pos apos : Pos} {e o : Expr} {es : List Expr} {te ta : TE} {t : TA} {pl : Sem Bool}
theorem pe_cls (c : ClsC X.K X.mg x C) (hg : Gl X x) (hd : (x == ("__debug__" : Str)) = false := by decide) : PE X (.Name x pos) (tC (.ref C)) := pe_glob (v := .ref C) hg c.mg rfl hd
theorem pe_mn (D : Mn X.prog X.w X.K X.mg X.base C m k ps sp) (cl : Cls X.K C) (hr : Room k X.A) (hx : Passes CX0 X E) (he : PE X o ta) (ha : PA X (e :: es) t)
    (hst : starEach (e :: es) X.env = (false, eval e X.env) :: starEach es X.env := by rfl) (hpl : (backTo pos (starEach es X.env)).any (·.1) = false := by rfl)
    (ht : eval (.Call (.Attribute o m apos) (e :: es) [] pos) X.env = (do
      let ov ← eval o X.env
      standAt apos.atName
      let (f, first) ← holding [ov] (getMethod ov m pl)
      callWith pos f first (backTo pos (starEach (e :: es) X.env)) (backToKw pos (keywordEach [] X.env))) := by rfl) :
    PE X (.Call (.Attribute o m apos) (e :: es) [] pos) (tMeth C m sp [] E ta t) := by
  obtain ⟨f, fd, M, F, b⟩ := D.ex
  exact pe_meth (pl := pl) he cl M F hr b .nil hx ha hst hpl ht
theorem pe_mn0 (D : Mn X.prog X.w X.K X.mg X.base C m k ps sp) (cl : Cls X.K C) (hr : Room k X.A) (hx : Passes CX0 X E) (he : PE X o ta)
    (ht : eval (.Call (.Attribute o m apos) [] [] pos) X.env = (do
      let ov ← eval o X.env
      standAt apos.atName
      let (f, first) ← holding [ov] (getMethod ov m pl)
      callWith pos f first (backTo pos (starEach [] X.env)) (backToKw pos (keywordEach [] X.env))) := by rfl) :
    PE X (.Call (.Attribute o m apos) [] [] pos) (tMeth C m sp [] E ta tNil) := by
  obtain ⟨f, fd, M, F, b⟩ := D.ex
  exact pe_meth0 (pl := pl) he cl M F hr b .nil hx ht
theorem pe_pn (D : Pn X.prog X.w X.K X.mg X.base C m k sp) (cl : Cls X.K C) (hr : Room (k + 1) X.A) (he : PE X o ta) (hab : attributeBase o m X.env (eval o X.env) = eval o X.env := by rfl) : PE X (.Attribute o m pos) (tProp C sp [] E0 ta) := by
  obtain ⟨p, g, fd, hp, F, b⟩ := D.ex
  exact pe_prop he cl hp F hr b .nil pass0 hab
theorem pe_sn (D : Sn X.prog X.w X.K X.mg X.base C m k ps sp) (hr : Room k X.A) (hx : Passes CX0 X E) (he : PE X o ta) (ha : PA X (e :: es) t)
    (hst : starEach (e :: es) X.env = (false, eval e X.env) :: starEach es X.env := by rfl) (hpl : (backTo pos (starEach es X.env)).any (·.1) = false := by rfl)
    (ht : eval (.Call (.Attribute o m apos) (e :: es) [] pos) X.env = (do
      let ov ← eval o X.env
      standAt apos.atName
      let (f, first) ← holding [ov] (getMethod ov m pl)
      callWith pos f first (backTo pos (starEach (e :: es) X.env)) (backToKw pos (keywordEach [] X.env))) := by rfl) :
    PE X (.Call (.Attribute o m apos) (e :: es) [] pos) (tSMeth C sp [] E ta t) := by
  obtain ⟨p, f, fd, mc, r, c, F, kp, b⟩ := D.ex
  exact pe_smeth (pl := pl) he r c F hr kp b .nil hx ha hst hpl ht
theorem pe_mkR (D : Cn X.prog X.w X.K X.mg X.base C k sp) (hr : Room (k + 1) X.A) (hg : Gl X x) (hm : X.mg x = some (.ref C)) (hx : Passes CX0 X E) (ha : PA X (e :: es) t) (hdb : (x == ("__debug__" : Str)) = false := by decide)
    (he : starEach (e :: es) X.env = (false, eval e X.env) :: starEach es X.env := by rfl) (hpl : (backTo pos (starEach es X.env)).any (·.1) = false := by rfl) : PE X (.Call (.Name x pn) (e :: es) [] pos) (tMakeR C sp E t) := by
  obtain ⟨f, M, F⟩ := D.ex
  exact pe_makeR M F hr hg hm hx ha hdb he hpl
theorem pe_mkS {sp_ : Pos} (D : Cn X.prog X.w X.K X.mg X.base C k sp) (hr : Room (k + 1) X.A) (hg : Gl X x) (hm : X.mg x = some (.ref C)) (hx : Passes CX0 X E) (he : PE X e te) (hdb : (x == ("__debug__" : Str)) = false := by decide)
    (hst : starEach [.Starred e sp_] X.env = [(true, eval e X.env)] := by rfl) : PE X (.Call (.Name x pn) [.Starred e sp_] [] pos) (tMakeS X.K C sp E te) := by
  obtain ⟨f, M, F⟩ := D.ex
  exact pe_makeS M F hr hg hm hx he hdb hst
theorem op_addN (D : On X.prog X.w X.K X.mg X.base C "__add__" k ps sp) (c : ClsC X.K X.mg x C) (hr : Room k X.A) : OpR X (binaryOp .Add) (rOwn2 C sp E0) := by
  obtain ⟨f, fd, a, i, F, b⟩ := D.ex
  exact op_addO F hr c.sf a i b pass0
theorem op_eqN (D : On X.prog X.w X.K X.mg X.base C "__eq__" k ps sp) (hr : Room k X.A) : OpR X (compareOp .Eq) (rOwn2 C sp E0) := by
  obtain ⟨f, fd, a, i, F, b⟩ := D.ex
  exact op_eqO F hr a i b pass0
def rLenO (C : Addr) (sp : Sp) : List V → Hp → VK → Prop := fun xs H Q => ∃ a dx fs, xs = [.ref a] ∧ H a = some (.ins C dx fs) ∧ sp [.ref a] H (fun v H' => ∃ n : Nat, v = .int n ∧ n < 4611686018427387904 ∧ Q (.int n) H') E0
theorem call_lenN (D : On X.prog X.w X.K X.mg X.base C "__len__" k ps sp) (hr : Room (k + 1) X.A) : CallR X (.builtin "len") (rLenO C sp) := by
  obtain ⟨f, fd, a, i, F, b⟩ := D.ex
  exact call_lenO F hr a i b pass0
/-! a range kept as a value, walked -/
def iRngV (tl : TE) : TI := fun σ H R => tl σ H fun x H1 => ∃ a lo hi, x = .ref a ∧ H1 a = some (.rng lo hi) ∧ (-(2 ^ 62) ≤ lo ∧ lo < 2 ^ 62 ∧ -(2 ^ 62) ≤ hi ∧ hi < 2 ^ 62) ∧ R (Itr lo (hi - lo).toNat) H1
theorem pi_rng {tg l : Expr} {tl : TE} (hl : PE X l tl) : PI X tg l (iRngV tl) := by
  refine ⟨fun pins s σ H R I h => ?_⟩
  refine thn (hl.run pins s σ H _ I h) fun v s1 ⟨x, H1, I1, r1, q1⟩ => ?_
  obtain ⟨a, lo, hi, e, ha, ⟨h1, h2, h3, h4⟩, q⟩ := q1
  subst e
  cases r1
  obtain ⟨t, u, w', hg⟩ := I1.hok a _ ha
  refine wpAny_pyIter_range (show IsRange _ _ _ _ _ _ _ _ from hg) (small_one h1 h2 h3 h4) ?_
  refine ⟨s1.heap.objs.size, [s1.heap.objs.size], _, _, H1, rfl, I1.kept (t' := s1.toks) fun b o e => Heap.get?_push_of_some _ e, turn_range _ lo (hi - lo).toNat, ?_, fun b hb => ?_, q⟩
  · have e1 : lo + ((0 : Nat) : Int) * 1 = lo := by simp
    have e2 : (((hi - lo).toNat : Nat) : Int) - ((0 : Nat) : Int) = Builtin.Range.rangeSize lo hi 1 := by rw [rangeSize_one]; split <;> omega
    show IsRangeIter _ _ (lo + ((0 : Nat) : Int) * 1) ((((hi - lo).toNat : Nat) : Int) - ((0 : Nat) : Int)) 1
    rw [e1, e2]
    exact Heap.get?_push_size _ rfl
  · have e : b = s1.heap.objs.size := by simpa using hb
    subst e
    exact I1.fpOk (Nat.le_refl _) (I1.hok.fresh (Nat.le_refl _))
/-! the rules that name the written part, with its name given (for the element of a comprehension) -/
theorem ix_listK (K : PySem.W.Frag) (h : X.K = K := by rfl) : IxR X (rIxL K) := h ▸ ix_list
theorem ix_tupK (K : PySem.W.Frag) (h : X.K = K := by rfl) : IxR X (rIxT K) := h ▸ ix_tup
def rLenK (K : PySem.W.Frag) : List V → Hp → VK → Prop := fun xs H Q => ∃ p ys, xs = [.ref p] ∧ (SqL K H p ys ∨ SqT K H p ys) ∧ Q (.int ys.length) H
theorem call_lenK (K : PySem.W.Frag) (h : X.K = K := by rfl) : CallR X (.builtin "len") (rLenK K) := h ▸ call_len_seq
theorem cr_sumK (K : PySem.W.Frag) (hc : X.calm = true) (h : X.K = K := by rfl) : CallR X (.builtin "sum") (rSum K) := h ▸ cr_sum hc
theorem cr_minK (K : PySem.W.Frag) (hc : X.calm = true) (h : X.K = K := by rfl) : CallR X (.builtin "min") (rMin K) := h ▸ cr_min hc
theorem call_isiK (K : PySem.W.Frag) (h : X.K = K := by rfl) : CallR X (.builtin "isinstance") (rIsi K) := h ▸ call_isi
theorem op_eqDK (K : PySem.W.Frag) (hu : X.A.units + 64 < cLine) (h : X.K = K := by rfl) : OpR X (compareOp .Eq) (rEqD K) := h ▸ op_eqD hu
def rIsqrt : List V → Hp → VK → Prop := fun vs H Q => ∃ a : Int, vs = [.int a] ∧ 0 ≤ a ∧ a < 2 ^ 64 ∧ ∀ r : Nat, r * r ≤ a.toNat → a.toNat < (r + 1) * (r + 1) → Q (.int (r : Int)) H
theorem cr_isqrt : CallR X (.builtin "math.isqrt") rIsqrt := by
  intro pins s σ H vs us Q I r h
  obtain ⟨a, rfl, h0, h1, q⟩ := h
  obtain ⟨u, rfl, t, rfl⟩ := Vals.one r
  have sp := PySem.Float64.isqrt_spec a.toNat
  exact PySem.W.mg_isqrt h0 h1 ⟨.int _, H, I.tok _, ⟨_, rfl⟩, q _ sp.1 sp.2⟩
theorem sl_listK (K : PySem.W.Frag) (h : X.K = K := by rfl) : SlR X (rSlL K) := h ▸ sl_list
theorem pe_fldK (K : PySem.W.Frag) {f : Str} (he : PE X e ta) (hb : attributeBase e f X.env (eval e X.env) = eval e X.env) (h : X.K = K := by rfl) : PE X (.Attribute e f pos) (tFld K ta f) := h ▸ pe_fld he hb
end
/-! ### what the top has written of a class -/
structure AtC (K : PySem.W.Frag) (x : Str) (C : Addr) : Prop where
  at_ : PySem.W.nsIn K mainGlobals x = some (some (.ref C))
  cl : Cls K C
  ic : C8.InsC K C
  sf : PySem.W.selfFirst K C = true
  made : PySem.W.makesIn K C = true
  kp : PySem.W.keepIn K (.ref C) = true
theorem atC {K : PySem.W.Frag} {x : Str} {C : Addr} (a : PySem.W.nsIn K mainGlobals x = some (some (.ref C))) (pg : PySem.W.plainGet K C Str.empty = true) (hd : PySem.W.hasDictIn K C = true) (po : PySem.W.plainOver K C = true) (sa : PySem.W.findIn K (.ref C) "__setattr__" = some (some (.builtin "object.__setattr__")))
    (ha : PySem.W.findIn K (.ref C) "__class__" = some (some (.builtin "object.__class__"))) (hn : PySem.W.specialIn K (.builtin "object.__class__") "__get__" = some (some (.builtin "getset_descriptor.__get__"))) (htk : PySem.W.takesIn K (.builtin "object.__class__") = some true)
    (hm : PySem.W.mroIn K C (.type "object") = some true) (sf : PySem.W.selfFirst K C = true) (mk : PySem.W.makesIn K C = true) (kp : PySem.W.keepIn K (.ref C) = true) : AtC K x C :=
  ⟨a, ⟨pg, hd, po, sa⟩, ⟨⟨pg, hd, po, sa⟩, ha, hn, htk, hm, by unfold PySem.W.kitOne; simp⟩, sf, mk, kp⟩
structure AtCls (K : PySem.W.Frag) (C : Addr) (m qual : Str) (st : Stmt) : Prop where
  ex : ∃ (f : Addr) (fd : FuncData), PySem.W.findIn K (.ref C) m = some (some (.ref f)) ∧ PySem.W.isFn K (.ref f) = true ∧ Fun K m qual st f fd
theorem atCls {K : PySem.W.Frag} {C f : Addr} {m qual : Str} {st : Stmt} {oc : Value} {od an : Option Addr} {osl : Array (Option Value)} {kV doc pm cdv ct : Value} (a : PySem.W.findIn K (.ref C) m = some (some (.ref f))) (i : PySem.W.isFn K (.ref f) = true)
    (l : K.lookup f = some ⟨oc, od, .func (PySem.W.fnOf m qual (defArgs st) (defBody st) (defScope st) .none kV doc pm an cdv ct), osl⟩) (c : PySem.W.codeIn K cdv qual = true) (p : PySem.W.keepIn K (.ref f) = true) : AtCls K C m qual st :=
  ⟨f, _, a, i, fun_mk l c p⟩
structure AtProp (K : PySem.W.Frag) (C : Addr) (m qual : Str) (st : Stmt) : Prop where
  ex : ∃ (p g : Addr) (fd : FuncData), PropOf K C m p g ∧ Fun K m qual st g fd
theorem atProp {K : PySem.W.Frag} {C p g : Addr} {m qual : Str} {st : Stmt} {oc : Value} {od an : Option Addr} {osl : Array (Option Value)} {kV doc pm cdv ct : Value} {rest : List Value} (a : PySem.W.findIn K (.ref C) m = some (some (.ref p))) (gt : PySem.W.specialIn K (.ref p) "__get__" = some (some (.builtin "property.__get__")))
    (tk : PySem.W.takesIn K (.ref p) = some true) (rc : PySem.W.recIn K p "property" = some (.ref g :: rest))
    (l : K.lookup g = some ⟨oc, od, .func (PySem.W.fnOf m qual (defArgs st) (defBody st) (defScope st) .none kV doc pm an cdv ct), osl⟩) (c : PySem.W.codeIn K cdv qual = true) (kp : PySem.W.keepIn K (.ref g) = true) : AtProp K C m qual st :=
  ⟨p, g, _, ⟨a, gt, tk, _, rc⟩, fun_mk l c kp⟩
structure AtStat (K : PySem.W.Frag) (C : Addr) (m qual : Str) (st : Stmt) : Prop where
  ex : ∃ (p g : Addr) (fd : FuncData) (mc : Value), CRead K C mc ∧ SMet K C mc m p g ∧ Fun K m qual st g fd
theorem atStat {K : PySem.W.Frag} {C p g : Addr} {m qual : Str} {st : Stmt} {oc mc : Value} {od an : Option Addr} {osl : Array (Option Value)} {kV doc pm cdv ct : Value} {rest : List Value} (_ty : PySem.W.typeIn K (.ref C) = some mc) (rd : PySem.W.readsIn K C mc = true)
    (ga : PySem.W.specialIn K (.ref C) "__getattribute__" = some (some (.builtin "type.__getattribute__"))) (fc : PySem.W.findCls K (.ref C) mc m = some (.get (.builtin "staticmethod.__get__") (.ref p) .none (.ref C))) (rc : PySem.W.recIn K p "staticmethod" = some (.ref g :: rest))
    (l : K.lookup g = some ⟨oc, od, .func (PySem.W.fnOf m qual (defArgs st) (defBody st) (defScope st) .none kV doc pm an cdv ct), osl⟩) (c : PySem.W.codeIn K cdv qual = true) (kp : PySem.W.keepIn K (.ref g) = true) : AtStat K C m qual st :=
  ⟨p, g, _, mc, ⟨rd, ga⟩, ⟨fc, _, rc⟩, fun_mk l c kp⟩
theorem cvAt {K : PySem.W.Frag} {C : Addr} {m : Str} {v : V} {mc u : Value} (_ty : PySem.W.typeIn K (.ref C) = some mc) (rd : PySem.W.readsIn K C mc = true)
    (ga : PySem.W.specialIn K (.ref C) "__getattribute__" = some (some (.builtin "type.__getattribute__"))) (fc : PySem.W.findCls K (.ref C) mc m = some (.val u)) (r : RelV v u) : ∃ mc u, CRead K C mc ∧ CVal K C mc m v u := ⟨mc, u, ⟨rd, ga⟩, ⟨fc, r⟩⟩
section
variable {P : Program} {w : World} {K : PySem.W.Frag} {mg : Str → Option Value} {base : Heap} {C : Addr} {x m qual : Str} {st : Stmt} {ps : List Str} {k : Nat} {sp : Sp} {h : Heap}
theorem AtC.cc (t : AtC K x C) (X : K.In h) (G : h.Ns mainGlobals mg) : ClsC K mg x C := ⟨t.cl, PySem.W.mg_of X G t.at_, t.ic, t.sf⟩
abbrev Bd (m qual : Str) (st : Stmt) (ps : List Str) : Prop := ∀ (kV doc pm : Value) (an : Option Addr) (cdv ct : Value) (us : List Value), us.length = ps.length → bindArgs (PySem.W.fnOf m qual (defArgs st) (defBody st) (defScope st) .none kV doc pm an cdv ct) ⟨us, []⟩ = pure (ps.zip us)
theorem AtCls.mn (t : AtCls K C m qual st) (hb : Bd m qual st ps) (ok : ∀ (f : Addr) (fd : FuncData), Fun K m qual st f fd → FnOk P w K mg base CX0 k f fd ps sp) : Mn P w K mg base C m k ps sp := by
  obtain ⟨f, fd, a, i, F⟩ := t.ex
  exact ⟨f, fd, ⟨a, i, F.kp⟩, ok f fd F, F.binds hb⟩
theorem AtCls.on (t : AtCls K C m qual st) (hb : Bd m qual st ps) (ok : ∀ (f : Addr) (fd : FuncData), Fun K m qual st f fd → FnOk P w K mg base CX0 k f fd ps sp) : On P w K mg base C m k ps sp := by
  obtain ⟨f, fd, a, i, F⟩ := t.ex
  exact ⟨f, fd, a, i, ok f fd F, F.binds hb⟩
theorem AtCls.cn (t : AtCls K C "__init__" qual st) (c : AtC K x C) (ok : ∀ (f : Addr) (fd : FuncData), Fun K "__init__" qual st f fd → FnR P w K mg base CX0 k f sp) : Cn P w K mg base C k sp := by
  obtain ⟨f, fd, a, i, F⟩ := t.ex
  exact ⟨f, ⟨c.made, a, i, c.kp⟩, ok f fd F⟩
theorem AtProp.pn (t : AtProp K C m qual st) (hb : Bd m qual st ["self"]) (ok : ∀ (f : Addr) (fd : FuncData), Fun K m qual st f fd → FnOk P w K mg base CX0 k f fd ["self"] sp) : Pn P w K mg base C m k sp := by
  obtain ⟨p, g, fd, a, F⟩ := t.ex
  exact ⟨p, g, fd, a, ok g fd F, F.binds hb⟩
theorem AtStat.sn (t : AtStat K C m qual st) (hb : Bd m qual st ps) (ok : ∀ (f : Addr) (fd : FuncData), Fun K m qual st f fd → FnOk P w K mg base CX0 k f fd ps sp) : Sn P w K mg base C m k ps sp := by
  obtain ⟨p, g, fd, mc, r, c, F⟩ := t.ex
  exact ⟨p, g, fd, mc, r, c, ok g fd F, F.kp, F.binds hb⟩
end
end Cl

/-! ### texts of 0 and 1, enumerate(text), text * int -/
namespace Cl
open PySem PySem.Spec PyProof.Rows L2 PySem.Builtin PySem.Builtin.Str
def bt (b : Bool) : Nat := if b then 49 else 48
def tx (l : List Bool) : Str := ⟨(l.map bt).toArray⟩
theorem str_ext {a b : Str} (h : a.cps.toList = b.cps.toList) : a = b := Str.ext' (Array.toList_inj.mp h)
theorem tx_lst (l : List Bool) : (tx l).cps.toList = l.map bt := by simp [tx]
theorem tx_len (l : List Bool) : (tx l).length = l.length := by simp [tx, Str.length]
theorem tx_size (l : List Bool) : (tx l).cps.size = l.length := by simp [tx]
theorem tx_app (a b : List Bool) : tx a ++ tx b = tx (a ++ b) := by
  apply str_ext
  show ((tx a).cps ++ (tx b).cps).toList = _
  rw [Array.toList_append, tx_lst, tx_lst, tx_lst, List.map_append]
theorem bt_inj {a b : Bool} (h : bt a = bt b) : a = b := by
  cases a <;> cases b <;> first | rfl | (simp [bt] at h)
theorem map_bt_inj : ∀ {a b : List Bool}, a.map bt = b.map bt → a = b
  | [], [], _ => rfl
  | [], _ :: _, h => by simp at h
  | _ :: _, [], h => by simp at h
  | x :: a, y :: b, h => by
    rw [List.map_cons, List.map_cons] at h
    injection h with h1 h2
    rw [bt_inj h1, map_bt_inj h2]
theorem tx_inj {a b : List Bool} (h : tx a = tx b) : a = b := map_bt_inj (by rw [← tx_lst, ← tx_lst, h])
theorem t1 : Str.ofString "1" = tx [true] := by decide +kernel
theorem t0 : Str.ofString "0" = tx [false] := by decide +kernel
theorem t01 : Str.ofString "01" = tx [false, true] := by decide +kernel
theorem te : Str.ofString "" = tx [] := by decide +kernel
theorem tx_one (b : Bool) : tx [b] = ⟨#[bt b]⟩ := rfl
theorem tx_get {l : List Bool} {i : Nat} : (tx l).cps[i]? = l[i]?.map bt := by
  rw [← Array.getElem?_toList, tx_lst, List.getElem?_map]
theorem tx_mul (b : Bool) (n : Int) : Txt.mul (tx [b]) n = tx (List.replicate n.toNat b) := by
  apply str_ext
  rw [tx_one, mul_one_list, tx_lst, List.map_replicate]
theorem tx_mulOk (b : Bool) {n : Int} (h1 : -1000000 ≤ n) (h2 : n ≤ 1000000) : MulOk (tx [b]) n := by
  have hl : (tx [b]).length = 1 := tx_len _
  refine ⟨?_, fun h3 _ => ?_, fun h3 _ => ?_⟩
  · rw [decide_eq_false (by omega), decide_eq_false (by omega)]; rfl
  · rw [hl]
    have : (1 : Int) ≤ (2 ^ 63 - 1) / n := by
      rw [Int.le_ediv_iff_mul_le (by omega)]
      omega
    omega
  · rw [hl]
    have hs : (1000000 : Nat) ≤ sizeLine := by decide
    unfold tooLong
    rw [decide_eq_false (by omega)]
theorem cnt_tx (b : Bool) : ∀ l : List Bool, cnt (bt b) (l.map bt) = (l.count b : Nat)
  | [] => rfl
  | x :: r => by
    rw [List.map_cons, cnt_cons, cnt_tx b r, List.count_cons]
    by_cases h : x = b
    · subst h; simp; omega
    · have h2 : ¬ bt x = bt b := fun e => h (bt_inj e)
      rw [if_neg h2]
      have h3 : (x == b) = false := by simpa using h
      rw [h3]; simp
theorem tx_count (l : List Bool) (b : Bool) : Txt.count (tx l) (tx [b]) = ((l.count b : Nat) : Int) := by
  rw [tx_one, count_cnt, tx_lst, cnt_tx]
/-- without the leading zeros -/
def nrm (l : List Bool) : List Bool := l.dropWhile (! ·)
theorem tx_sub (l : List Bool) (i j : Nat) : strSub (tx l) i j = tx ((l.drop i).take (j - i)) := by
  apply str_ext
  rw [StrLaws.strSub_toList, tx_lst, tx_lst, ← List.map_drop, ← List.map_take]
theorem takeW_len {α β : Type} (f : α → β) (p : β → Bool) (q : α → Bool) (h : ∀ a, p (f a) = q a) : ∀ l : List α, ((l.map f).takeWhile p).length = (l.takeWhile q).length
  | [] => rfl
  | a :: r => by
    rw [List.map_cons, List.takeWhile_cons, List.takeWhile_cons, h a]
    split
    · rw [List.length_cons, List.length_cons, takeW_len f p q h r]
    · rfl
theorem drop_takeW {α : Type} (p : α → Bool) : ∀ l : List α, l.drop (l.takeWhile p).length = l.dropWhile p
  | [] => rfl
  | a :: r => by
    rw [List.takeWhile_cons, List.dropWhile_cons]
    split
    · rw [List.length_cons, List.drop_succ_cons, drop_takeW p r]
    · rfl
theorem has0 (b : Bool) : (tx [false]).cps.contains (bt b) = !b := by cases b <;> decide +kernel
theorem has01 (b : Bool) : (tx [false, true]).cps.contains (bt b) = true := by cases b <;> decide +kernel
theorem tx_lstrip (l : List Bool) : Txt.lstripChars (tx l) (tx [false]) = tx (nrm l) := by
  unfold Txt.lstripChars
  rw [stripBy_eq]
  simp only [stripLo, stripHi, if_true, Bool.false_eq_true, if_false]
  rw [tx_sub, tx_lst, takeW_len bt _ (! ·) has0, drop_takeW, tx_len]
  congr 1
  apply List.take_of_length_le
  have h1 : ((nrm l).length + (l.takeWhile (! ·)).length) = l.length := by
    have := congrArg List.length (List.takeWhile_append_dropWhile (p := fun x : Bool => ! x) (l := l))
    rw [List.length_append] at this
    unfold nrm
    omega
  show (nrm l).length ≤ _
  omega
theorem takeW_all {α : Type} (p : α → Bool) (l : List α) (h : ∀ a ∈ l, p a = true) : l.takeWhile p = l := by
  induction l with
  | nil => rfl
  | cons a r ih => rw [List.takeWhile_cons, if_pos (h a (List.mem_cons_self ..)), ih fun b hb => h b (List.mem_cons_of_mem _ hb)]
theorem tx_strip (l : List Bool) : Txt.stripChars (tx l) (tx [false, true]) = tx [] := by
  unfold Txt.stripChars
  rw [stripBy_eq]
  simp only [stripLo, stripHi, if_true]
  rw [tx_sub]
  congr 1
  apply List.eq_nil_of_length_eq_zero
  rw [List.length_take, List.length_drop, tx_lst, takeW_all (l := l.map bt) _ fun a ha => by
    obtain ⟨b, _, rfl⟩ := List.mem_map.mp ha
    exact has01 b, List.length_map]
  omega
theorem tx_join : ∀ l : List Bool, Txt.join (tx []) (l.map fun b => tx [b]) = tx l := by
  intro l
  show glued (tx []) _ = _
  rw [StrLaws.glued_eq_join]
  induction l with
  | nil => rfl
  | cons b r ih =>
    cases r with
    | nil => rfl
    | cons c r =>
      show tx [b] ++ tx [] ++ Str.join (tx []) ((c :: r).map fun b => tx [b]) = _
      rw [ih, tx_app, tx_app]; rfl
theorem tx_sum (l : List Bool) : ((l.map fun b => tx [b]).map (·.length)).sum = l.length := by
  induction l with
  | nil => rfl
  | cons b r ih => rw [List.map_cons, List.map_cons, List.sum_cons, ih, List.length_cons, tx_len]; simp; omega
section
variable {X : Cx}
def rMulS : R2 := fun x y H Q => ∃ a n, x = .str a ∧ y = .int n ∧ MulOk a n ∧ Q (.str (Txt.mul a n)) H
theorem op_mul_str : OpR X (binaryOp .Mult) rMulS := by
  intro pins s σ H x y v u Q I rx ry h
  obtain ⟨a, n, rfl, rfl, hok, q⟩ := h
  obtain ⟨t, rfl⟩ := rx
  obtain ⟨t', rfl⟩ := ry
  exact SB.mul hok fun t' k => ⟨.str (Txt.mul a n), H, I.tok _, ⟨_, rfl⟩, q⟩
/-- the signs of a text in new pairs -/
def Ites (x : Str) : It :=
  ⟨fun i _ => i < x.cps.size, fun i H v H' => ∃ T c, v = .ref T ∧ H T = none ∧ H' = upd H T (.tup [.int (i : Nat), .str ⟨#[c]⟩]) ∧ x.cps[i]? = some c, fun i _ => x.cps.size ≤ i⟩
theorem turn_enumS {P : Program} {w : World} {K : PySem.W.Frag} {elts : List Expr} {kk : Nat} {tpos : Pos} (x : Str) (t : Tok) (ty : String) (hty : ty = "str_ascii_iterator" ∨ ty = "str_iterator") (e it : Addr) :
    Turn P w K (.Tuple elts kk tpos) (Ites x) [e, it] e (fun i h => (∃ old, IsEnum h e it ((i : Nat) : Int) old) ∧ h.IsStrIter it ty x t i ∧ e ≠ it ∧ i ≤ x.cps.size) where
  mem := by simp
  obj := fun i h st b hb => by
    obtain ⟨⟨old, he⟩, ⟨o, ho, hc, hd⟩, _⟩ := st
    have e' : b = e ∨ b = it := by simpa using hb
    rcases e' with z | z
    · rw [z]; exact ⟨_, he, fun v q => nomatch q⟩
    · rw [z]; exact ⟨o, ho, fun v q => by rw [hd] at q; cases q⟩
  keep := fun i h h' st k => let ⟨⟨old, he⟩, ⟨o, ho, r⟩, hne⟩ := st; ⟨⟨old, k e (by simp) _ he⟩, ⟨o, k it (by simp) o ho, r⟩, hne⟩
  item := by
    intro X hP hw hK hc i pins s σ H E I hf st hg
    subst hP hw hK
    obtain ⟨⟨old, he⟩, hit, hne, hle⟩ := st
    have D : Draws X.prog X.w X.A.in1 it [it] x.cps.size (fun i v => ∃ c u, x.cps[i]? = some c ∧ v = .str ⟨#[c]⟩ u) (fun i h => h.IsStrIter it ty x t i) := by
      rcases hty with z | z
      · rw [z]; exact Draws.strAscii (show X.A.in1.handled = none from I.ok.hd hc) it x t
      · rw [z]; exact Draws.strWide (show X.A.in1.handled = none from I.ok.hd hc) it x t
    have hel : e < s.heap.objs.size := Heap.lt_size he
    have hil : it < s.heap.objs.size := by obtain ⟨_, q, _⟩ := hit; exact Heap.lt_size q
    refine wpAny_pyNext_enum_itemD D he hit hg hne (by simpa using hne) fun y h' tk hP ho hit' hT hsz hk => ?_
    obtain ⟨c, u, hcx, rfl⟩ := hP
    refine ⟨_, rfl, wpAny_letOwnedTupleGo_enum (s := { s with heap := h', toks := tk + 1 }) ho fun h'' he' sb => ?_⟩
    have hT2 : h''.get? s.heap.objs.size = some { cls := .type "tuple", data := .seq #[.int i tk, .str ⟨#[c]⟩ u] } := (sb.2 _ (Nat.ne_of_gt hel)).trans hT
    have new : ObjOk X.prog X.w (upd H s.heap.objs.size (.tup [.int (i : Nat), .str ⟨#[c]⟩])) h'' s.heap.objs.size (.tup [.int (i : Nat), .str ⟨#[c]⟩]) :=
      ⟨by show 2 ≤ sizeLine; decide, [.int i tk, .str ⟨#[c]⟩ u], .cons ⟨_, rfl⟩ (.cons ⟨_, rfl⟩ .nil), ⟨_, hT2, rfl, _, rfl⟩⟩
    have I1 : Inv X pins σ (upd H s.heap.objs.size (.tup [.int (i : Nat), .str ⟨#[c]⟩])) { s with heap := h'', toks := tk + 1 } :=
      I.turnedNew (ch := [e, it]) (fun b ob hb q => (sb.2 b (fun z => hb (by simp [z]))).trans (hk b ob (fun z => hb (by simp [z])) (fun z => hb (by simp [z])) q)) hf (Nat.le_refl _) new
    refine ⟨.ref s.heap.objs.size, _, I1, rfl, ⟨_, c, rfl, I.hok.fresh (Nat.le_refl _), rfl, hcx⟩, ⟨⟨.str ⟨#[c]⟩ u, ?_⟩, ?_, hne, hg⟩, fun b hb => ?_⟩
    · have e1 : ((i + 1 : Nat) : Int) = (i : Int) + 1 := by omega
      rw [e1]; exact he'
    · obtain ⟨o, q, r⟩ := hit'
      exact ⟨o, (sb.2 it (Ne.symm hne)).trans q, r⟩
    · have hb' : b < s.heap.objs.size := by
        have e' : b = e ∨ b = it := by simpa using hb
        rcases e' with z | z
        · rw [z]; exact hel
        · rw [z]; exact hil
      rw [upd_ne (Nat.ne_of_lt hb')]
      exact (hf b hb).1
  done := by
    intro X hP hw hK hc i pins s σ H E I hf st hg
    subst hP hw hK
    obtain ⟨f0, f1, f2, f3, f4, f5⟩ := hf e (by simp)
    obtain ⟨g0, g1, g2, g3, g4, g5⟩ := hf it (by simp)
    obtain ⟨⟨old, he⟩, hit, hne, hle⟩ := st
    obtain rfl : i = x.cps.size := Nat.le_antisymm hle hg
    have D : Draws X.prog X.w X.A.in1 it [it] x.cps.size (fun i v => ∃ c u, x.cps[i]? = some c ∧ v = .str ⟨#[c]⟩ u) (fun i h => h.IsStrIter it ty x t i) := by
      rcases hty with z | z
      · rw [z]; exact Draws.strAscii (show X.A.in1.handled = none from I.ok.hd hc) it x t
      · rw [z]; exact Draws.strWide (show X.A.in1.handled = none from I.ok.hd hc) it x t
    exact wpAny_pyNext_enum_endD D he hit fun h' eb => ⟨rfl, I.turned (t' := s.toks) (fun b o hb q => eb b o hb q) g0 g1 g3 g4 g5⟩
  self := fun A i s Q E st h => let ⟨⟨_, he⟩, _⟩ := st; wpAny_pyIter_enum he h
def iEnumS (ta : TA) : TI := fun σ H R => ta σ H fun vs H1 => ∃ x, vs = [.str x] ∧ R (Ites x) H1
theorem pi_enumS {X : Cx} {e : Expr} {ta : TA} {p pos tpos : Pos} {elts : List Expr} {kk : Nat} (hg : Gl X "enumerate") (hm : X.mg "enumerate" = none) (ha : PA X [e] ta) (hs : starEach [e] X.env = [(false, eval e X.env)] := by rfl) :
    PI X (.Tuple elts kk tpos) (.Call (.Name "enumerate" p) [e] [] pos) (iEnumS ta) := by
  refine ⟨fun pins s σ H R I h => ?_⟩
  refine Call_ (ld_blt I hg hm boot_enumerate (PyProof.Rows.callWith_type1 (thn (ha.run pos pins s σ H _ I h) fun us s1 ⟨vs, H1, I1, r1, q1⟩ => ?_) hs rfl))
  obtain ⟨x, ex, q⟩ := q1
  subst ex
  cases r1 with
  | cons r rr =>
    cases rr
    obtain ⟨t, rfl⟩ := r
    refine call_enumerate_str fun h' he hit hsz hk => wpAny_pyIter_enum he ?_
    have I2 : Inv X pins σ H1 { s1 with heap := h' } := I1.kept (t' := s1.toks) hk
    refine ⟨s1.heap.objs.size + 1, [s1.heap.objs.size + 1, s1.heap.objs.size], _, _, H1, rfl, I2, turn_enumS x t (strIterType x) ?_ (s1.heap.objs.size + 1) s1.heap.objs.size, ⟨⟨.none, he⟩, hit, Nat.succ_ne_self _, Nat.zero_le _⟩, fun b hb => ?_, q⟩
    · unfold strIterType; split <;> simp
    have e' : b = s1.heap.objs.size + 1 ∨ b = s1.heap.objs.size := by simpa using hb
    have hle : s1.heap.objs.size ≤ b := by
      rcases e' with z | z
      · rw [z]; exact Nat.le_add_right _ _
      · rw [z]; exact Nat.le_refl _
    exact I1.fpOk hle (I1.hok.fresh hle)
theorem walk_enumS {x : Str} : Walk (Ites x) x.cps.size (fun _ => True) (YPair (fun i => some (.int (i : Nat))) (fun i => x.cps[i]?.map fun c => .str ⟨#[c]⟩)) := by
  refine ⟨fun i _ hi _ => hi, fun _ _ => Nat.le_refl _, fun i H v H' _ _ y => ?_⟩
  obtain ⟨T, c, h1, h2, h3, h4⟩ := y
  exact ⟨T, .int (i : Nat), .str ⟨#[c]⟩, h1, h2, h3, rfl, by show x.cps[i]?.map _ = _; rw [h4]; rfl⟩
theorem op_in_seqK (K : PySem.W.Frag) (e : X.K = K := by rfl) : OpR X (compareOp .In) (rIn K false) := e ▸ op_in_seq
theorem op_notIn_seqK (K : PySem.W.Frag) (e : X.K = K := by rfl) : OpR X (compareOp .NotIn) (rIn K true) := e ▸ op_notIn_seq
theorem pg_tupK {pos : Pos} {es : List Expr} {k : Nat} {t : TGs} {n : Nat} (K : PySem.W.Frag) (hc : X.calm = true) (h : PGs X es t)
    (hn : (assignEach es X.env).length = n := by rfl) (hst : (assignEach es X.env).findIdx? (·.1) = none := by rfl) (e : X.K = K := by rfl) : PG X (.Tuple es k pos) (gTup K n t) := e ▸ pg_tup hc h hn hst
end
/-- a comprehension over any walk, with a test: its turns may make objects -/
theorem lc_filtW {J : It} {n : Nat} {G : Hp → Prop} {Y : Nat → Hp → V → Hp → Prop} (w : Walk J n G Y) {g : TG} {tt : TT} {te : TE} {vs : List Nat} {σ : L2.St} {H1 : Hp} {D : Addr} {Qd : Hp → Prop} (f : Nat → V) (p : Nat → Bool) (hD : H1 D = none) (hlen : n < 10000) (hG : ∀ H, Same H1 H → G H)
    (hs : ∀ (i : Nat) (x : V) (H H' : Hp) (R : V → Hp → Prop) (R0 : Hp → Prop), i < n → Same H1 H → Y i H x H' → (p i = true → ∀ H2, Same H H2 → R (f i) H2) → (p i = false → ∀ H2, Same H H2 → R0 H2) →
      g x (wipe σ vs) H' fun σ2 H2 => wipe σ2 vs = wipe σ vs ∧ tt σ2 H2 fun b H3 => if b = true then te σ2 H3 R else R0 H3)
    (hd : ∀ H, Same H1 H → H D = some (.lst (((List.range n).filter p).map f)) → Qd H) :
    ∃ W : Nat → Nat → Hp → Prop, (∃ m, W 0 m (upd H1 D (.lst []))) ∧ ∀ i m H, W i m H →
      (J.stop i H ∧ Qd H) ∨ (J.go i H ∧ ∃ Nx : Hp → Prop, (∀ H', Nx H' → ∃ m', m' < m ∧ W (i + 1) m' H') ∧ ∀ x H', J.yld i H x H' → g x (wipe σ vs) H' fun σ2 H2 => wipe σ2 vs = wipe σ vs ∧ tt σ2 H2 fun b H3 =>
        if b = true then te σ2 H3 fun y H4 => ∃ acc, H4 D = some (.lst acc) ∧ acc.length < sizeLine ∧ Nx (upd H4 D (.lst (acc ++ [y]))) else Nx H3) := by
  refine lc_it w (fun i H => Same H1 H ∧ H D = some (.lst (((List.range i).filter p).map f))) ⟨fun b u e => by rw [upd_ne (ne_of_none e hD)]; exact e, upd_same⟩ (fun i H _ h => hG H h.1) ?_ (fun H h => hd H h.1 h.2)
  rintro i x H H' hi ⟨hS, hL⟩ y
  have e1 : (List.range (i + 1)).filter p = (List.range i).filter p ++ (if p i = true then [i] else []) := by
    rw [List.range_succ, List.filter_append, List.filter_cons, List.filter_nil]
  have key := hs i x H H' (fun y H4 => ∃ acc, H4 D = some (.lst acc) ∧ acc.length < sizeLine ∧ (Same H1 (upd H4 D (.lst (acc ++ [y]))) ∧ upd H4 D (.lst (acc ++ [y])) D = some (.lst (((List.range (i + 1)).filter p).map f))))
    (fun H4 => Same H1 H4 ∧ H4 D = some (.lst (((List.range (i + 1)).filter p).map f))) hi hS y (fun hp H2 hS' => ⟨_, hS' _ _ hL, ?_, fun b u e => by rw [upd_ne (ne_of_none e hD)]; exact hS' _ _ (hS _ _ e), ?_⟩) (fun hp H2 hS' => ⟨hS.trans hS', ?_⟩)
  · exact key
  · rw [List.length_map]
    have : (10000 : Nat) ≤ sizeLine := by decide
    have h2 := List.length_filter_le p (List.range i)
    rw [List.length_range] at h2
    omega
  · rw [upd_same, e1, if_pos hp, List.map_append]; rfl
  · rw [hS' _ _ hL, e1, if_neg (by rw [hp]; exact Bool.false_ne_true), List.append_nil]
/-- .. without a test -/
theorem lc_mapW {J : It} {n : Nat} {G : Hp → Prop} {Y : Nat → Hp → V → Hp → Prop} (w : Walk J n G Y) {g : TG} {te : TE} {vs : List Nat} {σ : L2.St} {H1 : Hp} {D : Addr} {Qd : Hp → Prop} (f : Nat → V) (hD : H1 D = none) (hlen : n < 10000) (hG : ∀ H, Same H1 H → G H)
    (hs : ∀ (i : Nat) (x : V) (H H' : Hp) (R : V → Hp → Prop), i < n → Same H1 H → Y i H x H' → (∀ H2, Same H H2 → R (f i) H2) →
      g x (wipe σ vs) H' fun σ2 H2 => wipe σ2 vs = wipe σ vs ∧ te σ2 H2 R)
    (hd : ∀ H, Same H1 H → H D = some (.lst ((List.range n).map f)) → Qd H) :
    ∃ W : Nat → Nat → Hp → Prop, (∃ m, W 0 m (upd H1 D (.lst []))) ∧ ∀ i m H, W i m H →
      (J.stop i H ∧ Qd H) ∨ (J.go i H ∧ ∃ Nx : Hp → Prop, (∀ H', Nx H' → ∃ m', m' < m ∧ W (i + 1) m' H') ∧ ∀ x H', J.yld i H x H' → g x (wipe σ vs) H' fun σ2 H2 => wipe σ2 vs = wipe σ vs ∧ tYes σ2 H2 fun b H3 =>
        if b = true then te σ2 H3 fun y H4 => ∃ acc, H4 D = some (.lst acc) ∧ acc.length < sizeLine ∧ Nx (upd H4 D (.lst (acc ++ [y]))) else Nx H3) := by
  refine lc_filtW w f (fun _ => true) hD hlen hG (fun i x H H' R R0 hi hS y h1 _ => ?_) (fun H h1 h2 => hd H h1 (by rw [h2, List.filter_eq_self.mpr (fun _ _ => rfl)]))
  exact hs i x H H' R hi hS y (h1 rfl)
/-- the dict of a comprehension without a test: which keys it has -/
theorem dc_keysW {K : PySem.W.Frag} {a D : Addr} {ns : List Int} {g : TG} {tk tv : TE} {vs : List Nat} {σ : L2.St} {H1 : Hp} {Qd : Hp → Prop} (hx : SqL K H1 a (ns.map V.int)) (hD : H1 D = none) (hlen : ns.length < 10000)
    (hs : ∀ (i : Int) (H : Hp) (R : V → V → Hp → Prop), i ∈ ns → Same H1 H → (∀ z, R (.int i) z H) → g (.int i) (wipe σ vs) H fun σ2 H2 => wipe σ2 vs = wipe σ vs ∧ tk σ2 H2 fun y H3 => tv σ2 H3 fun z H4 => R y z H4)
    (hd : ∀ H kvs, Same H1 H → H D = some (.dK kvs) → (∀ k : Int, (valV kvs (Sum.inl k : Key)).isSome = decide (k ∈ ns)) → Qd H) :
    ∃ W : Nat → Nat → Hp → Prop, (∃ m, W 0 m (upd H1 D (.dK []))) ∧ ∀ i m H, W i m H →
      ((Itl K a).stop i H ∧ Qd H) ∨ ((Itl K a).go i H ∧ ∃ Nx : Hp → Prop, (∀ H', Nx H' → ∃ m', m' < m ∧ W (i + 1) m' H') ∧ ∀ x H', (Itl K a).yld i H x H' → g x (wipe σ vs) H' fun σ2 H2 => wipe σ2 vs = wipe σ vs ∧ tYes σ2 H2 fun b H3 =>
        if b = true then tk σ2 H3 fun y H4 => tv σ2 H4 fun z H5 => ∃ kvs k, y = kV k ∧ H5 D = some (.dK kvs) ∧ kvs.length < sizeLine ∧ Nx (upd H5 D (.dK (putK kvs k z))) else Nx H3) := by
  have w := walk_list (K := K) (a := a) (xs := ns.map V.int)
  let Pv : Nat → Hp → Prop := fun i H => Same H1 H ∧ ∃ kvs : List (Key × V), H D = some (.dK kvs) ∧ kvs.length ≤ i ∧ ∀ k : Int, (valV kvs (Sum.inl k : Key)).isSome = decide (k ∈ ns.take i)
  have hn : (ns.map V.int).length = ns.length := List.length_map _
  refine ⟨fun i m H => m = ns.length - i ∧ i ≤ ns.length ∧ Pv i H, ⟨ns.length, rfl, Nat.zero_le _, fun b u e => by rw [upd_ne (ne_of_none e hD)]; exact e, [], upd_same, Nat.le_refl _, fun k => by simp [valV]⟩, ?_⟩
  rintro i m H ⟨rfl, hi, hS, kvs, hk, hkl, hv⟩
  have q : SqL K H a (ns.map V.int) := Same.seq hS hx
  by_cases hlt : i < ns.length
  · refine .inr ⟨w.goes i H (by rw [hn]; exact hlt) q, Pv (i + 1), fun H' p' => ⟨ns.length - (i + 1), by omega, rfl, hlt, p'⟩, fun x H' y => ?_⟩
    obtain ⟨rfl, hy⟩ := w.yields i H x H' (by rw [hn]; exact hlt) q y
    rw [List.getElem?_map, List.getElem?_eq_getElem hlt] at hy
    obtain rfl : V.int ns[i] = x := Option.some.inj hy
    have key := hs ns[i] H' (fun y z H5 => ∃ kvs k, y = kV k ∧ H5 D = some (.dK kvs) ∧ kvs.length < sizeLine ∧ Pv (i + 1) (upd H5 D (.dK (putK kvs k z)))) (List.getElem_mem hlt) hS fun z => by
      refine ⟨kvs, .inl ns[i], rfl, hk, ?_, fun b u e => by rw [upd_ne (ne_of_none e hD)]; exact hS _ _ e, _, upd_same, ?_, fun k => ?_⟩
      · have : (10000 : Nat) ≤ sizeLine := by decide
        omega
      · have := length_putK kvs (Sum.inl ns[i] : Key) z
        omega
      · have e0 : ns.take (i + 1) = ns.take i ++ [ns[i]] := by rw [List.take_add_one, List.getElem?_eq_getElem hlt]; rfl
        rw [valV_put, e0]
        by_cases e : (k : Int) = ns[i]
        · subst e; rw [if_pos rfl, decide_eq_true (List.mem_append_right _ (List.mem_singleton.mpr rfl))]; rfl
        · rw [if_neg (fun z => e (Sum.inl.inj z)), hv k]
          refine decide_eq_decide.mpr ⟨fun h => List.mem_append_left _ h, fun h => ?_⟩
          rcases List.mem_append.mp h with h | h
          · exact h
          · exact absurd (List.mem_singleton.mp h) e
    exact key
  · have e : i = ns.length := by omega
    subst e
    exact .inl ⟨by have := w.stops H q; rw [hn] at this; exact this, hd H kvs hS hk fun k => by rw [hv k, List.take_length]⟩
theorem tcut_from {xs : List V} {f : Nat} : cutV xs (some (f : Int)) none = xs.drop f := by
  unfold cutV
  rw [HT.sIx_nat, HT.sIx_none]
  rcases Nat.le_total f xs.length with h | h
  · rw [Nat.min_eq_left h, List.take_of_length_le (by rw [List.length_drop]; omega)]
  · rw [Nat.min_eq_right h, List.drop_eq_nil_of_le (Nat.le_refl _), List.drop_eq_nil_of_le h]; simp
theorem tcut_to {xs : List V} {f : Nat} : cutV xs none (some (f : Int)) = xs.take f := by
  unfold cutV
  rw [HT.sIx_nat, HT.sIx_none, List.drop_zero, Nat.sub_zero]
  rcases Nat.le_total f xs.length with h | h
  · rw [Nat.min_eq_left h]
  · rw [Nat.min_eq_right h, List.take_of_length_le (Nat.le_refl _), List.take_of_length_le h]
theorem teqvAll_ints : ∀ (as bs : List Int), PyData.eqvAll (as.map PyData.int) (bs.map PyData.int) = decide (as = bs)
  | [], [] => by simp [PyData.eqvAll]
  | [], b :: bs => by simp [PyData.eqvAll]
  | a :: as, [] => by simp [PyData.eqvAll]
  | a :: as, b :: bs => by
    simp only [List.map_cons, PyData.eqvAll, PyData.eqv, teqvAll_ints as bs, List.cons.injEq]
    by_cases h : a = b
    · subst h; simp
    · simp [h]
theorem tdpAll_ints {K : PySem.W.Frag} {H : Hp} : ∀ (as : List Int), DpAll K H (as.map V.int) (as.map PyData.int)
  | [] => .nil
  | a :: as => .cons (.int a) (tdpAll_ints as)
theorem tlay_ints : ∀ (as : List Int), PyData.canLayAll0 (as.map PyData.int) = true
  | [] => rfl
  | a :: as => by simp only [List.map_cons, PyData.canLayAll0, PyData.canLay0, tlay_ints as]; rfl
theorem tdep_ints : ∀ (as : List Int), PyData.depthAll (as.map PyData.int) = 0
  | [] => rfl
  | a :: as => by simp only [List.map_cons, PyData.depthAll, PyData.depth, tdep_ints as]; rfl
theorem tshaped_lst (as : List Int) : SeqAt.shaped (.list (as.map PyData.int)) = true := by
  show (PyData.canLayAll0 (as.map PyData.int) && decide (PyData.depthAll (as.map PyData.int) + 1 ≤ 64)) = true
  rw [tlay_ints, tdep_ints]; rfl
theorem eqd_ints {K : PySem.W.Frag} {H : Hp} {a b : Addr} {as bs : List Int} {Q : VK} (ha : SqL K H a (as.map V.int)) (hb : SqL K H b (bs.map V.int)) (q : Q (.bl (decide (as = bs))) H) : rEqD K (.ref a) (.ref b) H Q :=
  ⟨.list (as.map .int), .list (bs.map .int), .lst ha (tdpAll_ints as), .lst hb (tdpAll_ints bs), tshaped_lst as, tshaped_lst bs, by
    show Q (.bl (PyData.eqvAll (as.map .int) (bs.map .int))) H
    rw [teqvAll_ints]; exact q⟩
theorem cutS_from {l : List Bool} {f : Nat} : cutS (tx l) (some (f : Int)) none = tx (l.drop f) := by
  apply str_ext
  unfold cutS
  rw [HT.sIx_nat, HT.sIx_none, tx_lst, tx_lst, tx_len, List.map_drop]
  rcases Nat.le_total f l.length with h | h
  · rw [Nat.min_eq_left h, List.take_of_length_le (by rw [List.length_drop, List.length_map]; omega)]
  · rw [Nat.min_eq_right h, List.drop_eq_nil_of_le (by rw [List.length_map]; exact Nat.le_refl _), List.drop_eq_nil_of_le (by rw [List.length_map]; exact h)]; simp
theorem cutS_to {l : List Bool} {f : Nat} : cutS (tx l) none (some (f : Int)) = tx (l.take f) := by
  apply str_ext
  unfold cutS
  rw [HT.sIx_nat, HT.sIx_none, tx_lst, tx_lst, tx_len, List.drop_zero, Nat.sub_zero, List.map_take]
  rcases Nat.le_total f l.length with h | h
  · rw [Nat.min_eq_left h]
  · rw [Nat.min_eq_right h, List.take_of_length_le (by rw [List.length_map]; exact Nat.le_refl _), List.take_of_length_le (by rw [List.length_map]; exact h)]
end Cl

/-! ### the checks that all laws share -/
namespace Cl
def top (i : Nat) : Stmt := PySem.Challenge.pw_carrylog_k28_ranks_of_words.main.body.getD i (.Pass ⟨0, 0, 0, 0⟩)
abbrev sInvalidinputInit : Stmt := inClass (top 3) 0
abbrev sIsWhole : Stmt := top 5
abbrev sCheckLeast : Stmt := top 6
abbrev sConsistsOf : Stmt := top 7
abbrev sDepths : Stmt := top 9
abbrev sWordOf : Stmt := top 10
abbrev sIsWord : Stmt := top 11
abbrev sCheckWord : Stmt := top 12
abbrev sCheckDepths : Stmt := top 13
abbrev sOnes : Stmt := top 14
abbrev sCountWords : Stmt := top 16
abbrev sWordAt : Stmt := top 17
abbrev sRankOf : Stmt := top 18
abbrev sRanked : Stmt := top 19
abbrev sLawBag : Stmt := top 21
abbrev sLawTake : Stmt := top 22
abbrev sLawWord : Stmt := top 23
abbrev sLawIs : Stmt := top 24
abbrev sLawDepths : Stmt := top 25
abbrev sLawChoices : Stmt := top 26
abbrev sLawOf : Stmt := top 27
abbrev sLawRank : Stmt := top 28
abbrev sLawFollowing : Stmt := top 29
abbrev sLawFits : Stmt := top 30
abbrev sLawRefused : Stmt := top 31
abbrev sLawNoneCounted : Stmt := top 32
abbrev sLawNoneRanked : Stmt := top 33
abbrev sLawRefusals : Stmt := top 34
abbrev sLawAsked : Stmt := top 35
abbrev sLaw : Stmt := top 36
section
variable {P : Program} {w : World} {K : PySem.W.Frag} {mg : Str → Option Value} {base : Heap}
def spIsWhole : Sp := fun vs H Q _ => ∃ (v : Int), vs = [.int v] ∧ Q (.bl true) H
theorem kit_ii (K : PySem.W.Frag) : PySem.W.kitOne K (.type "int") (.type "int") = some true := kit_ty (by decide +kernel)
theorem kit_ib (K : PySem.W.Frag) : PySem.W.kitOne K (.type "int") (.type "bool") = some false := kit_ty (by decide +kernel)
theorem kit_ss (K : PySem.W.Frag) : PySem.W.kitOne K (.type "str") (.type "str") = some true := kit_ty (by decide +kernel)
theorem kit_ll (K : PySem.W.Frag) : PySem.W.kitOne K (.type "list") (.type "list") = some true := kit_ty (by decide +kernel)
theorem kit_bb (K : PySem.W.Frag) : PySem.W.kitOne K (.type "bool") (.type "bool") = some true := kit_ty (by decide +kernel)
theorem scIsWhole : FnScope ["value"] ["value"] (defScope sIsWhole) := ⟨rfl, rfl, rfl, by decide +kernel, rfl, by decide +kernel, by decide +kernel⟩
theorem ok_is_whole {f : Addr} {fd : FuncData} (F : Fun K "is_whole" "is_whole" sIsWhole f fd) (B : Bi mg) : FnOk P w K mg base CX0 1 f fd ["value"] spIsWhole := by
  refine F.ok scIsWhole (fun vs H Q E h => ?_) (fun cdv A outer s H vs Q E hr h => ?_)
  · obtain ⟨v, rfl, _⟩ := h
    rfl
  · obtain ⟨v, rfl, k⟩ := h
    refine ⟨_, (pss_one (ps_ret (pe_and (pe_callB call_isi (by rfl) B.isinstance (by decide +kernel) (pa_cons (pv 0) (pa_cons (pe_bltn (v := .ty "int") (by rfl) B.intT (by decide +kernel) rfl) pa_nil))) (pe_one (pe_not (pe_callB call_isi (by rfl) B.isinstance (by decide +kernel) (pa_cons (pv 0) (pa_cons (pe_bltn (v := .ty "bool") (by rfl) B.boolT (by decide +kernel) rfl) pa_nil)))))))), ?_⟩
    refine ⟨_, rfl, _, _, _, _, _, rfl, .ty _, .base (.int _), kit_ii _, _, rfl, iteT ?_⟩
    exact ⟨_, rfl, _, _, _, _, _, rfl, .ty _, .base (.int _), kit_ib _, _, rfl, k⟩
def spCheckLeast : Sp := fun vs H Q _ => ∃ (v l : Int) (x : Str), vs = [.int v, .int l, .str x] ∧ l ≤ v ∧ Q .non H
end
end Cl

/-! ### the program's words -/
namespace Cl
/-- a word: empty, or a one ahead -/
def Wd (l : List Bool) : Prop := l = [] ∨ ∃ r, l = true :: r
theorem nrm_wd {l : List Bool} (h : Wd l) : nrm l = l := by
  rcases h with rfl | ⟨r, rfl⟩ <;> rfl
theorem nrm_is (l : List Bool) : Wd (nrm l) := by
  induction l with
  | nil => exact .inl rfl
  | cons b r ih =>
    cases b with
    | true => exact .inr ⟨r, rfl⟩
    | false => exact ih
theorem nrm_zeros (n : Nat) (l : List Bool) : nrm (List.replicate n false ++ l) = nrm l := by
  induction n with
  | zero => rfl
  | succ n ih => rw [List.replicate_succ]; exact ih
theorem small_le {n : Nat} (h : n ≤ 1000000) : n ≤ sizeLine := Nat.le_trans h (by decide)
theorem strV_ne {a b : Str} (h : a ≠ b) : decide (V.str a = V.str b) = false := decide_eq_false fun e => h (V.str.inj e)
theorem txV_eq {a b : List Bool} : decide (V.str (tx a) = V.str (tx b)) = decide (a = b) := by
  by_cases h : a = b
  · subst h; rw [decide_eq_true rfl, decide_eq_true rfl]
  · rw [decide_eq_false h, decide_eq_false fun e => h (tx_inj (V.str.inj e))]
theorem eqtx (l : List Bool) : decide (V.str (tx l) = V.str (tx l)) = true := decide_eq_true rfl
/-- the places of the ones -/
def onesAt (l : List Bool) : List Nat := (List.range l.length).filter fun k => l[k]? == some true
/-- the depths -/
def dps (l : List Bool) : List Int := (onesAt l).map fun (k : Nat) => (l.length : Int) - k
theorem at_tx {l : List Bool} {i : Nat} {b : Bool} (h : l[i]? = some b) : atI (tx l).cps.toList (i : Int) = some (bt b) := atI_nat (by rw [tx_lst, List.getElem?_map, h]; rfl)
theorem bt_eq {a b : Bool} : decide (V.str ⟨#[bt a]⟩ = V.str (tx [b])) = (a == b) := by
  show decide (V.str (tx [a]) = V.str (tx [b])) = _
  rw [txV_eq]
  cases a <;> cases b <;> decide
theorem onesAt_lt {l : List Bool} {k : Nat} (h : k ∈ onesAt l) : k < l.length := List.mem_range.mp (List.mem_filter.mp h).1
theorem onesAt_mem {l : List Bool} {k : Nat} : k ∈ onesAt l ↔ l[k]? = some true := by
  unfold onesAt
  rw [List.mem_filter, List.mem_range]
  constructor
  · rintro ⟨_, h⟩; exact by simpa using h
  · intro h
    exact ⟨(List.getElem?_eq_some_iff.mp h).1, by rw [h]; rfl⟩
theorem dps_mem {l : List Bool} {d : Int} : d ∈ dps l ↔ ∃ k : Nat, l[k]? = some true ∧ d = (l.length : Int) - k := by
  unfold dps
  rw [List.mem_map]
  exact ⟨fun ⟨k, h1, h2⟩ => ⟨k, onesAt_mem.mp h1, h2.symm⟩, fun ⟨k, h1, h2⟩ => ⟨k, onesAt_mem.mpr h1, h2.symm⟩⟩
theorem onesAt_cons (b : Bool) (r : List Bool) : onesAt (b :: r) = (if b = true then [0] else []) ++ (onesAt r).map (· + 1) := by
  unfold onesAt
  rw [List.length_cons, List.range_succ_eq_map, List.filter_cons, List.filter_map]
  have e : ((fun k => (b :: r)[k]? == some true) ∘ Nat.succ) = fun k => r[k]? == some true := by
    funext k
    show ((b :: r)[k + 1]? == some true) = _
    rw [List.getElem?_cons_succ]
  rw [e]
  cases b <;> rfl
theorem dps_cons (b : Bool) (r : List Bool) : dps (b :: r) = (if b = true then [(r.length : Int) + 1] else []) ++ dps r := by
  unfold dps
  rw [onesAt_cons, List.map_append, List.map_map]
  congr 1
  · cases b
    · rfl
    · simp
  · refine List.map_congr_left fun k _ => ?_
    show (((b :: r).length : Nat) : Int) - ((k + 1 : Nat) : Int) = (r.length : Int) - k
    rw [List.length_cons]; omega
theorem dps_nil : dps [] = [] := rfl
theorem dps_len (l : List Bool) : (dps l).length = l.count true := by
  induction l with
  | nil => rfl
  | cons b r ih =>
    rw [dps_cons, List.length_append, ih, List.count_cons]
    cases b <;> simp <;> omega
theorem dps_le {l : List Bool} {d : Int} (h : d ∈ dps l) : 1 ≤ d ∧ d ≤ l.length := by
  obtain ⟨k, h1, h2⟩ := dps_mem.mp h
  have := (List.getElem?_eq_some_iff.mp h1).1
  omega
theorem dps_desc (l : List Bool) : (dps l).Pairwise (· > ·) := by
  induction l with
  | nil => exact List.Pairwise.nil
  | cons b r ih =>
    rw [dps_cons]
    cases b
    · exact ih
    · refine List.pairwise_cons.mpr ⟨fun d hd => ?_, ih⟩
      have := (dps_le hd).2
      omega
theorem range_getD (l : List Bool) : (List.range l.length).map (fun i => l.getD i false) = l := by
  apply List.ext_getElem
  · rw [List.length_map, List.length_range]
  · intro i h1 h2
    rw [List.getElem_map, List.getElem_range, List.getD_eq_getElem?_getD, List.getElem?_eq_getElem h2]; rfl
theorem dps_empty {l : List Bool} (h : Wd l) : dps l = [] ↔ l = [] := by
  rcases h with rfl | ⟨r, rfl⟩
  · exact ⟨fun _ => rfl, fun _ => rfl⟩
  · rw [dps_cons]; simp
section
variable {P : Program} {w : World} {K : PySem.W.Frag} {mg : Str → Option Value} {base : Heap}
def spConsists : Sp := fun vs H Q _ => ∃ l, vs = [.str (tx l), .str "01"] ∧ l.length ≤ 1000000 ∧ Q (.bl true) H
def spNrm : Sp := fun vs H Q _ => ∃ l, vs = [.str (tx l)] ∧ l.length ≤ 1000000 ∧ Q (.str (tx (nrm l))) H
def spIsWord : Sp := fun vs H Q _ => ∃ l, vs = [.str (tx l)] ∧ l.length ≤ 1000000 ∧ Wd l ∧ Q (.bl true) H
def spCheckWord : Sp := fun vs H Q _ => ∃ l x, vs = [.str (tx l), .str x] ∧ l.length ≤ 1000000 ∧ Wd l ∧ Q .non H
def spLiving : Sp := fun vs H Q _ => ∃ l, vs = [.str (tx l)] ∧ l.length ≤ 1000000 ∧ Wd l ∧ Q (.int ((l.count true : Nat) : Int)) H
def spNewest : Sp := fun vs H Q _ => ∃ l, vs = [.str (tx l)] ∧ l.length ≤ 1000000 ∧ Wd l ∧ Q (if l = [] then .non else .int ((l.count true : Nat) - 1 : Int)) H
def spBest : Sp := fun vs H Q _ => ∃ n : Int, vs = [.int n] ∧ 0 ≤ n ∧ n ≤ 1000000 ∧ Q (.str (tx (List.replicate n.toNat true))) H
def worst (n m : Int) : List Bool := List.replicate n.toNat true ++ List.replicate (m - n).toNat false
def spWorst : Sp := fun vs H Q _ => ∃ n m : Int, vs = [.int n, .int m] ∧ 0 ≤ n ∧ n ≤ m ∧ m ≤ 1000000 ∧ (n = 0 → m = 0) ∧ Q (.str (tx (worst n m))) H
theorem rep_len (n : Int) (b : Bool) : (tx (List.replicate n.toNat b)).length = n.toNat := by rw [tx_len, List.length_replicate]
def spOnes : Sp := fun vs H Q _ => ∃ l, vs = [.str (tx l)] ∧ l.length ≤ 9000 ∧ ∀ p H', H p = none → Same H H' → H' p = some (.lst (((onesAt l).map fun (k : Nat) => (k : Int)).map V.int)) → Q (.ref p) H'
theorem scOnes : FnScope ["word", "at", "mark"] ["word"] (defScope sOnes) := ⟨rfl, rfl, rfl, by decide +kernel, rfl, by decide +kernel, by decide +kernel⟩
theorem ok__ones {f : Addr} {fd : FuncData} (F : Fun K "_ones" "_ones" sOnes f fd) (B : Bi mg) : FnOk P w K mg base CX0 1 f fd ["word"] spOnes := by
  refine F.ok scOnes (fun vs H Q E h => ?_) (fun cdv A outer s H vs Q E hr h => ?_)
  · obtain ⟨l, rfl, _⟩ := h
    rfl
  · obtain ⟨l, rfl, hl, k⟩ := h
    refine ⟨_, (pss_one (ps_ret (pe_lc (own := [("at", 1), ("mark", 2)]) (g := gTup K 2 (gCons (gName 1) (gCons (gName 2) (gNil)))) rfl scOnes.nd (pi_enumS rfl B.enumerate (pa_cons (pv 0) pa_nil)) (blkOk_by (own := [("at", 1), ("mark", 2)]) (N := ["word", "at", "mark"]) (sc := defScope sOnes) (by decide +kernel)) (fun _ _ _ _ _ => (pg_tupK K (by rfl) (pgs_cons (pg_name (i := 1) scOnes.nd rfl (Or.inl rfl)) (pgs_cons (pg_name (i := 2) scOnes.nd rfl (Or.inl rfl)) pgs_nil)))) (fun _ _ _ _ _ => (pts_one (pt_cmpR op_eq (pv 2) pe_str (nomark _)))) (fun _ _ _ _ _ => (pv 1))))), ?_⟩
    refine ⟨_, rfl, _, rfl, fun D hD => ?_⟩
    refine lc_filtW walk_enumS (fun i => .int (i : Nat)) (fun i => l[i]? == some true) hD (by rw [tx_size]; omega) (fun _ _ => trivial) ?_ (fun H1 hS hL => k D H1 hD hS ?_)
    · intro i x H1 H2 R R0 hi hS y h1 h0
      obtain ⟨T, v, z, rfl, hT, rfl, ev, ez⟩ := y
      obtain rfl := Option.some.inj ev
      dsimp only at ez
      obtain ⟨b, hb⟩ : ∃ b, l[i]? = some b := ⟨l[i]'(by rw [tx_size] at hi; exact hi), List.getElem?_eq_getElem _⟩
      rw [tx_get, hb] at ez
      obtain rfl := Option.some.inj ez
      refine ⟨T, _, rfl, SqT.of upd_same, rfl, _, _, rfl, _, _, rfl, rfl, rfl, ?_⟩
      refine ⟨_, rfl, rfl, _, rfl, ?_⟩
      rw [t1, bt_eq]
      have hb2 : (l[i]? == some true) = (b == true) := by rw [hb]; cases b <;> rfl
      rw [hb2] at h1 h0
      cases b
      · exact iteF (h0 rfl _ (Same.upd hT))
      · exact iteT ⟨_, rfl, h1 rfl _ (Same.upd hT)⟩
    · rw [hL, tx_size, List.map_map]; rfl
def spDepths : Sp := fun vs H Q _ => ∃ l, vs = [.str (tx l)] ∧ l.length ≤ 9000 ∧ Wd l ∧ ∀ p H', H p = none → Same H H' → H' p = some (.lst ((dps l).map V.int)) → Q (.ref p) H'
def spWordOf (K : PySem.W.Frag) : Sp := fun vs H Q _ => ∃ a l, vs = [.ref a] ∧ l.length ≤ 9000 ∧ Wd l ∧ SqL K H a ((dps l).map V.int) ∧ ∀ H', Same H H' → Q (.str (tx l)) H'
end
end Cl

/-! ### an own error over an own base over ValueError: super().__init__(text), then one field -/
namespace PySem
namespace OwnX
open PySem.W PySem.Calls PyProof.Rows PySem.HandSPX
def iA (fl : Str) (p1 p2 : Pos) : Arguments := { posonlyargs := [], args := [{ arg := "self", annotation := none, pos := p1 }, { arg := fl, annotation := none, pos := p2 }], vararg := none, kwonlyargs := [], kw_defaults := [], kwarg := none, defaults := [] }
def iB (fl : Str) (me : Expr) (q1 q2 q3 q4 q5 q6 q7 q8 q9 : Pos) : List Stmt :=
  [.Expr (.Call (.Attribute (.Call (.Name "super" q1) [] [] q2) "__init__" q3) [me] [] q4) q5, .Assign [.Attribute (.Name "self" q6) fl q7] (.Name fl q8) q9]
def iS (fl : Str) : Scope := { kind := .function, names := [(PySem.Str.ofString "self", .local), (fl, .local), (PySem.Str.ofString "__class__", .free), (PySem.Str.ofString "super", .globalImplicit)], isGenerator := false, isCoroutine := false, more := [] }
abbrev ve : String := "ValueError.__init__"
/-- the text that the error hands on: a constant, or f'..{field}..' -/
inductive Msg (fl : Str) : Expr → Bool → Prop where
  | con (z : Str) (k : Nat) (p : Pos) : Msg fl (.Constant (.str z) k p) false
  | fmt (a b : Str) (j k : Nat) (p1 p2 p3 p4 p5 : Pos) (ha : a.length ≤ 1000) (hb : b.length ≤ 1000) :
    Msg fl (.JoinedStr [.Constant (.str a) j p1, .FormattedValue (.Name fl p2) (-1) none p3, .Constant (.str b) k p4] p5) true
/-- what is asked of the field's value: a text, where the message has it -/
def okF (ok : Bool) (v : Value) : Prop := ok = true → ∃ z t, v = .str z t ∧ z.length ≤ 1000
/-- what is reckoned for each field's name -/
structure FlOk (fl : Str) : Prop where
  bind : ∀ (qual : Str) (me : Expr) (p1 p2 q1 q2 q3 q4 q5 q6 q7 q8 q9 : Pos) (doc pm : Value) (an : Option Addr) (cd ct : Value) (cc : Addr) (a b : Value),
    bindArgs (ksFn "__init__" qual (iA fl p1 p2) (iB fl me q1 q2 q3 q4 q5 q6 q7 q8 q9) (iS fl) .none .none doc pm an cd ct cc) ⟨[a, b], []⟩ = pure [(("self" : Str), a), (fl, b)]
  lf : (iS fl).names.lookup fl = some .local
  lc : (iS fl).names.lookup ("__class__" : Str) = some .free
  lu : (iS fl).names.lookup ("super" : Str) = some .globalImplicit
  dbg : (fl == ("__debug__" : Str)) = false
  sf : (("self" : Str) == fl) = false
  cells : ∀ y ∈ (iS fl).names, y.2 ≠ .cell
  lk : ∀ v : Value, List.lookup fl [(fl, v)] = some v
/-- what the written part says of the class x at C, of its __init__ at fI -/
structure OwnTxt (prog : Program) (K : Frag) (C fI : Addr) (fl : Str) (ok : Bool) : Prop where
  cls : ∃ nm q N bs bm sn sub ab col dd k0 k1 k2 k3 k5, K.lookup C = some (excClassObj nm q C N bs bm true sn sub ab col dd k0 k1 k2 k3 k5 "ValueError.__new__") ∧ refsVE bm = true
  sa : findIn K (.ref C) "__setattr__" = some (some (.builtin "object.__setattr__"))
  noN : findIn K (.ref C) fl = some none
  iC : findIn K (.ref C) "__init__" = some (some (.ref fI))
  tC : typeIn K (.ref fI) = some (.type "function")
  su : ks_superIn K C C "__init__" = some (some (.builtin ve))
  sv : subIn K (.ref C) (.type "ValueError") = some true
  op : nsIn K cStatics "thirdparty.any" = some none
  ds : mroIn K C (.ref C) = some true
  fo : FlOk fl
  fn : ∃ (qual : Str) (oc : Value) (od : Option Addr) (doc pm : Value) (an : Option Addr) (cda : Addr) (ct : Value) (osl : Array (Option Value)) (me : Expr) (p1 p2 q1 q2 q3 q4 q5 q6 q7 q8 q9 : Pos) (cc : Addr) (cl : Value) (cld : Option Addr) (csl : Array (Option Value))
    (ccl : Value) (cdd : Option Addr) (ccs : Array (Option Value)) (vs : Array Value) (file : Str) (tf : Tok),
    K.lookup fI = some ⟨oc, od, .func (ksFn "__init__" qual (iA fl p1 p2) (iB fl me q1 q2 q3 q4 q5 q6 q7 q8 q9) (iS fl) .none .none doc pm an (.ref cda) ct cc), osl⟩ ∧ codeIn K (.ref cda) qual = true ∧ Msg fl me ok ∧
    K.lookup cc = some ⟨cl, cld, .cell (some (.ref C)), csl⟩ ∧ K.lookup cda = some ⟨ccl, cdd, .fields vs, ccs⟩ ∧ vs[2]? = some (.str file tf) ∧ ((prog.main.file : Str) == file) = true ∧ (q3.endLine == q4.line) = true
  main : (prog.main.scope.names.lookup ("super" : Str)).isSome = false
theorem one_size (v : Value) : [v].length ≤ sizeLine := by
  rw [sizeLine_eq]
  exact (by decide : 1 ≤ 16777216)
/-- what __init__ leaves of a fresh exception at x -/
structure InitEnd (h h' : Heap) (x C dx : Addr) (fl : Str) (v : Value) : Prop where
  keep : ∀ b o, b ≠ x → h.get? b = some o → h'.get? b = some o
  obj : ∃ t1 : Addr, h'.get? x = some { cls := .ref C, dict := some dx, data := .fields #[.ref t1, .none, .none, .none, .bool false, .none] }
  dbig : h.objs.size ≤ dx
  dne : dx ≠ x
  ns : h'.Ns1 dx (fun y => if y = fl then some v else none)
section
variable {prog : Program} {w : World} {M : Model} {A : Around} {E : Value → Shared → Prop} {h : Heap} {g : Array GenState} {d : Drawn} {t : Nat} {os : OsState}
variable {nm q : Str} {C N : Addr} {bs bm : List Value} {hdct : Bool} {sn : List Str} {sub : List Value} {ab : Bool} {col : Option Bool} {dd : Option Addr} {k0 k1 k2 k3 k5 : Option Value}
theorem call_mw {u e t0 : Addr} {rest : List Value} {Q : Value → Shared → Prop}
    (hC : h.get? C = some (excClassObj nm q C N bs bm hdct sn sub ab col dd k0 k1 k2 k3 k5 "ValueError.__new__")) (he : h.get? e = some (excO C t0)) (hu : h.get? u = some (kxs_mw ve e)) (hrest : rest.length ≤ sizeLine)
    (hq : ∀ h' t1, (∀ b o, b ≠ e → h.get? b = some o → h'.get? b = some o) → h'.get? e = some (excO C t1) → Q .none ⟨h', g, d, t, os⟩) :
    wpAny (model prog w) A (call (.ref u) rest) Q E ⟨h, g, d, t, os⟩ := by
  refine wpAny_call (codeAny_of_tree ?_)
  show wpAny _ A.in1 (callAny (.ref u) ⟨rest, []⟩) _ _ _
  simp only [callAny]
  refine wpAny_bind (wpAny_load hu ?_)
  simp only [kxs_mw, show (Value.type "method-wrapper" == Value.type "method" || Value.type "method-wrapper" == Value.type "builtin_function_or_method" || Value.type "method-wrapper" == Value.type "method-wrapper") = true by decide, if_true]
  refine W.KFB.if_so (by decide) ?_
  refine wpAny_bind (check_bound_init F.excBase_ValueError.toExcCallFacts hC he rfl ?_)
  refine wpAny_bind (wpAny_pure (wpAny_pure ?_))
  refine ⟨plainId_quiet F.excBase_ValueError.init.plain _, codeAny_builtin F.excBase_ValueError.initEntry ?_⟩
  exact exc_init_tree (cls := .ref C) (t0 := t0) (dv := none) (c2 := .none) (c3 := .none) (b4 := .bool false) he hrest fun h' k e' _ => hq h' _ k e'
end
section
variable {prog : Program} {w : World} {A : Around} {E : Value → Shared → Prop} {R : Result → Shared → Prop} {s : Shared} {K : Frag} {mg : Str → Option Value} {C fI : Addr} {fl : Str} {ok : Bool}
theorem msg_eval {me : Expr} {env : Env} {m : Str → Option Value} {v : Value} {Q : Value → Shared → Prop} (M : Msg fl me ok) (hv : okF ok v) (hns : s.heap.Ns env.locals m) (hm : m fl = some v) (hk : env.scope.kind = .function) (hl : env.kindOf fl = some .local) (hd : (fl == ("__debug__" : Str)) = false)
    (h : ∀ (z : Str) (t k : Nat), Q (.str z t) { s with toks := k }) : wpAny (model prog w) A (eval me env) Q E s := by
  cases M with
  | con z k p => exact Calls.Constant_str (h _ _ _)
  | fmt a b j k p1 p2 p3 p4 p5 ha hb =>
    obtain ⟨z, t, rfl, hz⟩ := hv rfl
    refine wpAny_JoinedStr ?_
    have big : (1000000 : Nat) ≤ sizeLine := by decide
    have e0 : (Str.empty ++ a).length = a.length := by rw [Str.length_append]; simp [Str.empty, Str.length]
    have e1 : (Str.empty ++ a ++ z).length = a.length + z.length := by rw [Str.length_append, e0]
    have e2 : (Str.empty ++ a ++ z ++ b).length = a.length + z.length + b.length := by rw [Str.length_append, e1]
    refine Calls.Constant_str ⟨a, _, rfl, by rw [e0]; omega, ?_⟩
    have nxt : ∀ (t2 k2 : Nat), wpAny (model prog w) A (eval (.Constant (.str b) k p4) env) (fun v s1 => ∃ (y : Str) (tk : Tok), v = .str y tk ∧ (Str.empty ++ a ++ z ++ y).length ≤ sizeLine ∧ Joins (model prog w) A E [] (Str.empty ++ a ++ z ++ y) (fun out s₁ => out.length ≤ sizeLine ∧ Q (.str out s₁.toks) { s₁ with toks := s₁.toks + 1 }) s1) E { s with toks := k2 } := fun t2 k2 => by
      refine Calls.Constant_str ⟨b, _, rfl, by rw [e2]; omega, ?_⟩
      exact ⟨by rw [e2]; omega, h _ _ _⟩
    refine wpAny_FormattedValue_plain (wpAny_Name (wpAny_loadName_local hk hl hns hm ?_) hd)
    exact wpAny_formatField_str ⟨z, t, rfl, by rw [e1]; omega, nxt t _⟩ ⟨z, _, rfl, by rw [e1]; omega, nxt t _⟩ (by omega)
theorem msg_call {me : Expr} {q1 q2 apos pos : Pos} {env : Env} (M : Msg fl me ok) (hline : (apos.endLine == pos.line) = true) : ∃ pl : Sem Bool, eval (.Call (.Attribute (.Call (.Name "super" q1) [] [] q2) "__init__" apos) [me] [] pos) env = (do
      let ov ← attributeBase (.Call (.Name "super" q1) [] [] q2) "__init__" env (eval (.Call (.Name "super" q1) [] [] q2) env)
      standAt apos.atName
      let (f, first) ← holding [ov] (getMethod ov "__init__" pl)
      callWith pos f first (backTo pos (starEach [me] env)) []) := by
  refine ⟨do return (← importBound (.Call (.Name "super" q1) [] [] q2) env).getD true, ?_⟩
  have few : methodCallForm ([me].length + ([] : List Keyword).length) (backTo pos (starEach [me] env)) (backToKw pos (keywordEach [] env)) = true := by cases M <;> rfl
  show (do
      let ov ← attributeBase (.Call (.Name "super" q1) [] [] q2) "__init__" env (eval (.Call (.Name "super" q1) [] [] q2) env)
      standAt apos.atName
      methodCall (.Call (.Name "super" q1) [] [] q2) "__init__" apos pos env ov ([me].length + ([] : List Keyword).length) (backTo pos (starEach [me] env)) (backToKw pos (keywordEach [] env))) = _
  unfold methodCall calleeOf methodCallPos
  rw [few, hline]
  rfl
theorem msg_star {me : Expr} {env : Env} (M : Msg fl me ok) : starEach [me] env = (false, eval me env) :: starEach [] env := by cases M <;> rfl
theorem msg_swap {me o : Expr} {apos pos : Pos} {env : Env} {line : Nat} (M : Msg fl me ok) : swapsWith (.Call (.Attribute o "__init__" apos) [me] [] pos) none line env = pure false := by cases M <;> rfl
theorem mw_callWith1 {u x : Addr} {pos : Pos} {env : Env} {e : Expr} {Q : Value → Shared → Prop} (he : starEach [e] env = (false, eval e env) :: starEach [] env)
    (h : wpAny (model prog w) A (eval e env) (fun v s₁ => KxsAt ve u x s₁.heap ∧ wpAny (model prog w) A (call (.ref u) [v]) Q E s₁) E s) :
    wpAny (model prog w) A (callWith pos (.ref u) [] (backTo pos (starEach [e] env)) []) Q E s := by
  have h2 : wpAny (model prog w) A (spliced (backTo pos (starEach [e] env))) (fun vs s₁ => KxsAt ve u x s₁.heap ∧ wpAny (model prog w) A (call (.ref u) vs) Q E s₁) E s := by
    exact spliced_more (wpAny_mono h (fun v s₁ h₁ => spliced_none h₁) fun _ _ z => z) he
  rw [he] at h2 ⊢
  refine kxs_callWith (i := ve) (x := x) rfl ?_
  exact evalArgs_plain h2
/-- the whole __init__ at a fresh exception -/
theorem own_init (T : OwnTxt prog K C fI fl ok) {x t0 : Addr} {v : Value} (X : K.In s.heap) (hlim : s.heap.NoLimit) (hgl : s.heap.Ns mainGlobals mg) (hms : mg "super" = none) (hbl : ∃ mb, s.heap.Ns builtinsNs mb ∧ ∀ y : Str, y ≠ "__name__" → mb y = bootBuiltins y)
    (hok : okF ok v) (hx : s.heap.get? x = some (excO C t0)) (hnx : K.lookup x = none) (hroom : A.depth < recursionLimit)
    (hq : ∀ h' tk dx, InitEnd s.heap h' x C dx fl v → R (.ok (.ret .none)) { s with heap := h', toks := tk }) :
    codeAny (model prog w) A (.call (.ref fI) ⟨[.ref x, v], []⟩) R s := by
  obtain ⟨qual, oc, od, doc, pm, an, cda, ct, osl, me, p1, p2, q1, q2, q3, q4, q5, q6, q7, q8, q9, cc, cl, cld, csl, ccl, cdd, ccs, vs, file, tf, ho, hcd, hM, hcell, hcode, hvs, hfile, hline⟩ := T.fn
  obtain ⟨nm, q, N, bs, bm, sn, sub, ab, col, dd, k0, k1, k2, k3, k5, hC, hbm⟩ := T.cls
  have hcl : clsIn K C = some { name := nm, bases := bs, mro := .ref C :: bm, ns := N, qualname := q, hasDict := true, slotNames := sn, subclasses := sub, abstract := ab, collection := col, hasDel := false } := by unfold clsIn; rw [hC] <;> rfl
  have FO := T.fo
  have env0 : ∀ L, (callEnv (ksFn "__init__" qual (iA fl p1 p2) (iB fl me q1 q2 q3 q4 q5 q6 q7 q8 q9) (iS fl) .none .none doc pm an (.ref cda) ct cc) L fI) = ksEnv qual (iS fl) L fI (.ref cda) cc := fun L => rfl
  refine ks_codeAny_call_defAt (fd := ksFn "__init__" qual (iA fl p1 p2) (iB fl me q1 q2 q3 q4 q5 q6 q7 q8 q9) (iS fl) .none .none doc pm an (.ref cda) ct cc) (body := iB fl me q1 q2 q3 q4 q5 q6 q7 q8 q9) (binds := [(("self" : Str), .ref x), (fl, v)])
    hroom (X _ _ ho) rfl hlim (codeRec_of X hcd) rfl (BindsTo.of_eq (FO.bind _ _ _ _ _ _ _ _ _ _ _ _ _ _ _ _ _ _ _ _ _)) FO.cells ?_ (fun h₁ hn k => ?_)
  · intro y hy
    rcases List.mem_cons.mp hy with rfl | hy
    · rfl
    · rw [List.mem_singleton.mp hy]; exact FO.lf
  have X₁ : K.In h₁ := X.keeps k
  have hx₁ := k _ _ hx
  have hxL : s.heap.objs.size ≠ x := Nat.ne_of_gt (Heap.lt_size hx)
  have mv : (fun y => List.lookup y ([(("self" : Str), Value.ref x), (fl, v)] : List (Str × Value)).reverse) fl = some v := by
    show List.lookup fl [(fl, v), (("self" : Str), Value.ref x)] = some v
    have := FO.lk v
    unfold List.lookup at this ⊢
    cases hb : (fl == fl)
    · rw [hb] at this; cases this
    · rfl
  have ms : (fun y => List.lookup y ([(("self" : Str), Value.ref x), (fl, v)] : List (Str × Value)).reverse) "self" = some (.ref x) := by
    show List.lookup ("self" : Str) [(fl, v), (("self" : Str), Value.ref x)] = some (.ref x)
    unfold List.lookup
    rw [FO.sf]
    rfl
  obtain ⟨mb, hb1, hb2⟩ := hbl
  obtain ⟨pl, hpl⟩ := msg_call (q1 := q1) (q2 := q2) (apos := q3) (pos := q4) (env := ksEnv qual (iS fl) s.heap.objs.size fI (.ref cda) cc) hM hline
  refine ks_wpAt_execs_cons (ks_wpAt_Expr_any (ks_wpAt_MethodCall (pl := pl) ?_ hpl) rfl (msg_swap hM))
  obtain ⟨hp, g, dr, tk, os⟩ := s
  obtain ⟨oD, cdD, hD1, hD2⟩ : ∃ (oD : Obj) (cdD : ClassData), h₁.get? C = some oD ∧ oD.data = .cls cdD := ⟨_, _, X₁ _ _ hC, rfl⟩
  refine ks_wpAt_super_base (env := ksEnv qual (iS fl) hp.objs.size fI (.ref cda) cc) (ar := { arg := "self", annotation := none, pos := p1 }) FO.lu FO.lc rfl rfl (X₁ _ _ ho) rfl rfl rfl (X₁ _ _ hcode) rfl hvs hfile T.main ?_
  refine ks_loadName_global rfl FO.lu (loadGlobal_builtin (env := ksEnv qual (iS fl) hp.objs.size fI (.ref cda) cc) (hgl.keeps k) hms (hb1.keeps k) ((hb2 _ (by decide +kernel)).trans (by decide +kernel : bootBuiltins "super" = some (.type "super"))) ⟨rfl, ?_⟩)
  refine wpAny_loadName_free rfl FO.lc rfl ⟨_, X₁ _ _ hcell, rfl⟩ ?_
  refine wpAny_loadName_local rfl rfl hn ms ?_
  refine ks_wpAny_isType_cls hD1 hD2 ⟨rfl, ?_⟩
  refine ks_wpAny_call_super hD1 hD2 hx₁ rfl (fun c e => nomatch e) (looks_mroIn X₁ T.ds) (fun h₂ hso k₂ => ?_)
  have X₂ : K.In h₂ := X₁.keeps k₂
  have hx₂ := k₂ _ _ hx₁
  have I₂ : InstAt h₂ x (excO C t0) C none := ⟨hx₂, rfl, rfl, trivial⟩
  have hsu := T.su
  unfold ks_superIn at hsu
  rw [hcl] at hsu
  refine kxs_getMethod kxs_ValueError hso (looks_opaque X₂ T.op) (l₀ := .ref C :: bm) ?_ rfl X₂ hsu (I₂.type.andThen (looks_subIn X₂ T.sv)) (ks_ne X₂ I₂ hcl) rfl ?_
  · exact fun A Q E s k q => wpAny_bind ((looks_clsIn X₂ hcl) A _ E s k (wpAny_pure q))
  have k₃ : ∀ b o, h₂.get? b = some o → (h₂.push (kxs_mw ve x)).get? b = some o := fun b o e => Heap.get?_push_of_some _ e
  have hu : (h₂.push (kxs_mw ve x)).get? h₂.objs.size = some (kxs_mw ve x) := Heap.get?_push_at rfl rfl
  have X₃ := X₂.keeps k₃
  have hx₃ := k₃ _ _ hx₂
  have n₃ := (hn.keeps k₂).keeps k₃
  generalize h₂.push (kxs_mw ve x) = h₃ at *
  refine mw_callWith1 (x := x) (msg_star hM) (msg_eval hM hok n₃ mv rfl FO.lf FO.dbg fun z tz kz => ⟨hu, ?_⟩)
  refine call_mw (X₃ _ _ hC) hx₃ hu (one_size _) fun h₄ t1 k₄ hx₄ => ?_
  have nxL : hp.objs.size ≠ x := hxL
  have n₄ : h₄.Ns hp.objs.size (fun y => List.lookup y ([(("self" : Str), Value.ref x), (fl, v)] : List (Str × Value)).reverse) := n₃.at fun o e => k₄ _ _ nxL e
  have X₄ : K.In h₄ := fun a o e => k₄ a o (fun z => by rw [z, hnx] at e; cases e) (X₃ a o e)
  show _root_.PySem.wpAt _ _ _ (execs _ _) _ _ _
  refine wpAt_of_wpAny (wpAny_execs_cons (plainObj_wpAny_Assign_Attribute ?_))
  refine wpAny_Name (wpAny_loadName_local rfl FO.lf n₄ mv ?_) FO.dbg
  refine wpAny_Name (wpAny_loadName_local rfl rfl n₄ ms ?_) (by decide)
  refine set_plain X₄ (ox := excO C t1) (od := none) ⟨hx₄, rfl, rfl, trivial⟩ T.sa ?_
  refine exc_osa X₄ hx₄ hcl (show refsVE (.ref C :: bm) = true from hbm) rfl T.noN (fun h₅ tk₅ dx k₅ dn dne hx₅ hn₅ => ?_)
  show wpAny _ _ (execs _ _) _ _ _
  have kk : ∀ b o, b ≠ x → hp.get? b = some o → h₅.get? b = some o := fun b o hb e => k₅ b o hb (k₄ b o hb (k₃ _ _ (k₂ _ _ (k _ _ e))))
  have z : hp.objs.size < h₄.objs.size := n₄.lt
  exact wpAny_execs_nil (hq h₅ tk₅ dx ⟨kk, ⟨t1, hx₅⟩, Nat.le_of_lt (Nat.lt_of_lt_of_le z dn), dne, hn₅⟩)
/-- a made error -/
structure ErrMade (h h' : Heap) (e C d : Addr) (fl : Str) (v : Value) : Prop where
  keep : ∀ b o, h.get? b = some o → h'.get? b = some o
  new : h.objs.size ≤ e
  obj : ∃ oe vs, h'.get? e = some oe ∧ oe.cls = .ref C ∧ oe.dict = some d ∧ oe.data = .fields vs ∧ vs[1]? = some .none
  dbig : h.objs.size ≤ d
  dne : d ≠ e
  ns : h'.Ns1 d (fun y => if y = fl then some v else none)
theorem err_made (T : OwnTxt prog K C fI fl ok) {v : Value} (X : K.In s.heap) (hlim : s.heap.NoLimit) (hgl : s.heap.Ns mainGlobals mg) (hms : mg "super" = none) (hbl : ∃ mb, s.heap.Ns builtinsNs mb ∧ ∀ y : Str, y ≠ "__name__" → mb y = bootBuiltins y) (hok : okF ok v)
    (hroom : A.depth + 1 < recursionLimit) (hq : ∀ h' tk e d, ErrMade s.heap h' e C d fl v → R (.ok (.ret (.ref e))) { s with heap := h', toks := tk }) :
    codeAny (model prog w) A (.call (.ref C) ⟨[v], []⟩) R s := by
  obtain ⟨nm, q, N, bs, bm, sn, sub, ab, col, dd, k0, k1, k2, k3, k5, hC, hbm⟩ := T.cls
  obtain ⟨hp, g, dr, tk, os⟩ := s
  have k : ∀ b o, hp.get? b = some o → ((hp.push (kdv_tup [v])).push (excO C hp.objs.size)).get? b = some o := fun b o e => Heap.get?_push_of_some _ (Heap.get?_push_of_some _ e)
  have hget : ((hp.push (kdv_tup [v])).push (excO C hp.objs.size)).get? (hp.objs.size + 1) = some (excO C hp.objs.size) := by heap_get
  have hnx : K.lookup (hp.objs.size + 1) = none := by
    cases e : K.lookup (hp.objs.size + 1) with
    | none => rfl
    | some o =>
      have z : hp.get? (hp.objs.size + 1) = some o := X _ _ e
      exact absurd (Nat.lt_of_succ_lt (Heap.lt_size z)) (Nat.lt_irrefl _)
  obtain ⟨mb, hb1, hb2⟩ := hbl
  refine call_own F.excBase_ValueError (fun X => refsVE_contains X bm hbm) (X _ _ hC) (looks_findIn X T.iC) (fun self => bind_fn X self T.tC) (one_size v) ?_
  refine own_init (s := ⟨(hp.push (kdv_tup [v])).push (excO C hp.objs.size), g, dr, tk, os⟩) T (X.keeps k) (hlim.keeps k) (hgl.keeps k) hms ⟨mb, hb1.keeps k, hb2⟩ hok hget hnx ?_ fun h' tk' dx ⟨k', ⟨t1, hx⟩, dn, dne, hns⟩ => ?_
  · show A.depth + 1 < recursionLimit
    exact hroom
  · have old : ∀ b o, hp.get? b = some o → h'.get? b = some o := fun b o e => k' b o (Nat.ne_of_lt (Nat.lt_succ_of_lt (Heap.lt_size e))) (k b o e)
    have z : hp.objs.size + 1 + 1 ≤ dx := by
      have q := dn
      rw [Heap.size_push, Heap.size_push] at q
      exact q
    exact ⟨rfl, hq h' tk' (hp.objs.size + 1) dx ⟨old, Nat.le_succ _, ⟨_, _, hx, rfl, rfl, rfl, rfl⟩, Nat.le_trans (Nat.le_trans (Nat.le_succ _) (Nat.le_succ _)) z, dne, hns⟩⟩
end
end OwnX
end PySem
namespace L2
open PySem PySem.Spec PyProof.Rows
theorem relO_fld {fl : Str} {v : V} {v' : Value} (r : RelV v v') (f : Str) : RelO (List.lookup f [(fl, v)]) (if f = fl then some v' else none) := by
  by_cases hw : f = fl
  · subst hw
    rw [if_pos rfl]
    have q : List.lookup f [(f, v)] = some v := by simp [List.lookup]
    rw [q]
    exact r
  · rw [if_neg hw]
    have qw : (f == fl) = false := by simpa using hw
    have q2 : List.lookup f [(fl, v)] = none := by simp [List.lookup, qw]
    rw [q2]
    trivial
def okV (ok : Bool) (v : V) : Prop := ok = true → ∃ z, v = .str z ∧ z.length ≤ 1000
section
variable {X : Cx} {C fI : Addr} {fl : Str} {ok : Bool}
/-- Err(e) -/
def tMkErr (C : Addr) (fl : Str) (ok : Bool) (ta : TA) : St → Hp → XK → Prop := fun σ H Q => ta σ H fun vs H1 => ∃ v, vs = [v] ∧ okV ok v ∧ ∀ d, H1 d = none → Q (.ref C) (some d) (upd H1 d (.xd [(fl, v)]))
theorem pmk_err {nm : Str} {a : Expr} {ta : TA} {p pos : Pos} {k : Nat} (T : PySem.OwnX.OwnTxt X.prog X.K C fI fl ok) (exC : PySem.W.subIn X.K (.ref C) (.type "BaseException") = some true) (tyC : PySem.W.typeIn X.K (.ref C) = some (.type "type")) (kC : PySem.W.keepIn X.K (.ref C) = true)
    (gC : X.mg nm = some (.ref C)) (hms : X.mg "super" = none) (hr : Room (k + 1) X.A) (ha : PA X [a] ta) (hg : Gl X nm) (hdb : (nm == ("__debug__" : Str)) = false)
    (he : starEach (a :: []) X.env = (false, eval a X.env) :: starEach [] X.env := by rfl) (hpl : (backTo pos (starEach [] X.env)).any (·.1) = false := by rfl) :
    PMk X (.Call (.Name nm p) [a] [] pos) (tMkErr C fl ok ta) := by
  intro pins s σ H Q I h
  refine wpAny_Call_Name_kw (ld_glob I hg gC ?_ hdb)
  refine PySem.W.callWith_K (h₀ := X.base) I.ok.mod.kin kC (thn (ha.run pos pins s σ H _ I h) fun us s1 hh => ?_) he hpl
  obtain ⟨vs, H1, I1, r1, v, ev, hok, q1⟩ := hh
  subst ev
  refine ⟨I1.kIn, ?_⟩
  cases r1 with
  | cons rv rn =>
    rename_i v' us'
    cases rn
    show wpAny _ _ (call (.ref C) [v']) _ _ _
    have hlim := I1.nolimit
    have hok' : PySem.OwnX.okF ok v' := fun e => by
      obtain ⟨z, rfl, hz⟩ := hok e
      obtain ⟨t, rfl⟩ := rv
      exact ⟨z, t, rfl, hz⟩
    obtain ⟨mb, hb1, hb2⟩ := I1.mod.blt
    have hgl := I1.mod.glob.keeps I1.bk
    have hbl := hb1.keeps I1.bk
    obtain ⟨hp, g, dr, tk, os⟩ := s1
    refine wpAny_call (PySem.OwnX.err_made T I1.kIn hlim hgl hms ⟨mb, hbl, hb2⟩ hok' (by have := hr.dp; omega) fun h' tk' e d M => ?_)
    show MkP X pins σ Q (.ref e) ⟨h', g, dr, tk', os⟩
    obtain ⟨oe, fv, hoe, hc, hd, hdat, h1⟩ := M.obj
    have hns := M.ns
    obtain ⟨G', g1, g2⟩ := restrict h' fun b => decide (b ≠ e)
    have gk : ∀ b, b ≠ e → G'.get? b = h'.get? b := fun b hb => g1 b (decide_eq_true hb)
    have ge : G'.get? e = none := g2 e (by simp)
    have old : ∀ b o, hp.get? b = some o → G'.get? b = some o := fun b o q => (gk b (Nat.ne_of_lt (Nat.lt_of_lt_of_le (Heap.lt_size q) M.new))).trans (M.keep b o q)
    have ob : ObjOk X.prog X.w (upd H1 d (.xd [(fl, v)])) G' d (.xd [(fl, v)]) :=
      ⟨_, hns.at (fun o q => (gk d M.dne).trans q), fun f => relO_fld rv f⟩
    have J : Inv X pins σ (upd H1 d (.xd [(fl, v)])) ⟨G', g, dr, tk', os⟩ := I1.laid (t' := tk') old M.dbig ob
    refine ⟨e, oe, fv, ⟨G', g, dr, tk', os⟩, _, .ref C, some d, rfl, J, fun b o q => ?_, ge, hoe, ⟨hc, hd⟩, hdat, h1, ?_, rfl, I1.bare, raises_own exC tyC, q1 d (I1.hok.fresh M.dbig)⟩
    · by_cases hb : b = e
      · have q' : G'.get? b = some o := q
        rw [hb, ge] at q'; cases q'
      · exact (gk b hb).symm.trans q
    · rw [upd_ne (Ne.symm M.dne)]
      exact I1.hok.fresh M.new
end
end L2

/-! ### own errors by their names -/
namespace Cl
open PySem L2 PyProof.Rows
theorem kit_err {K : PySem.W.Frag} {C S : Addr} {b : Bool} (ne : (Value.ref C == Value.ref S) = false) (c : (PySem.W.clsIn K S).isSome = true) (t : PySem.W.typeIn K (.ref S) = some (.type "type")) (s : PySem.W.subIn K (.ref C) (.ref S) = some b) : PySem.W.kitOne K (.ref C) (.ref S) = some b := by
  have e2 : ((PySem.W.clsIn K S).isSome && PySem.W.typeIn K (.ref S) == some (.type "type")) = true := by rw [c, t] <;> rfl
  unfold PySem.W.kitOne PySem.W.kitCls
  rw [ne, if_neg Bool.false_ne_true]
  show (if ((PySem.W.clsIn K S).isSome && PySem.W.typeIn K (.ref S) == some (.type "type")) = true then PySem.W.subIn K (.ref C) (.ref S) else none) = some b
  rw [if_pos e2]; exact s
theorem kit_self {K : PySem.W.Frag} {C : Addr} : PySem.W.kitOne K (.ref C) (.ref C) = some true := by
  unfold PySem.W.kitOne; simp
/-- the class x at C of the program's errors, its field fl -/
structure ErrC (P : Program) (K : PySem.W.Frag) (mg : Str → Option Value) (x : Str) (C : Addr) (fl : Str) (ok : Bool) : Prop where
  T : ∃ fI, PySem.OwnX.OwnTxt P K C fI fl ok
  g : mg x = some (.ref C)
  su : mg "super" = none
  kp : PySem.W.keepIn K (.ref C) = true
  exC : PySem.W.subIn K (.ref C) (.type "BaseException") = some true
  tyC : PySem.W.typeIn K (.ref C) = some (.type "type")
  ga : PySem.W.findIn K (.ref C) "__getattribute__" = some (some (.builtin "BaseException.__getattribute__"))
  gg : PySem.W.findIn K (.ref C) "__getattr__" = some none
  hd : PySem.W.hasDictIn K C = true
  ha : PySem.W.findIn K (.ref C) "__class__" = some (some (.builtin "object.__class__"))
  hn : PySem.W.specialIn K (.builtin "object.__class__") "__get__" = some (some (.builtin "getset_descriptor.__get__"))
  ht : PySem.W.takesIn K (.builtin "object.__class__") = some true
  hm : PySem.W.mroIn K C (.type "object") = some true
  nm : (x == ("__debug__" : Str)) = false
  is_ : (PySem.W.clsIn K C).isSome = true
/-- an error of the class at C with the field fl = v flies: its own dict at d -/
def Err (H : Hp) (C : Addr) (fl : Str) (v : V) (cls : Value) (d : Option Addr) : Prop := cls = .ref C ∧ ∃ dd, d = some dd ∧ H dd = some (.xd [(fl, v)])
/-- the promise that such an error leaves -/
def Out (C : Addr) (fl : Str) (v : V) (H : Hp) (E : XK) : Prop := ∀ d : Addr, H d = none → E (.ref C) (some d) (upd H d (.xd [(fl, v)]))
section
variable {X : Cx} {C : Addr} {fl x : Str} {ok : Bool} {ta : TA} {a : Expr} {p pos pos2 : Pos} {k : Nat} {W : WX}
def tRaiseE (C : Addr) (fl : Str) (ok : Bool) (W : WX) (ta : TA) : TS := fun _ σ H => ta σ H fun vs H1 => ∃ v, vs = [v] ∧ okV ok v ∧ Out C fl v H1 fun cls d H' => W cls d σ H'
theorem ps_raiseE (T : ErrC X.prog X.K X.mg x C fl ok) (hc : X.calm = true) (hr : Room (k + 1) X.A) (tk : Takes X W) (ha : PA X [a] ta) (hg : Gl X x := by rfl)
    (he : starEach (a :: []) X.env = (false, eval a X.env) :: starEach [] X.env := by rfl) (hpl : (backTo pos (starEach [] X.env)).any (·.1) = false := by rfl) :
    PS X (.Raise (some (.Call (.Name x p) [a] [] pos)) none pos2) (tRaiseE C fl ok W ta) := by
  obtain ⟨fI, t⟩ := T.T
  exact ps_raise hc tk (pmk_err t T.exC T.tyC T.kp T.g T.su hr ha hg T.nm he hpl)
end
section
variable {X : Cx} {a : Addr} {oe : Obj} {cls : Value} {d : Option Addr} {pn : List (Addr × Obj)}
/-- err.fl in a suite: the class is told by the reading -/
def tFldE (P : Program) (K : PySem.W.Frag) (mg : Str → Option Value) (fl : Str) (a : Addr) (cls : Value) (d : Option Addr) (te : TE) : TE := fun σ H Q => te σ H fun y H1 => y = .ref a ∧ ∃ (x : Str) (C : Addr) (ok : Bool) (v : V), ErrC P K mg x C fl ok ∧ Err H1 C fl v cls d ∧ Q v H1
theorem pe_fldE {e : Expr} {te : TE} {fl : Str} {pos : Pos} (hz : Zc cls d oe) (hf : ∃ vs, oe.data = .fields vs) (he : PE (X.suite a ((a, oe) :: pn)) e te) (hb : attributeBase e fl X.env (eval e X.env) = eval e X.env := by rfl) :
    PE (X.suite a ((a, oe) :: pn)) (.Attribute e fl pos) (tFldE X.prog X.K X.mg fl a cls d te) := by
  refine ⟨fun pins s σ H Q I h => ?_⟩
  refine attr_of hb (thn (he.run pins s σ H _ I h) fun u s1 hh => ?_)
  obtain ⟨y, H1, I1, rx, ey, x, C, ok, v, T, ⟨ec, dd, ed, ea⟩, q⟩ := hh
  obtain ⟨fI, t⟩ := T.T
  subst ey ec ed
  obtain rfl : u = Value.ref a := rx
  obtain ⟨hat, _⟩ := I1.pin (a, oe) (List.mem_append_left _ List.mem_cons_self)
  obtain ⟨vs, hdat⟩ := hf
  obtain ⟨mA, hns, hr⟩ := (show ObjOk X.prog X.w H1 s1.heap dd (.xd [(fl, v)]) from I1.hok dd _ ea)
  obtain ⟨od, ho, hl⟩ := lookIn_ns hns
  have l : List.lookup fl [(fl, v)] = some v := by simp [List.lookup]
  obtain ⟨u, hu, ru⟩ := RelO.some_of (v := v) (o := mA fl) (by rw [← l]; exact hr fl)
  have J : PySem.W.InstAt s1.heap a oe C (some od) := ⟨hat, hz.1, by unfold PySem.W.notCls; rw [hdat] <;> rfl, by rw [hz.2]; exact ho⟩
  exact HandSPX.exc_get I1.kIn J T.ga T.gg T.exC (PySem.W.findObj_own T.hd t.noN rfl (by rw [hl, hu])) (handed_of ru) ⟨v, H1, I1.tok _, ru, q⟩
/-- isinstance(err, c) in a suite -/
def rIsErr (P : Program) (K : PySem.W.Frag) (mg : Str → Option Value) (a : Addr) (cls : Value) (d : Option Addr) : List V → Hp → VK → Prop := fun xs H Q => ∃ (c : V) (cv : Value) (b : Bool) (x : Str) (C : Addr) (fl : Str) (ok : Bool) (v : V), xs = [.ref a, c] ∧ (∀ u, RelV c u → u = cv) ∧
  ErrC P K mg x C fl ok ∧ Err H C fl v cls d ∧ PySem.W.kitOne K (.ref C) cv = some b ∧ Q (.bl b) H
theorem call_isErr (hz : Zc cls d oe) (hf : ∃ vs, oe.data = .fields vs) : CallR (X.suite a ((a, oe) :: pn)) (.builtin "isinstance") (rIsErr X.prog X.K X.mg a cls d) := by
  intro pins s σ H xs us Q I r h
  obtain ⟨c, cv, b, x, C, fl, ok, v, rfl, hcv, T, ⟨ec, dd, ed, ea⟩, e, q⟩ := h
  subst ec ed
  cases r with
  | cons rx rr =>
    cases rr with
    | cons rt rr =>
      cases rr
      cases rx
      obtain rfl := hcv _ rt
      obtain ⟨hat, _⟩ := I.pin (a, oe) (List.mem_append_left _ List.mem_cons_self)
      obtain ⟨vs, hdat⟩ := hf
      obtain ⟨mA, hns, _⟩ := (show ObjOk X.prog X.w H s.heap dd (.xd [(fl, v)]) from I.hok dd _ ea)
      obtain ⟨od, ho, _⟩ := lookIn_ns hns
      have J : PySem.W.InstAt s.heap a oe C (some od) := ⟨hat, hz.1, by unfold PySem.W.notCls; rw [hdat] <;> rfl, by rw [hz.2]; exact ho⟩
      exact PySem.W.kia_one (PySem.W.kitx_exc T.is_ T.ga T.gg T.exC T.ha T.hn T.ht T.hm) I.kIn J e (fun z => nomatch z) fun tk => ⟨.bl b, H, I.kept (t' := tk) fun _ _ z => z, rfl, q⟩
end
/-- a def that may raise, by its name -/
structure Dx (P : Program) (w : World) (K : PySem.W.Frag) (mg : Str → Option Value) (base : Heap) (x : Str) (k : Nat) (ps : List Str) (sp : Sp) (dvs : List V := []) : Prop where
  ex : ∃ (f : Addr) (fd : FuncData) (ds : List Value), FnOk P w K mg base (L2.CX P w) k f fd ps sp ∧ mg x = some (.ref f) ∧ PySem.W.keepIn K (.ref f) = true ∧ Binds K fd ps ds ∧ Vals dvs ds
section
variable {X : Cx} {k : Nat} {ps : List Str} {sp : Sp} {dvs : List V} {x : Str} {p pos : Pos} {e : Expr} {es : List Expr} {t : TA} {W : WX} {E : XK}
theorem passX0 : Passes (L2.CX X.prog X.w) X E0 := fun _ _ _ _ _ _ _ c => by
  obtain ⟨_, _, _, _, _, _, _, _, _, _, _, _, z⟩ := c
  exact z.elim
/-- its call where nothing is raised, or where what is raised is this def's own -/
theorem pe_dx (D : Dx X.prog X.w X.K X.mg X.base x k ps sp dvs) (hr : Room k X.A) (hg : Gl X x) (hx : Passes (L2.CX X.prog X.w) X E) (ha : PA X (e :: es) t)
    (hdb : (x == ("__debug__" : Str)) = false := by decide) (he : starEach (e :: es) X.env = (false, eval e X.env) :: starEach es X.env := by rfl)
    (hpl : (backTo pos (starEach es X.env)).any (·.1) = false := by rfl) : PE X (.Call (.Name x p) (e :: es) [] pos) (tCall sp dvs E t) := by
  obtain ⟨f, fd, ds, G, m, kp, b, v⟩ := D.ex
  exact pe_call G hr hg m kp b v hx ha hdb he hpl
/-- its call in the body of a try -/
theorem pe_dxT (D : Dx X.prog X.w X.K X.mg X.base x k ps sp dvs) (hr : Room k X.A) (hg : Gl X x) (tk : Takes X W) (ha : PA X (e :: es) t)
    (hdb : (x == ("__debug__" : Str)) = false := by decide) (he : starEach (e :: es) X.env = (false, eval e X.env) :: starEach es X.env := by rfl)
    (hpl : (backTo pos (starEach es X.env)).any (·.1) = false := by rfl) : PE X (.Call (.Name x p) (e :: es) [] pos) (tCallSD sp dvs (WE W) t) := by
  obtain ⟨f, fd, ds, G, m, kp, b, v⟩ := D.ex
  exact pe_callSD G hr hg m kp b v (fun σ => passAt tk σ) ha hdb he hpl
end
section
variable {P : Program} {w : World} {K : PySem.W.Frag} {mg : Str → Option Value} {base : Heap} {x qual : Str} {st : Stmt} {ps : List Str} {k : Nat} {sp : Sp} {kws : List (Str × V)} {h : Heap}
theorem AtTop.dx (t : AtTop K x qual st kws) (X : K.In h) (G : h.Ns mainGlobals mg)
    (hb : ∀ (kV doc pm : Value) (an : Option Addr) (cdv ct : Value) (us : List Value), us.length = ps.length → bindArgs (PySem.W.fnOf x qual (defArgs st) (defBody st) (defScope st) .none kV doc pm an cdv ct) ⟨us, []⟩ = pure (ps.zip us))
    (ok : ∀ (f : Addr) (fd : FuncData), Fun K x qual st f fd → FnOk P w K mg base (L2.CX P w) k f fd ps sp) : Dx P w K mg base x k ps sp := by
  obtain ⟨f, fd, a, F, _⟩ := t.ex
  exact ⟨f, fd, [], ok f fd F, PySem.W.mg_of X G a, F.kp, F.binds hb, .nil⟩
end
end Cl

/-! ### own errors found in the written part -/
namespace Cl
open PySem PySem.W PySem.Calls PySem.HandSPX L2 PyProof.Rows
/-- the class x at C, told by its __init__'s statement -/
structure ErrAt (P : Program) (K : PySem.W.Frag) (x : Str) (C : Addr) (fl : Str) (ok : Bool) : Prop where
  T : ∃ fI, PySem.OwnX.OwnTxt P K C fI fl ok
  a : PySem.W.nsIn K mainGlobals x = some (some (.ref C))
  kp : PySem.W.keepIn K (.ref C) = true
  exC : PySem.W.subIn K (.ref C) (.type "BaseException") = some true
  tyC : PySem.W.typeIn K (.ref C) = some (.type "type")
  ga : PySem.W.findIn K (.ref C) "__getattribute__" = some (some (.builtin "BaseException.__getattribute__"))
  gg : PySem.W.findIn K (.ref C) "__getattr__" = some none
  hd : PySem.W.hasDictIn K C = true
  ha : PySem.W.findIn K (.ref C) "__class__" = some (some (.builtin "object.__class__"))
  hn : PySem.W.specialIn K (.builtin "object.__class__") "__get__" = some (some (.builtin "getset_descriptor.__get__"))
  ht : PySem.W.takesIn K (.builtin "object.__class__") = some true
  hm : PySem.W.mroIn K C (.type "object") = some true
  nm : (x == ("__debug__" : Str)) = false
  is_ : (PySem.W.clsIn K C).isSome = true
theorem ErrAt.ec {P : Program} {K : PySem.W.Frag} {x : Str} {C : Addr} {fl : Str} {ok : Bool} {h : Heap} {mg : Str → Option Value} (t : ErrAt P K x C fl ok) (X : K.In h) (G : h.Ns mainGlobals mg) (su : PySem.W.nsIn K mainGlobals "super" = some none) : ErrC P K mg x C fl ok :=
  ⟨t.T, PySem.W.mg_of X G t.a, PySem.W.mg_none_of X G su, t.kp, t.exC, t.tyC, t.ga, t.gg, t.hd, t.ha, t.hn, t.ht, t.hm, t.nm, t.is_⟩
/-- the text of its __init__, as a statement of the program -/
structure OwnSt (st : Stmt) (fl : Str) (ok : Bool) : Prop where
  ex : ∃ (me : Expr) (p1 p2 q1 q2 q3 q4 q5 q6 q7 q8 q9 : Pos), (q3.endLine == q4.line) = true ∧ defArgs st = PySem.OwnX.iA fl p1 p2 ∧ defBody st = PySem.OwnX.iB fl me q1 q2 q3 q4 q5 q6 q7 q8 q9 ∧ defScope st = PySem.OwnX.iS fl ∧ PySem.OwnX.Msg fl me ok
theorem errAt {P : Program} {K : PySem.W.Frag} {x qual : Str} {C fI N cda cc : Addr} {fl file : Str} {ok : Bool} {st : Stmt} {nm q : Str} {bs bm : List Value} {sn : List Str} {sub : List Value} {ab : Bool} {col : Option Bool} {dd : Option Addr} {k0 k1 k2 k3 k5 : Option Value}
    {oc cl ccl doc pm ct : Value} {od an cld cdd : Option Addr} {osl csl ccs : Array (Option Value)} {vs : Array Value} {tf : Tok}
    (so : OwnSt st fl ok) (fo : PySem.OwnX.FlOk fl) (a : PySem.W.nsIn K mainGlobals x = some (some (.ref C)))
    (cls : K.lookup C = some (excClassObj nm q C N bs bm true sn sub ab col dd k0 k1 k2 k3 k5 "ValueError.__new__")) (bm_ : refsVE bm = true)
    (sa : PySem.W.findIn K (.ref C) "__setattr__" = some (some (.builtin "object.__setattr__"))) (noN : PySem.W.findIn K (.ref C) fl = some none)
    (iC : PySem.W.findIn K (.ref C) "__init__" = some (some (.ref fI))) (tC : PySem.W.typeIn K (.ref fI) = some (.type "function"))
    (su : PySem.W.ks_superIn K C C "__init__" = some (some (.builtin PySem.OwnX.ve))) (sv : PySem.W.subIn K (.ref C) (.type "ValueError") = some true)
    (op : PySem.W.nsIn K cStatics "thirdparty.any" = some none) (ds : PySem.W.mroIn K C (.ref C) = some true)
    (l : K.lookup fI = some ⟨oc, od, .func (PySem.W.ksFn "__init__" qual (defArgs st) (defBody st) (defScope st) .none .none doc pm an (.ref cda) ct cc), osl⟩) (c : PySem.W.codeIn K (.ref cda) qual = true)
    (lc : K.lookup cc = some ⟨cl, cld, .cell (some (.ref C)), csl⟩) (lv : K.lookup cda = some ⟨ccl, cdd, .fields vs, ccs⟩) (hv : vs[2]? = some (.str file tf)) (hf : ((P.main.file : Str) == file) = true)
    (hm : (P.main.scope.names.lookup ("super" : Str)).isSome = false) (kp : PySem.W.keepIn K (.ref C) = true) (exC : PySem.W.subIn K (.ref C) (.type "BaseException") = some true) (tyC : PySem.W.typeIn K (.ref C) = some (.type "type"))
    (ga : PySem.W.findIn K (.ref C) "__getattribute__" = some (some (.builtin "BaseException.__getattribute__"))) (gg : PySem.W.findIn K (.ref C) "__getattr__" = some none) (hd : PySem.W.hasDictIn K C = true)
    (ha : PySem.W.findIn K (.ref C) "__class__" = some (some (.builtin "object.__class__"))) (hn : PySem.W.specialIn K (.builtin "object.__class__") "__get__" = some (some (.builtin "getset_descriptor.__get__")))
    (ht : PySem.W.takesIn K (.builtin "object.__class__") = some true) (hmo : PySem.W.mroIn K C (.type "object") = some true) (nd : (x == ("__debug__" : Str)) = false) (is_ : PySem.W.isClsIn K C = true) : ErrAt P K x C fl ok := by
  obtain ⟨me, p1, p2, q1, q2, q3, q4, q5, q6, q7, q8, q9, hl, e1, e2, e3, M⟩ := so.ex
  rw [e1, e2, e3] at l
  exact ⟨⟨fI, ⟨_, _, _, _, _, _, _, _, _, _, _, _, _, _, _, cls, bm_⟩, sa, noN, iC, tC, su, sv, op, ds, fo, ⟨_, _, _, _, _, _, _, _, _, me, _, _, _, _, _, _, _, _, _, _, _, _, _, _, _, _, _, _, _, _, _, l, c, M, lc, lv, hv, hf, hl⟩, hm⟩, a, kp, exC, tyC, ga, gg, hd, ha, hn, ht, hmo, nd, is_⟩
/-- a class that is only named -/
structure ClsN (K : PySem.W.Frag) (mg : Str → Option Value) (x : Str) (C : Addr) : Prop where
  g : mg x = some (.ref C)
structure NamAt (K : PySem.W.Frag) (x : Str) (C : Addr) : Prop where
  a : PySem.W.nsIn K mainGlobals x = some (some (.ref C))
theorem namAt {K : PySem.W.Frag} {x : Str} {C : Addr} (a : PySem.W.nsIn K mainGlobals x = some (some (.ref C))) : NamAt K x C := ⟨a⟩
theorem NamAt.cn {K : PySem.W.Frag} {x : Str} {C : Addr} {h : Heap} {mg : Str → Option Value} (t : NamAt K x C) (X : K.In h) (G : h.Ns mainGlobals mg) : ClsN K mg x C := ⟨PySem.W.mg_of X G t.a⟩
/-- except S: an error of C, told -/
theorem exm_mk {K : PySem.W.Frag} {C S : Addr} {b : Bool} (ex : PySem.W.subIn K (.ref S) (.type "BaseException") = some true) (hd : PySem.W.hasDictIn K S = true) (ty : PySem.W.typeIn K (.ref S) = some (.type "type")) (s : PySem.W.subIn K (.ref C) (.ref S) = some b) : PySem.W.exmOne K (.ref C) (.ref S) = some b :=
  PySem.W.exm_ref ex hd ty s
theorem kit_bin {K : PySem.W.Frag} {C : Addr} {t : String} {b : Bool} (m : PySem.W.kitMeta t = true) (e : PySem.W.subIn K (.ref C) (.type t) = some b) : PySem.W.kitOne K (.ref C) (.type t) = some b := by
  show (if PySem.W.kitMeta t = true then PySem.W.subIn K (.ref C) (.type t) else none) = some b
  rw [if_pos m]; exact e
theorem kit_own {K : PySem.W.Frag} {C S : Addr} {b : Bool} (ne : (Value.ref C == Value.ref S) = false) (c : PySem.W.isClsIn K S = true) (t : PySem.W.typeIn K (.ref S) = some (.type "type")) (s : PySem.W.subIn K (.ref C) (.ref S) = some b) : PySem.W.kitOne K (.ref C) (.ref S) = some b :=
  kit_err ne c t s
end Cl

/-! ### math.comb of two small ints -/
namespace Cl
open PySem PySem.Calls PySem.W
theorem comb_entry : entryFor table "math.comb" = some Builtin.«math.comb» := entryFor_of_tree (by kernel_rfl)
theorem comb_kind : builtinKind "math.comb" = none := by kernel_rfl
theorem comb_plain : plainId "math.comb" = true := by decide +kernel
theorem comb_args (a b : Value) : argsOk "math.comb" ⟨[a, b], []⟩ := by unfold argsOk; kernel_rfl
/-- what math.comb computes -/
def combM (n k : Int) : Int := Builtin.Math.fallingProduct n (min k (n - k)).toNat / Builtin.Math.fallingProduct (min k (n - k)) (min k (n - k)).toNat
theorem comb_run0 (a : Int) (t : Tok) (b : Int) (u : Tok) (h0 : ¬ a < 0) (h1 : ¬ b < 0) (h2 : b > a) :
    Gives (Builtin.«math.comb» ⟨[.int a t, .int b u], []⟩) (.int 0) :=
  .of_wp fun M A E s Q h => by obtain ⟨hp, g, d, tk, os⟩ := s; wp_walk; exact ⟨_, rfl, h⟩
theorem comb_run1 (a : Int) (t : Tok) (b : Int) (u : Tok) (h0 : ¬ a < 0) (h1 : ¬ b < 0) (h2 : ¬ b > a) (h3 : ¬ min b (a - b) > Builtin.Math.maxSsize) (h4 : ¬ min b (a - b) > Builtin.Math.manyFactors) (h5 : ¬ min b (a - b) > 9000) (hsz : (combM a b).natAbs.log2 < bitsLine) :
    Gives (Builtin.«math.comb» ⟨[.int a t, .int b u], []⟩) (.int (combM a b)) :=
  .of_wp fun M A E s Q h => by obtain ⟨hp, g, d, tk, os⟩ := s; wp_walk; (try (refine wpAny_ite_false (decide_eq_false (Nat.not_le.mpr hsz)) ?_; wp_walk)); exact ⟨_, rfl, h⟩
section
variable {prog : Program} {w : World} {A : Around} {E : Value → Shared → Prop} {s : Shared} {Q : Value → Shared → Prop} {a b : Int} {t u : Tok}
theorem comb_call0 (h0 : 0 ≤ a) (h1 : 0 ≤ b) (h2 : a < b) (h : Q (.int 0 s.toks) { s with toks := s.toks + 1 }) : wpAny (model prog w) A (call (.builtin "math.comb") [.int a t, .int b u]) Q E s :=
  call_function_meets comb_kind comb_plain comb_entry (comb_args _ _) (comb_run0 a t b u (by omega) (by omega) h2).meets h
theorem comb_call1 (h0 : 0 ≤ a) (h1 : 0 ≤ b) (h2 : b ≤ a) (h3 : a ≤ 9000) (hsz : (combM a b).natAbs.log2 < bitsLine) (h : Q (.int (combM a b) s.toks) { s with toks := s.toks + 1 }) : wpAny (model prog w) A (call (.builtin "math.comb") [.int a t, .int b u]) Q E s :=
  call_function_meets comb_kind comb_plain comb_entry (comb_args _ _) (comb_run1 a t b u (by omega) (by omega) (by omega) (by unfold Builtin.Math.maxSsize; omega) (by unfold Builtin.Math.manyFactors; omega) (by omega) hsz).meets h
end
section
open L2
variable {X : Cx}
/-- math.comb in HandS's words -/
def rComb : List V → Hp → VK → Prop := fun vs H Q => ∃ a b : Int, vs = [.int a, .int b] ∧ 0 ≤ a ∧ a ≤ 9000 ∧ 0 ≤ b ∧ (a < b → Q (.int 0) H) ∧ (b ≤ a → (combM a b).natAbs.log2 < bitsLine ∧ Q (.int (combM a b)) H)
theorem cr_comb : CallR X (.builtin "math.comb") rComb := by
  intro pins s σ H vs us Q I r h
  obtain ⟨a, b, rfl, h0, h1, h2, q0, q1⟩ := h
  obtain ⟨u, u2, rfl, ⟨t, rfl⟩, ⟨t2, rfl⟩⟩ := vals2 r
  by_cases hb : a < b
  · exact comb_call0 h0 h2 hb ⟨.int _, H, I.tok _, ⟨_, rfl⟩, q0 hb⟩
  · obtain ⟨z, q⟩ := q1 (by omega)
    exact comb_call1 h0 h2 (by omega) h1 z ⟨.int _, H, I.tok _, ⟨_, rfl⟩, q⟩
end
end Cl

/-! ### numbers of choices: Pascal's rule, and what math.comb computes -/
namespace Cl
open PySem
def cho : Nat → Nat → Nat
  | _, 0 => 1
  | 0, _ + 1 => 0
  | n + 1, k + 1 => cho n k + cho n (k + 1)
theorem cho_z (n : Nat) : cho n 0 = 1 := by cases n <;> rfl
theorem cho_big : ∀ {n k : Nat}, n < k → cho n k = 0
  | 0, k + 1, _ => rfl
  | n + 1, k + 1, h => by
    show cho n k + cho n (k + 1) = 0
    rw [cho_big (by omega), cho_big (by omega)]
theorem cho_self : ∀ n : Nat, cho n n = 1
  | 0 => rfl
  | n + 1 => by
    show cho n n + cho n (n + 1) = 1
    rw [cho_self n, cho_big (by omega)]
theorem cho_sym : ∀ a b : Nat, cho (a + b) a = cho (a + b) b
  | 0, b => by rw [cho_z, Nat.zero_add, cho_self]
  | a + 1, 0 => by rw [cho_z, Nat.add_zero, cho_self]
  | a + 1, b + 1 => by
    have e : a + 1 + (b + 1) = (a + 1 + b) + 1 := by omega
    rw [e]
    show cho (a + 1 + b) a + cho (a + 1 + b) (a + 1) = cho (a + 1 + b) b + cho (a + 1 + b) (b + 1)
    have h1 := cho_sym (a + 1) b
    have h2 := cho_sym a (b + 1)
    rw [show a + (b + 1) = a + 1 + b by omega] at h2
    omega
  termination_by a b => a + b
theorem fp_succ (n : Int) (k : Nat) : Builtin.Math.fallingProduct n (k + 1) = Builtin.Math.fallingProduct n k * (n - (k : Int)) := by
  unfold Builtin.Math.fallingProduct
  rw [List.range_succ, List.foldl_append]; rfl
theorem fp_up (n : Int) : ∀ k : Nat, Builtin.Math.fallingProduct (n + 1) (k + 1) = (n + 1) * Builtin.Math.fallingProduct n k
  | 0 => by
    rw [fp_succ]
    show 1 * (n + 1 - ((0 : Nat) : Int)) = (n + 1) * 1
    omega
  | k + 1 => by
    rw [fp_succ, fp_up n k, fp_succ n k, Int.mul_assoc]
    congr 2
    omega
theorem cho_fp : ∀ n k : Nat, (cho n k : Int) * Builtin.Math.fallingProduct (k : Int) k = Builtin.Math.fallingProduct (n : Int) k
  | n, 0 => by rw [cho_z]; rfl
  | 0, k + 1 => by
    rw [show cho 0 (k + 1) = 0 from rfl]
    have : ∀ j : Nat, Builtin.Math.fallingProduct ((0 : Nat) : Int) (j + 1) = 0 := fun j => by
      induction j with
      | zero => rfl
      | succ j ih => rw [fp_succ, ih, Int.zero_mul]
    rw [this]; simp
  | n + 1, k + 1 => by
    have h1 := cho_fp n k
    have h2 := cho_fp n (k + 1)
    have e : (cho (n + 1) (k + 1) : Int) = (cho n k : Int) + (cho n (k + 1) : Int) := rfl
    have f1 : Builtin.Math.fallingProduct (((k + 1 : Nat)) : Int) (k + 1) = ((k : Int) + 1) * Builtin.Math.fallingProduct (k : Int) k := fp_up (k : Int) k
    have f2 : Builtin.Math.fallingProduct (((n + 1 : Nat)) : Int) (k + 1) = ((n : Int) + 1) * Builtin.Math.fallingProduct (n : Int) k := fp_up (n : Int) k
    rw [e, Int.add_mul, h2, f1, f2, fp_succ, ← h1]
    generalize Builtin.Math.fallingProduct (k : Int) k = F
    generalize (cho n k : Int) = c
    rw [← Int.mul_assoc, Int.mul_comm c, Int.mul_assoc, Int.mul_comm (c * F), ← Int.add_mul]
    congr 1
    omega
theorem fp_pos : ∀ k : Nat, 0 < Builtin.Math.fallingProduct (k : Int) k
  | 0 => by decide
  | k + 1 => by
    have f1 : Builtin.Math.fallingProduct (((k + 1 : Nat)) : Int) (k + 1) = ((k : Int) + 1) * Builtin.Math.fallingProduct (k : Int) k := fp_up (k : Int) k
    rw [f1]
    exact Int.mul_pos (by omega) (fp_pos k)
/-- math.comb is the number of choices -/
theorem combM_is {n k : Nat} (h : k ≤ n) : combM (n : Int) (k : Int) = (cho n k : Int) := by
  have key : ∀ m : Nat, Builtin.Math.fallingProduct (n : Int) m / Builtin.Math.fallingProduct (m : Int) m = (cho n m : Int) := fun m => by
    rw [← cho_fp n m]
    exact Int.mul_ediv_cancel _ (Int.ne_of_gt (fp_pos m))
  unfold combM
  rcases Nat.le_total k (n - k) with q | q
  · have e : min (k : Int) ((n : Int) - (k : Int)) = (k : Nat) := by omega
    rw [e, Int.toNat_natCast, key]
  · have e : min (k : Int) ((n : Int) - (k : Int)) = ((n - k : Nat) : Int) := by omega
    rw [e, Int.toNat_natCast, key]
    have := cho_sym k (n - k)
    rw [show k + (n - k) = n by omega] at this
    rw [this]
open L2
theorem cho_mono1 (n k : Nat) : cho n k ≤ cho (n + 1) k := by
  cases k with
  | zero => rw [cho_z, cho_z]; exact Nat.le_refl _
  | succ k => show _ ≤ cho n k + cho n (k + 1); omega
theorem cho_two : ∀ n k : Nat, cho n k ≤ 2 ^ n
  | n, 0 => by rw [cho_z]; exact Nat.one_le_two_pow
  | 0, k + 1 => by show 0 ≤ _; exact Nat.zero_le _
  | n + 1, k + 1 => by
    show cho n k + cho n (k + 1) ≤ _
    rw [Nat.pow_succ]
    have := cho_two n k
    have := cho_two n (k + 1)
    omega
theorem log_lt {n : Nat} (h : n < 2 ^ 1000) : n.log2 < bitsLine := by
  have b : 1000 ≤ bitsLine := by decide
  by_cases z : n = 0
  · subst z; exact Nat.lt_of_lt_of_le (by decide) b
  · exact Nat.lt_of_lt_of_le ((Nat.log2_lt z).mpr h) b
theorem cho_log {n k : Nat} (h : n ≤ 100) : ((cho n k : Nat) : Int).natAbs.log2 < bitsLine := by
  rw [Int.natAbs_natCast]
  refine log_lt (Nat.lt_of_le_of_lt (cho_two n k) ?_)
  exact Nat.pow_lt_pow_right (by decide) (by omega)
/-- math.comb, told -/
theorem comb_q {a b : Int} {H : Hp} {Q : VK} (h0 : 0 ≤ a) (h1 : a ≤ 100) (h2 : 0 ≤ b) (q : Q (.int (cho a.toNat b.toNat : Nat)) H) : rComb [.int a, .int b] H Q := by
  refine ⟨a, b, rfl, h0, by omega, h2, fun h => ?_, fun h => ?_⟩
  · rw [cho_big (by omega)] at q; exact q
  · have e : combM a b = (cho a.toNat b.toNat : Nat) := by
      have := combM_is (n := a.toNat) (k := b.toNat) (by omega)
      rw [Int.toNat_of_nonneg h0, Int.toNat_of_nonneg h2] at this
      exact this
    rw [e]
    exact ⟨cho_log (by omega), q⟩
def rCho : List V → Hp → VK → Prop := fun vs H Q => ∃ a b : Int, vs = [.int a, .int b] ∧ 0 ≤ a ∧ a ≤ 100 ∧ 0 ≤ b ∧ Q (.int (cho a.toNat b.toNat : Nat)) H
theorem cr_cho {X : Cx} : CallR X (.builtin "math.comb") rCho := by
  intro pins s σ H vs us Q I r h
  obtain ⟨a, b, rfl, h0, h1, h2, q⟩ := h
  exact cr_comb pins s σ H _ us Q I r (comb_q h0 h1 h2 q)
end Cl

/-! ### a def's body with a token out: storing its first parameter has given one; str.replace in tests -/
namespace Cl
open PySem PySem.Spec PyProof.Rows L2 CwR
section
variable {M : Model} {A : Around} {E : Value → Shared → Prop} {s₀ s : Shared} {m cm : Str → Option Value} {env : Env}
theorem stLCt {n : Str} {v : Value} {Q : Unit → Shared → Prop} (x : InCallC s₀ env.locals m env.cells cm s) (hk : env.scope.kind = .function) (hl : env.kindOf n = some .local)
    (h : ∀ s', 1 ≤ s'.toks → InCallC s₀ env.locals (fun y => if y = n then some v else m y) env.cells cm s' → Q () s') : wpAny M A (storeName env n v) Q E s := by
  refine wpAny_storeName_local hl x.toInCall.ns (fun h' hn' hs' => h _ (Nat.le_add_left 1 _) ⟨⟨?_, hn', fun b o e => ?_, x.toInCall.fresh⟩, fun k c hc => ?_, x.apart, x.above⟩) (by rw [hk]; rfl)
  · obtain ⟨h₁, tk, rfl⟩ := x.toInCall.same
    exact ⟨h', _, rfl⟩
  · exact hs'.extBut b o (Nat.ne_of_lt (Nat.lt_of_lt_of_le (Heap.lt_size e) x.toInCall.fresh)) (x.toInCall.keep b o e)
  · exact (x.cell k c hc).sameBut hs' (Nat.ne_of_gt (x.above k c (mem_of_lookup hc)))
theorem bindParamsT (f : Str × Value → PUnit → Sem (ForInStep PUnit)) (hf : ∀ n v u, f (n, v) u = (do storeName env n v; pure (.yield ⟨⟩))) (hk : env.scope.kind = .function)
    {n : Str} {v : Value} {r : List (Str × Value)} (Q : PUnit → Shared → Prop) (x : InCallC s₀ env.locals m env.cells cm s) (hl : env.kindOf n = some .local)
    (hr : ∀ y ∈ r, env.kindOf y.1 = some .local ∨ (env.kindOf y.1 = some .cell ∧ (env.cells.lookup y.1).isSome = true))
    (h : ∀ s', 1 ≤ s'.toks → InCallC s₀ env.locals (bindL env.kindOf ((n, v) :: r) m) env.cells (bindC env.kindOf ((n, v) :: r) cm) s' → Q ⟨⟩ s') : wpAny M A (forIn ((n, v) :: r) ⟨⟩ f) Q E s := by
  rw [List.forIn_cons, hf]
  refine wpAny_bind (wpAny_bind (stLCt x hk hl fun s' k' x' => wpAny_pure (wpAny_with_toks k' (wpAny_bindParams f hf hk r _ _ s' _ x' hr fun s'' x'' k'' => h s'' k'' ?_))))
  unfold bindL bindC; rw [if_pos hl, if_pos hl]; exact x''
theorem newEnvT {scope : Scope} {globals : Addr} {n : Str} {v : Value} {r : List (Str × Value)} {qual : Str} {func : Option Addr} {code : Value} {builtins : Addr} {Q : Env → Shared → Prop}
    (hk : scope.kind = .function) (hl : scope.names.lookup n = some .local)
    (hr : ∀ x ∈ r, scope.names.lookup x.1 = some .local ∨ (scope.names.lookup x.1 = some .cell ∧ ((cellsFrom (s.heap.objs.size + 1) scope.names []).lookup x.1).isSome = true))
    (hQ : ∀ env, env = newEnv scope s.heap.objs.size globals (cellsFrom (s.heap.objs.size + 1) scope.names []) qual func code none builtins →
      ∀ s', 1 ≤ s'.toks → InCallC s env.locals (bindL env.kindOf ((n, v) :: r) fun _ => none) env.cells (bindC env.kindOf ((n, v) :: r) fun _ => none) s' → Q env s') :
    wpAny M A (newFunctionEnv scope globals [] ((n, v) :: r) qual func code none builtins) Q E s := by
  simp only [newFunctionEnv, Option.isSome_none, Bool.false_eq_true, if_false]
  refine wpAny_bind (wpAny_alloc ?_)
  refine wpAny_bind (wpAny_layCells _ (fun name kind cells => by cases hkc : kind == NameKind.cell <;> simp [hkc]) _ _ _ _ ?_)
  have ok := cellsFrom_ok scope.names (s.heap.push { cls := .type "frame", data := .dict #[] }) (s.heap.objs.size + 1) [] ⟨fun _ _ hm => (nomatch hm), List.Pairwise.nil⟩ (by rw [Heap.size_push]; exact Nat.le_refl _)
  rw [Heap.size_push] at ok
  rw [show ({ s with heap := s.heap.push { cls := .type "frame", data := .dict #[] } } : Shared).heap.objs.size = s.heap.objs.size + 1 from Heap.size_push ..]
  refine wpAny_bind (bindParamsT (s₀ := s) (env := newEnv scope s.heap.objs.size globals (cellsFrom (s.heap.objs.size + 1) scope.names []) qual func code none builtins) (m := fun _ => none) (cm := fun _ => none)
    _ (fun _ _ _ => rfl) hk _
    ⟨⟨⟨_, _, rfl⟩, (Heap.Ns.new s.heap (.type "frame")).keeps (pushCells_keeps _ _), fun b o e => pushCells_keeps _ _ b o (Heap.get?_push_of_some _ e), Nat.le_refl _⟩,
      fun n c hc => (ok.empty n c (mem_of_lookup hc)).1, ok.apart, fun n c hm => (ok.empty n c hm).2⟩
    hl hr fun s' k x => wpAny_pure (hQ _ rfl s' k x))
end
theorem noxT {X : Cx} {st : List Stmt} {t : TS} (h : PSsT X.nox st t) : PSsT X st t := fun pins s σ H D h0 I hw =>
  wpAny_mono (h pins s σ H D h0 (I.wish _) hw) (fun _ _ q => q.unwish) fun _ _ z => False.elim z
section
variable {P : Program} {w : World} {K : PySem.W.Frag} {mg : Str → Option Value} {base : Heap}
theorem fn_ofT {CX : CXT} {k : Nat} {f : Addr} {name qual : Str} {params : Arguments} {body : List Stmt} {scope : Scope} {dV kV doc pm cdv ct oc : Value} {an od : Option Addr}
    {osl : Array (Option Value)} {N ps : List Str} {p0 : Str} {pr : List Str} {sp : Sp} (lk : K.lookup f = some ⟨oc, od, .func (PySem.W.fnOf name qual params body scope dV kV doc pm an cdv ct), osl⟩) (hcd : PySem.W.codeIn K cdv qual = true) (S : FnScope N ps scope)
    (hp : ps = p0 :: pr) (h0 : scope.names.lookup p0 = some .local) (len : ∀ vs H Q E, sp vs H Q E → vs.length = ps.length)
    (hbody : ∀ (A : Around) (outer : List Env) (s : Shared) (H : Hp) (vs : List V) (Q : VK) (E : XK), Room k (A.deeper (envOfC qual scope s.heap.objs.size f cdv)) → sp vs H Q E →
      ∃ t, PSsT (cxOf CX P w K mg base N qual scope f cdv A outer s H E) body t ∧ t { nx := fun _ H' => Q .non H', rt := Q } (start N vs) H) :
    FnOk P w K mg base CX (k + 1) f (PySem.W.fnOf name qual params body scope dV kV doc pm an cdv ct) ps sp := by
  refine ⟨len, fun A outer s H args us vs Q E hr e0 hb r hsp => ?_⟩
  have hl := len _ _ _ _ hsp
  have KX : K.In s.heap := e0.mod.kin.keeps fun b o e => (e0.bs b o e).1
  have lim : s.heap.NoLimit := e0.mod.nolimit.keeps fun b o e => (e0.bs b o e).1
  have hkind : ∀ y ∈ ps.zip us, scope.names.lookup y.1 = some .local ∨ (scope.names.lookup y.1 = some .cell ∧ ((cellsFrom (s.heap.objs.size + 1) scope.names []).lookup y.1).isSome = true) := fun ⟨n, v⟩ hy => by
    rcases S.par n (List.of_mem_zip hy).1 with q | q
    · exact .inl q
    · exact .inr ⟨q, PySem.W.cellsFrom_some _ _ _ (.inl q)⟩
  refine codeAny_call_function hr.depth (KX _ _ lk) rfl S.co S.gen rfl (PySem.W.codeRec_of KX hcd) (hb _ _ _ _ ?_)
  obtain ⟨u0, ur, eu⟩ : ∃ u0 ur, us = u0 :: ur := by
    cases us with
    | cons a b => exact ⟨a, b, rfl⟩
    | nil => rw [r.length, hp] at hl; simp at hl
  have ez : ps.zip us = (p0, u0) :: pr.zip ur := by rw [hp, eu]; rfl
  rw [ez] at hkind ⊢
  refine newEnvT S.kind h0 (fun y hy => hkind y (List.mem_cons_of_mem _ hy)) fun env he s1 k1 x => ?_
  rw [← ez] at x
  subst he
  refine ⟨lim.keeps x.toInCall.keep, codeAny_func ?_⟩
  obtain ⟨t, ht, hq⟩ := hbody A outer s H vs Q E (hr.deeper _) hsp
  have I : Inv (cxOf CX P w K mg base N qual scope f cdv A outer s H E) [] (start N vs) H s1 := inv_start S hr.hd e0 hl r x
  refine wpAny_mono (ht [] s1 (start N vs) H _ k1 I hq) (fun fl s' hs => ?_) fun e s' hs => hs
  have fin : ∀ {σ' : L2.St} {H' : Hp} {v : V} {u : Value}, Inv (cxOf CX P w K mg base N qual scope f cdv A outer s H E) [] σ' H' s' → RelV v u → Q v H' → CE outer P w H s Q u s' :=
    fun {σ' H' v u} J rv q => ⟨v, H', J.os, J.bare, J.base, J.hok, rv, q⟩
  cases fl with
  | ret u =>
    obtain ⟨v, σ', H', J, rv, q⟩ := hs
    exact fin J rv q
  | next =>
    obtain ⟨σ', H', J, q⟩ := hs
    exact fin (v := V.non) (u := Value.none) J rfl q
  | brk =>
    obtain ⟨_, _, _, q⟩ := hs
    exact False.elim q
  | cont =>
    obtain ⟨_, _, _, q⟩ := hs
    exact False.elim q
/-- the rule for a def whose body may lean on the token -/
theorem okT {x qual : Str} {st : Stmt} {f : Addr} {fd : FuncData} {N ps : List Str} {p0 : Str} {pr : List Str} {k : Nat} {sp : Sp} (F : Fun K x qual st f fd) (S : FnScope N ps (defScope st)) (hp : ps = p0 :: pr) (h0 : (defScope st).names.lookup p0 = some .local)
    (len : ∀ vs H Q E, sp vs H Q E → vs.length = ps.length)
    (hbody : ∀ (cdv : Value) (A : Around) (outer : List Env) (s : Shared) (H : Hp) (vs : List V) (Q : VK) (E : XK), Room k (A.deeper (envOfC qual (defScope st) s.heap.objs.size f cdv)) → sp vs H Q E →
      ∃ t, PSsT (cxOf CX0 P w K mg base N qual (defScope st) f cdv A outer s H E).nox (defBody st) t ∧ t { nx := fun _ H' => Q .non H', rt := Q } (start N vs) H) : FnOk P w K mg base CX0 (k + 1) f fd ps sp := by
  obtain ⟨oc, od, kV, doc, pm, an, cdv, ct, osl, rfl, lk, hcd⟩ := F.ex
  refine fn_ofT lk hcd S hp h0 len fun A outer s H vs Q E hr hsp => ?_
  obtain ⟨t, h, q⟩ := hbody cdv A outer s H vs Q E hr hsp
  exact ⟨t, noxT h, q⟩
end
/-! tests with a token out -/
def PTT (X : Cx) (e : Expr) (t : TT) : Prop :=
  ∀ (pins : List (Addr × Obj)) (s : Shared) (σ : L2.St) (H : Hp) (Q : Bool → Hp → Prop), 1 ≤ s.toks → Inv X pins σ H s → t σ H Q → wpAny (model X.prog X.w) X.A (isTrue e X.env (eval e X.env)) (TP X pins σ Q) X.xe s
def PWT (X : Cx) (e : Expr) (t : TT) : Prop :=
  ∀ (whole : Sem Value) (pins : List (Addr × Obj)) (s : Shared) (σ : L2.St) (H : Hp) (Q : Bool → Hp → Prop), 1 ≤ s.toks → Inv X pins σ H s → t σ H Q → wpAny (model X.prog X.w) X.A (isTrue e X.env whole) (TP X pins σ Q) X.xe s
section
variable {X : Cx} {a b e : Expr} {rest : List Expr} {tA tB' : TT} {ta tb te : TE} {pos : Pos} {st bd : List Stmt} {t u : TS}
theorem ptt_of (h : PT X e tA) : PTT X e tA := fun pins s σ H Q _ I q => h.run pins s σ H Q I q
theorem PWT.ptt (h : PWT X e tA) : PTT X e tA := h _
theorem pwt_or1 (ha : PTT X a tA) : PWT X (.BoolOp .Or [a] pos) tA := by
  intro wh pins s σ H Q h0 I h
  refine isTrue_or (thn (ha pins s σ H Q h0 I h) fun c s1 e => ?_)
  cases c with
  | false => exact isTrue_or_nil e
  | true => exact e
theorem pwt_and1 (ha : PTT X a tA) : PWT X (.BoolOp .And [a] pos) tA := by
  intro wh pins s σ H Q h0 I h
  refine isTrue_and (thn (ha pins s σ H Q h0 I h) fun c s1 e => ?_)
  cases c with
  | true => exact isTrue_and_nil e
  | false => exact e
theorem pwt_or (ha : PTT X a tA) (hb : PWT X (.BoolOp .Or (b :: rest) pos) tB') : PWT X (.BoolOp .Or (a :: b :: rest) pos) (tOr tA tB') := by
  intro wh pins s σ H Q h0 I h
  refine isTrue_or (wpAny_mono (PySem.wpAny_toks (ha pins s σ H _ h0 I h)) (fun c s1 q => ?_) fun _ _ z => z.2)
  obtain ⟨hk, H1, I1, q1⟩ := q
  cases c with
  | true => exact ⟨H1, I1, q1⟩
  | false => exact hb wh pins s1 σ H1 Q (Nat.le_trans h0 hk) I1 q1
theorem pwt_and (ha : PTT X a tA) (hb : PWT X (.BoolOp .And (b :: rest) pos) tB') : PWT X (.BoolOp .And (a :: b :: rest) pos) (tAnd tA tB') := by
  intro wh pins s σ H Q h0 I h
  refine isTrue_and (wpAny_mono (PySem.wpAny_toks (ha pins s σ H _ h0 I h)) (fun c s1 q => ?_) fun _ _ z => z.2)
  obtain ⟨hk, H1, I1, q1⟩ := q
  cases c with
  | true => exact hb wh pins s1 σ H1 Q (Nat.le_trans h0 hk) I1 q1
  | false => exact ⟨H1, I1, q1⟩
theorem ptt_cmp {op : CmpOp} {r : R2} (ho : OpR X (compareOp op) r) (ha : PET X a ta) (hb : PE X b tb) (hm : behindInMarks op b = false) : PTT X (.Compare a [op] [b] pos) (tTest (tOp r ta tb)) := by
  intro pins s σ H Q h0 I h
  refine wpAny_isTrue_Compare1 (thn (ha pins s σ H _ h0 I h) fun v s1 ⟨x, H1, I1, r1, q1⟩ => thn (hb.run pins s1 σ H1 _ I1 q1) fun u s2 ⟨y, H2, I2, r2, q2⟩ =>
    thn (ho pins s2 σ H2 x y v u _ I2 r1 r2 q2) fun c s3 ⟨z, H3, I3, r3, k, e, q3⟩ => ?_) hm
  subst e
  cases r3
  exact wpAny_truthy_bool ⟨H3, I3, q3⟩
theorem pstT_if {c : Expr} {tc : TT} (hc : PTT X c tc) (ha : PSsT X st t) (hb : PSsT X bd u) : PST X (.If c st bd pos) (tIfS tc t u) := by
  intro pins s σ H D h0 I h
  refine wpAny_If (wpAny_mono (PySem.wpAny_toks (hc pins s σ H _ h0 I h)) (fun d s1 q => ?_) fun _ _ z => z.2)
  obtain ⟨hk, H1, I1, q1⟩ := q
  cases d with
  | true => exact ha pins s1 σ H1 D (Nat.le_trans h0 hk) I1 q1
  | false => exact hb pins s1 σ H1 D (Nat.le_trans h0 hk) I1 q1
end
/-! what replace leaves of a text of 0 and 1 -/
theorem tx_repl (b : Bool) (l : List Bool) : Txt.replace (tx l) (tx [b]) (tx []) = tx (l.filter (· != b)) := by
  apply str_ext
  rw [StrLaws.replace_list (by rw [tx_len]; exact Nat.le_refl _), tx_lst, tx_lst, tx_lst, tx_lst]
  show StrLaws.replL [bt b] [] (l.map bt) = _
  induction l with
  | nil => exact StrLaws.replL_nil
  | cons c r ih =>
    rw [List.map_cons]
    by_cases h : c = b
    · subst h
      rw [StrLaws.replL_hit (by simp) rfl, List.nil_append]
      show StrLaws.replL [bt c] [] (r.map bt) = _
      rw [ih, List.filter_cons]
      simp
    · rw [StrLaws.replL_miss (fun e => h (bt_inj (by injection e))), ih, List.filter_cons]
      have : (c != b) = true := by simpa using h
      rw [if_pos this, List.map_cons]
theorem repl01 (l : List Bool) : Txt.replace (Txt.replace (tx l) (Str.ofString "0") (Str.ofString "")) (Str.ofString "1") (Str.ofString "") = tx [] := by
  rw [t0, t1, te, tx_repl, tx_repl]
  congr 1
  rw [List.filter_filter]
  refine List.filter_eq_nil_iff.mpr fun a _ => ?_
  cases a <;> decide
theorem repl0_len (l : List Bool) : (Txt.replace (tx l) (Str.ofString "0") (Str.ofString "")).length ≤ l.length := by
  rw [t0, te, tx_repl, tx_len]
  exact List.length_filter_le _ _
end Cl

/-! ### words by their ranks: mathematics alone -/
namespace Cl
open PySem
/-- the rank of a row of marks, whatever its length -/
def rkl : List Bool → Nat
  | [] => 0
  | false :: r => rkl r
  | true :: r => cho r.length (r.count true + 1) + rkl r
theorem cho_s (n k : Nat) : cho (n + 1) (k + 1) = cho n k + cho n (k + 1) := rfl
theorem cho_mono {n m : Nat} (k : Nat) (h : n ≤ m) : cho n k ≤ cho m k := by
  induction h with
  | refl => exact Nat.le_refl _
  | step _ ih => exact Nat.le_trans ih (cho_mono1 _ _)
theorem cho_pos {n k : Nat} (h : k ≤ n) : 1 ≤ cho n k := by
  have := cho_mono k h
  rw [cho_self] at this
  exact this
theorem rkl_false (r : List Bool) : rkl (false :: r) = rkl r := rfl
theorem rkl_true (r : List Bool) : rkl (true :: r) = cho r.length (r.count true + 1) + rkl r := rfl
theorem rkl_lt : ∀ l : List Bool, rkl l < cho l.length (l.count true)
  | [] => by decide
  | false :: r => by
    rw [rkl_false, List.length_cons, List.count_cons]
    exact Nat.lt_of_lt_of_le (rkl_lt r) (cho_mono1 _ _)
  | true :: r => by
    rw [rkl_true, List.length_cons, List.count_cons_self, cho_s]
    have := rkl_lt r
    omega
theorem rkl_inj : ∀ {a b : List Bool}, a.length = b.length → a.count true = b.count true → rkl a = rkl b → a = b
  | [], [], _, _, _ => rfl
  | [], _ :: _, h, _, _ => by simp at h
  | _ :: _, [], h, _, _ => by simp at h
  | false :: a, false :: b, hl, hc, hr => by
    rw [rkl_inj (a := a) (b := b) (by simpa using hl) (by simpa using hc) hr]
  | true :: a, true :: b, hl, hc, hr => by
    have hl : a.length = b.length := by simpa using hl
    have hc : a.count true = b.count true := by simpa using hc
    rw [rkl_true, rkl_true, hl, hc] at hr
    rw [rkl_inj hl hc (by omega)]
  | true :: a, false :: b, hl, hc, hr => by
    exfalso
    have hl : a.length = b.length := by simpa using hl
    have hc : a.count true + 1 = b.count true := by simpa using hc
    rw [rkl_true, rkl_false, hl, hc] at hr
    have := rkl_lt b
    omega
  | false :: a, true :: b, hl, hc, hr => by
    exfalso
    have hl : a.length = b.length := by simpa using hl
    have hc : a.count true = b.count true + 1 := by simpa using hc
    rw [rkl_true, rkl_false, ← hl, ← hc] at hr
    have := rkl_lt a
    omega
theorem rkl_pad (n : Nat) (l : List Bool) : rkl (List.replicate n false ++ l) = rkl l := by
  induction n with
  | zero => rfl
  | succ n ih => rw [List.replicate_succ]; exact ih
theorem count_pad (n : Nat) (l : List Bool) : (List.replicate n false ++ l).count true = l.count true := by
  rw [List.count_append, List.count_replicate]; simp
theorem nrm_pad (l : List Bool) : ∃ n, l = List.replicate n false ++ nrm l := by
  induction l with
  | nil => exact ⟨0, rfl⟩
  | cons b r ih =>
    cases b with
    | true => exact ⟨0, rfl⟩
    | false =>
      obtain ⟨n, h⟩ := ih
      exact ⟨n + 1, by rw [List.replicate_succ]; show false :: r = false :: (_ ++ nrm r); rw [← h]⟩
theorem rkl_nrm (l : List Bool) : rkl (nrm l) = rkl l := by
  obtain ⟨n, h⟩ := nrm_pad l
  conv => rhs; rw [h]
  rw [rkl_pad]
theorem count_nrm (l : List Bool) : (nrm l).count true = l.count true := by
  obtain ⟨n, h⟩ := nrm_pad l
  conv => rhs; rw [h]
  rw [count_pad]
/-- a word is told by its ones and its rank -/
theorem wd_rank {a b : List Bool} (ha : Wd a) (hb : Wd b) (hc : a.count true = b.count true) (hr : rkl a = rkl b) : a = b := by
  have e : List.replicate b.length false ++ a = List.replicate a.length false ++ b ∨ True := .inr trivial
  have key : List.replicate (max a.length b.length - a.length) false ++ a = List.replicate (max a.length b.length - b.length) false ++ b := by
    refine rkl_inj ?_ ?_ ?_
    · rw [List.length_append, List.length_append, List.length_replicate, List.length_replicate]; omega
    · rw [count_pad, count_pad, hc]
    · rw [rkl_pad, rkl_pad, hr]
  have := congrArg nrm key
  rw [nrm_zeros, nrm_zeros, nrm_wd ha, nrm_wd hb] at this
  exact this
/-- the rank by the depths -/
def rkD : List Int → Nat
  | [] => 0
  | d :: r => cho (d - 1).toNat (r.length + 1) + rkD r
theorem rkD_dps (l : List Bool) : rkD (dps l) = rkl l := by
  induction l with
  | nil => rfl
  | cons b r ih =>
    rw [dps_cons]
    cases b with
    | false => exact ih
    | true =>
      rw [if_pos rfl]
      show cho ((r.length : Int) + 1 - 1).toNat ((dps r).length + 1) + rkD (dps r) = _
      rw [ih, dps_len, rkl_true, show ((r.length : Int) + 1 - 1).toNat = r.length by omega]
/-- the following row of marks -/
def nx (p : List Bool) (m z : Nat) : List Bool := p ++ (true :: false :: (List.replicate z false ++ List.replicate m true))
def th (p : List Bool) (m z : Nat) : List Bool := p ++ (false :: true :: (List.replicate m true ++ List.replicate z false))
theorem rkl_head {u v : List Bool} (hl : u.length = v.length) (hc : u.count true = v.count true) : ∀ p : List Bool, rkl (p ++ u) + rkl v = rkl (p ++ v) + rkl u
  | [] => by rw [List.nil_append, List.nil_append, Nat.add_comm]
  | false :: p => rkl_head hl hc p
  | true :: p => by
    have ih := rkl_head hl hc p
    rw [List.cons_append, List.cons_append, rkl_true, rkl_true, List.length_append, List.length_append, List.count_append, List.count_append, hl, hc]
    omega
theorem rkl_zeros (n : Nat) : rkl (List.replicate n false) = 0 := by
  have := rkl_pad n []
  rw [List.append_nil] at this
  exact this
theorem rkl_ones (n : Nat) : rkl (List.replicate n true) = 0 := by
  induction n with
  | zero => rfl
  | succ n ih =>
    rw [List.replicate_succ, rkl_true, ih, List.length_replicate, List.count_replicate, cho_big (by simp)]
theorem rkl_tail (z : Nat) : ∀ m : Nat, rkl (List.replicate m true ++ List.replicate z false) + 1 = cho (z + m) m
  | 0 => by
    show rkl ([] ++ _) + 1 = _
    rw [List.nil_append, rkl_zeros, cho_z]
  | m + 1 => by
    have ih := rkl_tail z m
    rw [List.replicate_succ, List.cons_append, rkl_true, List.length_append, List.length_replicate, List.length_replicate, List.count_append, List.count_replicate, List.count_replicate,
      show z + (m + 1) = (z + m) + 1 by omega, cho_s]
    simp
    rw [Nat.add_comm m z]
    omega
theorem nx_len (p : List Bool) (m z : Nat) : (nx p m z).length = (th p m z).length := by
  unfold nx th
  simp
  omega
theorem nx_count (p : List Bool) (m z : Nat) : (nx p m z).count true = (th p m z).count true := by
  unfold nx th
  simp [List.count_append, List.count_replicate, List.count_cons]
theorem nx_rank (p : List Bool) (m z : Nat) : rkl (nx p m z) = rkl (th p m z) + 1 := by
  unfold nx th
  have h := rkl_head (u := true :: false :: (List.replicate z false ++ List.replicate m true)) (v := false :: true :: (List.replicate m true ++ List.replicate z false)) (by simp; omega) (by simp [List.count_append, List.count_replicate, List.count_cons]) p
  have h1 : rkl (true :: false :: (List.replicate z false ++ List.replicate m true)) = cho (z + m + 1) (m + 1) := by
    rw [rkl_true, rkl_false, rkl_pad, rkl_ones, List.length_cons, List.length_append, List.length_replicate, List.length_replicate, List.count_cons, List.count_append, List.count_replicate, List.count_replicate]
    simp
  have h2 : rkl (false :: true :: (List.replicate m true ++ List.replicate z false)) + 1 = cho (z + m + 1) (m + 1) := by
    have := rkl_tail z (m + 1)
    rw [rkl_false]
    exact this
  omega
/-- every row with a zero ahead of a one has such a shape -/
theorem th_of : ∀ r : List Bool, (∃ m z, r = List.replicate m true ++ List.replicate z false) ∨ ∃ p m z, r = th p m z
  | [] => .inl ⟨0, 0, rfl⟩
  | true :: r => by
    rcases th_of r with ⟨m, z, h⟩ | ⟨p, m, z, h⟩
    · exact .inl ⟨m + 1, z, by rw [h, List.replicate_succ]; rfl⟩
    · exact .inr ⟨true :: p, m, z, by rw [h]; rfl⟩
  | false :: r => by
    rcases th_of r with ⟨m, z, h⟩ | ⟨p, m, z, h⟩
    · cases m with
      | zero => exact .inl ⟨0, z + 1, by rw [h]; rfl⟩
      | succ m => exact .inr ⟨[], m, z, by rw [h, List.replicate_succ]; rfl⟩
    · exact .inr ⟨false :: p, m, z, by rw [h]; rfl⟩
theorem th_word {l : List Bool} (h : Wd l) (hn : l ≠ []) : ∃ p m z, false :: l = th p m z := by
  obtain ⟨r, rfl⟩ := h.resolve_left hn
  rcases th_of (false :: true :: r) with ⟨m, z, e⟩ | e
  · exfalso
    cases m with
    | succ m => rw [List.replicate_succ] at e; cases e
    | zero =>
      cases z with
      | zero => cases e
      | succ z =>
        cases z with
        | zero => cases e
        | succ z => rw [List.replicate_zero, List.nil_append, List.replicate_succ, List.replicate_succ] at e; cases e
  · exact e
theorem th_nrm {l p : List Bool} {m z : Nat} (h : Wd l) (e : false :: l = th p m z) : Wd (nrm (nx p m z)) ∧ (nrm (nx p m z)).count true = l.count true ∧ rkl (nrm (nx p m z)) = rkl l + 1 := by
  refine ⟨nrm_is _, ?_, ?_⟩
  · rw [count_nrm, nx_count, ← e, List.count_cons]; simp
  · rw [rkl_nrm, nx_rank, ← e, rkl_false]
/-! the greedy search -/
/-- depths found so far, the deepest first: below each the next -/
def Fnd (F : List Int) (d : Int) : Prop := F.Pairwise (· > ·) ∧ ∀ x ∈ F, d < x
theorem rkD_app : ∀ (F G : List Int), rkD (F ++ G) = rkD G + (rkD (F ++ G) - rkD G)
  | F, G => by
    have h : rkD G ≤ rkD (F ++ G) := by
      induction F with
      | nil => exact Nat.le_refl _
      | cons a F ih => show _ ≤ _ + rkD (F ++ G); omega
    omega
/-- the share of the first ones, if so many follow -/
def rkF (left : Nat) : List Int → Nat
  | [] => 0
  | d :: r => cho (d - 1).toNat (r.length + 1 + left) + rkF left r
theorem rkF_z : ∀ F : List Int, rkF 0 F = rkD F
  | [] => rfl
  | d :: r => by show cho _ (r.length + 1 + 0) + rkF 0 r = cho _ _ + rkD r; rw [rkF_z r, Nat.add_zero]
theorem rkF_snoc (left : Nat) (d : Int) : ∀ F : List Int, rkF left (F ++ [d]) = rkF (left + 1) F + cho (d - 1).toNat (left + 1)
  | [] => by show cho _ (0 + 1 + left) + 0 = 0 + _; rw [Nat.zero_add, Nat.add_zero, Nat.add_comm 1 left, Nat.zero_add]
  | a :: r => by
    show cho _ ((r ++ [d]).length + 1 + left) + rkF left (r ++ [d]) = cho _ (r.length + 1 + (left + 1)) + rkF (left + 1) r + _
    rw [rkF_snoc left d r, List.length_append, show r.length + [d].length + 1 + left = r.length + 1 + (left + 1) by simp; omega]
    omega
end Cl

/-! ### words, with their refusals -/
namespace Cl
open PySem PySem.Spec PyProof.Rows L2 PySem.Builtin PySem.Builtin.Str
/-- only 0 and 1 -/
def all01 (s : Str) : Bool := s.cps.toList.all fun c => c == 48 || c == 49
/-- is it a word -/
def isWs (s : Str) : Bool := s.cps.toList.isEmpty || (s.cps.toList.head? == some 49 && all01 s)
theorem has01c (c : Nat) : (tx [false, true]).cps.contains c = (c == 48 || c == 49) := by
  show (#[48, 49] : Array Nat).contains c = _
  rw [Bool.eq_iff_iff]
  simp [Array.contains_iff_mem]
theorem strSub_len (x : Str) (i j : Nat) : (strSub x i j).length = min (j - i) (x.length - i) := by
  have := congrArg List.length (StrLaws.strSub_toList x i j)
  rw [List.length_take, List.length_drop] at this
  simpa [Str.length] using this
theorem getD_all {s : Str} (h : ∀ k, k < s.length → (s.cps.getD k 0 == 48 || s.cps.getD k 0 == 49) = true) : all01 s = true := by
  unfold all01
  rw [List.all_eq_true]
  intro c hc
  obtain ⟨k, hk, rfl⟩ := List.getElem_of_mem hc
  have hk' : k < s.length := by simpa [Str.length] using hk
  have := h k hk'
  rw [Array.getD_eq_getD_getElem?, Array.getElem?_eq_getElem (by simpa [Str.length] using hk')] at this
  rw [Array.getElem_toList]
  exact this
theorem all_getD {s : Str} (h : all01 s = true) {k : Nat} (hk : k < s.length) : (s.cps.getD k 0 == 48 || s.cps.getD k 0 == 49) = true := by
  unfold all01 at h
  rw [List.all_eq_true] at h
  have hk' : k < s.cps.size := by simpa [Str.length] using hk
  have := h s.cps[k] (by simp)
  rw [Array.getD_eq_getD_getElem?, Array.getElem?_eq_getElem hk']
  exact this
theorem strip_len (s : Str) : (Txt.stripChars s (tx [false, true])).length = 0 ↔ all01 s = true := by
  unfold Txt.stripChars
  rw [stripBy_eq, strSub_len]
  obtain ⟨l1, l2, l3⟩ := lo_facts (tx [false, true]).cps.contains s
  generalize stripLo (tx [false, true]).cps.contains true s = lo at *
  obtain ⟨h1, h2, h3, h4⟩ := hi_facts (tx [false, true]).cps.contains s lo l1
  generalize stripHi (tx [false, true]).cps.contains true s lo = hi at *
  constructor
  · intro e
    refine getD_all fun k hk => ?_
    rw [← has01c]
    rcases Nat.lt_or_ge k lo with q | q
    · exact l2 k q
    · exact h3 k (by omega) hk
  · intro e
    have : lo = s.length := by
      rcases l3 with z | z
      · exact z
      · rcases Nat.lt_or_ge lo s.length with q | q
        · have := all_getD e q
          rw [has01c] at z
          rw [z] at this; cases this
        · omega
    omega
theorem strip_all (s : Str) : decide (V.str (Txt.stripChars s (tx [false, true])) = V.str (tx [])) = all01 s := by
  have key := strip_len s
  cases h : all01 s
  · refine decide_eq_false fun e => ?_
    have := key.mp (by rw [V.str.inj e]; rfl)
    rw [h] at this; cases this
  · have := key.mpr h
    refine decide_eq_true (congrArg V.str (str_ext (List.eq_nil_of_length_eq_zero ?_)))
    simpa [Str.length] using this
theorem chr_one {c : Nat} : decide (V.str ⟨#[c]⟩ = V.str (tx [true])) = (c == 49) := by
  by_cases h : c = 49
  · subst h; exact decide_eq_true rfl
  · rw [beq_eq_false_iff_ne.mpr h]
    refine decide_eq_false fun e => h ?_
    have := congrArg (fun s : Str => s.cps.toList) (V.str.inj e)
    simpa [tx, bt] using this
theorem isWs_tx {l : List Bool} (h : Wd l) : isWs (tx l) = true := by
  unfold isWs all01
  rw [tx_lst]
  rcases h with rfl | ⟨r, rfl⟩
  · rfl
  · have : ((true :: r).map bt).all (fun c => c == 48 || c == 49) = true := by
      rw [List.all_eq_true]
      intro c hc
      obtain ⟨b, _, rfl⟩ := List.mem_map.mp hc
      cases b <;> rfl
    rw [this]; rfl
theorem all01_tx (l : List Bool) : all01 (tx l) = true := by
  unfold all01
  rw [tx_lst, List.all_eq_true]
  intro c hc
  obtain ⟨b, _, rfl⟩ := List.mem_map.mp hc
  cases b <;> rfl
theorem isWs_head {s : Str} {c : Nat} {r : List Nat} (h : s.cps.toList = c :: r) (hc : c ≠ 49) : isWs s = false := by
  unfold isWs
  rw [h]
  simp [hc]
theorem isWs_mem {s : Str} {c : Nat} (h : c ∈ s.cps.toList) (h0 : c ≠ 48) (h1 : c ≠ 49) : isWs s = false := by
  have : all01 s = false := by
    cases e : all01 s
    · rfl
    · unfold all01 at e
      rw [List.all_eq_true] at e
      have := e c h
      simp [h0, h1] at this
  unfold isWs
  rw [this, Bool.and_false, Bool.or_false]
  cases q : s.cps.toList with
  | nil => rw [q] at h; cases h
  | cons a r => rfl
theorem isWs_inv {s : Str} (h : isWs s = true) : ∃ l, s = tx l ∧ Wd l := by
  have ex : ∀ L : List Nat, L.all (fun c => c == 48 || c == 49) = true → ∃ l : List Bool, L = l.map bt := by
    intro L
    induction L with
    | nil => exact fun _ => ⟨[], rfl⟩
    | cons c r ih =>
      intro h
      rw [List.all_cons, Bool.and_eq_true] at h
      obtain ⟨l, e⟩ := ih h.2
      have : c = 48 ∨ c = 49 := by simpa using h.1
      rcases this with rfl | rfl
      · exact ⟨false :: l, by rw [e]; rfl⟩
      · exact ⟨true :: l, by rw [e]; rfl⟩
  unfold isWs at h
  rw [Bool.or_eq_true] at h
  rcases h with h | h
  · have e : s.cps.toList = [] := List.isEmpty_iff.mp h
    exact ⟨[], str_ext (by rw [e, tx_lst]; rfl), .inl rfl⟩
  · rw [Bool.and_eq_true] at h
    obtain ⟨l, e⟩ := ex _ h.2
    refine ⟨l, str_ext (by rw [e, tx_lst]), ?_⟩
    have h1 := h.1
    rw [e] at h1
    cases l with
    | nil => exact .inl rfl
    | cons b r =>
      cases b with
      | true => exact .inr ⟨r, rfl⟩
      | false => exact absurd h1 (by simp [bt])
section
variable {P : Program} {w : World} {K : PySem.W.Frag} {mg : Str → Option Value} {base : Heap} {C_InvalidInput : Addr}
def spChk (C : Addr) : Sp := fun vs H Q E => ∃ (v l : Int) (x : Str), vs = [.int v, .int l, .str x] ∧ x.length ≤ 1000 ∧ (l ≤ v → Q .non H) ∧ (v < l → Out C "field" (.str x) H E)
theorem scCheckLeast : FnScope ["value", "least", "field"] ["value", "least", "field"] (defScope sCheckLeast) := ⟨rfl, rfl, rfl, by decide +kernel, rfl, by decide +kernel, by decide +kernel⟩
theorem ok_check_leastX {f : Addr} {fd : FuncData} (F : Fun K "check_least" "check_least" sCheckLeast f fd) (D_is_whole : Dn P w K mg base "is_whole" 1 ["value"] spIsWhole) (E_InvalidInput : ErrC P K mg "InvalidInput" C_InvalidInput "field" true) :
    FnOk P w K mg base (L2.CX P w) 3 f fd ["value", "least", "field"] (spChk C_InvalidInput) := by
  refine F.okX scCheckLeast (fun vs H Q E h => ?_) (fun cdv A outer s H vs Q E hr h => ?_)
  · obtain ⟨v, l, x, rfl, _⟩ := h
    rfl
  · obtain ⟨v, l, x, rfl, hx, k1, k2⟩ := h
    refine ⟨_, (pss_one (ps_if (PW.pt (pw_or (pt_not (pt_val (pe_dn D_is_whole (hr.mono (by decide)) (by rfl) pass0 (pa_cons (pv 0) pa_nil)))) (pw_or1 (pt_cmpR op_lt (pv 0) (pv 1) (nomark _))))) (pss_one (ps_raiseE (k := 0) E_InvalidInput rfl (hr.mono (by decide)) (takes_of rfl rfl rfl rfl) (pa_cons (pv 2) pa_nil)))
  pss_nil)), ?_⟩
    refine ⟨_, rfl, v, rfl, _, rfl, iteF ?_⟩
    walk_at "rd"
    by_cases hl : v < l
    · rw [decide_eq_true hl]
      refine iteT ?_
      walk_at "rd"
      refine ⟨fun _ => ⟨x, rfl, hx⟩, fun d hd => k2 hl d hd⟩
    · rw [decide_eq_false hl]
      exact iteF (k1 (by omega))
def spConsistsX : Sp := fun vs H Q _ => ∃ s : Str, vs = [.str s, .str "01"] ∧ s.length ≤ 1000000 ∧ Q (.bl (all01 s)) H
theorem scConsistsOf : FnScope ["text", "characters"] ["text", "characters"] (defScope sConsistsOf) := ⟨rfl, rfl, rfl, by decide +kernel, rfl, by decide +kernel, by decide +kernel⟩
theorem ok_consists_ofX {f : Addr} {fd : FuncData} (F : Fun K "consists_of" "consists_of" sConsistsOf f fd) : FnOk P w K mg base CX0 1 f fd ["text", "characters"] spConsistsX := by
  refine F.ok scConsistsOf (fun vs H Q E h => ?_) (fun cdv A outer s H vs Q E hr h => ?_)
  · obtain ⟨l, rfl, _⟩ := h
    rfl
  · obtain ⟨z, rfl, hl, k⟩ := h
    refine ⟨_, (pss_one (ps_ret (pe_cmpR op_eq (pe_m1 PySem.F.slot_str_strip PySem.F.type_str_strip mt_stripChars (pv 0) (pv 1)) pe_str (nomark _)))), ?_⟩
    refine ⟨_, rfl, ⟨_, rfl⟩, _, rfl, _, _, rfl, rfl, small_le hl, rfl, ?_⟩
    rw [t01, te, strip_all]
    exact k
def spIsWordX : Sp := fun vs H Q _ => ∃ s : Str, vs = [.str s] ∧ s.length ≤ 1000000 ∧ Q (.bl (isWs s)) H
theorem scIsWord : FnScope ["text"] ["text"] (defScope sIsWord) := ⟨rfl, rfl, rfl, by decide +kernel, rfl, by decide +kernel, by decide +kernel⟩
theorem ok_is_wordX {f : Addr} {fd : FuncData} (F : Fun K "is_word" "is_word" sIsWord f fd) (D_consists_of : Dn P w K mg base "consists_of" 1 ["text", "characters"] spConsistsX) : FnOk P w K mg base CX0 2 f fd ["text"] spIsWordX := by
  refine F.ok scIsWord (fun vs H Q E h => ?_) (fun cdv A outer s H vs Q E hr h => ?_)
  · obtain ⟨l, rfl, _⟩ := h
    rfl
  · obtain ⟨z, rfl, hl, k⟩ := h
    refine ⟨_, (pss_one (ps_ret (pe_or (pe_cmpR op_eq (pv 0) pe_str (nomark _)) (pe_one (pe_and (pe_cmpR op_eq (pe_ix ix_str (pv 0) pe_int (fun _ _ => rfl)) pe_str (nomark _)) (pe_one (pe_dn D_consists_of (hr.mono (by decide)) (by rfl) pass0 (pa_cons (pv 0) (pa_cons pe_str pa_nil))))))))), ?_⟩
    refine ⟨_, rfl, rfl, _, rfl, ?_⟩
    rw [te]
    cases q : z.cps.toList with
    | nil =>
      obtain rfl : z = tx [] := str_ext (by rw [q, tx_lst]; rfl)
      rw [decide_eq_true rfl]
      exact iteT k
    | cons c r =>
      rw [decide_eq_false fun e => by rw [V.str.inj e, tx_lst] at q; cases q]
      refine iteF ?_
      refine ⟨_, rfl, _, _, _, rfl, rfl, small_le hl, atI_nat (j := 0) (v := c) (by rw [q]; rfl), rfl, _, rfl, ?_⟩
      rw [t1, chr_one]
      have e : isWs z = (c == 49 && all01 z) := by
        unfold isWs
        rw [q]; simp
      rw [e] at k
      cases hc : (c == 49)
      · rw [hc, Bool.false_and] at k
        exact iteF k
      · rw [hc, Bool.true_and] at k
        exact iteT ⟨_, rfl, _, rfl, hl, k⟩
def spCheckWordX (C : Addr) : Sp := fun vs H Q E => ∃ s x : Str, vs = [.str s, .str x] ∧ s.length ≤ 1000000 ∧ x.length ≤ 1000 ∧ (isWs s = true → Q .non H) ∧ (isWs s = false → Out C "field" (.str x) H E)
theorem scCheckWord : FnScope ["word", "field"] ["word", "field"] (defScope sCheckWord) := ⟨rfl, rfl, rfl, by decide +kernel, rfl, by decide +kernel, by decide +kernel⟩
theorem ok_check_wordX {f : Addr} {fd : FuncData} (F : Fun K "check_word" "check_word" sCheckWord f fd) (D_is_word : Dn P w K mg base "is_word" 2 ["text"] spIsWordX) (E_InvalidInput : ErrC P K mg "InvalidInput" C_InvalidInput "field" true) : FnOk P w K mg base (L2.CX P w) 3 f fd ["word", "field"] (spCheckWordX C_InvalidInput) := by
  refine F.okX scCheckWord (fun vs H Q E h => ?_) (fun cdv A outer s H vs Q E hr h => ?_)
  · obtain ⟨l, x, rfl, _⟩ := h
    rfl
  · obtain ⟨z, x, rfl, hl, hx, k1, k2⟩ := h
    refine ⟨_, (pss_one (ps_if (pt_not (pt_val (pe_dn D_is_word (hr.mono (by decide)) (by rfl) pass0 (pa_cons (pv 0) pa_nil)))) (pss_one (ps_raiseE (k := 0) E_InvalidInput rfl (hr.mono (by decide)) (takes_of rfl rfl rfl rfl) (pa_cons (pv 1) pa_nil)))
  pss_nil)), ?_⟩
    refine ⟨_, rfl, _, rfl, hl, _, rfl, ?_⟩
    cases hw : isWs z
    · refine iteT ?_
      walk_at "rd"
      exact ⟨fun _ => ⟨x, rfl, hx⟩, fun d hd => k2 hw d hd⟩
    · exact iteF (k1 hw)
theorem scDepths : FnScope ["word", "at"] ["word"] (defScope sDepths) := ⟨rfl, rfl, rfl, by decide +kernel, rfl, by decide +kernel, by decide +kernel⟩
theorem ok_depthsX {f : Addr} {fd : FuncData} (F : Fun K "depths" "depths" sDepths f fd) (B : Bi mg) (D_check_word : Dx P w K mg base "check_word" 3 ["word", "field"] (spCheckWordX C_InvalidInput)) (D__ones : Dn P w K mg base "_ones" 1 ["word"] spOnes) : FnOk P w K mg base CX0 4 f fd ["word"] spDepths := by
  refine F.ok scDepths (fun vs H Q E h => ?_) (fun cdv A outer s H vs Q E hr h => ?_)
  · obtain ⟨l, rfl, _⟩ := h
    rfl
  · obtain ⟨l, rfl, hl, hw, k⟩ := h
    refine ⟨_, (pss_cons (ps_expr (pe_dx D_check_word (hr.mono (by decide)) (by rfl) passX0 (pa_cons (pv 0) (pa_cons pe_str pa_nil))))
  (pss_one (ps_ret (pe_lc (own := [("at", 1)]) (g := gName 1) rfl scDepths.nd (pi_list (pe_dn D__ones (hr.mono (by decide)) (by rfl) pass0 (pa_cons (pv 0) pa_nil))) (blkOk_by (own := [("at", 1)]) (N := ["word", "at"]) (sc := defScope sDepths) (by decide +kernel)) (fun _ _ _ _ _ => (pg_name (i := 1) scDepths.nd rfl (Or.inl rfl))) (fun _ _ _ _ _ => pts_nil) (fun _ _ _ _ _ => (pe_op op_sub (pe_callB call_len_str (by rfl) B.len PySem.boot_len (pa_cons (pv 0) pa_nil)) (pv 1))))))), ?_⟩
    refine ⟨_, rfl, _, _, rfl, by rw [tx_len]; omega, by decide, fun _ => ?_, fun z => by rw [isWs_tx hw] at z; cases z⟩
    refine ⟨_, rfl, _, rfl, hl, fun p H1 hp hS hL => ⟨p, rfl, ⟨_, SqL.of hL⟩, fun D hD => ?_⟩⟩
    refine lc_growL (fun x => match x with | .int i => .int ((l.length : Int) - i) | v => v) (SqL.of hL) hD (by rw [List.length_map, List.length_map]; exact Nat.lt_of_le_of_lt (by have h2 := List.length_filter_le (fun k => l[k]? == some true) (List.range l.length); rw [List.length_range] at h2; exact h2) (by omega)) ?_ ?_
    · intro x H2 R hx hS2 h
      obtain ⟨i, _, rfl⟩ := List.mem_map.mp hx
      exact ⟨rfl, _, rfl, _, rfl, small_le (by rw [tx_len]; omega), _, rfl, _, _, rfl, rfl, by rw [tx_len]; exact h _ (Same.refl _)⟩
    · intro H2 hS2 hL2
      refine k D H2 ?_ (hS.trans hS2) ?_
      · exact Classical.byContradiction fun h => by
          obtain ⟨o, ho⟩ := Option.ne_none_iff_exists'.mp h
          rw [hS _ _ ho] at hD; cases hD
      · rw [hL2, List.map_map, List.map_map]
        unfold dps
        rw [List.map_map]
        rfl
def spCheckDepths (K : PySem.W.Frag) : Sp := fun vs H Q _ => ∃ a l, vs = [.ref a] ∧ SqL K H a ((dps l).map V.int) ∧ ∀ H', Same H H' → Q .non H'
theorem scCheckDepths : FnScope ["numbers", "number", "higher", "lower"] ["numbers"] (defScope sCheckDepths) := ⟨rfl, rfl, rfl, by decide +kernel, rfl, by decide +kernel, by decide +kernel⟩
theorem ok__check_depthsX {f : Addr} {fd : FuncData} (F : Fun K "_check_depths" "_check_depths" sCheckDepths f fd) (B : Bi mg) (D_check_least : Dx P w K mg base "check_least" 3 ["value", "least", "field"] (spChk C_InvalidInput)) : FnOk P w K mg base CX0 4 f fd ["numbers"] (spCheckDepths K) := by
  refine F.ok scCheckDepths (fun vs H Q E h => ?_) (fun cdv A outer s H vs Q E hr h => ?_)
  · obtain ⟨a, l, rfl, _⟩ := h
    rfl
  · obtain ⟨a, l, rfl, hL, k⟩ := h
    refine ⟨_, (pss_cons (ps_for PassesOwn.never rfl (pi_list (pv 0)) (pg_name (i := 1) scCheckDepths.nd rfl (Or.inl rfl))
  (pss_one (ps_expr (pe_dx D_check_least (hr.mono (by decide)) (by rfl) passX0 (pa_cons (pv 1) (pa_cons pe_int (pa_cons pe_str pa_nil)))))))
  (pss_one (ps_for PassesOwn.never rfl (pi_zip rfl B.zip (pa_cons (pv 0) (pa_cons (pe_slice sl_list (pv 0) (po_some pe_int) po_none) pa_nil))) (pg_tup (by rfl) (pgs_cons (pg_name (i := 2) scCheckDepths.nd rfl (Or.inl rfl)) (pgs_cons (pg_name (i := 3) scCheckDepths.nd rfl (Or.inl rfl)) pgs_nil)))
  (pss_one (ps_if (pt_cmpR op_ge (pv 3) (pv 2) (nomark _)) (pss_one ps_never)
  pss_nil))))), ?_⟩
    refine ⟨_, rfl, a, rfl, ⟨_, hL⟩, ?_⟩
    refine for_list (xs := (dps l).map V.int) (fun i σ H' => H' = H ∧ ∃ u x y, σ = [some (.ref a), u, x, y]) ⟨rfl, _, _, _, rfl⟩ (fun i σ H' _ h => by rw [h.1]; exact hL) ?_ ?_
    · rintro i x σ H1 hi ⟨rfl, u, x', y', rfl⟩
      obtain ⟨d, hd, rfl⟩ : ∃ d, d ∈ dps l ∧ x = V.int d := by
        obtain ⟨d, hd, e⟩ := List.mem_map.mp (List.mem_of_getElem? hi)
        exact ⟨d, hd, e.symm⟩
      have := (dps_le hd).1
      exact ⟨_, rfl, _, _, _, rfl, by decide, fun _ => ⟨rfl, _, _, _, rfl⟩, fun z => by omega⟩
    · rintro σ H1 ⟨rfl, u, x', y', rfl⟩
      refine ⟨_, rfl, _, rfl, 1, rfl, _, _, rfl, hL, fun p hp => ?_⟩
      refine ⟨a, p, _, _, rfl, Same.seq (Same.upd hp) hL, SqL.of upd_same, ?_⟩
      have hc : cutV ((dps l).map V.int) (some 1) none = ((dps l).drop 1).map V.int := (tcut_from (f := 1)).trans (by rw [List.map_drop])
      rw [hc]
      have hn : (dps l).length - 1 = min ((dps l).map V.int).length (((dps l).drop 1).map V.int).length := by
        rw [List.length_map, List.length_map, List.length_drop]; omega
      refine for_it (walk_zip hn) (fun i σ H' => Same (upd H1 p (.lst (((dps l).drop 1).map V.int))) H' ∧ ∃ u v x y, σ = [u, v, x, y]) ⟨Same.refl _, _, _, _, _, rfl⟩ (fun i σ H' _ h => ⟨Same.seq h.1 (Same.seq (Same.upd hp) hL), Same.seq h.1 (SqL.of upd_same)⟩) ?_ (fun σ H' h => k _ (fun b o e => h.1 _ _ (Same.upd hp _ _ e)))
      rintro i x σ H2 H3 hi ⟨hS, u, v, x1, y1, rfl⟩ ⟨T, v1, v2, rfl, hT, rfl, e1, e2⟩
      dsimp only at e1 e2
      have hi1 : i < (dps l).length := by omega
      have hi2 : i + 1 < (dps l).length := by omega
      rw [List.getElem?_map, List.getElem?_eq_getElem hi1] at e1
      rw [List.getElem?_map, List.getElem?_drop, Nat.add_comm, List.getElem?_eq_getElem hi2] at e2
      obtain rfl := Option.some.inj e1
      obtain rfl := Option.some.inj e2
      have hlt : (dps l)[i + 1] < (dps l)[i] := List.pairwise_iff_getElem.mp (dps_desc l) i (i + 1) hi1 hi2 (by omega)
      refine ⟨T, _, rfl, SqT.of upd_same, rfl, _, _, rfl, _, _, rfl, rfl, ?_⟩
      refine ⟨_, rfl, _, rfl, _, _, rfl, rfl, _, rfl, ?_⟩
      rw [decide_eq_false (by omega)]
      exact iteF ⟨hS.trans (Same.upd hT), _, _, _, _, rfl⟩
theorem scWordOf : FnScope ["depths", "marks", "depth"] ["depths"] (defScope sWordOf) := ⟨rfl, rfl, rfl, by decide +kernel, rfl, by decide +kernel, by decide +kernel⟩
theorem ok_word_ofX {f : Addr} {fd : FuncData} (F : Fun K "word_of" "word_of" sWordOf f fd) (B : Bi mg) (D__check_depths : Dn P w K mg base "_check_depths" 4 ["numbers"] (spCheckDepths K)) : FnOk P w K mg base CX0 5 f fd ["depths"] (spWordOf K) := by
  refine F.ok scWordOf (fun vs H Q E h => ?_) (fun cdv A outer s H vs Q E hr h => ?_)
  · obtain ⟨a, l, rfl, _⟩ := h
    rfl
  · obtain ⟨a, l, rfl, hl, hw, hL, k⟩ := h
    refine ⟨_, (pss_cons (ps_expr (pe_dn D__check_depths (hr.mono (by decide)) (by rfl) pass0 (pa_cons (pv 0) pa_nil)))
  (pss_cons (ps_if (pt_cmpR op_eq (pe_callB call_len_seq (by rfl) B.len PySem.boot_len (pa_cons (pv 0) pa_nil)) pe_int (nomark _)) (pss_one (ps_ret pe_str))
  pss_nil)
  (pss_cons (ps_set (i := 1) scWordOf.nd rfl (Or.inr rfl) (pe_dc (own := [("depth", 2)]) (g := gName 2) rfl scWordOf.nd (pi_list (pv 0)) (blkOk_by (own := [("depth", 2)]) (N := ["depths", "marks", "depth"]) (sc := defScope sWordOf) (by decide +kernel)) (fun _ _ _ _ _ => (pg_name (i := 2) scWordOf.nd rfl (Or.inl rfl))) (fun _ _ _ _ _ => pts_nil) (fun _ _ _ _ _ => (pv 2)) (fun _ _ _ _ _ => pe_bl)))
  (pss_one (ps_ret (pe_join pe_str (pe_lc (own := [("depth", 2)]) (g := gName 2) rfl scWordOf.nd (pi_range3 rfl B.range (pa_cons (pe_ix ix_list (pv 0) pe_int (fun _ _ => rfl)) (pa_cons pe_int (pa_cons (pe_un un_neg pe_int) pa_nil)))) (blkOk_by (own := [("depth", 2)]) (N := ["depths", "marks", "depth"]) (sc := defScope sWordOf) (by decide +kernel)) (fun _ _ _ _ _ => (pg_name (i := 2) scWordOf.nd rfl (Or.inl rfl))) (fun _ _ _ _ _ => pts_nil) (fun _ _ _ _ _ => (pe_ifExp (pt_cmp (pc_din (hu_of hr) (pv 2) (pv 1))) pe_str pe_str))))))))), ?_⟩
    refine ⟨_, rfl, a, l, rfl, hL, fun H1 hS => ?_⟩
    have hL1 := Same.seq hS hL
    refine ⟨_, rfl, _, _, rfl, .inl hL1, rfl, _, rfl, ?_⟩
    rcases hw with rfl | ⟨r, rfl⟩
    · refine iteT ?_
      have := k H1 hS
      rw [← te] at this
      exact this
    · have e0 : dps (true :: r) = ((r.length : Int) + 1) :: dps r := by rw [dps_cons]; rfl
      have hne : decide (V.int (((dps (true :: r)).map V.int).length : Int) = V.int 0) = false := decide_eq_false fun e => by
        have := V.int.inj e
        rw [e0] at this
        simp at this
        omega
      rw [hne]
      refine iteF ?_
      refine ⟨_, rfl, a, rfl, ⟨_, hL1⟩, fun D hD => ?_⟩
      refine dc_keysW hL1 hD (by rw [dps_len]; exact Nat.lt_of_le_of_lt (List.count_le_length) (by omega)) ?_ ?_
      · intro i H2 R hi hS2 h
        exact ⟨rfl, _, rfl, h _⟩
      · intro H2 kvs hS2 hD2 hv
        refine ⟨⟨_, rfl⟩, ?_⟩
        refine ⟨_, rfl, a, _, _, _, rfl, rfl, Same.seq hS2 hL1, atI_nat (j := 0) (v := .int ((r.length : Int) + 1)) (by rw [e0]; rfl), ?_⟩
        have hlr : r.length + 1 ≤ 9000 := hl
        have hz : ((r.length : Int) + 1 - 0).toNat = (true :: r).length := by rw [List.length_cons]; omega
        refine ⟨1, rfl, (r.length : Int) + 1, 0, -1, _, rfl, RgC.neg (by omega) (by omega) (by decide) (by decide), fun D2 hDn => ?_⟩
        refine lc_mapW walk_rangeC (fun i => .str (tx [(true :: r).getD i false])) hDn (by rw [hz]; exact Nat.lt_of_le_of_lt hl (by decide)) (fun _ _ => trivial) ?_ ?_
        · rintro i x H3 H4 R hi hS3 ⟨rfl, rfl⟩ h
          rw [hz] at hi
          refine ⟨rfl, _, rfl, _, rfl, D, _, rfl, DGet.k (k := Sum.inl ((r.length : Int) + 1 + (i : Nat) * -1)) (hS3 _ _ hD2), _, rfl, ?_⟩
          rw [hv]
          have hb : (true :: r)[i]? = some ((true :: r).getD i false) := by
            rw [List.getD_eq_getElem?_getD, List.getElem?_eq_getElem hi]; rfl
          have hm : decide (((r.length : Int) + 1 + (i : Nat) * -1) ∈ dps (true :: r)) = (true :: r).getD i false := by
            cases hq : (true :: r).getD i false
            · refine decide_eq_false fun hm => ?_
              obtain ⟨j, h1, h2⟩ := dps_mem.mp hm
              have : j = i := by rw [List.length_cons] at h2; omega
              subst this
              rw [hb, hq] at h1
              cases h1
            · refine decide_eq_true (dps_mem.mpr ⟨i, by rw [hb, hq], by rw [List.length_cons]; omega⟩)
          rw [hm]
          have := h _ (Same.refl _)
          cases hq : (true :: r).getD i false
          · rw [hq, ← t0] at this; exact iteF this
          · rw [hq, ← t1] at this; exact iteT this
        · intro H3 hS3 hD3
          rw [hz] at hD3
          refine ⟨_, D2, (true :: r).map fun b => tx [b], rfl, rfl, .inl (SqL.of ?_), ?_, ?_⟩
          · rw [hD3, List.map_map]
            congr 2
            conv => rhs; rw [← range_getD (true :: r)]
            rw [List.map_map]; rfl
          · rw [tx_sum, List.length_map, te]
            show _ + _ * 0 ≤ _
            rw [List.length_cons]; omega
          · rw [te, tx_join]
            exact k H3 ((hS.trans hS2).trans hS3)
end
end Cl

/-! ### law k28: the program's counts -/
namespace Cl
open PySem L2 StX ClX
/-- a word for these depths -/
theorem dps_of : ∀ F : List Int, F.Pairwise (· > ·) → (∀ x ∈ F, 1 ≤ x) → ∃ l, Wd l ∧ dps l = F ∧ (l.length : Int) = F.headD 0
  | [], _, _ => ⟨[], .inl rfl, rfl, rfl⟩
  | d :: r, hp, h1 => by
    obtain ⟨l, hw, hd, hl⟩ := dps_of r (List.pairwise_cons.mp hp).2 fun x hx => h1 x (List.mem_cons_of_mem _ hx)
    have hlt : (l.length : Int) < d := by
      rw [hl]
      cases r with
      | nil => have := h1 d List.mem_cons_self; show (0 : Int) < d; omega
      | cons e r => exact (List.pairwise_cons.mp hp).1 e List.mem_cons_self
    refine ⟨true :: (List.replicate (d.toNat - 1 - l.length) false ++ l), .inr ⟨_, rfl⟩, ?_, ?_⟩
    · have pad : ∀ n : Nat, dps (List.replicate n false ++ l) = dps l := fun n => by
        induction n with
        | zero => rfl
        | succ n ih => rw [List.replicate_succ, List.cons_append, dps_cons, ih]; rfl
      rw [dps_cons, pad, hd, if_pos rfl, List.length_append, List.length_replicate]
      show _ :: r = d :: r
      congr 1
      omega
    · rw [List.length_cons, List.length_append, List.length_replicate]
      show _ = d
      omega
section
variable {P : Program} {w : World} {K : PySem.W.Frag} {mg : Str → Option Value} {base : Heap} {C_InvalidInput : Addr}
def badC (p c : Int) : Option Str := if p < 1 then some "places" else if c < 0 then some "count" else none
def spCount (C : Addr) : Sp := fun vs H Q E => ∃ p c : Int, vs = [.int p, .int c] ∧ p ≤ 100 ∧ (∀ x, badC p c = some x → Out C "field" (.str x) H E) ∧ (badC p c = none → Q (.int (cho p.toNat c.toNat : Nat)) H)
theorem scCountWords : FnScope ["places", "count"] ["places", "count"] (defScope sCountWords) := ⟨rfl, rfl, rfl, by decide +kernel, rfl, by decide +kernel, by decide +kernel⟩
theorem ok_count_words {f : Addr} {fd : FuncData} (F : Fun K "count_words" "count_words" sCountWords f fd) (D_check_least : Dx P w K mg base "check_least" 3 ["value", "least", "field"] (spChk C_InvalidInput)) (G_comb : mg "comb" = some (.builtin "math.comb")) :
    FnOk P w K mg base (L2.CX P w) 4 f fd ["places", "count"] (spCount C_InvalidInput) := by
  refine F.okX scCountWords (fun vs H Q E h => ?_) (fun cdv A outer s H vs Q E hr h => ?_)
  · obtain ⟨p, c, rfl, _⟩ := h
    rfl
  · obtain ⟨p, c, rfl, hp, k1, k3⟩ := h
    unfold badC at k1 k3
    refine ⟨_, (pss_cons (ps_expr (pe_dx D_check_least (hr.mono (by decide)) (by rfl) (passes_call (takes_of rfl rfl rfl rfl) (fun _ _ _ _ h => h)) (pa_cons (pv 0) (pa_cons pe_int (pa_cons pe_str pa_nil)))))
  (pss_cons (ps_expr (pe_dx D_check_least (hr.mono (by decide)) (by rfl) (passes_call (takes_of rfl rfl rfl rfl) (fun _ _ _ _ h => h)) (pa_cons (pv 1) (pa_cons pe_int (pa_cons pe_str pa_nil)))))
  (pss_one (ps_ret (StS.pe_callG cr_cho rfl G_comb (pa_cons (pv 0) (pa_cons (pv 1) pa_nil))))))), ?_⟩
    refine ⟨_, rfl, _, _, _, rfl, by decide, fun h1 => ?_, fun h1 => k1 _ (if_pos h1)⟩
    rw [if_neg (by omega)] at k1 k3
    refine ⟨_, rfl, _, _, _, rfl, by decide, fun h2 => ?_, fun h2 => k1 _ (if_pos h2)⟩
    rw [if_neg (by omega)] at k3
    exact ⟨_, rfl, _, rfl, _, _, rfl, by omega, hp, h2, k3 rfl⟩
def spRanked : Sp := fun vs H Q _ => ∃ r p c : Int, vs = [.int r, .int p, .int c] ∧ 0 ≤ r ∧ 1 ≤ p ∧ p ≤ 100 ∧ 0 ≤ c ∧ r < (cho p.toNat c.toNat : Nat) ∧
  ∀ (l : List Bool) (H' : Hp), Wd l → (l.length : Int) ≤ p → ((l.count true : Nat) : Int) = c → ((rkl l : Nat) : Int) = r → Same H H' → Q (.str (tx l)) H'
theorem scRanked : FnScope ["rank", "places", "count", "found", "depth", "left"] ["rank", "places", "count"] (defScope sRanked) := ⟨rfl, rfl, rfl, by decide +kernel, rfl, by decide +kernel, by decide +kernel⟩
theorem ok__ranked {f : Addr} {fd : FuncData} (F : Fun K "_ranked" "_ranked" sRanked f fd) (B : Bi mg) (D_word_of : Dn P w K mg base "word_of" 5 ["depths"] (spWordOf K)) (G_comb : mg "comb" = some (.builtin "math.comb")) :
    FnOk P w K mg base CX0 6 f fd ["rank", "places", "count"] spRanked := by
  refine F.ok scRanked (fun vs H Q E h => ?_) (fun cdv A outer s H vs Q E hr h => ?_)
  · obtain ⟨r, p, c, rfl, _⟩ := h
    rfl
  · obtain ⟨r, p, c, rfl, hr0, hp1, hp2, hc, hlt, k⟩ := h
    refine ⟨_, (pss_cons (ps_set (i := 3) scRanked.nd rfl (Or.inl rfl) (pe_lst pa_nil))
  (pss_cons (ps_set (i := 4) scRanked.nd rfl (Or.inl rfl) (pv 1))
  (pss_cons (ps_for PassesOwn.never rfl (pi_range3 rfl B.range (pa_cons (pv 2) (pa_cons pe_int (pa_cons (pe_un un_neg pe_int) pa_nil)))) (pg_name (i := 5) scRanked.nd rfl (Or.inl rfl))
  (pss_cons (ps_while PassesOwn.never (pt_cmpR op_gt (StS.pe_callG cr_cho rfl G_comb (pa_cons (pe_op op_sub (pv 4) pe_int) (pa_cons (pv 5) pa_nil))) (pv 0) (nomark _))
  (pss_one (ps_aug (i := 4) scRanked.nd rfl (Or.inl rfl) pe_int ip_sub)))
  (pss_cons (ps_aug (i := 0) scRanked.nd rfl (Or.inl rfl) (StS.pe_callG cr_cho rfl G_comb (pa_cons (pe_op op_sub (pv 4) pe_int) (pa_cons (pv 5) pa_nil))) ip_sub)
  (pss_cons (ps_expr (pe_bm PySem.F.plainAttrs_list PySem.F.slot_list_append PySem.F.type_list_append mt_append (pv 3) (pa_cons (pv 4) pa_nil)))
  (pss_one (ps_aug (i := 4) scRanked.nd rfl (Or.inl rfl) pe_int ip_sub))))))
  (pss_one (ps_ret (pe_dn D_word_of (hr.mono (by decide)) (by rfl) pass0 (pa_cons (pv 3) pa_nil))))))), ?_⟩
    have c100 : c ≤ 100 := by
      rcases Int.lt_or_le 100 c with q | q
      · rw [cho_big (by omega)] at hlt; omega
      · exact q
    refine ⟨by show 0 ≤ sizeLine; decide, fun D hD => ?_⟩
    refine ⟨_, rfl, ?_⟩
    walk_at "rd"
    refine ⟨c, 0, -1, _, rfl, RgC.neg (by omega) (by omega) (by decide) (by decide), ?_⟩
    refine for_it walk_rangeC (fun i σ H' => ∃ (F : List Int) (ra d : Int) (x : Option V), σ = [some (.int ra), some (.int p), some (.int c), some (.ref D), some (.int d), x] ∧ Same H H' ∧ H' D = some (.lst (F.map V.int)) ∧ F.length = i ∧ 0 ≤ d ∧ d ≤ p ∧ (∀ x ∈ F, d < x ∧ x ≤ p) ∧ F.Pairwise (· > ·) ∧ 0 ≤ ra ∧ ra < (cho d.toNat (c.toNat - i) : Nat) ∧ (rkF (c.toNat - i) F : Int) + ra = r)
      ⟨[], r, p, _, rfl, Same.upd hD, upd_same, rfl, (by omega), Int.le_refl _, (fun x hx => by cases hx), List.Pairwise.nil, hr0, (by rw [Nat.sub_zero]; exact hlt), by show ((0 : Nat) : Int) + r = r; omega⟩ (fun _ _ _ _ _ => trivial) ?_ ?_
    · rintro i x σ H1 H2 hi ⟨F, ra, d, x', rfl, hS, hL, hF, d0, d1, hFx, hFp, ra0, ra1, hrk⟩ ⟨rfl, rfl⟩
      obtain ⟨left, hleft⟩ : ∃ left, c.toNat - i = left + 1 := ⟨c.toNat - i - 1, by omega⟩
      rw [hleft] at ra1 hrk
      have dpos : ∀ d' : Int, 0 ≤ d' → ra < (cho d'.toNat (left + 1) : Nat) → 1 ≤ d' := fun d' h0 h1 => by
        rcases Int.lt_or_le d' 1 with q | q
        · obtain rfl : d' = 0 := by omega
          have : cho (0 : Int).toNat (left + 1) = 0 := rfl
          rw [this] at h1; omega
        · exact q
      have el : c + ((i : Nat) : Int) * -1 = ((left + 1 : Nat) : Int) := by omega
      show gName 5 (.int (c + ((i : Nat) : Int) * -1)) _ _ _
      rw [el]
      refine ⟨fun m σ H' => ∃ d' : Int, m = d'.toNat ∧ σ = [some (.int ra), some (.int p), some (.int c), some (.ref D), some (.int d'), some (.int ((left + 1 : Nat) : Int))] ∧ H' = H2 ∧ 0 ≤ d' ∧ d' ≤ d ∧ ra < (cho d'.toNat (left + 1) : Nat), ⟨_, d, rfl, rfl, rfl, d0, Int.le_refl _, ra1⟩, ?_⟩
      rintro m σ H' ⟨d', rfl, rfl, rfl, e0, e1, e2⟩
      have := dpos d' e0 e2
      walk_at "rd"
      refine ⟨by omega, by omega, by omega, ?_⟩
      have e3 : (d' - 1).toNat + 1 = d'.toNat := by omega
      have e4 : (((left + 1 : Nat) : Int)).toNat = left + 1 := by omega
      rw [e4]
      walk_at "rd"
      refine itd (fun g => ?_) (fun g => ?_)
      · refine ⟨fun σ H'' => ∃ e : Int, σ = [some (.int ra), some (.int p), some (.int c), some (.ref D), some (.int e), some (.int ((left + 1 : Nat) : Int))] ∧ H'' = H' ∧ 0 ≤ e ∧ e ≤ d ∧ ra < (cho e.toNat (left + 1) : Nat) ∧ e.toNat < d'.toNat, ?_, ?_⟩
        · rintro σ H'' ⟨e, rfl, rfl, f0, f1, f2, f3⟩
          exact ⟨_, f3, e, rfl, rfl, rfl, f0, f1, f2⟩
        · exact ⟨_, rfl, _, _, rfl, rfl, d' - 1, rfl, rfl, by omega, by omega, g, by omega⟩
      · have g2 : cho (d' - 1).toNat (left + 1) ≤ ra.toNat := by omega
        walk_at "rd"
        refine ⟨by omega, by omega, by omega, ?_⟩
        rw [e4]
        walk_at "rd"
        refine ⟨.inl ⟨rfl, _, SqL.of hL⟩, ?_⟩
        walk_at "rd"
        have small : (F.map V.int).length < sizeLine := by
          rw [List.length_map]
          have : (10000 : Nat) ≤ sizeLine := by decide
          omega
        refine ⟨D, F.map V.int, _, rfl, rfl, hL, small, ?_⟩
        walk_at "rd"
        have e5 : c.toNat - (i + 1) = left := by omega
        have e6 := cho_s (d' - 1).toNat left
        rw [e3] at e6
        refine ⟨F ++ [d'], ra - (cho (d' - 1).toNat (left + 1) : Nat), d' - 1, _, rfl, fun b o e => ?_, by rw [upd_same, List.map_append]; rfl, by rw [List.length_append, hF]; rfl, by omega, by omega, fun x hx => ?_, ?_, by omega, ?_, ?_⟩
        · rw [upd_ne (ne_of_none e hD)]; exact hS _ _ e
        · rcases List.mem_append.mp hx with h | h
          · have := hFx x h; omega
          · simp at h; omega
        · refine List.pairwise_append.mpr ⟨hFp, List.pairwise_singleton _ _, fun x hx y hy => ?_⟩
          have := hFx x hx
          simp at hy
          omega
        · rw [e5]; omega
        · rw [e5, rkF_snoc]; omega
    · rintro σ H1 ⟨F, ra, d, x', rfl, hS, hL, hF, d0, d1, hFx, hFp, ra0, ra1, hrk⟩
      have e0 : c.toNat - (c - 0).toNat = 0 := by omega
      rw [e0] at ra1 hrk
      rw [cho_z] at ra1
      rw [rkF_z] at hrk
      obtain ⟨l, hw, hd, hl⟩ := dps_of F hFp fun x hx => by have := (hFx x hx).1; omega
      have hcnt : l.count true = F.length := by rw [← dps_len, hd]
      have hlp : (l.length : Int) ≤ p := by
        rw [hl]
        cases F with
        | nil => show (0 : Int) ≤ p; omega
        | cons a F => exact (hFx a List.mem_cons_self).2
      refine ⟨_, rfl, D, l, rfl, by omega, hw, by rw [hd]; exact SqL.of hL, fun H' hS' => ?_⟩
      refine k l H' hw hlp (by omega) ?_ (hS.trans hS')
      rw [← rkD_dps, hd]
      omega
def badW (r p c : Int) : Option Str := if r < 0 then some "rank" else if p < 1 then some "places" else if c < 0 then some "count" else if (cho p.toNat c.toNat : Nat) ≤ r then some "rank" else none
def spWordAt (C : Addr) : Sp := fun vs H Q E => ∃ r p c : Int, vs = [.int r, .int p, .int c] ∧ p ≤ 100 ∧ (∀ x, badW r p c = some x → Out C "field" (.str x) H E) ∧
  (badW r p c = none → ∀ (l : List Bool) (H' : Hp), Wd l → (l.length : Int) ≤ p → ((l.count true : Nat) : Int) = c → ((rkl l : Nat) : Int) = r → Same H H' → Q (.str (tx l)) H')
theorem scWordAt : FnScope ["rank", "places", "count"] ["rank", "places", "count"] (defScope sWordAt) := ⟨rfl, rfl, rfl, by decide +kernel, rfl, by decide +kernel, by decide +kernel⟩
theorem ok_word_at {f : Addr} {fd : FuncData} (F : Fun K "word_at" "word_at" sWordAt f fd) (D_check_least : Dx P w K mg base "check_least" 3 ["value", "least", "field"] (spChk C_InvalidInput)) (D__ranked : Dn P w K mg base "_ranked" 6 ["rank", "places", "count"] spRanked) (E_InvalidInput : ErrC P K mg "InvalidInput" C_InvalidInput "field" true) (G_comb : mg "comb" = some (.builtin "math.comb")) :
    FnOk P w K mg base (L2.CX P w) 7 f fd ["rank", "places", "count"] (spWordAt C_InvalidInput) := by
  refine F.okX scWordAt (fun vs H Q E h => ?_) (fun cdv A outer s H vs Q E hr h => ?_)
  · obtain ⟨r, p, c, rfl, _⟩ := h
    rfl
  · obtain ⟨r, p, c, rfl, hp, k1, k5⟩ := h
    unfold badW at k1 k5
    refine ⟨_, (pss_cons (ps_expr (pe_dx D_check_least (hr.mono (by decide)) (by rfl) (passes_call (takes_of rfl rfl rfl rfl) (fun _ _ _ _ h => h)) (pa_cons (pv 0) (pa_cons pe_int (pa_cons pe_str pa_nil)))))
  (pss_cons (ps_expr (pe_dx D_check_least (hr.mono (by decide)) (by rfl) (passes_call (takes_of rfl rfl rfl rfl) (fun _ _ _ _ h => h)) (pa_cons (pv 1) (pa_cons pe_int (pa_cons pe_str pa_nil)))))
  (pss_cons (ps_expr (pe_dx D_check_least (hr.mono (by decide)) (by rfl) (passes_call (takes_of rfl rfl rfl rfl) (fun _ _ _ _ h => h)) (pa_cons (pv 2) (pa_cons pe_int (pa_cons pe_str pa_nil)))))
  (pss_cons (ps_if (pt_cmpR op_ge (pv 0) (StS.pe_callG cr_cho rfl G_comb (pa_cons (pv 1) (pa_cons (pv 2) pa_nil))) (nomark _)) (pss_one (ps_raiseE (k := 0) E_InvalidInput rfl (hr.mono (by decide)) (takes_of rfl rfl rfl rfl) (pa_cons pe_str pa_nil)))
  pss_nil)
  (pss_one (ps_ret (pe_dn D__ranked (hr.mono (by decide)) (by rfl) pass0 (pa_cons (pv 0) (pa_cons (pv 1) (pa_cons (pv 2) pa_nil)))))))))), ?_⟩
    refine ⟨_, rfl, _, _, _, rfl, by decide, fun h1 => ?_, fun h1 => k1 _ (if_pos h1)⟩
    rw [if_neg (by omega)] at k1 k5
    refine ⟨_, rfl, _, _, _, rfl, by decide, fun h2 => ?_, fun h2 => k1 _ (if_pos h2)⟩
    rw [if_neg (by omega)] at k1 k5
    refine ⟨_, rfl, _, _, _, rfl, by decide, fun h3 => ?_, fun h3 => k1 _ (if_pos h3)⟩
    rw [if_neg (by omega)] at k1 k5
    refine ⟨_, rfl, _, rfl, _, rfl, _, _, rfl, by omega, hp, h3, ?_⟩
    walk_at "rd"
    refine itd (fun g => ?_) (fun g => ?_)
    · walk_at "rd"
      exact ⟨fun _ => ⟨_, rfl, by decide⟩, fun d hd => k1 _ (if_pos g) d hd⟩
    · rw [if_neg (by omega)] at k5
      walk_at "rd"
      exact ⟨h1, h2, hp, h3, by omega, k5 rfl⟩
theorem rkD_sum : ∀ F : List Int, ((List.range F.length).map fun i => ((cho ((F.getD i 0) - 1).toNat (F.length - i) : Nat) : Int)).sum = (rkD F : Int)
  | [] => rfl
  | d :: r => by
    rw [List.length_cons, List.range_succ_eq_map, List.map_cons, List.sum_cons, List.map_map]
    have ih := rkD_sum r
    have e : (List.range r.length).map ((fun i => ((cho (((d :: r).getD i 0) - 1).toNat (r.length + 1 - i) : Nat) : Int)) ∘ Nat.succ) = (List.range r.length).map fun i => ((cho ((r.getD i 0) - 1).toNat (r.length - i) : Nat) : Int) := by
      refine List.map_congr_left fun i _ => ?_
      show ((cho (((d :: r).getD (i + 1) 0) - 1).toNat (r.length + 1 - (i + 1)) : Nat) : Int) = _
      rw [List.getD_cons_succ, show r.length + 1 - (i + 1) = r.length - i by omega]
    rw [e, ih]
    show ((cho (d - 1).toNat (r.length + 1 - 0) : Nat) : Int) + _ = ((cho (d - 1).toNat (r.length + 1) + rkD r : Nat) : Int)
    rw [Nat.sub_zero]; omega
def spRankOf (C : Addr) : Sp := fun vs H Q E => ∃ s : Str, vs = [.str s] ∧ s.length ≤ 100 ∧ (isWs s = false → Out C "field" (.str "word") H E) ∧ (∀ (l : List Bool) (H' : Hp), s = tx l → Wd l → Same H H' → Q (.int (rkl l : Nat)) H')
theorem scRankOf : FnScope ["word", "found", "at", "depth"] ["word"] (defScope sRankOf) := ⟨rfl, rfl, rfl, by decide +kernel, rfl, by decide +kernel, by decide +kernel⟩
theorem ok_rank_of {f : Addr} {fd : FuncData} (F : Fun K "rank_of" "rank_of" sRankOf f fd) (B : Bi mg) (D_check_word : Dx P w K mg base "check_word" 3 ["word", "field"] (spCheckWordX C_InvalidInput)) (D_depths : Dn P w K mg base "depths" 4 ["word"] spDepths) (G_comb : mg "comb" = some (.builtin "math.comb")) :
    FnOk P w K mg base (L2.CX P w) 5 f fd ["word"] (spRankOf C_InvalidInput) := by
  refine F.okX scRankOf (fun vs H Q E h => ?_) (fun cdv A outer s H vs Q E hr h => ?_)
  · obtain ⟨r, rfl, _⟩ := h
    rfl
  · obtain ⟨z, rfl, hz, k1, k2⟩ := h
    refine ⟨_, (pss_cons (ps_expr (pe_dx D_check_word (hr.mono (by decide)) (by rfl) (passes_call (takes_of rfl rfl rfl rfl) (fun _ _ _ _ h => h)) (pa_cons (pv 0) (pa_cons pe_str pa_nil))))
  (pss_cons (ps_set (i := 1) scRankOf.nd rfl (Or.inr rfl) (pe_dn D_depths (hr.mono (by decide)) (by rfl) pass0 (pa_cons (pv 0) pa_nil)))
  (pss_one (ps_ret (pe_callB (cr_sum rfl) (by rfl) B.sum (by decide +kernel) (pa_cons (pe_lc (own := [("at", 2), ("depth", 3)]) (g := gTup K 2 (gCons (gName 2) (gCons (gName 3) (gNil)))) rfl scRankOf.nd (pi_enum rfl B.enumerate (pa_cons (pv 1) pa_nil)) (blkOk_by (own := [("at", 2), ("depth", 3)]) (N := ["word", "found", "at", "depth"]) (sc := defScope sRankOf) (by decide +kernel)) (fun _ _ _ _ _ => (pg_tupK K (by rfl) (pgs_cons (pg_name (i := 2) scRankOf.nd rfl (Or.inl rfl)) (pgs_cons (pg_name (i := 3) scRankOf.nd rfl (Or.inl rfl)) pgs_nil)))) (fun _ _ _ _ _ => pts_nil) (fun _ _ _ _ _ => (StS.pe_callG cr_cho rfl G_comb (pa_cons (pe_op op_sub (pv 3) pe_int) (pa_cons (pe_op op_sub (pe_callB (call_lenK K) (by rfl) B.len PySem.boot_len (pa_cons (pv 1) pa_nil)) (pv 2)) pa_nil))))) pa_nil)))))), ?_⟩
    refine ⟨_, rfl, _, _, rfl, by omega, by decide, fun hw => ?_, fun hw => k1 hw⟩
    obtain ⟨l, rfl, hl⟩ := isWs_inv hw
    rw [tx_len] at hz
    refine ⟨_, rfl, l, rfl, by omega, hl, fun p H1 hp hS hL => ?_⟩
    walk_at "rd"
    have hdl : (dps l).length ≤ 100 := by rw [dps_len]; exact Nat.le_trans List.count_le_length hz
    refine ⟨p, _, rfl, SqL.of hL, fun D hD => ?_⟩
    refine lc_mapW walk_enum (fun i => .int (cho (((dps l).getD i 0) - 1).toNat ((dps l).length - i) : Nat)) hD (by rw [List.length_map]; omega) (fun H2 hS2 => Same.seq hS2 (SqL.of hL)) ?_ ?_
    · rintro i x H2 H3 R hi hS2 ⟨T, v1, v2, rfl, hT, rfl, e1, e2⟩ h
      rw [List.length_map] at hi
      dsimp only at e1 e2
      rw [List.getElem?_map, List.getElem?_eq_getElem hi] at e2
      obtain rfl := Option.some.inj e1
      obtain rfl := Option.some.inj e2
      have hg : (dps l).getD i 0 = (dps l)[i] := by rw [List.getD_eq_getElem?_getD, List.getElem?_eq_getElem hi]; rfl
      have hb := dps_le (List.getElem_mem hi)
      refine ⟨T, _, rfl, SqT.of upd_same, rfl, _, _, rfl, _, _, rfl, rfl, ?_⟩
      have hL3 : SqL K (upd H2 T (.tup [.int (i : Nat), .int (dps l)[i]])) p ((dps l).map V.int) := Same.seq (hS2.trans (Same.upd hT)) (SqL.of hL)
      have hR := h _ (Same.upd (o := .tup [.int (i : Nat), .int (dps l)[i]]) hT)
      rw [hg] at hR
      walk_at "rd"
      refine ⟨p, _, rfl, .inl hL3, ?_⟩
      walk_at "rd"
      rw [List.length_map]
      refine ⟨by omega, by omega, by omega, ?_⟩
      rw [show ((((dps l).length : Nat) : Int) - ((i : Nat) : Int)).toNat = (dps l).length - i by omega]
      exact hR
    · intro H2 hS2 hD2
      have e := rkD_sum (dps l)
      walk_at "rd"
      refine ⟨D, (List.range (dps l).length).map fun i => ((cho (((dps l).getD i 0) - 1).toNat ((dps l).length - i) : Nat) : Int), rfl, SqL.of (by rw [hD2, List.length_map, List.map_map]; rfl), ?_⟩
      rw [e, rkD_dps]
      exact k2 l _ rfl hl (hS.trans hS2)
end
end Cl

/-! ### what the laws of lives and of ranks share: the bag, words, depths -/
namespace Cl
open PySem PySem.Spec PyProof.Rows L2 StX ClX PySem.Builtin PySem.Builtin.Str
/-- a bag of cells stands at a: drawn from, it stays one -/
def SackAt (H : Hp) (a : Addr) : Prop := ∃ (x0 x1 x2 : Int) (cs : List Int), 1 ≤ cs.length ∧ cs.length ≤ 100 ∧ H a = some (.lst (.int x0 :: .int x1 :: .int x2 :: cs.map V.int))
theorem sck0 {x0 : V} {r : List V} : atI (x0 :: r) 0 = some x0 := atI_nat (j := 0) rfl
theorem sck1 {x0 x1 : V} {r : List V} : atI (x0 :: x1 :: r) 1 = some x1 := atI_nat (j := 1) rfl
theorem sck2 {x0 x1 x2 : V} {r : List V} : atI (x0 :: x1 :: x2 :: r) 2 = some x2 := atI_nat (j := 2) rfl
theorem ixn_lt {n j : Nat} {k : Int} (h : j < n) (e : k = (j : Int)) : ixN n k = some j := by
  subst e
  unfold ixN
  rw [if_pos (by omega), if_pos (by omega)]; rfl
theorem SackAt.same {H H' : Hp} {a : Addr} (h : SackAt H a) (x : Same H H') : SackAt H' a := by
  obtain ⟨x0, x1, x2, cs, c1, c2, e⟩ := h
  exact ⟨x0, x1, x2, cs, c1, c2, x _ _ e⟩
theorem SackAt.ne {H : Hp} {a p : Addr} (h : SackAt H a) (hp : H p = none) : p ≠ a := fun z => by
  obtain ⟨x0, x1, x2, cs, c1, c2, e⟩ := h
  rw [z, e] at hp; cases hp
theorem SackAt.put {H : Hp} {a p : Addr} {o : HO} (h : SackAt H a) (n : p ≠ a) : SackAt (upd H p o) a := by
  obtain ⟨x0, x1, x2, cs, c1, c2, e⟩ := h
  exact ⟨x0, x1, x2, cs, c1, c2, by rw [upd_ne n.symm]; exact e⟩
theorem But.none2 {a p : Addr} {H H1 : Hp} (x : But a H H1) (n : p ≠ a) (h : H1 p = Option.none) : H p = Option.none := by
  cases q : H p with
  | none => rfl
  | some o => rw [x p o n q] at h; cases h
/-- a comprehension whose element draws: St holds of the heap all the while -/
theorem lc_drawW {J : It} {n : Nat} {G : Hp → Prop} {Y : Nat → Hp → V → Hp → Prop} (w : Walk J n G Y) {g : TG} {te : TE} {vs : List Nat} {σ : L2.St} {H1 : Hp} {D : Addr} {Qd : Hp → Prop} (St : Hp → Prop) (Pr : Nat → Int → Prop) (hlen : n < 10000) (stU : ∀ H o, St H → St (upd H D o)) (h0 : St H1) (hG : ∀ H, St H → G H)
    (hs : ∀ (i : Nat) (x : V) (H H' : Hp) (R : V → Hp → Prop), i < n → St H → Y i H x H' → (∀ d H2, Pr i d → St H2 → (∀ o, H D = some o → H2 D = some o) → R (.int d) H2) → g x (wipe σ vs) H' fun σ2 H2 => wipe σ2 vs = wipe σ vs ∧ te σ2 H2 R)
    (hd : ∀ (ls : List Int) (H : Hp), H D = some (.lst (ls.map V.int)) → ls.length = n → (∀ i x, ls[i]? = some x → Pr i x) → St H → Qd H) :
    ∃ W : Nat → Nat → Hp → Prop, (∃ m, W 0 m (upd H1 D (.lst []))) ∧ ∀ i m H, W i m H →
      (J.stop i H ∧ Qd H) ∨ (J.go i H ∧ ∃ Nx : Hp → Prop, (∀ H', Nx H' → ∃ m', m' < m ∧ W (i + 1) m' H') ∧ ∀ x H', J.yld i H x H' → g x (wipe σ vs) H' fun σ2 H2 => wipe σ2 vs = wipe σ vs ∧ tYes σ2 H2 fun b H3 =>
        if b = true then te σ2 H3 fun y H4 => ∃ acc, H4 D = some (.lst acc) ∧ acc.length < sizeLine ∧ Nx (upd H4 D (.lst (acc ++ [y]))) else Nx H3) := by
  refine lc_it w (fun i H => ∃ ls : List Int, H D = some (.lst (ls.map V.int)) ∧ ls.length = i ∧ (∀ j x, ls[j]? = some x → Pr j x) ∧ St H) ⟨[], upd_same, rfl, fun j x hx => (by cases hx), stU _ _ h0⟩ (fun i H _ h => by obtain ⟨_, _, _, _, h⟩ := h; exact hG H h) ?_ (fun H ⟨ls, h1, h2, h3, h4⟩ => hd ls H h1 h2 h3 h4)
  rintro i x H H' hi ⟨ls, h1, h2, h3, h4⟩ y
  have key := hs i x H H' (fun y H4 => ∃ acc, H4 D = some (.lst acc) ∧ acc.length < sizeLine ∧ ∃ ls : List Int, upd H4 D (.lst (acc ++ [y])) D = some (.lst (ls.map V.int)) ∧ ls.length = i + 1 ∧ (∀ j x, ls[j]? = some x → Pr j x) ∧ St (upd H4 D (.lst (acc ++ [y])))) hi h4 y
    fun d H2 hP hS hk => ⟨ls.map V.int, hk _ h1, ?_, ls ++ [d], by rw [upd_same, List.map_append]; rfl, by rw [List.length_append, h2]; rfl, fun j x hx => ?_, stU _ _ hS⟩
  · exact key
  · rw [List.length_map]
    have : (10000 : Nat) ≤ sizeLine := by decide
    omega
  · rcases Nat.lt_or_ge j ls.length with q | q
    · rw [List.getElem?_append_left q] at hx
      exact h3 j x hx
    · rw [List.getElem?_append_right q] at hx
      have hj : j = ls.length := by
        rcases Nat.lt_or_ge ls.length j with q2 | q2
        · rw [List.getElem?_eq_none (by simp; omega)] at hx; cases hx
        · omega
      subst hj
      rw [Nat.sub_self] at hx
      cases hx
      rw [h2]; exact hP
theorem int_of_map2 {ns : List Int} {i : Nat} {y : V} (h : (ns.map V.int)[i]? = some y) : ∃ z, ns[i]? = some z ∧ y = V.int z := by
  rw [List.getElem?_map] at h
  obtain ⟨z, hz, rfl⟩ := Option.map_eq_some_iff.mp h
  exact ⟨z, hz, rfl⟩
/-- the word with these gaps behind its ones -/
def gapW (gs : List Int) : List Bool := (gs.map fun g => true :: List.replicate g.toNat false).flatten
theorem gapW_cons (g : Int) (gs : List Int) : gapW (g :: gs) = true :: (List.replicate g.toNat false ++ gapW gs) := by unfold gapW; rw [List.map_cons, List.flatten_cons]; rfl
theorem gapW_wd (gs : List Int) : Wd (gapW gs) := by
  cases gs with
  | nil => exact .inl rfl
  | cons g gs => rw [gapW_cons]; exact .inr ⟨_, rfl⟩
theorem gapW_count : ∀ gs : List Int, (gapW gs).count true = gs.length
  | [] => rfl
  | g :: gs => by
    rw [gapW_cons, List.count_cons_self, List.count_append, gapW_count gs, List.count_replicate, List.length_cons]
    simp
theorem gapW_len : ∀ {gs : List Int}, (∀ g ∈ gs, 0 ≤ g) → ((gapW gs).length : Int) = gs.length + gs.sum
  | [], _ => rfl
  | g :: gs, h => by
    have ih := gapW_len (gs := gs) fun x hx => h x (List.mem_cons_of_mem _ hx)
    have h0 := h g List.mem_cons_self
    rw [gapW_cons, List.length_cons, List.length_append, List.length_replicate, List.length_cons, List.sum_cons]
    omega
theorem joinW : ∀ gs : List Int, Txt.join (tx []) (gs.map fun g => tx (true :: List.replicate g.toNat false)) = tx (gapW gs) := by
  intro gs
  show glued (tx []) _ = _
  rw [StrLaws.glued_eq_join]
  induction gs with
  | nil => rfl
  | cons b r ih =>
    cases r with
    | nil => rw [gapW_cons]; show tx _ = _; rw [show gapW [] = [] by rfl, List.append_nil]
    | cons c r =>
      show tx (true :: List.replicate b.toNat false) ++ tx [] ++ Str.join (tx []) ((c :: r).map fun g => tx (true :: List.replicate g.toNat false)) = _
      rw [ih, tx_app, tx_app, gapW_cons b, List.append_nil]; rfl
theorem sumW : ∀ gs : List Int, ((gs.map fun g => tx (true :: List.replicate g.toNat false)).map (·.length)).sum = (gapW gs).length
  | [] => rfl
  | g :: gs => by
    rw [List.map_cons, List.map_cons, List.sum_cons, sumW gs, gapW_cons, tx_len, List.length_cons, List.length_cons, List.length_append]
    omega
theorem sum_set {gs : List Int} {v : Int} : ∀ {i : Nat} {x : Int}, gs[i]? = some x → (gs.set i v).sum = gs.sum - x + v := by
  induction gs with
  | nil => intro i x h; cases h
  | cons g gs ih =>
    intro i x h
    cases i with
    | zero =>
      have : g = x := by simpa using h
      subst this
      show (v :: gs).sum = _
      rw [List.sum_cons, List.sum_cons]; omega
    | succ i =>
      have h : gs[i]? = some x := by simpa using h
      show (g :: gs.set i v).sum = _
      rw [List.sum_cons, List.sum_cons, ih h]; omega
theorem sum_nn : ∀ {gs : List Int}, (∀ x ∈ gs, 0 ≤ x) → 0 ≤ gs.sum
  | [], _ => Int.le_refl _
  | g :: gs, h => by
    have := sum_nn (gs := gs) fun x hx => h x (List.mem_cons_of_mem _ hx)
    have := h g List.mem_cons_self
    rw [List.sum_cons]; omega
section
variable {P : Program} {w : World} {K : PySem.W.Frag} {mg : Str → Option Value} {base : Heap} {C : Addr}
def spTakeS : Sp := fun vs H Q _ => ∃ (a : Addr) (z : Int), vs = [.ref a, .int z] ∧ SackAt H a ∧ 1 ≤ z ∧ z ≤ 100000000000000000000000000000000000000000000000000000000000000 ∧ ∀ (d : Int) (H' : Hp), 0 ≤ d → d < z → SackAt H' a → But a H H' → Q (.int d) H'
theorem scLawTake : FnScope ["bag", "size", "cells", "cell", "mixed", "drawn"] ["bag", "size"] (defScope sLawTake) := ⟨rfl, rfl, rfl, by decide +kernel, rfl, by decide +kernel, by decide +kernel⟩
theorem ok__law_take {f : Addr} {fd : FuncData} (F : Fun K "_law_take" "_law_take" sLawTake f fd) (B : Bi mg) : FnOk P w K mg base CX0 1 f fd ["bag", "size"] spTakeS := by
  refine F.ok scLawTake (fun vs H Q E h => ?_) (fun cdv A outer s H vs Q E hr h => ?_)
  · obtain ⟨a, z, rfl, _⟩ := h
    rfl
  · obtain ⟨a, z, rfl, ⟨x0, x1, x2, cs, c1, c2, ha⟩, z1, z2, k⟩ := h
    refine ⟨_, (pss_cons (ps_asg (pe_op op_add (pe_ix ix_list (pv 0) pe_int (fun _ _ => rfl)) pe_int) (pg_sub (pv 0) pe_int set_list))
  (C8.pss_cut (ps_if (pt_cmpR op_eq (pe_ix ix_list (pv 0) pe_int (fun _ _ => rfl)) pe_int (nomark _)) (pss_cons (ps_set (i := 2) scLawTake.nd rfl (Or.inl rfl) (pe_op op_sub (pe_callB call_len_seq (by rfl) B.len PySem.boot_len (pa_cons (pv 0) pa_nil)) pe_int))
  (pss_cons (ps_set (i := 3) scLawTake.nd rfl (Or.inl rfl) (pe_ix ix_list (pv 0) (pe_op op_add pe_int (pe_op op_mod (pe_callTy call_int1 (by rfl) B.intT (by decide +kernel) (pa_cons (pe_ix ix_list (pv 0) pe_int (fun _ _ => rfl)) pa_nil)) (pv 2))) (fun _ _ => rfl)))
  (pss_cons (ps_asg (pe_op op_add (pe_ix ix_list (pv 0) pe_int (fun _ _ => rfl)) pe_int) (pg_sub (pv 0) pe_int set_list))
  (pss_cons (ps_if (PW.pt (pw_or (pt_cmpR op_gt (pe_ix ix_list (pv 0) pe_int (fun _ _ => rfl)) (pv 2) (nomark _)) (pw_or1 (pt_cmpR op_lt (pe_callB call_abs (by rfl) B.abs (by decide +kernel) (pa_cons (pv 3) pa_nil)) (pe_op op_pow pe_int pe_int) (nomark _))))) (pss_cons (ps_set (i := 4) scLawTake.nd rfl (Or.inl rfl) (pe_op op_mod (pe_callTy call_int1 (by rfl) B.intT (by decide +kernel) (pa_cons (pe_op op_add (pe_op op_add (pe_op op_mul (pv 3) pe_int) (pe_op op_mul (pe_ix ix_list (pv 0) pe_int (fun _ _ => rfl)) pe_int)) pe_int) pa_nil)) pe_int))
  (pss_cons (ps_set (i := 4) scLawTake.nd rfl (Or.inl rfl) (pe_op op_mod (pe_callTy call_int1 (by rfl) B.intT (by decide +kernel) (pa_cons (pe_op op_add (pe_op op_add (pe_op op_mul (pv 4) pe_int) (pe_op op_mul (pe_ix ix_list (pv 0) pe_int (fun _ _ => rfl)) pe_int)) pe_int) pa_nil)) pe_int))
  (pss_one (ps_ret (pe_op op_mod (pe_op op_fdiv (pe_callTy call_int1 (by rfl) B.intT (by decide +kernel) (pa_cons (pv 4) pa_nil)) pe_int) (pv 1))))))
  pss_nil)
  (pss_one (ps_asg (pe_callB call_abs (by rfl) B.abs (by decide +kernel) (pa_cons (pv 3) pa_nil)) (pg_sub (pv 0) pe_int set_list)))))))
  pss_nil)
  (pss_cons (ps_set (i := 5) scLawTake.nd rfl (Or.inl rfl) (pe_op op_mod (pe_callTy call_int1 (by rfl) B.intT (by decide +kernel) (pa_cons (pe_ix ix_list (pv 0) pe_int (fun _ _ => rfl)) pa_nil)) (pv 1)))
  (pss_cons (ps_asg (pe_op op_fdivW (pe_callTy call_int1 (by rfl) B.intT (by decide +kernel) (pa_cons (pe_ix ix_list (pv 0) pe_int (fun _ _ => rfl)) pa_nil)) (pv 1)) (pg_sub (pv 0) pe_int set_list))
  (pss_one (ps_ret (pv 5))))))), ?_⟩
    refine ⟨_, rfl, a, _, _, _, rfl, rfl, SqL.of ha, sck0, _, _, rfl, rfl, _, rfl, a, _, _, 0, rfl, rfl, ha, ixn_lt (by simp) rfl, ?_⟩
    have ha1 : upd H a (.lst (.int (x0 + 1) :: .int x1 :: .int x2 :: cs.map V.int)) a = some (.lst (.int (x0 + 1) :: .int x1 :: .int x2 :: cs.map V.int)) := upd_same
    have b1 : But a H (upd H a (.lst (.int (x0 + 1) :: .int x1 :: .int x2 :: cs.map V.int))) := But.upd
    show C8.tCut _ _ _ _ (upd H a (.lst (.int (x0 + 1) :: .int x1 :: .int x2 :: cs.map V.int)))
    generalize upd H a (.lst (.int (x0 + 1) :: .int x1 :: .int x2 :: cs.map V.int)) = H1 at *
    generalize x0 + 1 = y0 at *
    refine ⟨fun σ H' => ∃ (v2 v3 v4 : Option V), σ = [some (.ref a), some (.int z), v2, v3, v4, none] ∧ (∃ x1 x2, H' a = some (.lst (.int y0 :: .int x1 :: .int x2 :: cs.map V.int))) ∧ But a H H', ?_, ?_⟩
    · refine ⟨_, rfl, a, _, _, _, rfl, rfl, SqL.of ha1, sck1, ?_⟩
      walk_at "rd"
      refine iti (fun e => ?_) (fun e => ?_)
      · have el : ((V.int y0 :: V.int x1 :: V.int x2 :: cs.map V.int).length : Int) = (cs.length : Int) + 3 := by simp only [List.length_cons, List.length_map]; omega
        refine ⟨_, rfl, a, _, rfl, .inl (SqL.of ha1), ?_⟩
        rw [el]
        walk_at "rd"
        have ec : (cs.length : Int) + 3 - 3 = cs.length := by omega
        have r0 := Int.emod_nonneg x2 (show (cs.length : Int) + 3 - 3 ≠ 0 by omega)
        have r1 := Int.emod_lt_of_pos x2 (show (0 : Int) < (cs.length : Int) + 3 - 3 by omega)
        obtain ⟨j, ej⟩ : ∃ j : Nat, x2 % ((cs.length : Int) + 3 - 3) = (j : Nat) := ⟨_, (Int.toNat_of_nonneg r0).symm⟩
        have hj : j < cs.length := by omega
        have hat : (V.int y0 :: V.int x1 :: V.int x2 :: cs.map V.int)[3 + j]? = some (V.int cs[j]) := by
          rw [show 3 + j = j + 1 + 1 + 1 by omega, List.getElem?_cons_succ, List.getElem?_cons_succ, List.getElem?_cons_succ, List.getElem?_map, List.getElem?_eq_getElem hj]; rfl
        refine ⟨a, _, _, _, rfl, rfl, SqL.of ha1, sck2, .inl ⟨_, rfl, _, rfl, _, _, rfl, rfl, (by show (0 : Int) < (cs.length : Int) + 3 - 3; omega), ?_⟩⟩
        refine ⟨_, _, rfl, rfl, a, _, _, _, rfl, rfl, SqL.of ha1, by rw [ej, show (3 : Int) + ((j : Nat) : Int) = ((3 + j : Nat) : Int) by omega]; exact atI_nat hat, ?_⟩
        generalize cs[j] = cell
        walk_at "rd"
        refine ⟨a, _, _, _, rfl, rfl, SqL.of ha1, sck2, _, _, rfl, rfl, _, rfl, a, _, _, 2, rfl, rfl, ha1, ixn_lt (by simp) rfl, ?_⟩
        have ha3 : upd H1 a (.lst (.int y0 :: .int x1 :: .int (x2 + 1) :: cs.map V.int)) a = some (.lst (.int y0 :: .int x1 :: .int (x2 + 1) :: cs.map V.int)) := upd_same
        have b3 : But a H (upd H1 a (.lst (.int y0 :: .int x1 :: .int (x2 + 1) :: cs.map V.int))) := b1.trans But.upd
        show tSeq _ _ _ _ (upd H1 a (.lst (.int y0 :: .int x1 :: .int (x2 + 1) :: cs.map V.int)))
        generalize upd H1 a (.lst (.int y0 :: .int x1 :: .int (x2 + 1) :: cs.map V.int)) = H3 at *
        generalize x2 + 1 = y2 at *
        have drawn : ∀ G : Hp, G = H3 → ∀ m : Int, Q (.int (m / 11 % z)) G := fun G e m => by
          rw [e]
          exact k _ _ (Int.emod_nonneg _ (by omega)) (Int.emod_lt_of_pos _ (by omega)) ⟨_, _, _, cs, c1, c2, ha3⟩ b3
        walk_at "rd"
        refine ⟨a, _, _, _, rfl, rfl, SqL.of ha3, sck2, ?_⟩
        walk_at "rd"
        refine itd (fun e1 => ?_) (fun e1 => ?_)
        rotate_left
        · walk_at "rd"
          refine itd (fun e2 => ?_) (fun e2 => ?_)
          rotate_left
          · walk_at "rd"
            refine ⟨a, _, _, 1, rfl, rfl, ha3, ixn_lt (by simp) rfl, ?_⟩
            exact ⟨_, _, _, rfl, ⟨_, _, upd_same⟩, b3.trans But.upd⟩
          · walk_at "rd"
            refine ⟨a, _, _, _, rfl, rfl, SqL.of ha3, sck0, ?_⟩
            walk_at "rd"
            refine ⟨a, _, _, _, rfl, rfl, SqL.of ha3, sck0, ?_⟩
            walk_at "rd"
            exact ⟨(by show (0 : Int) < z; omega), drawn _ rfl _⟩
        · refine iteT ?_
          walk_at "rd"
          refine ⟨a, _, _, _, rfl, rfl, SqL.of ha3, sck0, ?_⟩
          walk_at "rd"
          refine ⟨a, _, _, _, rfl, rfl, SqL.of ha3, sck0, ?_⟩
          walk_at "rd"
          exact ⟨(by show (0 : Int) < z; omega), drawn _ rfl _⟩
      · exact ⟨_, _, _, rfl, ⟨_, _, ha1⟩, b1⟩
    · rintro σ H2 ⟨v2, v3, v4, rfl, ⟨w1, w2, ha2⟩, b2⟩
      refine ⟨_, rfl, a, _, _, _, rfl, rfl, SqL.of ha2, sck1, .inl ⟨_, rfl, _, rfl, _, _, rfl, rfl, (by show (0 : Int) < z; omega), ?_⟩⟩
      refine ⟨_, rfl, a, _, _, _, rfl, rfl, SqL.of ha2, sck1, .inl ⟨_, rfl, _, rfl, _, _, rfl, rfl, divB (by omega) z2, ?_⟩⟩
      refine ⟨_, rfl, a, _, _, 1, rfl, rfl, ha2, ixn_lt (by simp) rfl, _, rfl, ?_⟩
      exact k _ _ (Int.emod_nonneg _ (by omega)) (Int.emod_lt_of_pos _ (by omega)) ⟨_, _, _, cs, c1, c2, upd_same⟩ (b2.trans But.upd)
def spBagS (K : PySem.W.Frag) : Sp := fun vs H Q _ => ∃ (s : Addr) (ns : List Int), vs = [.ref s] ∧ SqL K H s (ns.map V.int) ∧ ns.length ≤ 63 ∧ ∀ (p : Addr) (H' : Hp), H p = none → SackAt H' p → Same H H' → Q (.ref p) H'
theorem scLawBag : FnScope ["script", "cells", "cell"] ["script"] (defScope sLawBag) := ⟨rfl, rfl, rfl, by decide +kernel, rfl, by decide +kernel, by decide +kernel⟩
theorem ok__law_bag {f : Addr} {fd : FuncData} (F : Fun K "_law_bag" "_law_bag" sLawBag f fd) (B : Bi mg) : FnOk P w K mg base CX0 1 f fd ["script"] (spBagS K) := by
  refine F.ok scLawBag (fun vs H Q E h => ?_) (fun cdv A outer s H vs Q E hr h => ?_)
  · obtain ⟨a, ns, rfl, _⟩ := h
    rfl
  · obtain ⟨sa, ns, rfl, hs, hn, k⟩ := h
    refine ⟨_, (pss_cons (ps_setLc (i := 1) (own := [("cell", 2)]) (g := gName 2) rfl scLawBag.nd rfl rfl (sw_true rfl rfl rfl (by decide +kernel)) (pi_list (pe_slice sl_list (pv 0) po_none (po_some pe_int))) (blkOk_by (own := [("cell", 2)]) (N := ["script", "cells", "cell"]) (sc := defScope sLawBag) (by decide +kernel)) (fun _ _ _ _ _ => (pg_name (i := 2) scLawBag.nd rfl (Or.inl rfl))) (fun _ _ _ _ _ => pts_nil) (fun _ _ _ _ _ => (pe_callTy call_int1 (by rfl) B.intT (by decide +kernel) (pa_cons (pv 2) pa_nil))))
  (pss_one (ps_ret (pe_op op_cat (pe_op op_cat (pe_lst (pa_cons pe_int (pa_cons pe_int (pa_cons pe_int pa_nil)))) (pv 1)) (pe_lst (pa_cons (pe_op op_add pe_int (pe_op op_mod (pe_callTy call_int1 (by rfl) B.intT (by decide +kernel) (pa_cons (pe_callB (cr_sum rfl) (by rfl) B.sum (by decide +kernel) (pa_cons (pv 1) pa_nil)) pa_nil)) pe_int)) pa_nil)))))), ?_⟩
    walk_at "rd"
    refine ⟨sa, _, rfl, hs, fun u hu => ?_⟩
    rw [show cutV (ns.map V.int) none (some (63 : Int)) = (ns.take 63).map V.int from (tcut_to (f := 63)).trans (List.map_take ..).symm]
    rw [List.take_of_length_le hn]
    refine ⟨u, rfl, ⟨_, SqL.of upd_same⟩, fun D hD => ?_⟩
    refine lc_growL (fun x => x) (SqL.of upd_same) hD (by rw [List.length_map]; omega) ?_ ?_
    · intro x H2 R hx hS2 h
      obtain ⟨e, he, rfl⟩ := List.mem_map.mp hx
      exact ⟨rfl, _, rfl, .inl ⟨_, rfl, h _ (Same.refl _)⟩⟩
    · intro H7 hS7 hD7
      rw [List.map_id'] at hD7
      have S7 := (Same.upd (o := .lst (ns.map V.int)) hu).trans hS7
      walk_at "rd"
      refine ⟨by show 3 ≤ sizeLine; decide, fun z hz => ?_⟩
      have hD8 := Same.upd (o := .lst [.int 0, .int 0, .int 0]) hz _ _ hD7
      have big : (1000 : Nat) ≤ sizeLine := by decide
      walk_at "rd"
      refine ⟨z, D, _, _, rfl, rfl, upd_same, hD8, by rw [List.length_map]; show 3 + _ ≤ _; omega, fun g hg => ?_⟩
      have hD9 := Same.upd (o := .lst ([V.int 0, V.int 0, V.int 0] ++ ns.map V.int)) hg _ _ hD8
      have hg9 := upd_same (H := upd H7 z (.lst [.int 0, .int 0, .int 0])) (a := g) (o := .lst ([V.int 0, V.int 0, V.int 0] ++ ns.map V.int))
      walk_at "rd"
      refine ⟨D, ns, rfl, SqL.of hD9, ?_⟩
      walk_at "rd"
      refine ⟨by show 1 ≤ sizeLine; decide, fun v hv => ?_⟩
      refine ⟨g, v, _, _, rfl, rfl, Same.upd hv _ _ hg9, upd_same, by rw [List.length_append, List.length_map]; show (3 + ns.length) + 1 ≤ _; omega, fun q hq => ?_⟩
      have S9 : Same H _ := ((S7.trans (Same.upd (o := .lst [.int 0, .int 0, .int 0]) hz)).trans (Same.upd (o := .lst ([V.int 0, V.int 0, V.int 0] ++ ns.map V.int)) hg)).trans (Same.upd (o := .lst [.int (1158 + ns.sum % 1000003)]) hv)
      refine k q _ (S9.free hq) ⟨0, 0, 0, ns ++ [1158 + ns.sum % 1000003], by simp, by simp; omega, ?_⟩ (S9.trans (Same.upd hq))
      rw [upd_same, List.map_append]; rfl
def spWordS : Sp := fun vs H Q _ => ∃ (a : Addr) (p n : Int), vs = [.ref a, .int p, .int n] ∧ SackAt H a ∧ 0 ≤ n ∧ n ≤ p ∧ p ≤ 64 ∧ ∀ (l : List Bool) (H' : Hp), Wd l → (l.length : Int) ≤ p → ((l.count true : Nat) : Int) ≤ n → SackAt H' a → But a H H' → Q (.str (tx l)) H'
theorem scLawWord : FnScope ["bag", "places", "limit", "ones", "spare", "first", "gaps", "k", "given", "gap"] ["bag", "places", "limit"] (defScope sLawWord) := ⟨rfl, rfl, rfl, by decide +kernel, rfl, by decide +kernel, by decide +kernel⟩
theorem ok__law_word {f : Addr} {fd : FuncData} (F : Fun K "_law_word" "_law_word" sLawWord f fd) (B : Bi mg) (D__law_take : Dn P w K mg base "_law_take" 1 ["bag", "size"] spTakeS) : FnOk P w K mg base CX0 2 f fd ["bag", "places", "limit"] spWordS := by
  refine F.ok scLawWord (fun vs H Q E h => ?_) (fun cdv A outer s H vs Q E hr h => ?_)
  · obtain ⟨a, p, n, rfl, _⟩ := h
    rfl
  · obtain ⟨a, p, n, rfl, hB, n0, np, p64, k⟩ := h
    refine ⟨_, (pss_cons (ps_set (i := 3) scLawWord.nd rfl (Or.inl rfl) (pe_dn D__law_take (hr.mono (by decide)) (by rfl) pass0 (pa_cons (pv 0) (pa_cons (pe_op op_add (pv 2) pe_int) pa_nil))))
  (C8.pss_cut (ps_if (pt_cmpR op_eq (pe_dn D__law_take (hr.mono (by decide)) (by rfl) pass0 (pa_cons (pv 0) (pa_cons pe_int pa_nil))) pe_int (nomark _)) (pss_one (ps_set (i := 3) scLawWord.nd rfl (Or.inl rfl) (pv 2)))
  pss_nil)
  (pss_cons (ps_set (i := 4) scLawWord.nd rfl (Or.inl rfl) (pe_op op_sub (pv 1) (pv 3)))
  (C8.pss_cut (ps_if (pt_cmpR op_gt (pe_dn D__law_take (hr.mono (by decide)) (by rfl) pass0 (pa_cons (pv 0) (pa_cons pe_int pa_nil))) pe_int (nomark _)) (pss_one (ps_set (i := 4) scLawWord.nd rfl (Or.inl rfl) (pe_dn D__law_take (hr.mono (by decide)) (by rfl) pass0 (pa_cons (pv 0) (pa_cons (pe_op op_add (pv 4) pe_int) pa_nil)))))
  pss_nil)
  (pss_cons (ps_if (pt_cmpR op_eq (pv 3) pe_int (nomark _)) (pss_one (ps_ret pe_str))
  pss_nil)
  (pss_cons (ps_set (i := 5) scLawWord.nd rfl (Or.inl rfl) (pe_dn D__law_take (hr.mono (by decide)) (by rfl) pass0 (pa_cons (pv 0) (pa_cons (pv 3) pa_nil))))
  (pss_cons (ps_set (i := 6) scLawWord.nd rfl (Or.inl rfl) (pe_op op_rep (pe_lst (pa_cons pe_int pa_nil)) (pv 3)))
  (pss_cons (ps_for PassesOwn.never rfl (pi_range1 rfl B.range (pa_cons (pv 3) pa_nil)) (pg_name (i := 7) scLawWord.nd rfl (Or.inl rfl))
  (pss_cons (ps_set (i := 8) scLawWord.nd rfl (Or.inl rfl) (pe_dn D__law_take (hr.mono (by decide)) (by rfl) pass0 (pa_cons (pv 0) (pa_cons (pe_op op_add (pv 4) pe_int) pa_nil))))
  (pss_cons (ps_asg (pv 8) (pg_sub (pv 6) (pe_op op_mod (pe_callTy call_int1 (by rfl) B.intT (by decide +kernel) (pa_cons (pe_op op_add (pv 5) (pv 7)) pa_nil)) (pv 3)) set_list))
  (pss_one (ps_set (i := 4) scLawWord.nd rfl (Or.inl rfl) (pe_op op_sub (pv 4) (pv 8)))))))
  (C8.pss_cut (ps_if (pt_cmpR op_eq (pe_dn D__law_take (hr.mono (by decide)) (by rfl) pass0 (pa_cons (pv 0) (pa_cons pe_int pa_nil))) pe_int (nomark _)) (pss_one (ps_asg (pe_op op_add (pe_ix ix_list (pv 6) (pv 5) (fun _ _ => rfl)) (pv 4)) (pg_sub (pv 6) (pv 5) set_list)))
  pss_nil)
  (pss_one (ps_ret (pe_join pe_str (pe_lc (own := [("gap", 9)]) (g := gName 9) rfl scLawWord.nd (pi_list (pv 6)) (blkOk_by (own := [("gap", 9)]) (N := ["bag", "places", "limit", "ones", "spare", "first", "gaps", "k", "given", "gap"]) (sc := defScope sLawWord) (by decide +kernel)) (fun _ _ _ _ _ => (pg_name (i := 9) scLawWord.nd rfl (Or.inl rfl))) (fun _ _ _ _ _ => pts_nil) (fun _ _ _ _ _ => (pe_op op_add_str pe_str (pe_op op_mul_str pe_str (pv 9))))))))))))))))), ?_⟩
    walk_at "rd"
    refine ⟨hB, by omega, by omega, fun d H1 d0 d1 hB1 b1 => ?_⟩
    refine ⟨fun σ H' => ∃ o : Int, σ = [some (.ref a), some (.int p), some (.int n), some (.int o), none, none, none, none, none, none] ∧ 0 ≤ o ∧ o ≤ n ∧ SackAt H' a ∧ But a H H', ?_, ?_⟩
    · walk_at "rd"
      refine ⟨hB1, by decide, by decide, fun g H2 g0 g1 hB2 b2 => ?_⟩
      walk_at "rd"
      refine iti (fun _ => ?_) (fun _ => ?_)
      · walk_at "rd"
        exact ⟨n0, Int.le_refl _, hB2, b1.trans b2⟩
      · exact ⟨d, rfl, d0, by omega, hB2, b1.trans b2⟩
    rintro σ H3 ⟨o, rfl, o0, o1, hB3, b3⟩
    walk_at "rd"
    refine ⟨fun σ H' => ∃ sp : Int, σ = [some (.ref a), some (.int p), some (.int n), some (.int o), some (.int sp), none, none, none, none, none] ∧ 0 ≤ sp ∧ sp ≤ p - o ∧ SackAt H' a ∧ But a H H', ?_, ?_⟩
    · walk_at "rd"
      refine ⟨hB3, by decide, by decide, fun g H4 g0 g1 hB4 b4 => ?_⟩
      walk_at "rd"
      refine itd (fun _ => ?_) (fun _ => ?_)
      · walk_at "rd"
        refine ⟨hB4, by omega, by omega, fun g2 H5 g20 g21 hB5 b5 => ?_⟩
        exact ⟨g2, rfl, g20, by omega, hB5, (b3.trans b4).trans b5⟩
      · exact ⟨p - o, rfl, by omega, Int.le_refl _, hB4, b3.trans b4⟩
    rintro σ H6 ⟨sp, rfl, sp0, sp1, hB6, b6⟩
    walk_at "rd"
    refine iti (fun e => ?_) (fun e => ?_)
    · walk_at "rd"
      have := k [] H6 (.inl rfl) (by show (0 : Int) ≤ p; omega) n0 hB6 b6
      rw [← te] at this
      exact this
    refine ⟨_, rfl, _, rfl, a, _, rfl, hB6, by omega, by omega, fun fi H7 fi0 fi1 hB7 b7 => ?_⟩
    obtain ⟨m, rfl⟩ : ∃ m : Nat, o = (m : Nat) := ⟨o.toNat, (Int.toNat_of_nonneg o0).symm⟩
    have m1 : 1 ≤ m := by omega
    walk_at "rd"
    refine ⟨by show 1 ≤ sizeLine; decide, fun z hz => ?_⟩
    have za := hB7.ne hz
    walk_at "rd"
    refine ⟨z, _, _, rfl, rfl, upd_same, by omega, by omega, ?_, fun G hG => ?_⟩
    · have : (1000 : Nat) ≤ sizeLine := by decide
      rw [Int.toNat_natCast]
      show 1 * m ≤ _
      omega
    have Ga : G ≠ a := (hB7.put za).ne hG
    rw [show (List.replicate ((m : Nat) : Int).toNat [V.int 0]).flatten = (List.replicate m (0 : Int)).map V.int by rw [Int.toNat_natCast]; simp [List.map_replicate]]
    have hB8 := (hB7.put (o := .lst [.int 0]) za).put (o := .lst ((List.replicate m (0 : Int)).map V.int)) Ga
    have b8 : But a H (upd (upd H7 z (.lst [.int 0])) G (.lst ((List.replicate m (0 : Int)).map V.int))) := ((b6.trans b7).trans (But.of (Same.upd hz))).trans (But.of (Same.upd hG))
    have hG8 := upd_same (H := upd H7 z (.lst [.int 0])) (a := G) (o := .lst ((List.replicate m (0 : Int)).map V.int))
    have HG : H G = none := But.none2 (((b6.trans b7).trans (But.of (Same.upd (o := .lst [.int 0]) hz)))) Ga hG
    generalize upd (upd H7 z (.lst [.int 0])) G (.lst ((List.replicate m (0 : Int)).map V.int)) = H8 at *
    walk_at "rd"
    refine ⟨by omega, by omega, ?_⟩
    refine for_range (fun i σ H' => ∃ (gs : List Int) (s2 : Int) (x7 x8 : Option V), σ = [some (.ref a), some (.int p), some (.int n), some (.int (m : Nat)), some (.int s2), some (.int fi), some (.ref G), x7, x8, none] ∧ H' G = some (.lst (gs.map V.int)) ∧ gs.length = m ∧ (∀ x ∈ gs, 0 ≤ x) ∧ 0 ≤ s2 ∧ gs.sum + s2 ≤ p - m ∧ SackAt H' a ∧ But a H H')
      ⟨List.replicate m 0, sp, _, _, rfl, hG8, List.length_replicate, fun x hx => by rw [(List.mem_replicate.mp hx).2]; exact Int.le_refl _, sp0, by simp; omega, hB8, b8⟩ ?_ ?_
    · rintro i σ G1 hi ⟨gs, s2, x7, x8, rfl, gL, gl, gn, s20, gsum, gB, gb⟩
      have gs0 := sum_nn gn
      walk_at "rd"
      refine ⟨gB, by omega, by omega, fun v G2 v0 v1 gB2 gb2 => ?_⟩
      have gL2 := gb2 _ _ Ga gL
      have m0 := Int.emod_nonneg (fi + (0 + ((i : Nat) : Int))) (show ((m : Nat) : Int) ≠ 0 by omega)
      have mlt := Int.emod_lt_of_pos (fi + (0 + ((i : Nat) : Int))) (show (0 : Int) < ((m : Nat) : Int) by omega)
      obtain ⟨j, ej⟩ : ∃ j : Nat, (fi + (0 + ((i : Nat) : Int))) % ((m : Nat) : Int) = (j : Nat) := ⟨_, (Int.toNat_of_nonneg m0).symm⟩
      have hj : j < gs.length := by omega
      have hat : gs[j]? = some gs[j] := List.getElem?_eq_getElem hj
      have h0 := gn _ (List.getElem_mem hj)
      walk_at "rd"
      refine ⟨(by show (0 : Int) < ((m : Nat) : Int); omega), ?_⟩
      refine ⟨G, _, _, j, rfl, rfl, gL2, ixn_lt (by rw [List.length_map]; exact hj) ej, ?_⟩
      walk_at "rd"
      refine ⟨gs.set j v, _, _, _, rfl, by rw [upd_same, List.map_set], by rw [List.length_set]; exact gl, fun x hx => ?_, by omega, by rw [sum_set hat]; omega, gB2.put Ga, ?_⟩
      · rcases List.mem_or_eq_of_mem_set hx with h | h
        · exact gn x h
        · subst h; exact v0
      · intro b u nb e
        rw [upd_ne (ne_of_none e HG)]
        exact (gb.trans gb2) b u nb e
    · rintro σ G1 ⟨gs, s2, x7, x8, rfl, gL, gl, gn, s20, gsum, gB, gb⟩
      refine ⟨fun σ H' => ∃ (gs : List Int), σ = [some (.ref a), some (.int p), some (.int n), some (.int (m : Nat)), some (.int s2), some (.int fi), some (.ref G), x7, x8, none] ∧ H' G = some (.lst (gs.map V.int)) ∧ gs.length = m ∧ (∀ x ∈ gs, 0 ≤ x) ∧ gs.sum ≤ p - m ∧ SackAt H' a ∧ But a H H', ?_, ?_⟩
      · walk_at "rd"
        refine ⟨gB, by decide, by decide, fun v G2 v0 v1 gB2 gb2 => ?_⟩
        have gL2 := gb2 _ _ Ga gL
        walk_at "rd"
        refine iti (fun _ => ?_) (fun _ => ?_)
        · obtain ⟨j, rfl⟩ : ∃ j : Nat, fi = (j : Nat) := ⟨_, (Int.toNat_of_nonneg fi0).symm⟩
          have hj : j < gs.length := by omega
          have hat : gs[j]? = some gs[j] := List.getElem?_eq_getElem hj
          have h0 := gn _ (List.getElem_mem hj)
          walk_at "rd"
          refine ⟨G, _, _, _, rfl, rfl, SqL.of gL2, atI_nat (by rw [List.getElem?_map, hat]; rfl), ?_⟩
          walk_at "rd"
          refine ⟨G, _, _, j, rfl, rfl, gL2, ixn_lt (by rw [List.length_map]; exact hj) rfl, ?_⟩
          refine ⟨gs.set j (gs[j] + s2), rfl, by rw [upd_same, List.map_set], by rw [List.length_set]; exact gl, fun x hx => ?_, by rw [sum_set hat]; omega, gB2.put Ga, ?_⟩
          · rcases List.mem_or_eq_of_mem_set hx with h | h
            · exact gn x h
            · subst h; omega
          · intro b u nb e
            rw [upd_ne (ne_of_none e HG)]
            exact (gb.trans gb2) b u nb e
        · exact ⟨gs, rfl, gL2, gl, gn, by omega, gB2, gb.trans gb2⟩
      · rintro σ G3 ⟨gs, rfl, gL, gl, gn, gsum, gB, gb⟩
        have gle : ∀ x ∈ gs, x ≤ 64 := fun x hx => by
          have : x ≤ gs.sum := by
            clear gL gl gsum gB gb
            induction gs with
            | nil => cases hx
            | cons g gs ih =>
              have h0 := gn g List.mem_cons_self
              have hr : ∀ y ∈ gs, 0 ≤ y := fun y hy => gn y (List.mem_cons_of_mem _ hy)
              have hs := (sum_nn hr)
              rw [List.sum_cons]
              rcases List.mem_cons.mp hx with h | h
              · rw [h]; omega
              · have := ih hr h; omega
          omega
        have gwl := gapW_len gn
        refine ⟨⟨_, rfl⟩, _, rfl, G, rfl, ⟨_, SqL.of gL⟩, fun D hD => ?_⟩
        refine lc_growL (fun x => match x with | .int g => .str (tx (true :: List.replicate g.toNat false)) | v => v) (SqL.of gL) hD (by rw [List.length_map]; omega) ?_ ?_
        · intro x G4 R hx gS4 h
          obtain ⟨g, hg, rfl⟩ := List.mem_map.mp hx
          have hh := h _ (Same.refl _)
          have g1 := gn g hg
          have g2 := gle g hg
          refine ⟨rfl, ?_⟩
          walk_at "rd"
          refine ⟨by rw [t0]; exact tx_mulOk false (by omega) (by omega), ?_⟩
          refine ⟨_, _, rfl, rfl, ?_, ?_⟩
          · rw [t1, t0, tx_mul, tx_len, tx_len, List.length_replicate]
            have : (1000 : Nat) ≤ sizeLine := by decide
            show 1 + _ ≤ _
            omega
          · rw [t1, t0, tx_mul, tx_app]
            exact hh
        · intro G7 gS7 gD7
          refine ⟨_, D, gs.map fun g => tx (true :: List.replicate g.toNat false), rfl, rfl, .inl (SqL.of ?_), ?_, ?_⟩
          · rw [gD7, List.map_map, List.map_map]; rfl
          · rw [sumW, List.length_map, te]
            have : (1000 : Nat) ≤ sizeLine := by decide
            show _ + _ * 0 ≤ _
            omega
          · rw [te, joinW]
            exact k _ G7 (gapW_wd gs) (by omega) (by rw [gapW_count]; omega) (gB.same gS7) (gb.trans (But.of gS7))
def spDepthsL : Sp := fun vs H Q _ => ∃ l : List Bool, vs = [.str (tx l)] ∧ l.length ≤ 9000 ∧ ∀ (p : Addr) (H' : Hp), H p = none → Same H H' → H' p = some (.lst ((dps l).map V.int)) → Q (.ref p) H'
theorem scLawDepths : FnScope ["word", "k"] ["word"] (defScope sLawDepths) := ⟨rfl, rfl, rfl, by decide +kernel, rfl, by decide +kernel, by decide +kernel⟩
theorem ok__law_depths {f : Addr} {fd : FuncData} (F : Fun K "_law_depths" "_law_depths" sLawDepths f fd) (B : Bi mg) : FnOk P w K mg base CX0 1 f fd ["word"] spDepthsL := by
  refine F.ok scLawDepths (fun vs H Q E h => ?_) (fun cdv A outer s H vs Q E hr h => ?_)
  · obtain ⟨l, rfl, _⟩ := h
    rfl
  · obtain ⟨l, rfl, hl, k⟩ := h
    refine ⟨_, (pss_one (ps_ret (pe_lc (own := [("k", 1)]) (g := gName 1) rfl scLawDepths.nd (pi_range1 rfl B.range (pa_cons (pe_callB call_len_str (by rfl) B.len PySem.boot_len (pa_cons (pv 0) pa_nil)) pa_nil)) (blkOk_by (own := [("k", 1)]) (N := ["word", "k"]) (sc := defScope sLawDepths) (by decide +kernel)) (fun _ _ _ _ _ => (pg_name (i := 1) scLawDepths.nd rfl (Or.inl rfl))) (fun _ _ _ _ _ => (pts_one (pt_cmpR op_eq (pe_ix ix_str (pv 0) (pv 1) (fun _ _ => rfl)) pe_str (nomark _)))) (fun _ _ _ _ _ => (pe_op op_sub (pe_callB call_len_str (by rfl) B.len PySem.boot_len (pa_cons (pv 0) pa_nil)) (pv 1)))))), ?_⟩
    walk_at "rd"
    refine ⟨small_le (by rw [tx_len]; have : (20000 : Nat) ≤ sizeLine := by decide
                         omega), ?_⟩
    walk_at "rd"
    rw [tx_len]
    refine ⟨by omega, by omega, fun D hD => ?_⟩
    rw [Int.toNat_natCast]
    refine lc_filtW walk_range (fun i => .int ((l.length : Int) - (i : Nat))) (fun i => l[i]? == some true) hD (by omega) (fun _ _ => trivial) ?_ ?_
    · rintro i x G1 G2 R R0 hi hS ⟨rfl, rfl⟩ g1 g0
      have hb : l[i]? = some l[i] := List.getElem?_eq_getElem hi
      have big : (20000 : Nat) ≤ sizeLine := by decide
      refine ⟨rfl, ?_⟩
      walk_at "rd"
      refine ⟨_, _, _, rfl, rfl, small_le (by rw [tx_len]; omega), by rw [Int.zero_add]; exact at_tx hb, rfl, ?_⟩
      rw [t1]
      walk_at "rd"
      rw [bt_eq]
      have e9 : (l[i]? == some true) = (l[i] == true) := by rw [hb]; cases l[i] <;> rfl
      rw [e9] at g1 g0
      cases hq : (l[i] == true)
      · exact iteF (g0 hq _ (Same.refl _))
      · refine iteT ?_
        have := g1 hq _ (Same.refl _)
        walk_at "rd"
        refine ⟨small_le (by rw [tx_len]; omega), ?_⟩
        refine ⟨_, rfl, _, _, rfl, rfl, ?_⟩
        rw [tx_len]
        show R (V.int ((l.length : Int) - (0 + ((i : Nat) : Int)))) _
        rw [Int.zero_add]
        exact this
    · intro H1 S1 hL1
      refine k D H1 hD S1 ?_
      rw [hL1]
      unfold dps onesAt
      rw [List.map_map]; rfl
end
end Cl

/-! ### law k28: its rows of choices, ranks, refusals -/
namespace Cl
open PySem PySem.Spec PyProof.Rows L2 StX ClX CwR PySem.Builtin PySem.Builtin.Str
theorem atI_y {xs : List V} {i : Nat} {v : V} (h : xs[i]? = some v) : atI xs (0 + (i : Int)) = some v := by rw [Int.zero_add]; exact atI_nat h
/-- a row of choices -/
def prow (i : Nat) : List Int := (List.range (i + 1)).map fun k => ((cho i k : Nat) : Int)
theorem prow_len (i : Nat) : (prow i).length = i + 1 := by unfold prow; rw [List.length_map, List.length_range]
theorem prow_at {i k : Nat} (h : k ≤ i) : (prow i)[k]? = some ((cho i k : Nat) : Int) := by
  unfold prow
  rw [List.getElem?_map, List.getElem?_range (by omega)]; rfl
theorem prow_next (k : Nat) : [(1 : Int)] ++ (List.range k).map (fun j => ((cho k j : Nat) : Int) + ((cho k (j + 1) : Nat) : Int)) ++ [1] = prow (k + 1) := by
  unfold prow
  rw [List.range_succ_eq_map, List.map_cons, List.map_map, List.range_succ, List.map_append, cho_z]
  show [1] ++ _ ++ [1] = [1] ++ (_ ++ [((cho (k + 1) (k + 1) : Nat) : Int)])
  rw [cho_self, List.append_assoc]; rfl
/-- the first n + 1 rows of choices stand at p, by the addresses rs -/
def RowsAt (H : Hp) (p : Addr) (rs : List Addr) (n : Nat) : Prop := rs.length = n + 1 ∧ H p = some (.lst (rs.map V.ref)) ∧ ∀ i a, rs[i]? = some a → H a = some (.lst ((prow i).map V.int))
theorem RowsAt.same {H H' : Hp} {p : Addr} {n : Nat} {rs : List Addr} (h : RowsAt H p rs n) (x : Same H H') : RowsAt H' p rs n := by
  obtain ⟨h1, h2, h3⟩ := h
  exact ⟨h1, x _ _ h2, fun i a e => x _ _ (h3 i a e)⟩
/-- .. and none of them at b -/
def RowsOff (H : Hp) (p : Addr) (b : Addr) : Prop := ∃ rs, RowsAt H p rs 60 ∧ p ≠ b ∧ ∀ (i : Nat) (a : Addr), rs[i]? = some a → a ≠ b
theorem RowsOff.same {H H' : Hp} {p b : Addr} (h : RowsOff H p b) (x : Same H H') : RowsOff H' p b := by
  obtain ⟨rs, h1, h2, h3⟩ := h
  exact ⟨rs, h1.same x, h2, h3⟩
theorem RowsOff.but {H H' : Hp} {p b : Addr} (h : RowsOff H p b) (x : But b H H') : RowsOff H' p b := by
  obtain ⟨rs, ⟨h1, h2, h3⟩, h4, h5⟩ := h
  exact ⟨rs, ⟨h1, x _ _ h4 h2, fun i a e => x _ _ (h5 i a e) (h3 i a e)⟩, h4, h5⟩
section
variable {P : Program} {w : World} {K : PySem.W.Frag} {mg : Str → Option Value} {base : Heap} {C_InvalidInput : Addr}
def spChoices : Sp := fun vs H Q _ => vs = [.int 60] ∧ ∀ p rs H', Same H H' → RowsAt H' p rs 60 → H p = none → (∀ (i : Nat) a, rs[i]? = some a → H a = none) → Q (.ref p) H'
theorem scLawChoices : FnScope ["places", "rows", "k", "row", "j"] ["places"] (defScope sLawChoices) := ⟨rfl, rfl, rfl, by decide +kernel, rfl, by decide +kernel, by decide +kernel⟩
theorem ok__law_choices {f : Addr} {fd : FuncData} (F : Fun K "_law_choices" "_law_choices" sLawChoices f fd) (B : Bi mg) : FnOk P w K mg base CX0 1 f fd ["places"] spChoices := by
  refine F.ok scLawChoices (fun vs H Q E h => ?_) (fun cdv A outer s H vs Q E hr h => ?_)
  · obtain ⟨rfl, _⟩ := h
    rfl
  · obtain ⟨rfl, k⟩ := h
    refine ⟨_, (pss_cons (ps_set (i := 1) scLawChoices.nd rfl (Or.inl rfl) (pe_lst (pa_cons (pe_lst (pa_cons pe_int pa_nil)) pa_nil)))
  (pss_cons (ps_for PassesOwn.never rfl (pi_range1 rfl B.range (pa_cons (pv 0) pa_nil)) (pg_name (i := 2) scLawChoices.nd rfl (Or.inl rfl))
  (pss_cons (ps_set (i := 3) scLawChoices.nd rfl (Or.inr rfl) (pe_ix ix_list (pv 1) (pe_un un_neg pe_int) (fun _ _ => rfl)))
  (pss_one (ps_expr (pe_bm PySem.F.plainAttrs_list PySem.F.slot_list_append PySem.F.type_list_append mt_append (pv 1) (pa_cons (pe_op op_cat (pe_op op_cat (pe_lst (pa_cons pe_int pa_nil)) (pe_lc (own := [("j", 4)]) (g := gName 4) rfl scLawChoices.nd (pi_range1 rfl B.range (pa_cons (pv 2) pa_nil)) (blkOk_by (own := [("j", 4)]) (N := ["places", "rows", "k", "row", "j"]) (sc := defScope sLawChoices) (by decide +kernel)) (fun _ _ _ _ _ => (pg_name (i := 4) scLawChoices.nd rfl (Or.inl rfl))) (fun _ _ _ _ _ => pts_nil) (fun _ _ _ _ _ => (pe_op op_add (pe_ix (ix_listK K) (pv 3) (pv 4) (fun _ _ => rfl)) (pe_ix (ix_listK K) (pv 3) (pe_op op_add (pv 4) pe_int) (fun _ _ => rfl)))))) (pe_lst (pa_cons pe_int pa_nil))) pa_nil))))))
  (pss_one (ps_ret (pv 1))))), ?_⟩
    refine ⟨by show 1 ≤ sizeLine; decide, fun r0 h0 => ?_⟩
    refine ⟨by show 1 ≤ sizeLine; decide, fun p hp => ?_⟩
    walk_at "rd"
    have np : p ≠ r0 := fun e => by rw [e, upd_same] at hp; cases hp
    have hp0 : H p = none := by rw [upd_ne np] at hp; exact hp
    refine ⟨by decide, by decide, ?_⟩
    refine for_range (fun i σ H' => ∃ (rs : List Addr) (x y : Option V), σ = [some (.int 60), some (.ref p), x, y, none] ∧ Same H H' ∧ RowsAt H' p rs i ∧ ∀ (j : Nat) a, rs[j]? = some a → H a = none ∧ a ≠ p)
      ⟨[r0], _, _, rfl, fun b o e => ?_, ⟨rfl, upd_same, fun i a e => ?_⟩, fun j a e => ?_⟩ ?_ ?_
    · rw [upd_ne (ne_of_none e hp0), upd_ne (ne_of_none e h0)]; exact e
    · cases i with
      | succ i => simp at e
      | zero =>
        obtain rfl : r0 = a := by simpa using e
        rw [upd_ne np.symm, upd_same]; rfl
    · cases j with
      | succ i => simp at e
      | zero =>
        obtain rfl : r0 = a := by simpa using e
        exact ⟨h0, np.symm⟩
    · rintro i σ H1 hi ⟨rs, x, y, rfl, hS, ⟨r1, r2, r3⟩, hn⟩
      have hi : i < 60 := hi
      obtain ⟨us, z, rfl⟩ : ∃ us z, rs = us ++ [z] := by
        refine ⟨rs.dropLast, rs.getLast (by intro e; rw [e] at r1; simp at r1), (List.dropLast_concat_getLast _).symm⟩
      have ul : us.length = i := by simp at r1; exact r1
      have ez : (us ++ [z])[i]? = some z := by rw [List.getElem?_append_right (by omega), ul, Nat.sub_self]; rfl
      have hz := r3 i z ez
      walk_at "rd"
      refine ⟨p, _, _, .ref z, rfl, rfl, SqL.of r2, by rw [List.map_append]; exact atI_last _ _, ?_⟩
      walk_at "rd"
      refine ⟨.inl ⟨rfl, _, SqL.of r2⟩, ?_⟩
      refine ⟨by show 1 ≤ sizeLine; decide, fun u1 hu1 => ?_⟩
      have hp1 := Same.upd (o := .lst [.int 1]) hu1 _ _ r2
      have hz1 := Same.upd (o := .lst [.int 1]) hu1 _ _ hz
      walk_at "rd"
      refine ⟨by omega, by omega, fun D hD => ?_⟩
      have nD : D ≠ u1 := fun e => by rw [e, upd_same] at hD; cases hD
      have ei : (0 + ((i : Nat) : Int)).toNat = i := by omega
      rw [ei]
      refine lc_mapW walk_range (fun j => .int (((cho i j : Nat) : Int) + ((cho i (j + 1) : Nat) : Int))) hD (by omega) (fun _ _ => trivial) ?_ ?_
      · rintro j v G1 G2 R hj gS ⟨rfl, rfl⟩ h
        have hzG := gS _ _ hz1
        have hR := h _ (Same.refl _)
        refine ⟨rfl, ?_⟩
        walk_at "rd"
        refine ⟨z, _, _, _, rfl, rfl, SqL.of hzG, atI_y (i := j) (v := V.int (cho i j : Nat)) (by rw [List.getElem?_map, prow_at (by omega)]; rfl), ?_⟩
        walk_at "rd"
        refine ⟨z, _, _, _, rfl, rfl, SqL.of hzG, by rw [show (0 + ((j : Nat) : Int) + 1) = ((j + 1 : Nat) : Int) by omega]; exact atI_nat (j := j + 1) (v := V.int (cho i (j + 1) : Nat)) (by rw [List.getElem?_map, prow_at (by omega)]; rfl), ?_⟩
        walk_at "rd"
        exact hR
      · intro G gS gD
        have gu : G u1 = some (.lst [.int 1]) := gS _ _ upd_same
        walk_at "rd"
        have big : (1000 : Nat) ≤ sizeLine := by decide
        refine ⟨u1, D, _, _, rfl, rfl, gu, gD, by rw [List.length_map, List.length_range]; show 1 + _ ≤ _; omega, fun g hg => ?_⟩
        have gg := upd_same (H := G) (a := g) (o := .lst ([V.int 1] ++ (List.range i).map fun j => V.int (((cho i j : Nat) : Int) + ((cho i (j + 1) : Nat) : Int))))
        walk_at "rd"
        refine ⟨by show 1 ≤ sizeLine; decide, fun u2 hu2 => ?_⟩
        walk_at "rd"
        refine ⟨g, u2, _, _, rfl, rfl, Same.upd hu2 _ _ gg, upd_same, by simp; omega, fun q hq => ?_⟩
        have row : (([V.int 1] ++ (List.range i).map fun j => V.int (((cho i j : Nat) : Int) + ((cho i (j + 1) : Nat) : Int))) ++ [V.int 1]) = (prow (i + 1)).map V.int := by
          rw [← prow_next, List.map_append, List.map_append, List.map_map]; rfl
        rw [row]
        have S1 : Same H1 (upd (upd (upd G g (.lst ([V.int 1] ++ (List.range i).map fun j => V.int (((cho i j : Nat) : Int) + ((cho i (j + 1) : Nat) : Int))))) u2 (.lst [V.int 1])) q (.lst ((prow (i + 1)).map V.int))) :=
          (((Same.upd hu1).trans gS).trans (Same.upd hg)).trans ((Same.upd hu2).trans (Same.upd hq))
        have hq1 : H1 q = none := by
          cases e : H1 q with
          | none => rfl
          | some o => rw [((((Same.upd hu1).trans gS).trans (Same.upd hg)).trans (Same.upd hu2)) _ _ e] at hq; cases hq
        have hqH : H q = none := by
          cases e : H q with
          | none => rfl
          | some o => rw [hS _ _ e] at hq1; cases hq1
        have nqp : q ≠ p := fun e => by rw [e, r2] at hq1; cases hq1
        have eq := upd_same (H := upd (upd G g (.lst ([V.int 1] ++ (List.range i).map fun j => V.int (((cho i j : Nat) : Int) + ((cho i (j + 1) : Nat) : Int))))) u2 (.lst [V.int 1])) (a := q) (o := .lst ((prow (i + 1)).map V.int))
        generalize upd (upd (upd G g (.lst ([V.int 1] ++ (List.range i).map fun j => V.int (((cho i j : Nat) : Int) + ((cho i (j + 1) : Nat) : Int))))) u2 (.lst [V.int 1])) q (.lst ((prow (i + 1)).map V.int)) = H9 at S1 eq ⊢
        walk_at "rd"
        refine ⟨p, _, _, rfl, rfl, S1 _ _ r2, by rw [List.length_map, r1]; omega, ?_⟩
        refine ⟨us ++ [z] ++ [q], _, _, rfl, fun b o e => ?_, ⟨by rw [List.length_append, r1]; rfl, by rw [upd_same]; simp, fun j a e => ?_⟩, fun j a e => ?_⟩
        · rw [upd_ne (ne_of_none e hp0)]; exact S1 _ _ (hS _ _ e)
        · rcases Nat.lt_or_ge j (i + 1) with c | c
          · rw [List.getElem?_append_left (by rw [r1]; exact c)] at e
            rw [upd_ne (hn j a e).2]
            exact S1 _ _ (r3 j a e)
          · rw [List.getElem?_append_right (by rw [r1]; exact c), r1] at e
            have c2 := (List.getElem?_eq_some_iff.mp e).1
            have c3 : j = i + 1 := by simp at c2; omega
            subst c3
            obtain rfl : q = a := by simpa using e
            rw [upd_ne nqp, eq]
        · rcases Nat.lt_or_ge j (i + 1) with c | c
          · rw [List.getElem?_append_left (by rw [r1]; exact c)] at e
            exact hn j a e
          · rw [List.getElem?_append_right (by rw [r1]; exact c), r1] at e
            have c2 := (List.getElem?_eq_some_iff.mp e).1
            have c3 : j = i + 1 := by simp at c2; omega
            subst c3
            obtain rfl : q = a := by simpa using e
            exact ⟨hqH, nqp⟩
    · rintro σ H1 ⟨rs, x, y, rfl, hS, hr2, hn⟩
      walk_at "rd"
      exact k p rs H1 hS hr2 hp0 fun j a e => (hn j a e).1
def spOf : Sp := fun vs H Q _ => ∃ (p : Addr) (rs : List Addr) (n c : Int), vs = [.ref p, .int n, .int c] ∧ RowsAt H p rs 60 ∧ 0 ≤ n ∧ n ≤ 60 ∧ 0 ≤ c ∧ Q (.int (cho n.toNat c.toNat : Nat)) H
theorem scLawOf : FnScope ["rows", "places", "count"] ["rows", "places", "count"] (defScope sLawOf) := ⟨rfl, rfl, rfl, by decide +kernel, rfl, by decide +kernel, by decide +kernel⟩
theorem ok__law_of {f : Addr} {fd : FuncData} (F : Fun K "_law_of" "_law_of" sLawOf f fd) (B : Bi mg) : FnOk P w K mg base CX0 1 f fd ["rows", "places", "count"] spOf := by
  refine F.ok scLawOf (fun vs H Q E h => ?_) (fun cdv A outer s H vs Q E hr h => ?_)
  · obtain ⟨p, rs, n, c, rfl, _⟩ := h
    rfl
  · obtain ⟨p, rs, n, c, rfl, ⟨r1, r2, r3⟩, n0, n1, c0, k⟩ := h
    refine ⟨_, (pss_cons (ps_if (pt_cmpR op_gt (pv 2) (pv 1) (nomark _)) (pss_one (ps_ret pe_int))
  pss_nil)
  (pss_one (ps_ret (pe_ix ix_list (pe_ix ix_list (pv 0) (pv 1) (fun _ _ => rfl)) (pv 2) (fun _ _ => rfl))))), ?_⟩
    walk_at "rd"
    refine itd (fun g => ?_) (fun g => ?_)
    · walk_at "rd"
      rw [cho_big (by omega)] at k
      exact k
    · obtain ⟨m, rfl⟩ : ∃ m : Nat, n = (m : Int) := ⟨n.toNat, by omega⟩
      obtain ⟨j, rfl⟩ : ∃ j : Nat, c = (j : Int) := ⟨c.toNat, by omega⟩
      rw [Int.toNat_natCast, Int.toNat_natCast] at k
      have hm : m < rs.length := by omega
      have em : rs[m]? = some rs[m] := List.getElem?_eq_getElem hm
      walk_at "rd"
      refine ⟨p, _, _, .ref rs[m], rfl, rfl, SqL.of r2, atI_nat (by rw [List.getElem?_map, em]; rfl), ?_⟩
      walk_at "rd"
      refine ⟨rs[m], _, _, _, rfl, rfl, SqL.of (r3 m _ em), atI_nat (v := .int (cho m j : Nat)) (by rw [List.getElem?_map, prow_at (by omega)]; rfl), ?_⟩
      walk_at "rd"
      exact k
def spRankL : Sp := fun vs H Q _ => ∃ (p : Addr) (rs : List Addr) (l : List Bool), vs = [.ref p, .str (tx l)] ∧ RowsAt H p rs 60 ∧ l.length ≤ 60 ∧ ∀ H', Same H H' → Q (.int (rkl l : Nat)) H'
theorem scLawRank : FnScope ["rows", "word", "depths_v", "rank", "k"] ["rows", "word"] (defScope sLawRank) := ⟨rfl, rfl, rfl, by decide +kernel, rfl, by decide +kernel, by decide +kernel⟩
theorem ok__law_rank {f : Addr} {fd : FuncData} (F : Fun K "_law_rank" "_law_rank" sLawRank f fd) (B : Bi mg) (D__law_depths : Dn P w K mg base "_law_depths" 1 ["word"] spDepthsL) (D__law_of : Dn P w K mg base "_law_of" 1 ["rows", "places", "count"] spOf) :
    FnOk P w K mg base CX0 2 f fd ["rows", "word"] spRankL := by
  refine F.ok scLawRank (fun vs H Q E h => ?_) (fun cdv A outer s H vs Q E hr h => ?_)
  · obtain ⟨p, rs, l, rfl, _⟩ := h
    rfl
  · obtain ⟨p, rs, l, rfl, hR, hl, k⟩ := h
    refine ⟨_, (pss_cons (ps_set (i := 2) scLawRank.nd rfl (Or.inl rfl) (pe_dn D__law_depths (hr.mono (by decide)) (by rfl) pass0 (pa_cons (pv 1) pa_nil)))
  (pss_cons (ps_set (i := 3) scLawRank.nd rfl (Or.inl rfl) pe_int)
  (pss_cons (ps_for PassesOwn.never rfl (pi_range1 rfl B.range (pa_cons (pe_callB call_len_seq (by rfl) B.len PySem.boot_len (pa_cons (pv 2) pa_nil)) pa_nil)) (pg_name (i := 4) scLawRank.nd rfl (Or.inl rfl))
  (pss_one (ps_set (i := 3) scLawRank.nd rfl (Or.inl rfl) (pe_op op_add (pv 3) (pe_dn D__law_of (hr.mono (by decide)) (by rfl) pass0 (pa_cons (pv 0) (pa_cons (pe_op op_sub (pe_ix ix_list (pv 2) (pv 4) (fun _ _ => rfl)) pe_int) (pa_cons (pe_op op_sub (pe_callB call_len_seq (by rfl) B.len PySem.boot_len (pa_cons (pv 2) pa_nil)) (pv 4)) pa_nil))))))))
  (pss_one (ps_ret (pv 3)))))), ?_⟩
    refine ⟨_, rfl, l, rfl, by omega, fun D H1 hD hS hL => ?_⟩
    have hdl : (dps l).length ≤ 60 := by rw [dps_len]; exact Nat.le_trans List.count_le_length hl
    walk_at "rd"
    refine ⟨D, _, rfl, .inl (SqL.of hL), ?_⟩
    walk_at "rd"
    rw [List.length_map]
    refine ⟨by omega, by omega, ?_⟩
    refine for_range (fun i σ H' => ∃ (x : Option V), σ = [some (.ref p), some (.str (tx l)), some (.ref D), some (.int (rkD (dps l) - rkD ((dps l).drop i) : Int)), x] ∧ Same H1 H') ⟨none, by rw [List.drop_zero, Int.sub_self]; rfl, Same.refl _⟩ ?_ ?_
    · rintro i σ H2 hi ⟨x, rfl, hS2⟩
      have hi : i < (dps l).length := by omega
      have hL2 := hS2 _ _ hL
      have hR2 := (hR.same hS).same hS2
      have hb := dps_le (List.getElem_mem hi)
      have e0 : (dps l).drop i = (dps l)[i] :: (dps l).drop (i + 1) := List.drop_eq_getElem_cons hi
      have e1 : rkD ((dps l).drop i) = cho ((dps l)[i] - 1).toNat ((dps l).length - i) + rkD ((dps l).drop (i + 1)) := by
        rw [e0]
        show cho _ (((dps l).drop (i + 1)).length + 1) + _ = _
        rw [List.length_drop, show (dps l).length - (i + 1) + 1 = (dps l).length - i by omega]
      walk_at "rd"
      refine ⟨D, _, _, _, rfl, rfl, SqL.of hL2, atI_y (i := i) (v := V.int (dps l)[i]) (by rw [List.getElem?_map, List.getElem?_eq_getElem hi]; rfl), ?_⟩
      walk_at "rd"
      refine ⟨D, _, rfl, .inl (SqL.of hL2), ?_⟩
      walk_at "rd"
      rw [List.length_map]
      refine ⟨p, rs, _, _, rfl, hR2, by omega, by omega, by omega, ?_⟩
      rw [show (((dps l).length : Int) - (0 + ((i : Nat) : Int))).toNat = (dps l).length - i by omega]
      walk_at "rd"
      have e2 : (((rkD (dps l) : Nat) : Int) - ((rkD ((dps l).drop i) : Nat) : Int)) + ((cho ((dps l)[i] - 1).toNat ((dps l).length - i) : Nat) : Int) = ((rkD (dps l) : Nat) : Int) - ((rkD ((dps l).drop (i + 1)) : Nat) : Int) := by rw [e1]; omega
      rw [← e2]
      exact ⟨_, rfl, hS2⟩
    · rintro σ H2 ⟨x, rfl, hS2⟩
      rw [Int.toNat_natCast, List.drop_length]
      walk_at "rd"
      have := k _ (hS.trans hS2)
      rw [← rkD_dps] at this
      show Q (V.int ((rkD (dps l) : Int) - ((0 : Nat) : Int))) _
      rw [show ((rkD (dps l) : Nat) : Int) - ((0 : Nat) : Int) = ((rkD (dps l) : Nat) : Int) by omega]
      exact this
end
end Cl

/-! ### law k28: the following word, what fits, refusals -/
namespace Cl
open PySem PySem.Spec PyProof.Rows L2 StX ClX CwR PySem.Builtin PySem.Builtin.Str PySem.StrLaws
/-- the pair 0, 1 stands at i of a text of marks -/
theorem at_pair {l : List Bool} {i : Nat} : At (tx l) (tx [false, true]) (tx l).length i ↔ l[i]? = some false ∧ l[i + 1]? = some true := by
  have hlen : (tx [false, true]).length = 2 := tx_len _
  constructor
  · intro h
    have h1 := at_take h
    rw [tx_lst, tx_lst, ← List.map_drop, List.length_map, ← List.map_take] at h1
    have h2 := map_bt_inj h1
    have h3 : (l.drop i).take 2 = [false, true] := h2
    have a0 : ((l.drop i).take 2)[0]? = some false := by rw [h3]; rfl
    have a1 : ((l.drop i).take 2)[1]? = some true := by rw [h3]; rfl
    rw [List.getElem?_take_of_lt (by decide), List.getElem?_drop] at a0 a1
    exact ⟨a0, a1⟩
  · rintro ⟨h1, h2⟩
    refine take_at (by rw [hlen]; decide) ?_
    rw [tx_lst, tx_lst, ← List.map_drop, List.length_map, ← List.map_take]
    congr 1
    have e1 := (List.getElem?_eq_some_iff.mp h1)
    have e2 := (List.getElem?_eq_some_iff.mp h2)
    rw [List.drop_eq_getElem_cons e1.1, List.drop_eq_getElem_cons e2.1, e1.2, e2.2]; rfl
theorem th_at {p : List Bool} {m z : Nat} : (th p m z)[p.length]? = some false ∧ (th p m z)[p.length + 1]? = some true := by
  unfold th
  constructor
  · rw [List.getElem?_append_right (Nat.le_refl _), Nat.sub_self]; rfl
  · rw [List.getElem?_append_right (by omega), show p.length + 1 - p.length = 1 by omega]; rfl
theorem th_no {p : List Bool} {m z k : Nat} (hk : p.length < k) : ¬ ((th p m z)[k]? = some false ∧ (th p m z)[k + 1]? = some true) := by
  unfold th
  rintro ⟨h1, h2⟩
  rw [List.getElem?_append_right (by omega)] at h1 h2
  obtain ⟨j, hj⟩ : ∃ j, k - p.length = j + 1 := ⟨k - p.length - 1, by omega⟩
  rw [hj] at h1
  rw [show k + 1 - p.length = j + 2 by omega] at h2
  have h1 : (true :: (List.replicate m true ++ List.replicate z false))[j]? = some false := h1
  have h2 : (List.replicate m true ++ List.replicate z false)[j]? = some true := h2
  rcases Nat.lt_or_ge j m with q | q
  · cases j with
    | zero => cases h1
    | succ j =>
      have h1 : (List.replicate m true ++ List.replicate z false)[j]? = some false := h1
      rw [List.getElem?_append_left (by rw [List.length_replicate]; omega), List.getElem?_replicate, if_pos (by omega)] at h1
      cases h1
  · rw [List.getElem?_append_right (by rw [List.length_replicate]; exact q), List.length_replicate, List.getElem?_replicate] at h2
    split at h2 <;> cases h2
theorem rfind_th (p : List Bool) (m z : Nat) : Txt.rfind (tx (th p m z)) (tx [false, true]) = (p.length : Int) := by
  unfold Txt.rfind
  rcases last_spec (tx (th p m z)) (tx [false, true]) with ⟨_, h⟩ | ⟨i, h, h1, h2⟩
  · exact absurd (at_pair.mpr th_at) (h p.length)
  · rw [h]
    show (i : Int) = _
    have : i = p.length := by
      rcases Nat.lt_trichotomy i p.length with q | q | q
      · exact absurd (at_pair.mpr th_at) (h2 p.length q)
      · exact q
      · exact absurd (at_pair.mp h1) (th_no q)
    rw [this]
section
variable {P : Program} {w : World} {K : PySem.W.Frag} {mg : Str → Option Value} {base : Heap} {C_InvalidInput : Addr}
def spFollow : Sp := fun vs H Q _ => ∃ l p m z, vs = [.str (tx l)] ∧ l.length ≤ 100 ∧ false :: l = th p m z ∧ Q (.str (tx (nrm (nx p m z)))) H
theorem scLawFollowing : FnScope ["word", "text", "at", "tail", "zeros"] ["word"] (defScope sLawFollowing) := ⟨rfl, rfl, rfl, by decide +kernel, rfl, by decide +kernel, by decide +kernel⟩
theorem ok__law_following {f : Addr} {fd : FuncData} (F : Fun K "_law_following" "_law_following" sLawFollowing f fd) (B : Bi mg) : FnOk P w K mg base CX0 1 f fd ["word"] spFollow := by
  refine F.ok scLawFollowing (fun vs H Q E h => ?_) (fun cdv A outer s H vs Q E hr h => ?_)
  · obtain ⟨l, p, m, z, rfl, _⟩ := h
    rfl
  · obtain ⟨l, p, m, z, rfl, hl, e, k⟩ := h
    refine ⟨_, (pss_cons (ps_set (i := 1) scLawFollowing.nd rfl (Or.inl rfl) (pe_op op_add_str pe_str (pv 0)))
  (pss_cons (ps_set (i := 2) scLawFollowing.nd rfl (Or.inl rfl) (pe_m1 PySem.F.slot_str_rfind PySem.F.type_str_rfind mt_rfind (pv 1) pe_str))
  (pss_cons (ps_set (i := 3) scLawFollowing.nd rfl (Or.inl rfl) (pe_slice sl_str (pv 1) (po_some (pe_op op_add (pv 2) pe_int)) po_none))
  (pss_cons (ps_set (i := 4) scLawFollowing.nd rfl (Or.inl rfl) (pe_m1 PySem.F.slot_str_count PySem.F.type_str_count mt_count (pv 3) pe_str))
  (pss_one (ps_ret (pe_m1 PySem.F.slot_str_lstrip PySem.F.type_str_lstrip mt_lstripChars (pe_op op_add_str (pe_op op_add_str (pe_op op_add_str (pe_slice sl_str (pv 1) po_none (po_some (pv 2))) pe_str) (pe_op op_mul_str pe_str (pv 4))) (pe_op op_mul_str pe_str (pe_op op_sub (pe_callB call_len_str (by rfl) B.len PySem.boot_len (pa_cons (pv 3) pa_nil)) (pv 4)))) pe_str))))))), ?_⟩
    have big : (20000 : Nat) ≤ sizeLine := by decide
    have lt : p.length + 2 + (m + z) = l.length + 1 := by
      have := congrArg List.length e
      unfold th at this
      simp at this
      omega
    have t10 : Str.ofString "10" = tx [true, false] := by decide +kernel
    walk_at "rd"
    rw [t0, tx_app, t01, show [false] ++ l = th p m z from e]
    refine ⟨by rw [tx_len, tx_len]; simp; omega, ?_⟩
    refine ⟨_, rfl, ⟨_, rfl⟩, _, _, rfl, rfl, ?_⟩
    rw [rfind_th]
    walk_at "rd"
    refine ⟨small_le (by rw [tx_len, ← e]; simp; omega), ?_⟩
    rw [show ((p.length : Int) + 2) = ((p.length + 2 : Nat) : Int) from rfl, cutS_from]
    have e1 : (th p m z).drop (p.length + 2) = List.replicate m true ++ List.replicate z false := by
      unfold th
      rw [List.drop_append, List.drop_of_length_le (by omega), show p.length + 2 - p.length = 2 by omega]; rfl
    have e2 : (th p m z).take p.length = p := by
      unfold th
      rw [List.take_left']; rfl
    rw [e1]
    refine ⟨_, rfl, ⟨_, rfl⟩, _, _, rfl, rfl, ?_⟩
    rw [tx_count]
    have e3 : (List.replicate m true ++ List.replicate z false).count false = z := by simp [List.count_append, List.count_replicate]
    rw [e3]
    walk_at "rd"
    refine ⟨small_le (by rw [tx_len, ← e]; simp; omega), ?_⟩
    rw [cutS_to, e2]
    walk_at "rd"
    rw [t10, tx_app]
    refine ⟨by rw [tx_len, tx_len]; simp; omega, ?_⟩
    walk_at "rd"
    refine ⟨tx_mulOk _ (by omega) (by omega), ?_⟩
    rw [tx_mul]
    walk_at "rd"
    rw [tx_app]
    refine ⟨by rw [tx_len, tx_len]; simp; omega, ?_⟩
    walk_at "rd"
    refine ⟨small_le (by rw [tx_len]; simp; omega), ?_⟩
    walk_at "rd"
    rw [tx_len, t1, tx_mul]
    refine ⟨tx_mulOk _ (by simp <;> omega) (by simp <;> omega), ?_⟩
    walk_at "rd"
    rw [tx_app]
    refine ⟨by rw [tx_len, tx_len]; simp; omega, ?_⟩
    walk_at "rd"
    refine ⟨⟨_, rfl⟩, _, _, rfl, rfl, small_le (by rw [tx_len]; simp; omega), ?_⟩
    rw [tx_lstrip]
    have e5 : p ++ [true, false] ++ List.replicate ((z : Nat) : Int).toNat false ++ List.replicate (((List.replicate m true ++ List.replicate z false).length : Int) - (z : Nat)).toNat true = nx p m z := by
      unfold nx
      rw [List.length_append, List.length_replicate, List.length_replicate, Int.toNat_natCast, show (((m + z : Nat) : Int) - (z : Nat)).toNat = m by omega]
      simp
    rw [e5]
    exact k
def spFits : Sp := fun vs H Q _ => ∃ (l : List Bool) (p c : Int), vs = [.str (tx l), .int p, .int c] ∧ l.length ≤ 100 ∧ Wd l ∧ (l.length : Int) ≤ p ∧ ((l.count true : Nat) : Int) = c ∧ Q (.bl true) H
theorem scLawFits : FnScope ["told", "places", "count"] ["told", "places", "count"] (defScope sLawFits) := ⟨rfl, rfl, rfl, by decide +kernel, rfl, by decide +kernel, by decide +kernel⟩
theorem ok__law_fits {f : Addr} {fd : FuncData} (F : Fun K "_law_fits" "_law_fits" sLawFits f fd) (B : Bi mg) : FnOk P w K mg base CX0 1 f fd ["told", "places", "count"] spFits := by
  refine okT F scLawFits rfl (by decide +kernel) (fun vs H Q E h => ?_) (fun cdv A outer s H vs Q E hr h => ?_)
  · obtain ⟨l, p, c, rfl, _⟩ := h
    rfl
  · obtain ⟨l, p, c, rfl, hl, hw, hp, hc, k⟩ := h
    refine ⟨_, (psst_cons (pstT_if (PWT.ptt (pwt_or (ptt_of (pt_not (pt_val (pe_callB call_isi (by rfl) B.isinstance (by decide +kernel) (pa_cons (pv 0) (pa_cons (pe_bltn (v := .ty "str") (by rfl) B.strT (by decide +kernel) rfl) pa_nil)))))) (pwt_or (ptt_cmp op_ne (pet_replT (pet_replC (pv 0))) pe_str (nomark _)) (pwt_or1 (ptt_of (pt_cmpR op_eq (pe_slice sl_str (pv 0) po_none (po_some pe_int)) pe_str (nomark _))))))) (psst_one (PST.of (ps_ret pe_bl)))
  psst_nil)
  (psst_one (PST.of (ps_ret (pe_and (pe_cmpR op_le (pe_callB call_len_str (by rfl) B.len PySem.boot_len (pa_cons (pv 0) pa_nil)) (pv 1) (nomark _)) (pe_one (pe_cmpR op_eq (pe_m1 PySem.F.slot_str_count PySem.F.type_str_count mt_count (pv 0) pe_str) (pv 2) (nomark _)))))))), ?_⟩
    walk_at "rd"
    refine ⟨_, _, _, _, _, rfl, .ty _, .base (.str _), kit_ss _, _, rfl, iteF ?_⟩
    walk_at "rd"
    have l0 : (Str.ofString "").length = 0 := by decide +kernel
    have rl := repl0_len l
    rw [l0]
    refine ⟨by rw [tx_len]; omega, ?_⟩
    walk_at "rd"
    refine ⟨by omega, ?_⟩
    rw [repl01]
    walk_at "rd"
    refine ⟨small_le (by rw [tx_len]; omega), ?_⟩
    rw [show cutS (tx l) none (some 1) = tx (l.take 1) from cutS_to (f := 1), t0]
    walk_at "rd"
    rw [txV_eq]
    have ne : ¬ l.take 1 = [false] := by
      rcases hw with rfl | ⟨r, rfl⟩
      · exact fun z => by cases z
      · exact fun z => by cases z
    rw [decide_eq_false ne]
    refine iteF ?_
    walk_at "rd"
    refine ⟨small_le (by rw [tx_len]; omega), ?_⟩
    walk_at "rd"
    rw [tx_len, decide_eq_true hp]
    refine iteT ?_
    refine ⟨_, rfl, ⟨_, rfl⟩, _, _, rfl, rfl, ?_⟩
    rw [t1, tx_count, hc]
    walk_at "rd"
    rw [decide_eq_true rfl]
    exact k
def spIsI : Sp := fun vs H Q _ => ∃ v : Int, vs = [.int v, .int v] ∧ Q (.bl true) H
theorem scLawIs : FnScope ["told", "due"] ["told", "due"] (defScope sLawIs) := ⟨rfl, rfl, rfl, by decide +kernel, rfl, by decide +kernel, by decide +kernel⟩
theorem ok__law_isI {f : Addr} {fd : FuncData} (F : Fun K "_law_is" "_law_is" sLawIs f fd) (B : Bi mg) : FnOk P w K mg base CX0 1 f fd ["told", "due"] spIsI := by
  refine F.ok scLawIs (fun vs H Q E h => ?_) (fun cdv A outer s H vs Q E hr h => ?_)
  · obtain ⟨o, rfl, _⟩ := h
    rfl
  · obtain ⟨v, rfl, k⟩ := h
    refine ⟨_, (pss_cons (ps_if (pt_cmpR op_isN (pv 1) pe_non (nomark _)) (pss_one (ps_ret (pe_cmpR op_isN (pv 0) pe_non (nomark _))))
  pss_nil)
  (pss_one (ps_ret (pe_and (pe_callB call_isi (by rfl) B.isinstance (by decide +kernel) (pa_cons (pv 0) (pa_cons (pe_bltn (v := .ty "int") (by rfl) B.intT (by decide +kernel) rfl) pa_nil))) (pe_and (pe_not (pe_callB call_isi (by rfl) B.isinstance (by decide +kernel) (pa_cons (pv 0) (pa_cons (pe_bltn (v := .ty "bool") (by rfl) B.boolT (by decide +kernel) rfl) pa_nil)))) (pe_one (pe_cmpR op_eq (pv 0) (pv 1) (nomark _)))))))), ?_⟩
    walk_at "rd"
    refine ⟨_, _, _, _, _, rfl, .ty _, .base (.int _), kit_ii _, _, rfl, iteT ?_⟩
    refine ⟨_, rfl, _, _, _, _, _, rfl, .ty _, .base (.int _), kit_ib _, false, rfl, true, rfl, iteT ?_⟩
    walk_at "rd"
    rw [decide_eq_true rfl]
    exact k
def spRefused : Sp := fun vs H Q _ => ∃ (r p c : Int) (d : Str), vs = [.int r, .int p, .int c, .str d] ∧ p ≤ 100 ∧ badW r p c = some d ∧ ∀ H', Same H H' → Q (.bl true) H'
theorem scLawRefused : FnScope ["rank", "places", "count", "due", "raised"] ["rank", "places", "count", "due"] (defScope sLawRefused) := ⟨rfl, rfl, rfl, by decide +kernel, rfl, by decide +kernel, by decide +kernel⟩
theorem ok__law_refused {f : Addr} {fd : FuncData} (F : Fun K "_law_refused" "_law_refused" sLawRefused f fd) (B : Bi mg) (D_word_at : Dx P w K mg base "word_at" 7 ["rank", "places", "count"] (spWordAt C_InvalidInput)) (E_InvalidInput : ErrC P K mg "InvalidInput" C_InvalidInput "field" true) (M_InvalidInput_InvalidInput : PySem.W.exmOne K (.ref C_InvalidInput) (.ref C_InvalidInput) = some true) :
    FnOk P w K mg base CX0 8 f fd ["rank", "places", "count", "due"] spRefused := by
  refine F.ok scLawRefused (fun vs H Q E h => ?_) (fun cdv A outer s H vs Q E hr h => ?_)
  · obtain ⟨r, p, c, d, rfl, _⟩ := h
    rfl
  · obtain ⟨r, p, c, due, rfl, hp, hb, k⟩ := h
    refine ⟨_, (pss_cons (ps_try_as (i := 4) rfl rfl scLawRefused.nd rfl rfl ⟨rfl, by decide, Or.inl E_InvalidInput.g⟩ takes0 (fun W pn xe tk _ => (pss_one (ps_expr (pe_dxT D_word_at (hr.mono (by decide)) (by rfl) tk (pa_cons (pv 0) (pa_cons (pv 1) (pa_cons (pv 2) pa_nil)))))))
  (fun a_ oe_ cls_ d_ pn_ hz_ hf_ => (pss_one (ps_ret (pe_and (pe_callB (call_isiK K) (by rfl) B.isinstance (by decide +kernel) (pa_cons (pe_fldE hz_ hf_ (pv 4)) (pa_cons (pe_bltn (v := .ty "str") (by rfl) B.strT (by decide +kernel) rfl) pa_nil))) (pe_one (pe_cmpR op_eq (pe_fldE hz_ hf_ (pv 4)) (pv 3) (nomark _))))))))
  (pss_one (ps_ret pe_bl))), ?_⟩
    walk_at "rd"
    refine ⟨hp, fun x hx d hd => ?_, fun z => by rw [hb] at z; cases z⟩
    rw [hb] at hx
    obtain rfl : due = x := Option.some.inj hx
    refine ⟨_, M_InvalidInput_InvalidInput, fun _ e he => ?_, fun z => nomatch z⟩
    have hdd : upd H d (.xd [("field", V.str due)]) d = some (.xd [("field", V.str due)]) := upd_same
    have er : Err (upd H d (.xd [("field", V.str due)])) C_InvalidInput "field" (.str due) (.ref C_InvalidInput) (some d) := ⟨rfl, d, rfl, hdd⟩
    walk_at "rd"
    refine ⟨_, C_InvalidInput, _, _, E_InvalidInput, er, ?_⟩
    walk_at "rd"
    refine ⟨_, _, _, _, _, rfl, .ty _, .base (.str _), kit_ss _, true, rfl, iteT ?_⟩
    walk_at "rd"
    refine ⟨_, C_InvalidInput, _, _, E_InvalidInput, er, ?_⟩
    walk_at "rd"
    rw [decide_eq_true rfl]
    exact k _ (Same.upd hd)
def spNoneC : Sp := fun vs H Q _ => ∃ (p c : Int) (d : Str), vs = [.int p, .int c, .str d] ∧ p ≤ 100 ∧ badC p c = some d ∧ ∀ H', Same H H' → Q (.bl true) H'
theorem scLawNoneCounted : FnScope ["places", "count", "due", "raised"] ["places", "count", "due"] (defScope sLawNoneCounted) := ⟨rfl, rfl, rfl, by decide +kernel, rfl, by decide +kernel, by decide +kernel⟩
theorem ok__law_none_counted {f : Addr} {fd : FuncData} (F : Fun K "_law_none_counted" "_law_none_counted" sLawNoneCounted f fd) (B : Bi mg) (D_count_words : Dx P w K mg base "count_words" 4 ["places", "count"] (spCount C_InvalidInput)) (E_InvalidInput : ErrC P K mg "InvalidInput" C_InvalidInput "field" true) (M_InvalidInput_InvalidInput : PySem.W.exmOne K (.ref C_InvalidInput) (.ref C_InvalidInput) = some true) :
    FnOk P w K mg base CX0 5 f fd ["places", "count", "due"] spNoneC := by
  refine F.ok scLawNoneCounted (fun vs H Q E h => ?_) (fun cdv A outer s H vs Q E hr h => ?_)
  · obtain ⟨p, c, d, rfl, _⟩ := h
    rfl
  · obtain ⟨p, c, due, rfl, hp, hb, k⟩ := h
    refine ⟨_, (pss_cons (ps_try_as (i := 3) rfl rfl scLawNoneCounted.nd rfl rfl ⟨rfl, by decide, Or.inl E_InvalidInput.g⟩ takes0 (fun W pn xe tk _ => (pss_one (ps_expr (pe_dxT D_count_words (hr.mono (by decide)) (by rfl) tk (pa_cons (pv 0) (pa_cons (pv 1) pa_nil))))))
  (fun a_ oe_ cls_ d_ pn_ hz_ hf_ => (pss_one (ps_ret (pe_and (pe_callB (call_isiK K) (by rfl) B.isinstance (by decide +kernel) (pa_cons (pe_fldE hz_ hf_ (pv 3)) (pa_cons (pe_bltn (v := .ty "str") (by rfl) B.strT (by decide +kernel) rfl) pa_nil))) (pe_one (pe_cmpR op_eq (pe_fldE hz_ hf_ (pv 3)) (pv 2) (nomark _))))))))
  (pss_one (ps_ret pe_bl))), ?_⟩
    walk_at "rd"
    refine ⟨hp, fun x hx d hd => ?_, fun z => by rw [hb] at z; cases z⟩
    rw [hb] at hx
    obtain rfl : due = x := Option.some.inj hx
    refine ⟨_, M_InvalidInput_InvalidInput, fun _ e he => ?_, fun z => nomatch z⟩
    have hdd : upd H d (.xd [("field", V.str due)]) d = some (.xd [("field", V.str due)]) := upd_same
    have er : Err (upd H d (.xd [("field", V.str due)])) C_InvalidInput "field" (.str due) (.ref C_InvalidInput) (some d) := ⟨rfl, d, rfl, hdd⟩
    walk_at "rd"
    refine ⟨_, C_InvalidInput, _, _, E_InvalidInput, er, ?_⟩
    walk_at "rd"
    refine ⟨_, _, _, _, _, rfl, .ty _, .base (.str _), kit_ss _, true, rfl, iteT ?_⟩
    walk_at "rd"
    refine ⟨_, C_InvalidInput, _, _, E_InvalidInput, er, ?_⟩
    walk_at "rd"
    rw [decide_eq_true rfl]
    exact k _ (Same.upd hd)
def spNoneR : Sp := fun vs H Q _ => ∃ s : Str, vs = [.str s] ∧ s.length ≤ 100 ∧ isWs s = false ∧ ∀ H', Same H H' → Q (.bl true) H'
theorem scLawNoneRanked : FnScope ["text", "raised"] ["text"] (defScope sLawNoneRanked) := ⟨rfl, rfl, rfl, by decide +kernel, rfl, by decide +kernel, by decide +kernel⟩
theorem ok__law_none_ranked {f : Addr} {fd : FuncData} (F : Fun K "_law_none_ranked" "_law_none_ranked" sLawNoneRanked f fd) (B : Bi mg) (D_rank_of : Dx P w K mg base "rank_of" 5 ["word"] (spRankOf C_InvalidInput)) (E_InvalidInput : ErrC P K mg "InvalidInput" C_InvalidInput "field" true) (M_InvalidInput_InvalidInput : PySem.W.exmOne K (.ref C_InvalidInput) (.ref C_InvalidInput) = some true) :
    FnOk P w K mg base CX0 6 f fd ["text"] spNoneR := by
  refine F.ok scLawNoneRanked (fun vs H Q E h => ?_) (fun cdv A outer s H vs Q E hr h => ?_)
  · obtain ⟨p, rfl, _⟩ := h
    rfl
  · obtain ⟨z, rfl, hl, hb, k⟩ := h
    refine ⟨_, (pss_cons (ps_try_as (i := 1) rfl rfl scLawNoneRanked.nd rfl rfl ⟨rfl, by decide, Or.inl E_InvalidInput.g⟩ takes0 (fun W pn xe tk _ => (pss_one (ps_expr (pe_dxT D_rank_of (hr.mono (by decide)) (by rfl) tk (pa_cons (pv 0) pa_nil)))))
  (fun a_ oe_ cls_ d_ pn_ hz_ hf_ => (pss_one (ps_ret (pe_and (pe_callB (call_isiK K) (by rfl) B.isinstance (by decide +kernel) (pa_cons (pe_fldE hz_ hf_ (pv 1)) (pa_cons (pe_bltn (v := .ty "str") (by rfl) B.strT (by decide +kernel) rfl) pa_nil))) (pe_one (pe_cmpR op_eq (pe_fldE hz_ hf_ (pv 1)) pe_str (nomark _))))))))
  (pss_one (ps_ret pe_bl))), ?_⟩
    walk_at "rd"
    refine ⟨hl, fun _ d hd => ?_, fun l H' e hw => by rw [e, isWs_tx hw] at hb; cases hb⟩
    refine ⟨_, M_InvalidInput_InvalidInput, fun _ e he => ?_, fun z => nomatch z⟩
    have hdd : upd H d (.xd [("field", V.str "word")]) d = some (.xd [("field", V.str "word")]) := upd_same
    have er : Err (upd H d (.xd [("field", V.str "word")])) C_InvalidInput "field" (.str "word") (.ref C_InvalidInput) (some d) := ⟨rfl, d, rfl, hdd⟩
    walk_at "rd"
    refine ⟨_, C_InvalidInput, _, _, E_InvalidInput, er, ?_⟩
    walk_at "rd"
    refine ⟨_, _, _, _, _, rfl, .ty _, .base (.str _), kit_ss _, true, rfl, iteT ?_⟩
    walk_at "rd"
    refine ⟨_, C_InvalidInput, _, _, E_InvalidInput, er, ?_⟩
    walk_at "rd"
    rw [decide_eq_true rfl]
    exact k _ (Same.upd hd)
theorem bad_rank {r p c : Int} (h : r < 0) : badW r p c = some ("rank" : Str) := if_pos h
theorem bad_places {r p c : Int} (h : 0 ≤ r) (h1 : p < 1) : badW r p c = some ("places" : Str) := by unfold badW; rw [if_neg (by omega), if_pos h1]
theorem bad_count {r p c : Int} (h : 0 ≤ r) (h1 : 1 ≤ p) (h2 : c < 0) : badW r p c = some ("count" : Str) := by unfold badW; rw [if_neg (by omega), if_neg (by omega), if_pos h2]
theorem bad_high {r p c : Int} (h : 0 ≤ r) (h1 : 1 ≤ p) (h2 : 0 ≤ c) (h3 : (cho p.toNat c.toNat : Nat) ≤ r) : badW r p c = some ("rank" : Str) := by unfold badW; rw [if_neg (by omega), if_neg (by omega), if_neg (by omega), if_pos h3]
theorem badc_places {p c : Int} (h1 : p < 1) : badC p c = some ("places" : Str) := if_pos h1
theorem badc_count {p c : Int} (h1 : 1 ≤ p) (h2 : c < 0) : badC p c = some ("count" : Str) := by unfold badC; rw [if_neg (by omega), if_pos h2]
def spRefusals : Sp := fun vs H Q _ => ∃ (a : Addr) (p c : Int), vs = [.ref a, .int p, .int c, .int (cho p.toNat c.toNat : Nat)] ∧ SackAt H a ∧ 1 ≤ p ∧ p ≤ 100 ∧ 0 ≤ c ∧ ∀ H', SackAt H' a → But a H H' → Q (.bl true) H'
theorem scLawRefusals : FnScope ["bag", "places", "count", "whole", "least", "below"] ["bag", "places", "count", "whole"] (defScope sLawRefusals) := ⟨rfl, rfl, rfl, by decide +kernel, rfl, by decide +kernel, by decide +kernel⟩
theorem ok__law_refusals {f : Addr} {fd : FuncData} (F : Fun K "_law_refusals" "_law_refusals" sLawRefusals f fd) (B : Bi mg) (D__law_take : Dn P w K mg base "_law_take" 1 ["bag", "size"] spTakeS) (D__law_refused : Dn P w K mg base "_law_refused" 8 ["rank", "places", "count", "due"] spRefused) (D__law_none_counted : Dn P w K mg base "_law_none_counted" 5 ["places", "count", "due"] spNoneC) :
    FnOk P w K mg base CX0 9 f fd ["bag", "places", "count", "whole"] spRefusals := by
  refine F.ok scLawRefusals (fun vs H Q E h => ?_) (fun cdv A outer s H vs Q E hr h => ?_)
  · obtain ⟨a, p, c, rfl, _⟩ := h
    rfl
  · obtain ⟨a, p, c, rfl, hB, hp1, hp2, hc, k⟩ := h
    refine ⟨_, (pss_cons (ps_set (i := 4) scLawRefusals.nd rfl (Or.inl rfl) (pe_op op_sub (pe_op op_sub pe_int pe_int) (pe_dn D__law_take (hr.mono (by decide)) (by rfl) pass0 (pa_cons (pv 0) (pa_cons pe_int pa_nil)))))
  (pss_cons (ps_set (i := 5) scLawRefusals.nd rfl (Or.inl rfl) (pe_op op_sub pe_int (pe_dn D__law_take (hr.mono (by decide)) (by rfl) pass0 (pa_cons (pv 0) (pa_cons pe_int pa_nil)))))
  (pss_cons (ps_if (pt_not (pt_val (pe_dn D__law_refused (hr.mono (by decide)) (by rfl) pass0 (pa_cons (pv 4) (pa_cons (pv 1) (pa_cons (pv 2) (pa_cons pe_str pa_nil))))))) (pss_one (ps_ret pe_bl))
  pss_nil)
  (pss_cons (ps_if (pt_not (pt_val (pe_dn D__law_refused (hr.mono (by decide)) (by rfl) pass0 (pa_cons (pv 4) (pa_cons (pv 5) (pa_cons (pv 4) (pa_cons pe_str pa_nil))))))) (pss_one (ps_ret pe_bl))
  pss_nil)
  (pss_cons (ps_if (PW.pt (pw_or (pt_not (pt_val (pe_dn D__law_refused (hr.mono (by decide)) (by rfl) pass0 (pa_cons pe_int (pa_cons (pv 5) (pa_cons (pv 4) (pa_cons pe_str pa_nil))))))) (pw_or1 (pt_not (pt_val (pe_dn D__law_refused (hr.mono (by decide)) (by rfl) pass0 (pa_cons pe_int (pa_cons (pv 5) (pa_cons (pv 2) (pa_cons pe_str pa_nil)))))))))) (pss_one (ps_ret pe_bl))
  pss_nil)
  (pss_cons (ps_if (PW.pt (pw_or (pt_not (pt_val (pe_dn D__law_refused (hr.mono (by decide)) (by rfl) pass0 (pa_cons pe_int (pa_cons (pv 1) (pa_cons (pv 4) (pa_cons pe_str pa_nil))))))) (pw_or1 (pt_not (pt_val (pe_dn D__law_refused (hr.mono (by decide)) (by rfl) pass0 (pa_cons (pv 3) (pa_cons (pv 1) (pa_cons (pv 4) (pa_cons pe_str pa_nil)))))))))) (pss_one (ps_ret pe_bl))
  pss_nil)
  (pss_cons (ps_if (pt_not (pt_val (pe_dn D__law_refused (hr.mono (by decide)) (by rfl) pass0 (pa_cons (pe_op op_add (pv 3) (pe_dn D__law_take (hr.mono (by decide)) (by rfl) pass0 (pa_cons (pv 0) (pa_cons pe_int pa_nil)))) (pa_cons (pv 1) (pa_cons (pv 2) (pa_cons pe_str pa_nil))))))) (pss_one (ps_ret pe_bl))
  pss_nil)
  (pss_cons (ps_if (PW.pt (pw_or (pt_not (pt_val (pe_dn D__law_none_counted (hr.mono (by decide)) (by rfl) pass0 (pa_cons (pv 5) (pa_cons (pv 2) (pa_cons pe_str pa_nil)))))) (pw_or1 (pt_not (pt_val (pe_dn D__law_none_counted (hr.mono (by decide)) (by rfl) pass0 (pa_cons (pv 1) (pa_cons (pv 4) (pa_cons pe_str pa_nil))))))))) (pss_one (ps_ret pe_bl))
  pss_nil)
  (pss_one (ps_ret (pe_dn D__law_none_counted (hr.mono (by decide)) (by rfl) pass0 (pa_cons (pv 5) (pa_cons (pv 4) (pa_cons pe_str pa_nil)))))))))))))), ?_⟩
    walk_at "rd"
    refine ⟨hB, by decide, by decide, fun d1 H1 a1 a2 hB1 b1 => ?_⟩
    walk_at "rd"
    refine ⟨hB1, by decide, by decide, fun d2 H2 c1 c2 hB2 b2 => ?_⟩
    walk_at "rd"
    refine ⟨hp2, bad_rank (by omega), fun H3 S3 => ?_⟩
    refine ⟨_, rfl, iteF ?_⟩
    walk_at "rd"
    refine ⟨by omega, bad_rank (by omega), fun H4 S4 => ?_⟩
    refine ⟨_, rfl, iteF ?_⟩
    walk_at "rd"
    refine ⟨by omega, bad_places (by omega) (by omega), fun H5 S5 => ?_⟩
    refine ⟨_, rfl, iteF ?_⟩
    walk_at "rd"
    refine ⟨by omega, bad_places (by omega) (by omega), fun H6 S6 => ?_⟩
    refine ⟨_, rfl, iteF ?_⟩
    walk_at "rd"
    refine ⟨by omega, bad_count (by omega) (by omega) (by omega), fun H7 S7 => ?_⟩
    refine ⟨_, rfl, iteF ?_⟩
    walk_at "rd"
    refine ⟨by omega, bad_count (by omega) (by omega) (by omega), fun H8 S8 => ?_⟩
    refine ⟨_, rfl, iteF ?_⟩
    have S28 := ((S3.trans S4).trans (S5.trans S6)).trans (S7.trans S8)
    walk_at "rd"
    refine ⟨hB2.same S28, by decide, by decide, fun d3 H9 e1 e2 hB9 b9 => ?_⟩
    walk_at "rd"
    refine ⟨by omega, bad_high (by omega) (by omega) (by omega) (by omega), fun H10 S10 => ?_⟩
    refine ⟨_, rfl, iteF ?_⟩
    walk_at "rd"
    refine ⟨by omega, badc_places (by omega), fun H11 S11 => ?_⟩
    refine ⟨_, rfl, iteF ?_⟩
    walk_at "rd"
    refine ⟨by omega, badc_count (by omega) (by omega), fun H12 S12 => ?_⟩
    refine ⟨_, rfl, iteF ?_⟩
    walk_at "rd"
    refine ⟨by omega, badc_places (by omega), fun H13 S13 => ?_⟩
    exact k _ (hB9.same ((S10.trans S11).trans (S12.trans S13))) ((((b1.trans b2).trans (But.of S28)).trans b9).trans (But.of ((S10.trans S11).trans (S12.trans S13))))
def spAsked : Sp := fun vs H Q _ => ∃ (q : Addr) (rs : List Addr) (r p c : Int), vs = [.ref q, .int r, .int p, .int c, .int (cho p.toNat c.toNat : Nat)] ∧ RowsAt H q rs 60 ∧ 0 ≤ r ∧ 1 ≤ p ∧ p ≤ 60 ∧ 0 ≤ c ∧ r < (cho p.toNat c.toNat : Nat) ∧ ∀ H', Same H H' → Q (.bl true) H'
theorem scLawAsked : FnScope ["rows", "rank", "places", "count", "whole", "told"] ["rows", "rank", "places", "count", "whole"] (defScope sLawAsked) := ⟨rfl, rfl, rfl, by decide +kernel, rfl, by decide +kernel, by decide +kernel⟩
theorem ok__law_asked {f : Addr} {fd : FuncData} (F : Fun K "_law_asked" "_law_asked" sLawAsked f fd) (B : Bi mg) (D_word_at : Dx P w K mg base "word_at" 7 ["rank", "places", "count"] (spWordAt C_InvalidInput)) (D_rank_of : Dx P w K mg base "rank_of" 5 ["word"] (spRankOf C_InvalidInput)) (D__law_fits : Dn P w K mg base "_law_fits" 1 ["told", "places", "count"] spFits) (D__law_rank : Dn P w K mg base "_law_rank" 2 ["rows", "word"] spRankL) (D__law_is : Dn P w K mg base "_law_is" 1 ["told", "due"] spIsI) (D__law_following : Dn P w K mg base "_law_following" 1 ["word"] spFollow) :
    FnOk P w K mg base CX0 8 f fd ["rows", "rank", "places", "count", "whole"] spAsked := by
  refine F.ok scLawAsked (fun vs H Q E h => ?_) (fun cdv A outer s H vs Q E hr h => ?_)
  · obtain ⟨a, rs, r, p, c, rfl, _⟩ := h
    rfl
  · obtain ⟨q, rs, r, p, c, rfl, hR, hr0, hp1, hp2, hc, hlt, k⟩ := h
    refine ⟨_, (pss_cons (ps_set (i := 5) scLawAsked.nd rfl (Or.inl rfl) (pe_dx D_word_at (hr.mono (by decide)) (by rfl) passX0 (pa_cons (pv 1) (pa_cons (pv 2) (pa_cons (pv 3) pa_nil)))))
  (pss_cons (ps_if (PW.pt (pw_or (pt_not (pt_val (pe_dn D__law_fits (hr.mono (by decide)) (by rfl) pass0 (pa_cons (pv 5) (pa_cons (pv 2) (pa_cons (pv 3) pa_nil)))))) (pw_or1 (pt_cmpR op_ne (pe_dn D__law_rank (hr.mono (by decide)) (by rfl) pass0 (pa_cons (pv 0) (pa_cons (pv 5) pa_nil))) (pv 1) (nomark _))))) (pss_one (ps_ret pe_bl))
  pss_nil)
  (pss_cons (ps_if (pt_not (pt_val (pe_dn D__law_is (hr.mono (by decide)) (by rfl) pass0 (pa_cons (pe_dx D_rank_of (hr.mono (by decide)) (by rfl) passX0 (pa_cons (pv 5) pa_nil)) (pa_cons (pv 1) pa_nil))))) (pss_one (ps_ret pe_bl))
  pss_nil)
  (pss_cons (ps_if (pt_cmpR op_eq (pe_op op_add (pv 1) pe_int) (pv 4) (nomark _)) (pss_one (ps_ret pe_bl))
  pss_nil)
  (pss_one (ps_ret (pe_cmpR op_eq (pe_dx D_word_at (hr.mono (by decide)) (by rfl) passX0 (pa_cons (pe_op op_add (pv 1) pe_int) (pa_cons (pv 2) (pa_cons (pv 3) pa_nil)))) (pe_dn D__law_following (hr.mono (by decide)) (by rfl) pass0 (pa_cons (pv 5) pa_nil)) (nomark _)))))))), ?_⟩
    have nb : ∀ t : Int, 0 ≤ t → t < (cho p.toNat c.toNat : Nat) → badW t p c = none := fun t t0 t1 => by
      unfold badW
      rw [if_neg (by omega), if_neg (by omega), if_neg (by omega), if_neg (by omega)]
    walk_at "rd"
    refine ⟨by omega, fun x hx => by (rw [nb r hr0 hlt] at hx; cases hx), fun _ l H1 hw hl hcnt hrk S1 => ?_⟩
    have hl6 : l.length ≤ 60 := by omega
    walk_at "rd"
    refine ⟨by omega, hw, hl, hcnt, ?_⟩
    refine ⟨_, rfl, iteF ?_⟩
    have eR : rkl l = r.toNat := by omega
    refine ⟨_, rfl, _, rfl, q, rs, l, rfl, hR.same S1, hl6, fun H2 S2 => ?_⟩
    rw [hrk]
    walk_at "rd"
    rw [decide_eq_true rfl]
    refine iteF ?_
    walk_at "rd"
    refine ⟨by rw [tx_len]; omega, fun z => (by rw [isWs_tx hw] at z; cases z), fun l' H3 e3 hw3 S3 => ?_⟩
    obtain rfl := tx_inj e3
    rw [hrk]
    refine ⟨_, rfl, r, rfl, ?_⟩
    refine ⟨_, rfl, iteF ?_⟩
    walk_at "rd"
    refine iti (fun g => ?_) (fun g => ?_)
    · walk_at "rd"
      exact k _ ((S1.trans S2).trans S3)
    · walk_at "rd"
      refine ⟨by omega, fun x hx => by (rw [nb (r + 1) (by omega) (by omega)] at hx; cases hx), fun _ l2 H4 hw2 hl2 hcnt2 hrk2 S4 => ?_⟩
      have hne : l ≠ [] := fun z => by
        subst z
        have hc0 : c = 0 := by rw [← hcnt]; rfl
        rw [hc0] at hlt g
        rw [show (0 : Int).toNat = 0 by rfl, cho_z] at hlt g
        omega
      obtain ⟨pp, m, z, e⟩ := th_word hw hne
      obtain ⟨w1, w2, w3⟩ := th_nrm hw e
      walk_at "rd"
      refine ⟨l, pp, m, z, rfl, by omega, e, ?_⟩
      have e9 : l2 = nrm (nx pp m z) := wd_rank hw2 w1 (by omega) (by omega)
      rw [e9]
      walk_at "rd"
      rw [decide_eq_true rfl]
      exact k _ (((S1.trans S2).trans S3).trans S4)
end
end Cl

/-! ### law k28: the whole -/
namespace Cl
open PySem PySem.Spec PyProof.Rows L2 StX ClX PySem.Builtin PySem.Builtin.Str
section
variable {P : Program} {w : World} {K : PySem.W.Frag} {mg : Str → Option Value} {base : Heap} {C_InvalidInput : Addr}
def spLaw (K : PySem.W.Frag) : Sp := fun vs H Q _ => ∃ (a : Addr) (ns : List Int), vs = [.ref a] ∧ SqL K H a (ns.map V.int) ∧ ns.length ≤ 63 ∧ ∀ H', Q (.bl true) H'
theorem scLaw : FnScope ["script", "bag", "rows", "places", "count", "whole", "word", "rank", "longer", "texts", "k", "one"] ["script"] (defScope sLaw) := ⟨rfl, rfl, rfl, by decide +kernel, rfl, by decide +kernel, by decide +kernel⟩
set_option maxHeartbeats 0 in
theorem ok_law {f : Addr} {fd : FuncData} (F : Fun K "law" "law" sLaw f fd) (B : Bi mg) (D__law_bag : Dn P w K mg base "_law_bag" 1 ["script"] (spBagS K)) (D__law_take : Dn P w K mg base "_law_take" 1 ["bag", "size"] spTakeS) (D__law_choices : Dn P w K mg base "_law_choices" 1 ["places"] spChoices) (D__law_of : Dn P w K mg base "_law_of" 1 ["rows", "places", "count"] spOf)
    (D_count_words : Dx P w K mg base "count_words" 4 ["places", "count"] (spCount C_InvalidInput)) (D__law_is : Dn P w K mg base "_law_is" 1 ["told", "due"] spIsI) (D__law_refusals : Dn P w K mg base "_law_refusals" 9 ["bag", "places", "count", "whole"] spRefusals) (D__law_word : Dn P w K mg base "_law_word" 2 ["bag", "places", "limit"] spWordS)
    (D__law_rank : Dn P w K mg base "_law_rank" 2 ["rows", "word"] spRankL) (D_rank_of : Dx P w K mg base "rank_of" 5 ["word"] (spRankOf C_InvalidInput)) (D_word_at : Dx P w K mg base "word_at" 7 ["rank", "places", "count"] (spWordAt C_InvalidInput)) (D__law_none_ranked : Dn P w K mg base "_law_none_ranked" 6 ["text"] spNoneR) (D__law_asked : Dn P w K mg base "_law_asked" 8 ["rows", "rank", "places", "count", "whole"] spAsked) :
    FnOk P w K mg base CX0 10 f fd ["script"] (spLaw K) := by
  refine F.ok scLaw (fun vs H Q E h => ?_) (fun cdv A outer s H vs Q E hr h => ?_)
  · obtain ⟨a, ns, rfl, _⟩ := h
    rfl
  · obtain ⟨sa, ns, rfl, hs, hn, k⟩ := h
    refine ⟨_, (pss_cons (ps_set (i := 1) scLaw.nd rfl (Or.inl rfl) (pe_dn D__law_bag (hr.mono (by decide)) (by rfl) pass0 (pa_cons (pv 0) pa_nil)))
  (pss_cons (ps_set (i := 2) scLaw.nd rfl (Or.inl rfl) (pe_dn D__law_choices (hr.mono (by decide)) (by rfl) pass0 (pa_cons pe_int pa_nil)))
  (pss_cons (ps_set (i := 3) scLaw.nd rfl (Or.inl rfl) (pe_op op_add pe_int (pe_dn D__law_take (hr.mono (by decide)) (by rfl) pass0 (pa_cons (pv 1) (pa_cons (pe_ix ix_list (pe_lst (pa_cons pe_int (pa_cons pe_int (pa_cons pe_int pa_nil)))) (pe_dn D__law_take (hr.mono (by decide)) (by rfl) pass0 (pa_cons (pv 1) (pa_cons pe_int pa_nil))) (fun _ _ => rfl)) pa_nil)))))
  (pss_cons (ps_set (i := 4) scLaw.nd rfl (Or.inl rfl) (pe_dn D__law_take (hr.mono (by decide)) (by rfl) pass0 (pa_cons (pv 1) (pa_cons (pe_op op_add (pv 3) pe_int) pa_nil))))
  (pss_cons (ps_set (i := 5) scLaw.nd rfl (Or.inl rfl) (pe_dn D__law_of (hr.mono (by decide)) (by rfl) pass0 (pa_cons (pv 2) (pa_cons (pv 3) (pa_cons (pv 4) pa_nil)))))
  (pss_cons (ps_if (pt_not (pt_val (pe_dn D__law_is (hr.mono (by decide)) (by rfl) pass0 (pa_cons (pe_dx D_count_words (hr.mono (by decide)) (by rfl) passX0 (pa_cons (pv 3) (pa_cons (pv 4) pa_nil))) (pa_cons (pv 5) pa_nil))))) (pss_one (ps_ret pe_bl))
  pss_nil)
  (pss_cons (ps_if (pt_not (pt_val (pe_dn D__law_refusals (hr.mono (by decide)) (by rfl) pass0 (pa_cons (pv 1) (pa_cons (pv 3) (pa_cons (pv 4) (pa_cons (pv 5) pa_nil))))))) (pss_one (ps_ret pe_bl))
  pss_nil)
  (pss_cons (ps_set (i := 6) scLaw.nd rfl (Or.inl rfl) (pe_dn D__law_word (hr.mono (by decide)) (by rfl) pass0 (pa_cons (pv 1) (pa_cons pe_int (pa_cons (pe_op op_add pe_int (pe_dn D__law_take (hr.mono (by decide)) (by rfl) pass0 (pa_cons (pv 1) (pa_cons pe_int pa_nil)))) pa_nil)))))
  (pss_cons (ps_set (i := 7) scLaw.nd rfl (Or.inl rfl) (pe_dn D__law_rank (hr.mono (by decide)) (by rfl) pass0 (pa_cons (pv 2) (pa_cons (pv 6) pa_nil))))
  (pss_cons (ps_set (i := 8) scLaw.nd rfl (Or.inl rfl) (pe_callB (call_max2 rfl) (by rfl) B.max (by decide +kernel) (pa_cons pe_int (pa_cons (pe_op op_add (pe_callB call_len_str (by rfl) B.len PySem.boot_len (pa_cons (pv 6) pa_nil)) (pe_dn D__law_take (hr.mono (by decide)) (by rfl) pass0 (pa_cons (pv 1) (pa_cons (pe_op op_sub pe_int (pe_callB call_len_str (by rfl) B.len PySem.boot_len (pa_cons (pv 6) pa_nil))) pa_nil)))) pa_nil))))
  (pss_cons (ps_if (PW.pt (pw_or (pt_not (pt_val (pe_dn D__law_is (hr.mono (by decide)) (by rfl) pass0 (pa_cons (pe_dx D_rank_of (hr.mono (by decide)) (by rfl) passX0 (pa_cons (pv 6) pa_nil)) (pa_cons (pv 7) pa_nil))))) (pw_or1 (pt_cmpR op_ne (pe_dx D_word_at (hr.mono (by decide)) (by rfl) passX0 (pa_cons (pv 7) (pa_cons (pv 8) (pa_cons (pe_m1 PySem.F.slot_str_count PySem.F.type_str_count mt_count (pv 6) pe_str) pa_nil)))) (pv 6) (nomark _))))) (pss_one (ps_ret pe_bl))
  pss_nil)
  (pss_cons (ps_set (i := 9) scLaw.nd rfl (Or.inl rfl) (pe_lst (pa_cons (pe_op op_add_str pe_str (pv 6)) (pa_cons (pe_op op_add_str (pv 6) pe_str) (pa_cons (pe_op op_add_str pe_str (pv 6)) (pa_cons (pe_op op_add_str (pe_op op_add_str (pe_slice sl_str (pv 6) po_none (po_some pe_int)) pe_str) (pe_slice sl_str (pv 6) (po_some pe_int) po_none)) pa_nil))))))
  (pss_cons (ps_if (pt_not (pt_val (pe_dn D__law_none_ranked (hr.mono (by decide)) (by rfl) pass0 (pa_cons (pe_ix ix_list (pv 9) (pe_dn D__law_take (hr.mono (by decide)) (by rfl) pass0 (pa_cons (pv 1) (pa_cons pe_int pa_nil))) (fun _ _ => rfl)) pa_nil)))) (pss_one (ps_ret pe_bl))
  pss_nil)
  (pss_cons (ps_if (pt_cmpR op_eq (pv 5) pe_int (nomark _)) (pss_one (ps_ret pe_bl))
  pss_nil)
  (pss_cons (ps_set (i := 7) scLaw.nd rfl (Or.inl rfl) pe_int)
  (pss_cons (ps_for PassesOwn.never rfl (pi_range1 rfl B.range (pa_cons pe_int pa_nil)) (pg_name (i := 10) scLaw.nd rfl (Or.inl rfl))
  (pss_one (ps_set (i := 7) scLaw.nd rfl (Or.inl rfl) (pe_op op_add (pe_op op_mulW (pv 7) (pe_op op_pow pe_int pe_int)) (pe_dn D__law_take (hr.mono (by decide)) (by rfl) pass0 (pa_cons (pv 1) (pa_cons (pe_op op_pow pe_int pe_int) pa_nil)))))))
  (pss_cons (ps_set (i := 7) scLaw.nd rfl (Or.inl rfl) (pe_op op_mod (pe_callTy call_int1 (by rfl) B.intT (by decide +kernel) (pa_cons (pv 7) pa_nil)) (pv 5)))
  (pss_cons (ps_for PassesOwn.never rfl (pi_list (pe_lst (pa_cons (pv 7) (pa_cons pe_int (pa_cons (pe_op op_sub (pv 5) pe_int) pa_nil))))) (pg_name (i := 11) scLaw.nd rfl (Or.inl rfl))
  (pss_one (ps_if (pt_not (pt_val (pe_dn D__law_asked (hr.mono (by decide)) (by rfl) pass0 (pa_cons (pv 2) (pa_cons (pv 11) (pa_cons (pv 3) (pa_cons (pv 4) (pa_cons (pv 5) pa_nil)))))))) (pss_one (ps_ret pe_bl))
  pss_nil)))
  (pss_one (ps_ret (pe_cmpR op_eq (pe_dx D_word_at (hr.mono (by decide)) (by rfl) passX0 (pa_cons (pv 7) (pa_cons pe_int (pa_cons (pv 4) pa_nil)))) (pe_dx D_word_at (hr.mono (by decide)) (by rfl) passX0 (pa_cons (pv 7) (pa_cons (pv 3) (pa_cons (pv 4) pa_nil)))) (nomark _)))))))))))))))))))))), ?_⟩
    refine ⟨_, rfl, sa, ns, rfl, hs, hn, fun a H1 a1 hB1 S1 => ?_⟩
    walk_at "rd"
    refine fun q rs H2 S2 hR2 hq hrs => ?_
    have hB2 := hB1.same S2
    have hsz : ∃ o, H1 a = some o := by
      obtain ⟨x0, x1, x2, cs, c1, c2, e⟩ := hB1
      exact ⟨_, e⟩
    have hO2 : RowsOff H2 q a := by
      obtain ⟨o, ho⟩ := hsz
      exact ⟨rs, hR2, fun z => (by rw [z, ho] at hq; cases hq), fun i x e z => by have := hrs i x e; rw [z, ho] at this; cases this⟩
    walk_at "rd"
    refine ⟨by show 3 ≤ sizeLine; decide, fun u hu => ?_⟩
    have hua := hB2.ne hu
    have hB3 := hB2.put (o := .lst [.int 5, .int 12, .int 60]) hua
    have hO3 := hO2.same (Same.upd (o := .lst [.int 5, .int 12, .int 60]) hu)
    walk_at "rd"
    refine ⟨hB3, by decide, by decide, fun d0 H3 a0 a2 hB4 b4 => ?_⟩
    obtain ⟨z, hz, z1, z2⟩ : ∃ z, atI [V.int 5, V.int 12, V.int 60] d0 = some (.int z) ∧ 1 ≤ z ∧ z ≤ 60 := by
      rcases (show d0 = 0 ∨ d0 = 1 ∨ d0 = 2 by omega) with rfl | rfl | rfl
      · exact ⟨5, rfl, by decide, by decide⟩
      · exact ⟨12, rfl, by decide, by decide⟩
      · exact ⟨60, rfl, by decide, by decide⟩
    have hO4 := hO3.but b4
    have hu4 := b4 u _ hua upd_same
    refine ⟨u, _, _, _, rfl, rfl, SqL.of hu4, hz, ?_⟩
    walk_at "rd"
    refine ⟨hB4, z1, by omega, fun pl0 H4 p0 p1 hB5 b5 => ?_⟩
    have hO5 := hO4.but b5
    walk_at "rd"
    refine ⟨hB5, by omega, by omega, fun c H5 c0 c1 hB6 b6 => ?_⟩
    have hO6 := hO5.but b6
    obtain ⟨rs6, hR6, _⟩ := id hO6
    refine ⟨_, rfl, _, rfl, _, rfl, q, rs6, 1 + pl0, c, rfl, hR6, by omega, by omega, c0, ?_⟩
    have hbc : badC (1 + pl0) c = none := by unfold badC; rw [if_neg (by omega), if_neg (by omega)]
    refine ⟨_, rfl, _, rfl, 1 + pl0, c, rfl, by omega, fun x hx => (by rw [hbc] at hx; cases hx), fun _ => ?_⟩
    refine ⟨_, rfl, _, rfl, ?_⟩
    refine ⟨_, rfl, iteF ?_⟩
    refine ⟨_, rfl, _, rfl, _, rfl, _, rfl, a, 1 + pl0, c, rfl, hB6, by omega, by omega, c0, fun H6 hB7 b7 => ?_⟩
    refine ⟨_, rfl, iteF ?_⟩
    have hO7 := hO6.but b7
    walk_at "rd"
    refine ⟨hB7, by decide, by decide, fun w0 H7 d0 d1 hB8 b8 => ?_⟩
    have hO8 := hO7.but b8
    walk_at "rd"
    refine ⟨hB8, by omega, by omega, by decide, fun l H8 hw hl hcnt hB9 b9 => ?_⟩
    have hO9 := hO8.but b9
    obtain ⟨rs9, hR9, _⟩ := id hO9
    refine ⟨_, rfl, _, rfl, q, rs9, l, rfl, hR9, by omega, fun H9 S9 => ?_⟩
    have hB10 := hB9.same S9
    have hO10 := hO9.same S9
    walk_at "rd"
    refine ⟨small_le (by rw [tx_len]; omega), ?_⟩
    walk_at "rd"
    rw [tx_len]
    refine ⟨small_le (by omega), ?_⟩
    walk_at "rd"
    refine ⟨hB10, by omega, by omega, fun d2 H10 e0 e1 hB11 b11 => ?_⟩
    walk_at "rd"
    have hlgb : 1 ≤ (if (l.length : Int) + d2 > 1 then (l.length : Int) + d2 else 1) ∧ (l.length : Int) ≤ (if (l.length : Int) + d2 > 1 then (l.length : Int) + d2 else 1) ∧ (if (l.length : Int) + d2 > 1 then (l.length : Int) + d2 else 1) ≤ 60 := by split <;> omega
    generalize (if (l.length : Int) + d2 > 1 then (l.length : Int) + d2 else 1) = lg at hlgb ⊢
    refine ⟨by rw [tx_len]; omega, fun z => (by rw [isWs_tx hw] at z; cases z), fun l' H11 e3 hw3 S11 => ?_⟩
    obtain rfl := tx_inj e3
    have hB12 := hB11.same S11
    have hO12 := (hO10.but b11).same S11
    refine ⟨_, rfl, _, rfl, ?_⟩
    refine ⟨_, rfl, iteF ?_⟩
    have hbw : badW (rkl l : Nat) lg (l.count true : Nat) = none := by
      unfold badW
      have h1 := rkl_lt l
      have h2 := cho_mono (n := l.length) (m := lg.toNat) (l.count true) (by omega)
      rw [if_neg (by omega), if_neg (by omega), if_neg (by omega), Int.toNat_natCast, if_neg (by omega)]
    refine ⟨_, rfl, _, rfl, _, rfl, ⟨_, rfl⟩, _, _, rfl, rfl, ?_⟩
    rw [t1, tx_count]
    walk_at "rd"
    refine ⟨by omega, fun x hx => (by rw [hbw] at hx; cases hx), fun _ l2 H12 hw2 hl2 hc2 hr2 S12 => ?_⟩
    have el : l2 = l := wd_rank hw2 hw (by omega) (by omega)
    subst el
    walk_at "rd"
    rw [decide_eq_true rfl]
    refine iteF ?_
    have big : (20000 : Nat) ≤ sizeLine := by decide
    have n0 : (Str.ofString "0").length = 1 := by decide +kernel
    have n2 : (Str.ofString "2").length = 1 := by decide +kernel
    have na : (Str.ofString "a").length = 1 := by decide +kernel
    have ns : (Str.ofString " ").length = 1 := by decide +kernel
    have c0' : (Str.ofString "0").cps.toList = [48] := by decide +kernel
    have c2' : (Str.ofString "2").cps.toList = [50] := by decide +kernel
    have ca' : (Str.ofString "a").cps.toList = [97] := by decide +kernel
    have cs' : (Str.ofString " ").cps.toList = [32] := by decide +kernel
    have ll : (tx l2).length ≤ 60 := by rw [tx_len]; omega
    have catL : ∀ x y : Str, (x ++ y).cps.toList = x.cps.toList ++ y.cps.toList := fun x y => Array.toList_append ..
    have l1 : (tx (l2.take 1)).length ≤ 1 := by rw [tx_len, List.length_take]; omega
    have l3 : (tx (l2.drop 1)).length ≤ 60 := by rw [tx_len, List.length_drop]; omega
    walk_at "rd"
    refine ⟨by omega, ?_⟩
    walk_at "rd"
    refine ⟨by omega, ?_⟩
    walk_at "rd"
    refine ⟨by omega, ?_⟩
    walk_at "rd"
    refine ⟨by omega, ?_⟩
    rw [show cutS (tx l2) none (some 1) = tx (l2.take 1) from cutS_to (f := 1)]
    walk_at "rd"
    refine ⟨by omega, ?_⟩
    walk_at "rd"
    refine ⟨by omega, ?_⟩
    rw [show cutS (tx l2) (some 1) none = tx (l2.drop 1) from cutS_from (f := 1)]
    walk_at "rd"
    refine ⟨by rw [Str.length_append]; omega, ?_⟩
    walk_at "rd"
    refine ⟨by show 4 ≤ sizeLine; decide, fun t ht => ?_⟩
    have hB13 := hB12.same S12
    have hta := hB13.ne ht
    have hB14 := hB13.put (o := .lst [.str (Str.ofString "0" ++ tx l2), .str (tx l2 ++ Str.ofString "2"), .str (Str.ofString "a" ++ tx l2), .str (tx (l2.take 1) ++ Str.ofString " " ++ tx (l2.drop 1))]) hta
    have hO14 := (hO12.same S12).same (Same.upd (o := .lst [.str (Str.ofString "0" ++ tx l2), .str (tx l2 ++ Str.ofString "2"), .str (Str.ofString "a" ++ tx l2), .str (tx (l2.take 1) ++ Str.ofString " " ++ tx (l2.drop 1))]) ht)
    walk_at "rd"
    refine ⟨hB14, by decide, by decide, fun d3 H13 f0 f1 hB15 b15 => ?_⟩
    have hO15 := hO14.but b15
    have ht15 := b15 t _ hta upd_same
    obtain ⟨y, hy, y1, y2⟩ : ∃ y, atI [V.str (Str.ofString "0" ++ tx l2), .str (tx l2 ++ Str.ofString "2"), .str (Str.ofString "a" ++ tx l2), .str (tx (l2.take 1) ++ Str.ofString " " ++ tx (l2.drop 1))] d3 = some (.str y) ∧ y.length ≤ 100 ∧ isWs y = false := by
      rcases (show d3 = 0 ∨ d3 = 1 ∨ d3 = 2 ∨ d3 = 3 by omega) with rfl | rfl | rfl | rfl
      · exact ⟨_, rfl, by rw [Str.length_append]; omega, isWs_head (c := 48) (r := (tx l2).cps.toList) (by rw [catL, c0']; rfl) (by decide)⟩
      · exact ⟨_, rfl, by rw [Str.length_append]; omega, isWs_mem (c := 50) (by rw [catL, c2']; simp) (by decide) (by decide)⟩
      · exact ⟨_, rfl, by rw [Str.length_append]; omega, isWs_mem (c := 97) (by rw [catL, ca']; simp) (by decide) (by decide)⟩
      · exact ⟨_, rfl, by rw [Str.length_append, Str.length_append]; omega, isWs_mem (c := 32) (by rw [catL, catL, cs']; simp) (by decide) (by decide)⟩
    refine ⟨t, _, _, _, rfl, rfl, SqL.of ht15, hy, ?_⟩
    walk_at "rd"
    refine ⟨y1, y2, fun H14 S14 => ?_⟩
    refine ⟨_, rfl, iteF ?_⟩
    have hB16 := hB15.same S14
    have hO16 := hO15.same S14
    walk_at "rd"
    refine iti (fun g => ?_) (fun g => ?_)
    · walk_at "rd"
      exact k _
    have wpos : 1 ≤ cho (1 + pl0).toNat c.toNat := by
      have : cho (1 + pl0).toNat c.toNat ≠ 0 := fun z => g (by rw [z]; rfl)
      omega
    have p27 : (2 : Int) ^ Int.toNat 27 = 134217728 := by decide +kernel
    walk_at "rd"
    refine ⟨by decide, by decide, ?_⟩
    refine for_range (fun i σ H' => ∃ (r : Int) (x : Option V), σ = [some (.ref sa), some (.ref a), some (.ref q), some (.int (1 + pl0)), some (.int c), some (.int (cho (1 + pl0).toNat c.toNat : Nat)), some (.str (tx l2)), some (.int r), some (.int lg), some (.ref t), x, none] ∧ SackAt H' a ∧ RowsOff H' q a ∧ 0 ≤ r ∧ (i = 0 → r = 0) ∧ (i = 1 → r ≤ 134217728) ∧ (i = 2 → r ≤ 20000000000000000))
      ⟨0, _, rfl, hB16, hO16, Int.le_refl _, fun _ => rfl, fun z => by omega, fun z => by omega⟩ ?_ ?_
    · rintro i σ G1 hi ⟨r, x, rfl, gB, gO, r0, b0, b1, b2⟩
      have hi : i < 3 := hi
      have rb : r ≤ 20000000000000000 := by
        rcases (show i = 0 ∨ i = 1 ∨ i = 2 by omega) with e | e | e
        · have := b0 e; omega
        · have := b1 e; omega
        · exact b2 e
      walk_at "rd"
      rw [p27]
      refine ⟨mulB (by omega) (by omega) (by omega) (by omega), ?_⟩
      walk_at "rd"
      rw [p27]
      refine ⟨gB, by decide, by decide, fun d G2 g0 g1 gB2 gb => ?_⟩
      walk_at "rd"
      refine ⟨gB2, gO.but gb, by omega, fun z => by omega, fun z => ?_, fun z => ?_⟩
      · have := b0 (by omega); omega
      · have := b1 (by omega); omega
    · rintro σ G1 ⟨r, x, rfl, gB, gO, r0, _, _, _⟩
      walk_at "rd"
      refine ⟨by show (0 : Int) < _; omega, ?_⟩
      have m0 := Int.emod_nonneg r (show ((cho (1 + pl0).toNat c.toNat : Nat) : Int) ≠ 0 by omega)
      have m1 := Int.emod_lt_of_pos r (show (0 : Int) < ((cho (1 + pl0).toNat c.toNat : Nat) : Int) by omega)
      obtain ⟨m, hm⟩ : ∃ m : Int, r % ((cho (1 + pl0).toNat c.toNat : Nat) : Int) = m := ⟨_, rfl⟩
      rw [hm] at m0 m1
      show gName 7 (.int (r % ((cho (1 + pl0).toNat c.toNat : Nat) : Int))) _ _ _
      rw [hm]
      walk_at "rd"
      refine ⟨by show 3 ≤ sizeLine; decide, fun v hv => ?_⟩
      obtain ⟨G3, hG3⟩ : ∃ G3, upd G1 v (.lst [.int m, .int 0, .int (((cho (1 + pl0).toNat c.toNat : Nat) : Int) - 1)]) = G3 := ⟨_, rfl⟩
      have ev : G3 v = some (.lst [.int m, .int 0, .int (((cho (1 + pl0).toNat c.toNat : Nat) : Int) - 1)]) := by rw [← hG3]; exact upd_same
      have gO2 : RowsOff G3 q a := by rw [← hG3]; exact gO.same (Same.upd hv)
      obtain ⟨rsz, hRz, _⟩ := id gO2
      walk_at "rd"
      refine ⟨⟨_, SqL.of upd_same⟩, ?_⟩
      refine for_list (xs := [.int m, .int 0, .int (((cho (1 + pl0).toNat c.toNat : Nat) : Int) - 1)]) (fun i σ H' => ∃ (y : Option V), σ = [some (.ref sa), some (.ref a), some (.ref q), some (.int (1 + pl0)), some (.int c), some (.int (cho (1 + pl0).toNat c.toNat : Nat)), some (.str (tx l2)), some (.int m), some (.int lg), some (.ref t), x, y] ∧ Same G3 H')
        ⟨_, rfl, by rw [← hG3]; exact Same.refl _⟩ (fun i σ H' _ ⟨_, _, h⟩ => Same.seq h (SqL.of ev)) ?_ ?_
      · rintro i z σ G4 hz ⟨y, rfl, gS⟩
        obtain ⟨n, rfl, n0', n1'⟩ : ∃ n : Int, z = .int n ∧ 0 ≤ n ∧ n < ((cho (1 + pl0).toNat c.toNat : Nat) : Int) := by
          have := List.mem_of_getElem? hz
          simp only [List.mem_cons, List.not_mem_nil, or_false] at this
          rcases this with e | e | e
          · exact ⟨m, e, m0, m1⟩
          · exact ⟨0, e, Int.le_refl _, by omega⟩
          · exact ⟨_, e, by omega, by omega⟩
        refine ⟨_, rfl, _, rfl, _, rfl, _, rfl, _, rfl, q, rsz, n, 1 + pl0, c, rfl, hRz.same gS, n0', by omega, by omega, c0, n1', fun G5 S5 => ?_⟩
        refine ⟨_, rfl, iteF ?_⟩
        exact ⟨_, rfl, gS.trans S5⟩
      · rintro σ G4 ⟨y, rfl, gS⟩
        have hw1 : badW m 60 c = none := by
          have := cho_mono (n := (1 + pl0).toNat) (m := (60 : Int).toNat) c.toNat (by omega)
          unfold badW
          rw [if_neg (by omega), if_neg (by omega), if_neg (by omega), if_neg (by omega)]
        have hw2 : badW m (1 + pl0) c = none := by
          unfold badW
          rw [if_neg (by omega), if_neg (by omega), if_neg (by omega), if_neg (by omega)]
        walk_at "rd"
        refine ⟨by decide, fun x hx => (by rw [hw1] at hx; cases hx), fun _ u1 G5 v1 v2 v3 v4 S5 => ?_⟩
        walk_at "rd"
        refine ⟨by omega, fun x hx => (by rw [hw2] at hx; cases hx), fun _ u2 G6 x1 x2 x3 x4 S6 => ?_⟩
        have eu : u1 = u2 := wd_rank v1 x1 (by omega) (by omega)
        subst eu
        walk_at "rd"
        rw [decide_eq_true rfl]
        exact k _
end
end Cl

namespace Cl
theorem fo_field : PySem.OwnX.FlOk "field" := ⟨by intros; rfl, rfl, rfl, rfl, by decide, by decide, by decide, by intro v; rfl⟩
theorem so_InvalidInput : OwnSt sInvalidinputInit "field" true := ⟨_, _, _, _, _, _, _, _, _, _, _, _, rfl, rfl, rfl, rfl, .fmt _ _ _ _ _ _ _ _ _ (by decide) (by decide)⟩
set_option maxHeartbeats 0 in
theorem all_mk {l : PySem.W.OpenLaw} {w : World} {K : PySem.W.Frag} {h : Heap} {mg : Str → Option Value} {fa C_InvalidInput : Addr} (X : K.In h) (G : h.Ns mainGlobals mg) (hfa : mg "law" = some (.ref fa))
    (e_InvalidInput : ErrAt l.prog K "InvalidInput" C_InvalidInput "field" true)
    (zsuper : PySem.W.nsIn K mainGlobals "super" = some none)
    (mM_InvalidInput_InvalidInput : PySem.W.exmOne K (.ref C_InvalidInput) (.ref C_InvalidInput) = some true)
    (g_comb : PySem.W.nsIn K mainGlobals "comb" = some (some (.builtin "math.comb")))
    (t_is_whole : AtTop K "is_whole" "is_whole" sIsWhole [])
    (t__ones : AtTop K "_ones" "_ones" sOnes [])
    (t_check_least : AtTop K "check_least" "check_least" sCheckLeast [])
    (t_consists_of : AtTop K "consists_of" "consists_of" sConsistsOf [])
    (t_is_word : AtTop K "is_word" "is_word" sIsWord [])
    (t_check_word : AtTop K "check_word" "check_word" sCheckWord [])
    (t_depths : AtTop K "depths" "depths" sDepths [])
    (t__check_depths : AtTop K "_check_depths" "_check_depths" sCheckDepths [])
    (t_word_of : AtTop K "word_of" "word_of" sWordOf [])
    (t_count_words : AtTop K "count_words" "count_words" sCountWords [])
    (t__ranked : AtTop K "_ranked" "_ranked" sRanked [])
    (t_word_at : AtTop K "word_at" "word_at" sWordAt [])
    (t_rank_of : AtTop K "rank_of" "rank_of" sRankOf [])
    (t__law_take : AtTop K "_law_take" "_law_take" sLawTake [])
    (t__law_bag : AtTop K "_law_bag" "_law_bag" sLawBag [])
    (t__law_word : AtTop K "_law_word" "_law_word" sLawWord [])
    (t__law_depths : AtTop K "_law_depths" "_law_depths" sLawDepths [])
    (t__law_choices : AtTop K "_law_choices" "_law_choices" sLawChoices [])
    (t__law_of : AtTop K "_law_of" "_law_of" sLawOf [])
    (t__law_rank : AtTop K "_law_rank" "_law_rank" sLawRank [])
    (t__law_following : AtTop K "_law_following" "_law_following" sLawFollowing [])
    (t__law_fits : AtTop K "_law_fits" "_law_fits" sLawFits [])
    (t__law_is : AtTop K "_law_is" "_law_is" sLawIs [])
    (t__law_refused : AtTop K "_law_refused" "_law_refused" sLawRefused [])
    (t__law_none_counted : AtTop K "_law_none_counted" "_law_none_counted" sLawNoneCounted [])
    (t__law_none_ranked : AtTop K "_law_none_ranked" "_law_none_ranked" sLawNoneRanked [])
    (t__law_refusals : AtTop K "_law_refusals" "_law_refusals" sLawRefusals [])
    (t__law_asked : AtTop K "_law_asked" "_law_asked" sLawAsked [])
    (t_law : AtTop K "law" "law" sLaw [])
    (z_len : PySem.W.nsIn K mainGlobals "len" = some none)
    (z_abs : PySem.W.nsIn K mainGlobals "abs" = some none)
    (z_max : PySem.W.nsIn K mainGlobals "max" = some none)
    (z_min : PySem.W.nsIn K mainGlobals "min" = some none)
    (z_sum : PySem.W.nsIn K mainGlobals "sum" = some none)
    (z_all : PySem.W.nsIn K mainGlobals "all" = some none)
    (z_any : PySem.W.nsIn K mainGlobals "any" = some none)
    (z_range : PySem.W.nsIn K mainGlobals "range" = some none)
    (z_isinstance : PySem.W.nsIn K mainGlobals "isinstance" = some none)
    (z_intT : PySem.W.nsIn K mainGlobals "int" = some none)
    (z_strT : PySem.W.nsIn K mainGlobals "str" = some none)
    (z_boolT : PySem.W.nsIn K mainGlobals "bool" = some none)
    (z_listT : PySem.W.nsIn K mainGlobals "list" = some none)
    (z_divmod : PySem.W.nsIn K mainGlobals "divmod" = some none)
    (z_tupleT : PySem.W.nsIn K mainGlobals "tuple" = some none)
    (z_reversed : PySem.W.nsIn K mainGlobals "reversed" = some none)
    (z_repr : PySem.W.nsIn K mainGlobals "repr" = some none)
    (z_enumerate : PySem.W.nsIn K mainGlobals "enumerate" = some none)
    (z_zip : PySem.W.nsIn K mainGlobals "zip" = some none)
    (z_ValueErrorT : PySem.W.nsIn K mainGlobals "ValueError" = some none)
    : ∃ fd : FuncData, (∀ (s : Shared) (v : Value), BindsTo s fd ⟨[v], []⟩ [("script", v)]) ∧ ∀ base : Heap, K.In base → base.Ns mainGlobals mg → FnOk l.prog w K mg base CX0 10 fa fd ["script"] (spLaw K) := by
  obtain ⟨f, fd, a, F, FD⟩ := t_law.ex
  have e := hfa.symm.trans (PySem.W.mg_of X G a)
  cases e
  have B : Bi mg := ⟨PySem.W.mg_none_of X G z_len, PySem.W.mg_none_of X G z_abs, PySem.W.mg_none_of X G z_max, PySem.W.mg_none_of X G z_min, PySem.W.mg_none_of X G z_sum, PySem.W.mg_none_of X G z_all, PySem.W.mg_none_of X G z_any, PySem.W.mg_none_of X G z_range, PySem.W.mg_none_of X G z_isinstance, PySem.W.mg_none_of X G z_intT, PySem.W.mg_none_of X G z_strT, PySem.W.mg_none_of X G z_boolT, PySem.W.mg_none_of X G z_listT, PySem.W.mg_none_of X G z_divmod, PySem.W.mg_none_of X G z_tupleT, PySem.W.mg_none_of X G z_reversed, PySem.W.mg_none_of X G z_repr, PySem.W.mg_none_of X G z_enumerate, PySem.W.mg_none_of X G z_zip, PySem.W.mg_none_of X G z_ValueErrorT⟩
  refine ⟨fd, fun s v => FD.bindsA (ps := ["script"]) (fun _ _ _ _ _ _ us hl => match us, hl with | [_], _ => rfl) s [v] rfl, fun base _ _ => ?_⟩
  have E_InvalidInput : ErrC l.prog K mg "InvalidInput" C_InvalidInput "field" true := e_InvalidInput.ec X G zsuper
  have M_InvalidInput_InvalidInput : PySem.W.exmOne K (.ref C_InvalidInput) (.ref C_InvalidInput) = some true := mM_InvalidInput_InvalidInput
  have G_comb : mg "comb" = some (.builtin "math.comb") := PySem.W.mg_of X G g_comb
  have D_is_whole : Dn l.prog w K mg base "is_whole" 1 ["value"] spIsWhole := t_is_whole.dn X G (fun _ _ _ _ _ _ us hl => match us, hl with | [_], _ => rfl) (fun f fd F => ok_is_whole F B)
  have D__ones : Dn l.prog w K mg base "_ones" 1 ["word"] spOnes := t__ones.dn X G (fun _ _ _ _ _ _ us hl => match us, hl with | [_], _ => rfl) (fun f fd F => ok__ones F B)
  have D_check_least : Dx l.prog w K mg base "check_least" 3 ["value", "least", "field"] (spChk C_InvalidInput) := t_check_least.dx X G (fun _ _ _ _ _ _ us hl => match us, hl with | [_, _, _], _ => rfl) (fun f fd F => ok_check_leastX F D_is_whole E_InvalidInput)
  have D_consists_of : Dn l.prog w K mg base "consists_of" 1 ["text", "characters"] spConsistsX := t_consists_of.dn X G (fun _ _ _ _ _ _ us hl => match us, hl with | [_, _], _ => rfl) (fun f fd F => ok_consists_ofX F)
  have D_is_word : Dn l.prog w K mg base "is_word" 2 ["text"] spIsWordX := t_is_word.dn X G (fun _ _ _ _ _ _ us hl => match us, hl with | [_], _ => rfl) (fun f fd F => ok_is_wordX F D_consists_of)
  have D_check_word : Dx l.prog w K mg base "check_word" 3 ["word", "field"] (spCheckWordX C_InvalidInput) := t_check_word.dx X G (fun _ _ _ _ _ _ us hl => match us, hl with | [_, _], _ => rfl) (fun f fd F => ok_check_wordX F D_is_word E_InvalidInput)
  have D_depths : Dn l.prog w K mg base "depths" 4 ["word"] spDepths := t_depths.dn X G (fun _ _ _ _ _ _ us hl => match us, hl with | [_], _ => rfl) (fun f fd F => ok_depthsX F B D_check_word D__ones)
  have D__check_depths : Dn l.prog w K mg base "_check_depths" 4 ["numbers"] (spCheckDepths K) := t__check_depths.dn X G (fun _ _ _ _ _ _ us hl => match us, hl with | [_], _ => rfl) (fun f fd F => ok__check_depthsX F B D_check_least)
  have D_word_of : Dn l.prog w K mg base "word_of" 5 ["depths"] (spWordOf K) := t_word_of.dn X G (fun _ _ _ _ _ _ us hl => match us, hl with | [_], _ => rfl) (fun f fd F => ok_word_ofX F B D__check_depths)
  have D_count_words : Dx l.prog w K mg base "count_words" 4 ["places", "count"] (spCount C_InvalidInput) := t_count_words.dx X G (fun _ _ _ _ _ _ us hl => match us, hl with | [_, _], _ => rfl) (fun f fd F => ok_count_words F D_check_least G_comb)
  have D__ranked : Dn l.prog w K mg base "_ranked" 6 ["rank", "places", "count"] spRanked := t__ranked.dn X G (fun _ _ _ _ _ _ us hl => match us, hl with | [_, _, _], _ => rfl) (fun f fd F => ok__ranked F B D_word_of G_comb)
  have D_word_at : Dx l.prog w K mg base "word_at" 7 ["rank", "places", "count"] (spWordAt C_InvalidInput) := t_word_at.dx X G (fun _ _ _ _ _ _ us hl => match us, hl with | [_, _, _], _ => rfl) (fun f fd F => ok_word_at F D_check_least D__ranked E_InvalidInput G_comb)
  have D_rank_of : Dx l.prog w K mg base "rank_of" 5 ["word"] (spRankOf C_InvalidInput) := t_rank_of.dx X G (fun _ _ _ _ _ _ us hl => match us, hl with | [_], _ => rfl) (fun f fd F => ok_rank_of F B D_check_word D_depths G_comb)
  have D__law_take : Dn l.prog w K mg base "_law_take" 1 ["bag", "size"] spTakeS := t__law_take.dn X G (fun _ _ _ _ _ _ us hl => match us, hl with | [_, _], _ => rfl) (fun f fd F => ok__law_take F B)
  have D__law_bag : Dn l.prog w K mg base "_law_bag" 1 ["script"] (spBagS K) := t__law_bag.dn X G (fun _ _ _ _ _ _ us hl => match us, hl with | [_], _ => rfl) (fun f fd F => ok__law_bag F B)
  have D__law_word : Dn l.prog w K mg base "_law_word" 2 ["bag", "places", "limit"] spWordS := t__law_word.dn X G (fun _ _ _ _ _ _ us hl => match us, hl with | [_, _, _], _ => rfl) (fun f fd F => ok__law_word F B D__law_take)
  have D__law_depths : Dn l.prog w K mg base "_law_depths" 1 ["word"] spDepthsL := t__law_depths.dn X G (fun _ _ _ _ _ _ us hl => match us, hl with | [_], _ => rfl) (fun f fd F => ok__law_depths F B)
  have D__law_choices : Dn l.prog w K mg base "_law_choices" 1 ["places"] spChoices := t__law_choices.dn X G (fun _ _ _ _ _ _ us hl => match us, hl with | [_], _ => rfl) (fun f fd F => ok__law_choices F B)
  have D__law_of : Dn l.prog w K mg base "_law_of" 1 ["rows", "places", "count"] spOf := t__law_of.dn X G (fun _ _ _ _ _ _ us hl => match us, hl with | [_, _, _], _ => rfl) (fun f fd F => ok__law_of F B)
  have D__law_rank : Dn l.prog w K mg base "_law_rank" 2 ["rows", "word"] spRankL := t__law_rank.dn X G (fun _ _ _ _ _ _ us hl => match us, hl with | [_, _], _ => rfl) (fun f fd F => ok__law_rank F B D__law_depths D__law_of)
  have D__law_following : Dn l.prog w K mg base "_law_following" 1 ["word"] spFollow := t__law_following.dn X G (fun _ _ _ _ _ _ us hl => match us, hl with | [_], _ => rfl) (fun f fd F => ok__law_following F B)
  have D__law_fits : Dn l.prog w K mg base "_law_fits" 1 ["told", "places", "count"] spFits := t__law_fits.dn X G (fun _ _ _ _ _ _ us hl => match us, hl with | [_, _, _], _ => rfl) (fun f fd F => ok__law_fits F B)
  have D__law_is : Dn l.prog w K mg base "_law_is" 1 ["told", "due"] spIsI := t__law_is.dn X G (fun _ _ _ _ _ _ us hl => match us, hl with | [_, _], _ => rfl) (fun f fd F => ok__law_isI F B)
  have D__law_refused : Dn l.prog w K mg base "_law_refused" 8 ["rank", "places", "count", "due"] spRefused := t__law_refused.dn X G (fun _ _ _ _ _ _ us hl => match us, hl with | [_, _, _, _], _ => rfl) (fun f fd F => ok__law_refused F B D_word_at E_InvalidInput M_InvalidInput_InvalidInput)
  have D__law_none_counted : Dn l.prog w K mg base "_law_none_counted" 5 ["places", "count", "due"] spNoneC := t__law_none_counted.dn X G (fun _ _ _ _ _ _ us hl => match us, hl with | [_, _, _], _ => rfl) (fun f fd F => ok__law_none_counted F B D_count_words E_InvalidInput M_InvalidInput_InvalidInput)
  have D__law_none_ranked : Dn l.prog w K mg base "_law_none_ranked" 6 ["text"] spNoneR := t__law_none_ranked.dn X G (fun _ _ _ _ _ _ us hl => match us, hl with | [_], _ => rfl) (fun f fd F => ok__law_none_ranked F B D_rank_of E_InvalidInput M_InvalidInput_InvalidInput)
  have D__law_refusals : Dn l.prog w K mg base "_law_refusals" 9 ["bag", "places", "count", "whole"] spRefusals := t__law_refusals.dn X G (fun _ _ _ _ _ _ us hl => match us, hl with | [_, _, _, _], _ => rfl) (fun f fd F => ok__law_refusals F B D__law_take D__law_refused D__law_none_counted)
  have D__law_asked : Dn l.prog w K mg base "_law_asked" 8 ["rows", "rank", "places", "count", "whole"] spAsked := t__law_asked.dn X G (fun _ _ _ _ _ _ us hl => match us, hl with | [_, _, _, _, _], _ => rfl) (fun f fd F => ok__law_asked F B D_word_at D_rank_of D__law_fits D__law_rank D__law_is D__law_following)
  exact ok_law F B D__law_bag D__law_take D__law_choices D__law_of D_count_words D__law_is D__law_refusals D__law_word D__law_rank D_rank_of D_word_at D__law_none_ranked D__law_asked
theorem walk {l : PySem.W.OpenLaw} {q : Program} {loose : List Str} {XP : (Str → Option Value) → Heap → Prop} {YP : World → Heap → Prop} {d : DefRec} {K : Params → PySem.W.Frag} (hn : l.most = some 63) (hdf : d.params.defaults = [])
    (hY : ∀ (w : World) (h : Heap), YP w h → (K w.params).In h)
    (F : ∀ (w : World) (mg : Str → Option Value) (fa : Addr) (h : Heap), (K w.params).In h → h.Ns mainGlobals mg → mg d.name = some (.ref fa) →
      ∃ fd : FuncData, (∀ (s : Shared) (u : Value), BindsTo s fd ⟨[u], []⟩ [("script", u)]) ∧ ∀ base : Heap, (K w.params).In base → base.Ns mainGlobals mg → FnOk l.prog w (K w.params) mg base CX0 10 fa fd ["script"] (spLaw (K w.params))) :
    PySem.W.WalkO q loose XP YP l.row.toRowW d [] (fun f vs => PySem.call f vs) :=
  L2.walk_of (n := 63) (k := 10) (x := "script") (CX := fun _ => CX0) (sp := fun w => spLaw (K w.params)) hn (by decide) hdf ⟨rfl, by decide, by decide⟩ hY F (fun _ _ a ns hl _ hS => ⟨a, ns, rfl, hS, hl, fun _ => rfl⟩) fun _ _ _ _ _ z => z
end Cl
open PySem PySem.W PyProof.Rows
set_option maxRecDepth 100000 in
set_option maxHeartbeats 0 in
theorem PySem.Challenge.cw_carrylog_k28_ranks_of_words_holds : PySem.Challenge.rw_carrylog_k28_ranks_of_words.Holds := by
  w_on; o_law; k_head; (case hw => w_witness2)
  k_fill
  refine Cl.walk (l := PySem.Challenge.rw_carrylog_k28_ranks_of_words) rfl rfl (fun w h Y => PySem.W.kIn_of Y) ?F
  case F =>
    intro w mg fa h KX G hmg
    refine' Cl.all_mk KX G hmg ?e_InvalidInput ?zsuper ?mM_InvalidInput_InvalidInput ?g_comb ?t_is_whole ?t__ones ?t_check_least ?t_consists_of ?t_is_word ?t_check_word ?t_depths ?t__check_depths ?t_word_of ?t_count_words ?t__ranked ?t_word_at ?t_rank_of ?t__law_take ?t__law_bag ?t__law_word ?t__law_depths ?t__law_choices ?t__law_of ?t__law_rank ?t__law_following ?t__law_fits ?t__law_is ?t__law_refused ?t__law_none_counted ?t__law_none_ranked ?t__law_refusals ?t__law_asked ?t_law ?z_len ?z_abs ?z_max ?z_min ?z_sum ?z_all ?z_any ?z_range ?z_isinstance ?z_intT ?z_strT ?z_boolT ?z_listT ?z_divmod ?z_tupleT ?z_reversed ?z_repr ?z_enumerate ?z_zip ?z_ValueErrorT
    (case e_InvalidInput => (refine' Cl.errAt Cl.so_InvalidInput Cl.fo_field ?e1_a ?e1_cls ?e1_bm ?e1_sa ?e1_noN ?e1_iC ?e1_tC ?e1_su ?e1_sv ?e1_op ?e1_ds ?e1_l ?e1_c ?e1_lc ?e1_lv ?e1_hv ?e1_hf ?e1_hm ?e1_kp ?e1_exC ?e1_tyC ?e1_ga ?e1_gg ?e1_hd ?e1_ha ?e1_hn ?e1_ht ?e1_hmo ?e1_nd ?e1_is; (case e1_a => k_is); (case e1_cls => k_is); (case e1_bm => first | decide +kernel | rfl); (case e1_sa => k_is); (case e1_noN => k_is); (case e1_iC => k_is); (case e1_tC => k_is); (case e1_su => ks_is); (case e1_sv => k_is); (case e1_op => k_is); (case e1_ds => k_is); (case e1_l => k_is); (case e1_c => k_is); (case e1_lc => k_is); (case e1_lv => k_is); (case e1_hv => rfl); (case e1_hf => rfl); (case e1_hm => rfl); (case e1_kp => k_is); (case e1_exC => k_is); (case e1_tyC => k_is); (case e1_ga => k_is); (case e1_gg => k_is); (case e1_hd => k_is); (case e1_ha => k_is); (case e1_hn => k_is); (case e1_ht => k_is); (case e1_hmo => k_is); (case e1_nd => decide); (case e1_is => k_is)))
    (case zsuper => k_is)
    (case mM_InvalidInput_InvalidInput => (refine' Cl.exm_mk ?u2_ex ?u2_hd ?u2_ty ?u2_s; (case u2_ex => k_is); (case u2_hd => k_is); (case u2_ty => k_is); (case u2_s => k_is)))
    (case g_comb => k_is)
    (case t_is_whole => (refine' Cl.atTop0 ?u3_xa ?u3_xl ?u3_xc ?u3_xp; (case u3_xa => k_is); (case u3_xl => k_is); (case u3_xc => k_is); (case u3_xp => k_is)))
    (case t__ones => (refine' Cl.atTop0 ?u4_xa ?u4_xl ?u4_xc ?u4_xp; (case u4_xa => k_is); (case u4_xl => k_is); (case u4_xc => k_is); (case u4_xp => k_is)))
    (case t_check_least => (refine' Cl.atTop0 ?u5_xa ?u5_xl ?u5_xc ?u5_xp; (case u5_xa => k_is); (case u5_xl => k_is); (case u5_xc => k_is); (case u5_xp => k_is)))
    (case t_consists_of => (refine' Cl.atTop0 ?u6_xa ?u6_xl ?u6_xc ?u6_xp; (case u6_xa => k_is); (case u6_xl => k_is); (case u6_xc => k_is); (case u6_xp => k_is)))
    (case t_is_word => (refine' Cl.atTop0 ?u7_xa ?u7_xl ?u7_xc ?u7_xp; (case u7_xa => k_is); (case u7_xl => k_is); (case u7_xc => k_is); (case u7_xp => k_is)))
    (case t_check_word => (refine' Cl.atTop0 ?u8_xa ?u8_xl ?u8_xc ?u8_xp; (case u8_xa => k_is); (case u8_xl => k_is); (case u8_xc => k_is); (case u8_xp => k_is)))
    (case t_depths => (refine' Cl.atTop0 ?u9_xa ?u9_xl ?u9_xc ?u9_xp; (case u9_xa => k_is); (case u9_xl => k_is); (case u9_xc => k_is); (case u9_xp => k_is)))
    (case t__check_depths => (refine' Cl.atTop0 ?u10_xa ?u10_xl ?u10_xc ?u10_xp; (case u10_xa => k_is); (case u10_xl => k_is); (case u10_xc => k_is); (case u10_xp => k_is)))
    (case t_word_of => (refine' Cl.atTop0 ?u11_xa ?u11_xl ?u11_xc ?u11_xp; (case u11_xa => k_is); (case u11_xl => k_is); (case u11_xc => k_is); (case u11_xp => k_is)))
    (case t_count_words => (refine' Cl.atTop0 ?u12_xa ?u12_xl ?u12_xc ?u12_xp; (case u12_xa => k_is); (case u12_xl => k_is); (case u12_xc => k_is); (case u12_xp => k_is)))
    (case t__ranked => (refine' Cl.atTop0 ?u13_xa ?u13_xl ?u13_xc ?u13_xp; (case u13_xa => k_is); (case u13_xl => k_is); (case u13_xc => k_is); (case u13_xp => k_is)))
    (case t_word_at => (refine' Cl.atTop0 ?u14_xa ?u14_xl ?u14_xc ?u14_xp; (case u14_xa => k_is); (case u14_xl => k_is); (case u14_xc => k_is); (case u14_xp => k_is)))
    (case t_rank_of => (refine' Cl.atTop0 ?u15_xa ?u15_xl ?u15_xc ?u15_xp; (case u15_xa => k_is); (case u15_xl => k_is); (case u15_xc => k_is); (case u15_xp => k_is)))
    (case t__law_take => (refine' Cl.atTop0 ?u16_xa ?u16_xl ?u16_xc ?u16_xp; (case u16_xa => k_is); (case u16_xl => k_is); (case u16_xc => k_is); (case u16_xp => k_is)))
    (case t__law_bag => (refine' Cl.atTop0 ?u17_xa ?u17_xl ?u17_xc ?u17_xp; (case u17_xa => k_is); (case u17_xl => k_is); (case u17_xc => k_is); (case u17_xp => k_is)))
    (case t__law_word => (refine' Cl.atTop0 ?u18_xa ?u18_xl ?u18_xc ?u18_xp; (case u18_xa => k_is); (case u18_xl => k_is); (case u18_xc => k_is); (case u18_xp => k_is)))
    (case t__law_depths => (refine' Cl.atTop0 ?u19_xa ?u19_xl ?u19_xc ?u19_xp; (case u19_xa => k_is); (case u19_xl => k_is); (case u19_xc => k_is); (case u19_xp => k_is)))
    (case t__law_choices => (refine' Cl.atTop0 ?u20_xa ?u20_xl ?u20_xc ?u20_xp; (case u20_xa => k_is); (case u20_xl => k_is); (case u20_xc => k_is); (case u20_xp => k_is)))
    (case t__law_of => (refine' Cl.atTop0 ?u21_xa ?u21_xl ?u21_xc ?u21_xp; (case u21_xa => k_is); (case u21_xl => k_is); (case u21_xc => k_is); (case u21_xp => k_is)))
    (case t__law_rank => (refine' Cl.atTop0 ?u22_xa ?u22_xl ?u22_xc ?u22_xp; (case u22_xa => k_is); (case u22_xl => k_is); (case u22_xc => k_is); (case u22_xp => k_is)))
    (case t__law_following => (refine' Cl.atTop0 ?u23_xa ?u23_xl ?u23_xc ?u23_xp; (case u23_xa => k_is); (case u23_xl => k_is); (case u23_xc => k_is); (case u23_xp => k_is)))
    (case t__law_fits => (refine' Cl.atTop0 ?u24_xa ?u24_xl ?u24_xc ?u24_xp; (case u24_xa => k_is); (case u24_xl => k_is); (case u24_xc => k_is); (case u24_xp => k_is)))
    (case t__law_is => (refine' Cl.atTop0 ?u25_xa ?u25_xl ?u25_xc ?u25_xp; (case u25_xa => k_is); (case u25_xl => k_is); (case u25_xc => k_is); (case u25_xp => k_is)))
    (case t__law_refused => (refine' Cl.atTop0 ?u26_xa ?u26_xl ?u26_xc ?u26_xp; (case u26_xa => k_is); (case u26_xl => k_is); (case u26_xc => k_is); (case u26_xp => k_is)))
    (case t__law_none_counted => (refine' Cl.atTop0 ?u27_xa ?u27_xl ?u27_xc ?u27_xp; (case u27_xa => k_is); (case u27_xl => k_is); (case u27_xc => k_is); (case u27_xp => k_is)))
    (case t__law_none_ranked => (refine' Cl.atTop0 ?u28_xa ?u28_xl ?u28_xc ?u28_xp; (case u28_xa => k_is); (case u28_xl => k_is); (case u28_xc => k_is); (case u28_xp => k_is)))
    (case t__law_refusals => (refine' Cl.atTop0 ?u29_xa ?u29_xl ?u29_xc ?u29_xp; (case u29_xa => k_is); (case u29_xl => k_is); (case u29_xc => k_is); (case u29_xp => k_is)))
    (case t__law_asked => (refine' Cl.atTop0 ?u30_xa ?u30_xl ?u30_xc ?u30_xp; (case u30_xa => k_is); (case u30_xl => k_is); (case u30_xc => k_is); (case u30_xp => k_is)))
    (case t_law => (refine' Cl.atTop0 ?u31_xa ?u31_xl ?u31_xc ?u31_xp; (case u31_xa => k_is); (case u31_xl => k_is); (case u31_xc => k_is); (case u31_xp => k_is)))
    (case z_len => k_is)
    (case z_abs => k_is)
    (case z_max => k_is)
    (case z_min => k_is)
    (case z_sum => k_is)
    (case z_all => k_is)
    (case z_any => k_is)
    (case z_range => k_is)
    (case z_isinstance => k_is)
    (case z_intT => k_is)
    (case z_strT => k_is)
    (case z_boolT => k_is)
    (case z_listT => k_is)
    (case z_divmod => k_is)
    (case z_tupleT => k_is)
    (case z_reversed => k_is)
    (case z_repr => k_is)
    (case z_enumerate => k_is)
    (case z_zip => k_is)
    (case z_ValueErrorT => k_is)
